/- Parts, as far as BookBackCards reaches them, of: Law, Kit, CfWords, Within, Elems. No law is proved here. -/
import Derived.Test.YtnkgakhnlbifdaaGreatRows
import Derived.WalkKit
import Derived.ProofKit
import Derived.OpenShut
import Derived.WalkSpells
import Derived.Laws.AppendOwn
import Derived.Laws.AppendOwnNone
import Derived.Laws.OwnMore
import Derived.Lib.Hide
import Derived.Deep.Draws
import Derived.WalkLawsBesides
import Derived.LoopTactic
import Derived.IntWalk
import Derived.Deep.Slices
import Derived.Deep.Fields
import Derived.ChangeSame
namespace Go.Proofs.YtnkgakhnlbifdaaGreat
open Go.ChangeShapes Go.WideShapes Go.ChangeAt Go.RowKit
theorem trodAll_below {H : Type} {enc : TypeId × Value → H} {P : Program} (hl : laidOutB P = true) {W W' : World} (hb : Below W.heap.size W W') :
 ∀ (ts : List TypeId) (vs : List Value) (ds : List (DataW H)) (ps : List MemPlace), (∀ t ∈ ts, P.readableRec t = true ∧ t < P.types.size) → (∀ x ∈ ps, x.block < W.heap.size) →
   DataW.TrodAll enc P W 0 (fun _ => true) true ts vs ds ps → DataW.TrodAll enc P W' 0 (fun b => decide (b < W.heap.size)) true ts vs ds ps
 | [], [], [], _, _, _, h => h
 | t :: ts, v :: vs, d :: ds, ps, hr, hlt, h => by
   obtain ⟨p, q, h1, h2, rfl⟩ := h
   exact ⟨p, q, Below.trod hl (hr t (by simp)).1 (hr t (by simp)).2 h1 hb (fun x hx => hlt x (List.mem_append.2 (.inl hx))),
    trodAll_below hl hb ts vs ds q (fun t' ht' => hr t' (List.mem_cons_of_mem _ ht')) (fun x hx => hlt x (List.mem_append.2 (.inr hx))) h2, rfl⟩
 | [], _ :: _, _, _, _, _, h => h.elim
 | [], [], _ :: _, _, _, _, h => h.elim
 | _ :: _, [], _, _, _, _, h => h.elim
 | _ :: _, _ :: _, [], _, _, _, h => h.elim
theorem law_post {H : Type} {enc : TypeId × Value → H} {P : Program} (hl : laidOutB P = true) {s : ChangeSpec} {f : Func} {B : TypeId} {W W' : World} {args : Array Value} {ds gs : List (DataW H)} {before : List MemPlace}
 (hread : f.params.toList.all (fun t => P.readableRec t && decide (t < P.types.size)) = true) (hres : f.resultTypes = #[B]) (hB : P.underlying B = some .bool) (hv : s.vars = [])
 (hW : DataW.Whole enc P f.params.toList s.vars false W args.toList ds gs before)
 (hfn : s.fn H ds = { results := [.lit (.bool true)], args := ds }) (hb : Below W.heap.size W W') :
 s.post enc P f false true false false W args (.bool true) W' := by
 have hW' := hW
 have hlt := hW'.lt
 obtain ⟨p, q, hA, hV, rfl, _, _⟩ := hW
 rw [hv] at hV
 obtain ⟨rfl, rfl⟩ := trodVars_none hV
 simp only [List.append_nil] at hW' hlt
 have hr : ∀ t ∈ f.params.toList, P.readableRec t = true ∧ t < P.types.size := fun t ht => by
  have := List.all_eq_true.1 hread t ht
  simpa using this
 refine ⟨ds, [], p, [], p, [], hW', ?_, ?_, ?_, World.keptBut_mono (fun x hx => hx.elim) (hb.frame (fun _ => False)), fun h => by cases h⟩
 · rw [hres, List.append_nil, hfn]
   exact trodAll_cons_mk (shut_bool hB _) trodAll_mk0
 · rw [List.append_nil, hfn]
   exact trodAll_below hl hb _ _ _ _ hr (fun x hx => by simpa using hlt x hx) hA
 · rw [List.append_nil, hfn, hv]
   rfl
def Bytes (w : World) (v : Value) (zs : List Int) : Prop :=
 zs.length ≤ 9223372036854775807 ∧ (∀ c ∈ zs, 0 ≤ c ∧ c < 256) ∧
 ((∃ a cap, v = .slice a 0 cap ∧ (a = none → cap = 0) ∧ zs = []) ∨ ∃ b off cap, v = .slice (some ⟨b, off, none⟩) zs.length cap ∧ ∀ j, j < zs.length → w.cell? ⟨b, off + j, none⟩ = some (.int .u8 (zs.getD j 0)))
theorem Bytes.later {w w' : World} {v : Value} {zs : List Int} (h : Bytes w v zs) (hb : Below w.heap.size w w') : Bytes w' v zs := by
 obtain ⟨h1, h2, h3⟩ := h
 refine ⟨h1, h2, ?_⟩
 rcases h3 with h3 | ⟨b, off, cap, hv, hc⟩
 · exact Or.inl h3
 · exact Or.inr ⟨b, off, cap, hv, fun j hj => cell_later hb (hc j hj)⟩
theorem bytes_nil (w : World) (a : Option Addr) (c : Nat) (h : a = none → c = 0) : Bytes w (.slice a 0 c) [] := ⟨by decide, (fun _ h => by cases h), Or.inl ⟨a, c, rfl, h, rfl⟩⟩
theorem bytes_sliced {w : World} {a : Option Addr} {n c lo hi : Nat} {zs : List Int} (hB : Bytes w (.slice a n c) zs) (hn : n = zs.length) (h1 : lo ≤ hi) (h2 : hi ≤ n) (h3 : n ≤ c) :
 Bytes w (sliced a lo hi c 1) ((zs.take hi).drop lo) := by
 obtain ⟨g1, g2, g3⟩ := hB
 by_cases he : lo = hi
 · have e0 : (zs.take hi).drop lo = [] := by
    rw [he]; exact List.drop_eq_nil_of_le (by simp; omega)
   have e1 : hi - lo = 0 := by omega
   rw [e0]
   unfold sliced
   rw [e1]
   refine bytes_nil _ _ _ (fun hnone => ?_)
   rcases g3 with ⟨a', c', hv, hz, _⟩ | ⟨b, off, cap, hv, _⟩
   · simp only [Value.slice.injEq] at hv
     obtain ⟨rfl, _, rfl⟩ := hv
     split at hnone
     · omega
     · have := hz (by simpa using hnone)
       omega
   · simp only [Value.slice.injEq] at hv
     obtain ⟨rfl, _, _⟩ := hv
     split at hnone
     · cases hnone
     · simp at hnone
 · have hl : ((zs.take hi).drop lo).length = hi - lo := by simp; omega
   refine ⟨by rw [hl]; omega, fun x hx => g2 x (List.mem_of_mem_take (List.mem_of_mem_drop hx)), ?_⟩
   rcases g3 with ⟨a', c', hv, _, hz⟩ | ⟨b, off, cap, hv, hc⟩
   · subst hz
     simp at hn
     omega
   · simp only [Value.slice.injEq] at hv
     obtain ⟨rfl, h4, rfl⟩ := hv
     have hcl : ¬ c = lo := by omega
     · refine Or.inr ⟨b, off + lo, c - lo, ?_, fun j hj => ?_⟩
       · rw [hl]; unfold sliced; rw [if_neg hcl]; simp [Addr.add]
       · rw [hl] at hj
         have := hc (lo + j) (by omega)
         rw [show off + lo + j = off + (lo + j) by omega, this]
         simp [List.getD_eq_getElem?_getD, List.getElem?_take, List.getElem?_drop]
         rw [if_pos (by omega)]
theorem wpList_append_bytes {P : Program} {w : World} {ops : Array Oper} {rest : List Oper} {o : Oper} {a : Act} {Q : Exit → Act → World → Prop} (hgd : o.guard = none) (s x : Operand) (t : TypeId)
 (ho : o.op = .call { callee := .builtin .append, args := #[s, x], argTypes := #[t, t] })
 (base : Nat) (e : TypeId) (i : TypeInfo) (ht : P.underlying t = some (.slice e)) (hi : P.info? e = some i) (hz : i.zero = some (.int .u8 0))
 (hsize : i.size = 1) (hby : i.bytes = 1)
 (v : Value) (n : Nat) (xs : List Value) (hs : a.eval s = v) (hown : w.ownsRow base e 1 v n xs)
 (xv : Value) (zs : List Int) (hx : a.eval x = xv) (hB : Bytes w xv zs)
 (h63 : n + zs.length ≤ 140737488355328) (hbase : base ≤ w.heap.size)
 (h : ∀ v' w', w'.ownsRow base e 1 v' (n + zs.length) (xs ++ zs.map (Value.int .u8)) → w.grownBy w' v.ownBlock → (v' = .slice none 0 0 → v = .slice none 0 0) → wpList P ops Q rest (a.put o.dst v') w') : wpList P ops Q (o :: rest) a w := by
 obtain ⟨h1, h2, h3⟩ := hB
 have hmax : n + zs.length ≤ maxLen := by unfold maxLen; omega
 rcases h3 with ⟨a0, cap, hv, hn0, rfl⟩ | ⟨b, off, cap, hv, hc⟩
 · cases a0 with
   | none =>
     rw [hn0 rfl] at hv
     refine wpList_append_own_none hgd s x t ho base e i 1 ht hi v n xs hs hown (hx.trans hv) ?_
     exact h v w (by simpa using hown) ⟨rfl, rfl, rfl, Nat.le_refl _, fun _ _ _ => rfl⟩ (fun e => e)
   | some ad =>
     refine wpList_append_own w hgd s x t ho base e i (.int .u8 0) 1 1 ht hi hz hsize hby rfl (by decide) v n xs hs hown ad 0 cap [] (hx.trans hv) rfl (fun j u hu => by simp at hu) (fun u hu => by cases hu) hmax (by simpa using h63) hbase ?_
     intro v' w' g1 g2 g3
     exact h v' w' (by simpa using g1) g2 (fun e => (g3.1 e).1)
 · refine wpList_append_own w hgd s x t ho base e i (.int .u8 0) 1 1 ht hi hz hsize hby rfl (by decide) v n xs hs hown ⟨b, off, none⟩ zs.length cap (zs.map (Value.int .u8)) (hx.trans hv) (by simp) ?_ ?_ hmax (by omega) hbase ?_
   · intro j u hu
     have hj : j < zs.length := by
      have := (List.getElem?_eq_some_iff.1 hu).1
      simpa using this
     rw [add_plain, hc j hj]
     simp [List.getElem?_map, List.getElem?_eq_getElem hj] at hu
     simp [List.getD_eq_getElem?_getD, List.getElem?_eq_getElem hj, hu]
   · intro u hu
     simp only [List.mem_map] at hu
     obtain ⟨z, _, rfl⟩ := hu
     rfl
   · intro v' w' g1 g2 g3
     exact h v' w' g1 g2 (fun e => (g3.1 e).1)
theorem bytes_of_own {w : World} {base : Nat} {e : TypeId} {v : Value} {n : Nat} {zs : List Int} (hown : w.ownsRow base e 1 v n (zs.map (Value.int .u8))) (hn : v ≠ .slice none 0 0)
 (hb : n ≤ 9223372036854775807) (hs : ∀ c ∈ zs, 0 ≤ c ∧ c < 256) : ∃ g cap, v = .slice (some ⟨g, 0, none⟩) n cap ∧ n = zs.length ∧ base ≤ g ∧ g < w.heap.size ∧ Bytes w v zs := by
 have hl : zs.length = n := by have := hown.1; simpa using this
 rcases hown.2 with ⟨h, _⟩ | ⟨g, cap, cur, rfl, hg, hh, r⟩
 · exact absurd h hn
 · refine ⟨g, cap, rfl, hl.symm, hg, (Array.getElem?_eq_some_iff.1 hh).1, by omega, hs, Or.inr ⟨g, 0, cap, by rw [hl], fun j hj => ?_⟩⟩
   rw [Nat.zero_add, hown.cellAt j (by omega)]
   simp [List.getElem?_map, List.getElem?_eq_getElem hj, List.getD_eq_getElem?_getD]
end Go.Proofs.YtnkgakhnlbifdaaGreat
namespace Go.Proofs.YtnkgakhnlbifdaaGreat
open Go.RowKit
def Says (w : World) (b : Bool) (e : Ending) (w' : World) : Prop := e = .returned (.bool b) ∧ Below w.heap.size w w'
theorem below_box (w : World) (a : Obj) : Below w.heap.size w (w.alloc a) := (Below.refl _ _).alloc (Nat.le_refl _) _
theorem below_two (w : World) (a b : Obj) : Below w.heap.size w ((w.alloc a).alloc b) := ((Below.refl _ _).alloc (Nat.le_refl _) _).alloc (by simp) _
theorem below_next {B : Nat} {w W W' : World} (h : Below B w W) (hB : B ≤ W.heap.size) (h' : Below W.heap.size W W') : Below B w W' := h.trans (h'.mono hB)
theorem held_next {w W W' : World} (h : Below w.heap.size w W) (h' : Below W.heap.size W W') : Below w.heap.size w W' := h.trans (h'.mono h.size)
def Whole (w : World) (g : Nat) (t : TypeId) (cs : Array Value) : Prop := w.heap[g]? = some (.cells cs t (0, 0))
section
variable {w w' : World} {g : Nat} {t : TypeId} {cs : Array Value}
theorem Whole.lt (h : Whole w g t cs) : g < w.heap.size := (Array.getElem?_eq_some_iff.1 h).1
theorem Whole.cell (h : Whole w g t cs) (i : Nat) : w.cell? ⟨g, i, none⟩ = cs[i]? := cell_of_row w g i cs t (0, 0) h
theorem Whole.free (h : Whole w g t cs) (i : Nat) : w.frozen? ⟨g, i, none⟩ = false := by
 unfold Whole at h
 simp [World.frozen?, h]
theorem Whole.made (w : World) (t : TypeId) (cs : Array Value) : Whole (w.alloc (.cells cs t)) w.heap.size t cs := heap_alloc_new w _
theorem Whole.made2 (w : World) (a : Obj) (t : TypeId) (cs : Array Value) : Whole ((w.alloc a).alloc (.cells cs t)) (w.heap.size + 1) t cs := by
 have := Whole.made (w.alloc a) t cs
 rwa [World.size_alloc] at this
theorem Whole.madeAt (w : World) (t : TypeId) (cs : Array Value) (g : Nat) (hg : g = w.heap.size) : Whole (w.alloc (.cells cs t)) g t cs := by subst hg; exact Whole.made w t cs
theorem Whole.drew (h : Whole w g t cs) : Whole w.drew g t cs := h
theorem Whole.alloc (h : Whole w g t cs) (o : Obj) : Whole (w.alloc o) g t cs := (Below.heap_alloc w o g h.lt).trans h
theorem Whole.later {B : Nat} (h : Whole w g t cs) (hb : Below B w w') (hg : g < B) : Whole w' g t cs := (hb.block g hg).trans h
theorem Whole.set (h : Whole w g t cs) (i : Nat) (u : Value) : Whole (w.setCell ⟨g, i, none⟩ u) g t (cs.setIfInBounds i u) := by
 unfold Whole at h ⊢
 simp [World.setCell, Array.getElem?_modify, h]
theorem Whole.other (h : Whole w g t cs) {p : Addr} (hp : g ≠ p.block) (u : Value) : Whole (w.setCell p u) g t cs := (Below.heap_setCell w p u g hp).trans h
end
end Go.Proofs.YtnkgakhnlbifdaaGreat
namespace Go.Proofs.YtnkgakhnlbifdaaGreat
open Go.RowKit
structure Cf where
 n : Int
 q : Int
 r : Int
 p : Int
 k : Int
 c : Int
abbrev cfV (c : Cf) : Value := .agg #[.int .i64 c.n, .int .i64 c.q, .int .i64 c.r, .int .i64 c.p, .int .i64 c.k, .int .i64 c.c]
abbrev cfCells (c : Cf) : Array Value := #[.int .i64 c.n, .int .i64 c.q, .int .i64 c.r, .int .i64 c.p, .int .i64 c.k, .int .i64 c.c]
def cfOk (c : Cf) : Prop := 1 ≤ c.n ∧ c.n ≤ 16 ∧ 1 ≤ c.q ∧ c.q ≤ 8 ∧ 0 ≤ c.r ∧ c.r ≤ 8 ∧ 1 ≤ c.p ∧ c.p ≤ 16 ∧ 0 ≤ c.k ∧ 0 ≤ c.c ∧ c.k + c.n * c.c ≤ 1099511627776
instance (c : Cf) : Decidable (cfOk c) := by unfold cfOk; exact inferInstance
def cfB (c : Cf) : Bool := decide (cfOk c)
theorem cfB_no {c : Cf} (h : ¬ cfOk c) : cfB c = false := decide_eq_false h
theorem cfB_yes {c : Cf} (h : cfOk c) : cfB c = true := decide_eq_true h
theorem cfB_ok {c : Cf} (h : cfB c = true) : cfOk c := of_decide_eq_true h
theorem mul_step {k n c : Int} (h : k < n) (hc : 0 ≤ c) : k * c + c ≤ n * c := by
 have := Int.mul_le_mul_of_nonneg_right (show k + 1 ≤ n by omega) hc
 rw [Int.add_mul, Int.one_mul] at this
 exact this
theorem mul_succ' (k : Nat) (c : Int) : ((k + 1 : Nat) : Int) * c = (k : Int) * c + c := by
 rw [Int.natCast_add, Int.add_mul]; simp
theorem config_cells {wr : World} {g : Nat} {c : Cf} (h : Whole wr g 23 (cfCells c)) :
 wr.cell? ⟨g, 0, none⟩ = some (.int .i64 c.n) ∧ wr.cell? ⟨g, 1, none⟩ = some (.int .i64 c.q) ∧ wr.cell? ⟨g, 2, none⟩ = some (.int .i64 c.r) ∧ wr.cell? ⟨g, 3, none⟩ = some (.int .i64 c.p) ∧
 wr.cell? ⟨g, 4, none⟩ = some (.int .i64 c.k) ∧ wr.cell? ⟨g, 5, none⟩ = some (.int .i64 c.c) := ⟨h.cell 0, h.cell 1, h.cell 2, h.cell 3, h.cell 4, h.cell 5⟩
end Go.Proofs.YtnkgakhnlbifdaaGreat
namespace Go.Proofs.YtnkgakhnlbifdaaGreat
open Go.RowKit
def withinB (v lo hi : Int) : Bool := decide (lo ≤ v ∧ v ≤ hi)
theorem withinB_yes {v lo hi : Int} (h : lo ≤ v ∧ v ≤ hi) : withinB v lo hi = true := decide_eq_true h
theorem withinB_no {v lo hi : Int} (h : ¬ (lo ≤ v ∧ v ≤ hi)) : withinB v lo hi = false := decide_eq_false h
end Go.Proofs.YtnkgakhnlbifdaaGreat
namespace Go.Proofs.YtnkgakhnlbifdaaGreat
open Go.ChangeShapes Go.WideShapes Go.ChangeAt Go.RowKit
def Elems (w : World) (v : Value) (sz n : Nat) (f : Nat → Nat → Value) : Prop :=
 n ≤ 9223372036854775807 ∧ ((∃ a cap, v = .slice a 0 cap ∧ (a = none → cap = 0) ∧ n = 0) ∨
   ∃ b off cap, v = .slice (some ⟨b, off, none⟩) n cap ∧ n ≤ cap ∧ ∀ i j, i < n → j < sz → w.cell? ⟨b, off + (i * sz + j), none⟩ = some (f i j))
theorem Elems.later {w w' : World} {v : Value} {sz n : Nat} {f : Nat → Nat → Value} (h : Elems w v sz n f) (hb : Below w.heap.size w w') : Elems w' v sz n f := by
 obtain ⟨h1, h3⟩ := h
 refine ⟨h1, ?_⟩
 rcases h3 with h3 | ⟨b, off, cap, hv, hn, hc⟩
 · exact Or.inl h3
 · exact Or.inr ⟨b, off, cap, hv, hn, fun i j hi hj => cell_later hb (hc i j hi hj)⟩
theorem Elems.congr {w : World} {v : Value} {sz n : Nat} {f g : Nat → Nat → Value} (h : Elems w v sz n f) (hfg : ∀ i j, i < n → j < sz → f i j = g i j) : Elems w v sz n g := by
 obtain ⟨h1, h3⟩ := h
 refine ⟨h1, ?_⟩
 rcases h3 with h3 | ⟨b, off, cap, hv, hn, hc⟩
 · exact Or.inl h3
 · exact Or.inr ⟨b, off, cap, hv, hn, fun i j hi hj => by rw [hc i j hi hj, hfg i j hi hj]⟩
theorem elems_nil (w : World) (a : Option Addr) (c sz : Nat) (f : Nat → Nat → Value) (h : a = none → c = 0) : Elems w (.slice a 0 c) sz 0 f := ⟨by decide, Or.inl ⟨a, c, rfl, h, rfl⟩⟩
theorem Elems.at {w : World} {a : Option Addr} {m c sz n : Nat} {f : Nat → Nat → Value} (h : Elems w (.slice a m c) sz n f) {i : Nat} (hi : i < n) :
 ∃ b off, a = some ⟨b, off, none⟩ ∧ ∀ j, j < sz → w.cell? ⟨b, off + (i * sz + j), none⟩ = some (f i j) := by
 obtain ⟨_, ⟨_, _, _, _, h0⟩ | ⟨b, off, cap, hv, _, hc⟩⟩ := h
 · omega
 · simp only [Value.slice.injEq] at hv
   exact ⟨b, off, hv.1, fun j hj => hc i j hi hj⟩
theorem Elems.len {w : World} {a : Option Addr} {m c sz n : Nat} {f : Nat → Nat → Value} (h : Elems w (.slice a m c) sz n f) : m = n := by
 obtain ⟨_, ⟨_, _, hv, _, h0⟩ | ⟨b, off, cap, hv, _, hc⟩⟩ := h
 · simp only [Value.slice.injEq] at hv; omega
 · simp only [Value.slice.injEq] at hv; omega
theorem open_elems_in {H : Type} {enc : TypeId × Value → H} {P : Program} {t e : TypeId} {sz : Nat} (ht : P.underlying t = some (.slice e)) (hC : P.cellsOf e = sz) (hsz : 0 < sz)
 {W : World} {v : Value} {d : DataW H} {ps : List MemPlace} (hval : ∃ a len cap, v = .slice a len cap) (h : DataW.Trod enc P W 0 (fun _ => true) true t v d ps) :
 ∃ a n c f, v = .slice a n c ∧ n ≤ c ∧ c ≤ maxLen ∧ Elems W (.slice a n c) sz n f ∧
   ∀ i, i < n → ∃ fuel x, DataW.trod enc P W 0 (fun _ => true) true fuel e ((List.range sz).map (f i)) = some x := by
 obtain ⟨a0, len, cap, rfl⟩ := hval
 obtain ⟨fuel, hf⟩ := h
 rcases Go.Deep.open_slice ht hf with ⟨hcs, hx⟩ | ⟨a, len', cap', m, n, D, Pl, hcs, _, hl, hm, hmm, hx, hcell⟩
 · simp only [Value.cells, List.cons.injEq, Value.slice.injEq, and_true] at hcs
   obtain ⟨rfl, rfl, rfl⟩ := hcs
   exact ⟨none, 0, 0, fun _ _ => .bool false, rfl, Nat.le_refl _, by decide, elems_nil W _ _ _ _ (fun _ => rfl), fun i hi => absurd hi (by omega)⟩
 · simp only [Value.cells, List.cons.injEq, Value.slice.injEq, and_true] at hcs
   obtain ⟨rfl, rfl, rfl⟩ := hcs
   simp only [if_true] at hmm
   rw [hC] at hcell
   have hspot : 0 < len → a.spot = none := fun h0 => by
    obtain ⟨cs', h1, _⟩ := hcell 0 (by omega)
    obtain ⟨_, hlen, hat⟩ := World.cells?_some h1
    have h2 := hat 0 hsz
    rw [List.getElem?_eq_getElem (by omega)] at h2
    simpa [Addr.add] using World.cell?_spot h2
   have hex : ∀ i, ∃ cs' : List Value, i < len → (cs'.length = sz ∧ (∀ j, j < sz → W.cell? ((a.add (i * sz)).add j) = cs'[j]?) ∧ ∃ fuel x, DataW.trod enc P W 0 (fun _ => true) true fuel e cs' = some x) := by
    intro i
    by_cases hi : i < len
    · obtain ⟨cs', h1, h2⟩ := hcell i (by omega)
      obtain ⟨_, hlen, hat⟩ := World.cells?_some h1
      exact ⟨cs', fun _ => ⟨hlen, hat, n, _, h2⟩⟩
    · exact ⟨[], fun h => absurd h hi⟩
   obtain ⟨F, hF⟩ := Classical.axiomOfChoice hex
   refine ⟨some a, len, cap, fun i j => (F i).getD j (.bool false), rfl, hl, hm, ⟨by unfold maxLen at hm; omega, ?_⟩, fun i hi => ?_⟩
   · by_cases h0 : len = 0
     · subst h0
       exact Or.inl ⟨some a, cap, rfl, (fun h => by cases h), rfl⟩
     · have hs := hspot (by omega)
       obtain ⟨b, off, spot⟩ := a
       simp only at hs
       subst hs
       refine Or.inr ⟨b, off, cap, rfl, hl, fun i j hi hj => ?_⟩
       obtain ⟨h1, h2, _⟩ := hF i hi
       have := h2 j hj
       rw [add_plain, add_plain] at this
       rw [show off + (i * sz + j) = off + i * sz + j by omega, this, List.getElem?_eq_getElem (by omega)]
       simp [List.getD_eq_getElem?_getD, List.getElem?_eq_getElem (show j < (F i).length by omega)]
   · obtain ⟨h1, _, fu, x, h3⟩ := hF i hi
     refine ⟨fu, x, ?_⟩
     have : (List.range sz).map (fun j => (F i).getD j (.bool false)) = F i := by
      apply List.ext_getElem (by simp [h1])
      intro k hk1 hk2
      simp [List.getD_eq_getElem?_getD, List.getElem?_eq_getElem hk2]
     rw [this]; exact h3
theorem slice_of_trod {H : Type} {enc : TypeId × Value → H} {P : Program} {t e : TypeId} (ht : P.underlying t = some (.slice e)) {W : World} {fuel : Nat} {v : Value} {x : DataW H × List MemPlace}
 (h : DataW.trod enc P W 0 (fun _ => true) true fuel t [v] = some x) : ∃ a len cap, v = .slice a len cap := by
 rcases Go.Deep.open_slice ht h with ⟨hcs, _⟩ | ⟨a, len, cap, m, n, D, Pl, hcs, _⟩
 · simp only [List.cons.injEq, and_true] at hcs
   exact ⟨none, 0, 0, hcs⟩
 · simp only [List.cons.injEq, and_true] at hcs
   exact ⟨some a, len, cap, hcs⟩
end Go.Proofs.YtnkgakhnlbifdaaGreat
