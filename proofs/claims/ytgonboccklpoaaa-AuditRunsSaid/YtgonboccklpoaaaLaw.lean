/- What every proof of a law ends with: where a law answers true and nothing that was there has turned, the law's own post holds; a slice of bytes that came in, read. No law is proved here. -/
import Derived.Test.YtgonboccklpoaaaRows
import Derived.WalkKit
import Derived.ProofKit
import Derived.OpenShut
import Derived.WalkSpells
import Derived.Laws.AppendOwn
import Derived.Laws.AppendOwnNone
import Derived.Laws.OwnMore
namespace Go.Proofs.Ytgonboccklpoaaa
open Go.ChangeShapes Go.WideShapes Go.ChangeAt Go.RowKit

theorem trodAll_below {H : Type} {enc : TypeId × Value → H} {P : Program} (hl : laidOutB P = true) {W W' : World} (hb : Below W.heap.size W W') :
    ∀ (ts : List TypeId) (vs : List Value) (ds : List (DataW H)) (ps : List MemPlace), (∀ t ∈ ts, P.readableRec t = true ∧ t < P.types.size) → (∀ x ∈ ps, x.block < W.heap.size) →
      DataW.TrodAll enc P W 0 (fun _ => true) true ts vs ds ps → DataW.TrodAll enc P W' 0 (fun b => decide (b < W.heap.size)) true ts vs ds ps
  | [], [], [], _, _, _, h => h
  | t :: ts, v :: vs, d :: ds, ps, hr, hlt, h => by
    obtain ⟨p, q, h1, h2, rfl⟩ := h
    exact ⟨p, q, Below.trod hl (hr t (by simp)).1 (hr t (by simp)).2 h1 hb (fun x hx => hlt x (List.mem_append.2 (.inl hx))),
      trodAll_below hl hb ts vs ds q (fun t' ht' => hr t' (List.mem_cons_of_mem _ ht')) (fun x hx => hlt x (List.mem_append.2 (.inr hx))) h2, rfl⟩
  | [], _ :: _, _, _, _, _, h => h.elim
  | [], [], _ :: _, _, _, _, h => h.elim
  | _ :: _, [], _, _, _, _, h => h.elim
  | _ :: _, _ :: _, [], _, _, _, h => h.elim

/-- A LAW's POST, of whatever parameters: the result is true, every argument reads as it did. -/
theorem law_post {H : Type} {enc : TypeId × Value → H} {P : Program} (hl : laidOutB P = true) {s : ChangeSpec} {f : Func} {B : TypeId} {W W' : World} {args : Array Value} {ds gs : List (DataW H)} {before : List MemPlace}
    (hread : f.params.toList.all (fun t => P.readableRec t && decide (t < P.types.size)) = true) (hres : f.resultTypes = #[B]) (hB : P.underlying B = some .bool) (hv : s.vars = [])
    (hW : DataW.Whole enc P f.params.toList s.vars false W args.toList ds gs before)
    (hfn : s.fn H ds = { results := [.lit (.bool true)], args := ds }) (hb : Below W.heap.size W W') :
    s.post enc P f false true false false W args (.bool true) W' := by
  have hW' := hW
  have hlt := hW'.lt
  obtain ⟨p, q, hA, hV, rfl, _, _⟩ := hW
  rw [hv] at hV
  obtain ⟨rfl, rfl⟩ := trodVars_none hV
  simp only [List.append_nil] at hW' hlt
  have hr : ∀ t ∈ f.params.toList, P.readableRec t = true ∧ t < P.types.size := fun t ht => by
    have := List.all_eq_true.1 hread t ht
    simpa using this
  refine ⟨ds, [], p, [], p, [], hW', ?_, ?_, ?_, World.keptBut_mono (fun x hx => hx.elim) (hb.frame (fun _ => False)), fun h => by cases h⟩
  · rw [hres, List.append_nil, hfn]
    exact trodAll_cons_mk (shut_bool hB _) trodAll_mk0
  · rw [List.append_nil, hfn]
    exact trodAll_below hl hb _ _ _ _ hr (fun x hx => by simpa using hlt x hx) hA
  · rw [List.append_nil, hfn, hv]
    rfl

/-- A LIST OF BYTES that a slice value reads as: nil, or so many cells. -/
def Bytes (w : World) (v : Value) (zs : List Int) : Prop :=
  zs.length ≤ 9223372036854775807 ∧ (∀ c ∈ zs, 0 ≤ c ∧ c < 256) ∧
  ((∃ a cap, v = .slice a 0 cap ∧ (a = none → cap = 0) ∧ zs = []) ∨ ∃ b off cap, v = .slice (some ⟨b, off, none⟩) zs.length cap ∧ ∀ j, j < zs.length → w.cell? ⟨b, off + j, none⟩ = some (.int .u8 (zs.getD j 0)))

theorem Bytes.later {w w' : World} {v : Value} {zs : List Int} (h : Bytes w v zs) (hb : Below w.heap.size w w') : Bytes w' v zs := by
  obtain ⟨h1, h2, h3⟩ := h
  refine ⟨h1, h2, ?_⟩
  rcases h3 with h3 | ⟨b, off, cap, hv, hc⟩
  · exact Or.inl h3
  · exact Or.inr ⟨b, off, cap, hv, fun j hj => cell_later hb (hc j hj)⟩

theorem bytes_nil (w : World) (a : Option Addr) (c : Nat) (h : a = none → c = 0) : Bytes w (.slice a 0 c) [] := ⟨by decide, (fun _ h => by cases h), Or.inl ⟨a, c, rfl, h, rfl⟩⟩

/-- A PIECE of a slice of bytes: it reads as that piece of the list. -/
theorem bytes_sliced {w : World} {a : Option Addr} {n c lo hi : Nat} {zs : List Int} (hB : Bytes w (.slice a n c) zs) (hn : n = zs.length) (h1 : lo ≤ hi) (h2 : hi ≤ n) (h3 : n ≤ c) :
    Bytes w (sliced a lo hi c 1) ((zs.take hi).drop lo) := by
  obtain ⟨g1, g2, g3⟩ := hB
  by_cases he : lo = hi
  · have e0 : (zs.take hi).drop lo = [] := by
      rw [he]; exact List.drop_eq_nil_of_le (by simp; omega)
    have e1 : hi - lo = 0 := by omega
    rw [e0]
    unfold sliced
    rw [e1]
    refine bytes_nil _ _ _ (fun hnone => ?_)
    rcases g3 with ⟨a', c', hv, hz, _⟩ | ⟨b, off, cap, hv, _⟩
    · simp only [Value.slice.injEq] at hv
      obtain ⟨rfl, _, rfl⟩ := hv
      split at hnone
      · omega
      · have := hz (by simpa using hnone)
        omega
    · simp only [Value.slice.injEq] at hv
      obtain ⟨rfl, _, _⟩ := hv
      split at hnone
      · cases hnone
      · simp at hnone
  · have hl : ((zs.take hi).drop lo).length = hi - lo := by simp; omega
    refine ⟨by rw [hl]; omega, fun x hx => g2 x (List.mem_of_mem_take (List.mem_of_mem_drop hx)), ?_⟩
    rcases g3 with ⟨a', c', hv, _, hz⟩ | ⟨b, off, cap, hv, hc⟩
    · subst hz
      simp at hn
      omega
    · simp only [Value.slice.injEq] at hv
      obtain ⟨rfl, h4, rfl⟩ := hv
      have hcl : ¬ c = lo := by omega
      · refine Or.inr ⟨b, off + lo, c - lo, ?_, fun j hj => ?_⟩
        · rw [hl]; unfold sliced; rw [if_neg hcl]; simp [Addr.add]
        · rw [hl] at hj
          have := hc (lo + j) (by omega)
          rw [show off + lo + j = off + (lo + j) by omega, this]
          simp [List.getD_eq_getElem?_getD, List.getElem?_take, List.getElem?_drop]
          rw [if_pos (by omega)]

/-- A slice of bytes that came in. -/
theorem open_bytes {H : Type} {enc : TypeId × Value → H} {P : Program} {t e : TypeId} (ht : P.underlying t = some (.slice e)) (he : P.underlying e = some (.int .u8)) (hc : P.cellsOf e = 1)
    {W : World} {base : Nat} {v : Value} {d : DataW H} {ps : List MemPlace} (hval : Value.okWide P W .any base t v) (h : DataW.Trod enc P W 0 (fun _ => true) true t v d ps) :
    ∃ a n c zs, v = .slice a n c ∧ n = zs.length ∧ n ≤ c ∧ Bytes W (.slice a n c) zs := by
  obtain ⟨a0, len, cap, rfl⟩ := okWide_slice ht hval
  obtain ⟨fuel, hf⟩ := h
  rcases open_ints ht he hc hf with ⟨hcs, hx⟩ | ⟨a, len', cap', zs, hcs, _, hl, hm, hz, hx, hcell, hwz⟩
  · simp only [Value.cells, List.cons.injEq, Value.slice.injEq, and_true] at hcs
    obtain ⟨rfl, rfl, rfl⟩ := hcs
    exact ⟨none, 0, 0, [], rfl, rfl, Nat.le_refl _, bytes_nil W _ _ (fun _ => rfl)⟩
  · simp only [Value.cells, List.cons.injEq, Value.slice.injEq, and_true] at hcs
    obtain ⟨rfl, rfl, rfl⟩ := hcs
    simp only [if_true] at hz
    have hlen : (zs.take len).length = len := by simp; omega
    refine ⟨some a, len, cap, zs.take len, rfl, hlen.symm, hl, ?_⟩
    have hmm : len ≤ 9223372036854775807 := by unfold maxLen at hm; omega
    have hby : ∀ c ∈ zs.take len, 0 ≤ c ∧ c < 256 := fun z hz' => by
      have h5 := hwz z (List.mem_of_mem_take hz')
      have e1 : IntKind.u8.min = 0 := rfl
      have e2 : IntKind.u8.max = 255 := rfl
      simp only [Lit.wf, e1, e2, Bool.and_eq_true, decide_eq_true_eq] at h5
      omega
    obtain ⟨b, off, spot⟩ := a
    by_cases h0 : zs.length = 0
    · have hl0 : len = 0 := by omega
      subst hl0
      rw [List.take_zero]
      exact bytes_nil W _ _ (fun h => by cases h)
    · have hspot : spot = none := by simpa [Addr.add] using World.cell?_spot (hcell 0 (by omega))
      subst hspot
      refine ⟨by rw [hlen]; exact hmm, hby, Or.inr ⟨b, off, cap, by rw [hlen], fun j hj => ?_⟩⟩
      rw [hlen] at hj
      have := hcell j (by omega)
      rw [← add_plain, this]
      simp [List.getD_eq_getElem?_getD, hj]

/-- AN APPEND OF SUCH A SLICE, nil or not, to a row of the call's own. -/
theorem wpList_append_bytes {P : Program} {w : World} {ops : Array Oper} {rest : List Oper} {o : Oper} {a : Act} {Q : Exit → Act → World → Prop} (hgd : o.guard = none) (s x : Operand) (t : TypeId)
    (ho : o.op = .call { callee := .builtin .append, args := #[s, x], argTypes := #[t, t] })
    (base : Nat) (e : TypeId) (i : TypeInfo) (ht : P.underlying t = some (.slice e)) (hi : P.info? e = some i) (hz : i.zero = some (.int .u8 0))
    (hsize : i.size = 1) (hby : i.bytes = 1)
    (v : Value) (n : Nat) (xs : List Value) (hs : a.eval s = v) (hown : w.ownsRow base e 1 v n xs)
    (xv : Value) (zs : List Int) (hx : a.eval x = xv) (hB : Bytes w xv zs)
    (h63 : n + zs.length ≤ 140737488355328) (hbase : base ≤ w.heap.size)
    (h : ∀ v' w', w'.ownsRow base e 1 v' (n + zs.length) (xs ++ zs.map (Value.int .u8)) → w.grownBy w' v.ownBlock → (v' = .slice none 0 0 → v = .slice none 0 0) → wpList P ops Q rest (a.put o.dst v') w') : wpList P ops Q (o :: rest) a w := by
  obtain ⟨h1, h2, h3⟩ := hB
  have hmax : n + zs.length ≤ maxLen := by unfold maxLen; omega
  rcases h3 with ⟨a0, cap, hv, hn0, rfl⟩ | ⟨b, off, cap, hv, hc⟩
  · cases a0 with
    | none =>
      rw [hn0 rfl] at hv
      refine wpList_append_own_none hgd s x t ho base e i 1 ht hi v n xs hs hown (hx.trans hv) ?_
      exact h v w (by simpa using hown) ⟨rfl, rfl, rfl, Nat.le_refl _, fun _ _ _ => rfl⟩ (fun e => e)
    | some ad =>
      refine wpList_append_own w hgd s x t ho base e i (.int .u8 0) 1 1 ht hi hz hsize hby rfl (by decide) v n xs hs hown ad 0 cap [] (hx.trans hv) rfl (fun j u hu => by simp at hu) (fun u hu => by cases hu) hmax (by simpa using h63) hbase ?_
      intro v' w' g1 g2 g3
      exact h v' w' (by simpa using g1) g2 (fun e => (g3.1 e).1)
  · refine wpList_append_own w hgd s x t ho base e i (.int .u8 0) 1 1 ht hi hz hsize hby rfl (by decide) v n xs hs hown ⟨b, off, none⟩ zs.length cap (zs.map (Value.int .u8)) (hx.trans hv) (by simp) ?_ ?_ hmax (by omega) hbase ?_
    · intro j u hu
      have hj : j < zs.length := by
        have := (List.getElem?_eq_some_iff.1 hu).1
        simpa using this
      rw [add_plain, hc j hj]
      simp [List.getElem?_map, List.getElem?_eq_getElem hj] at hu
      simp [List.getD_eq_getElem?_getD, List.getElem?_eq_getElem hj, hu]
    · intro u hu
      simp only [List.mem_map] at hu
      obtain ⟨z, _, rfl⟩ := hu
      rfl
    · intro v' w' g1 g2 g3
      exact h v' w' g1 g2 (fun e => (g3.1 e).1)

/-- WHAT AN OWNED ROW OF BYTES READS AS. -/
theorem bytes_of_own {w : World} {base : Nat} {e : TypeId} {v : Value} {n : Nat} {zs : List Int} (hown : w.ownsRow base e 1 v n (zs.map (Value.int .u8))) (hn : v ≠ .slice none 0 0)
    (hb : n ≤ 9223372036854775807) (hs : ∀ c ∈ zs, 0 ≤ c ∧ c < 256) : ∃ g cap, v = .slice (some ⟨g, 0, none⟩) n cap ∧ n = zs.length ∧ base ≤ g ∧ g < w.heap.size ∧ Bytes w v zs := by
  have hl : zs.length = n := by have := hown.1; simpa using this
  rcases hown.2 with ⟨h, _⟩ | ⟨g, cap, cur, rfl, hg, hh, r⟩
  · exact absurd h hn
  · refine ⟨g, cap, rfl, hl.symm, hg, (Array.getElem?_eq_some_iff.1 hh).1, by omega, hs, Or.inr ⟨g, 0, cap, by rw [hl], fun j hj => ?_⟩⟩
    rw [Nat.zero_add, hown.cellAt j (by omega)]
    simp [List.getElem?_map, List.getElem?_eq_getElem hj, List.getD_eq_getElem?_getD]
end Go.Proofs.Ytgonboccklpoaaa
