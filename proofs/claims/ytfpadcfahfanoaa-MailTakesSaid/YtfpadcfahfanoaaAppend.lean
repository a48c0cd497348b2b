/- append of a slice of structs, nil or not, to a row of the call's own; what such a row reads as. No law is proved here. -/
import Derived.Test.YtfpadcfahfanoaaMg0
import Derived.Laws.AppendOwn
import Derived.Laws.AppendOwnNone
import Derived.Laws.OwnMore
import Derived.RegionTactic
import Derived.Maps.AppendAt
namespace Go.Proofs.Ytfpadcfahfanoaa
open Go.ChangeShapes Go.WideShapes Go.ChangeAt Go.RowKit

/-- the cells of so many elements, in a row -/
def flatCells (sz n : Nat) (f : Nat → Nat → Value) : List Value := (List.range n).flatMap fun i => (List.range sz).map (f i)
theorem flat_succ (sz n : Nat) (f : Nat → Nat → Value) : flatCells sz (n + 1) f = flatCells sz n f ++ (List.range sz).map (f n) := by
  simp [flatCells, List.range_succ]
theorem flat_length (sz n : Nat) (f : Nat → Nat → Value) : (flatCells sz n f).length = n * sz := by
  induction n with
  | zero => simp [flatCells]
  | succ n ih => rw [flat_succ, List.length_append, ih, List.length_map, List.length_range, Nat.succ_mul]
theorem flat_at (sz n : Nat) (f : Nat → Nat → Value) (i j : Nat) (hi : i < n) (hj : j < sz) : (flatCells sz n f)[i * sz + j]? = some (f i j) := by
  induction n with
  | zero => omega
  | succ n ih =>
    rw [flat_succ]
    by_cases h : i < n
    · have hlt : i * sz + j < (flatCells sz n f).length := by
        rw [flat_length]
        have : (i + 1) * sz ≤ n * sz := Nat.mul_le_mul_right sz h
        rw [Nat.succ_mul] at this
        omega
      rw [List.getElem?_append_left hlt]; exact ih h
    · obtain rfl : i = n := by omega
      rw [List.getElem?_append_right (by rw [flat_length]; omega), flat_length, Nat.add_sub_cancel_left]
      simp [hj]
theorem flat_split {sz k : Nat} (n : Nat) (h : k < n * sz) : ∃ i j, i < n ∧ j < sz ∧ k = i * sz + j := by
  have h0 : 0 < sz := by
    rcases Nat.eq_zero_or_pos sz with h1 | h1
    · subst h1; simp at h
    · exact h1
  refine ⟨k / sz, k % sz, (Nat.div_lt_iff_lt_mul h0).2 h, Nat.mod_lt _ h0, ?_⟩
  rw [Nat.mul_comm]; exact (Nat.div_add_mod k sz).symm
theorem flat_mem {sz n : Nat} {f : Nat → Nat → Value} {u : Value} (h : u ∈ flatCells sz n f) : ∃ i j, i < n ∧ j < sz ∧ u = f i j := by
  simp only [flatCells, List.mem_flatMap, List.mem_range, List.mem_map] at h
  obtain ⟨i, hi, j, hj, rfl⟩ := h
  exact ⟨i, j, hi, hj, rfl⟩
theorem flat_append (sz n m : Nat) (f g : Nat → Nat → Value) : flatCells sz n f ++ flatCells sz m g = flatCells sz (n + m) (fun i j => if i < n then f i j else g (i - n) j) := by
  induction m with
  | zero =>
    simp only [flatCells, List.range_zero, List.flatMap_nil, List.append_nil, Nat.add_zero]
    rw [List.flatMap_def, List.flatMap_def]
    congr 1
    apply List.map_congr_left
    intro i hi
    apply List.map_congr_left
    intro j _
    rw [if_pos (List.mem_range.1 hi)]
  | succ m ih =>
    rw [flat_succ, ← List.append_assoc, ih, show n + (m + 1) = (n + m) + 1 by omega, flat_succ]
    congr 1
    apply List.map_congr_left
    intro j _
    rw [if_neg (by omega), show n + m - n = m by omega]

section
variable {P : Program}

/-- WHAT A ROW OF THE CALL'S OWN READS AS. -/
theorem elems_of_own {w : World} {base : Nat} {e : TypeId} {sz n : Nat} {v : Value} {f : Nat → Nat → Value} (h : w.ownsRow base e sz v n (flatCells sz n f)) (hb : n ≤ 9223372036854775807) :
    ∃ a c, v = .slice a n c ∧ n ≤ c ∧ Elems w (.slice a n c) sz n f := by
  rcases h.2 with ⟨rfl, h0⟩ | ⟨g, cap, cur, rfl, hg, hh, r⟩
  · by_cases hn : n = 0
    · subst hn
      exact ⟨none, 0, rfl, Nat.le_refl _, elems_nil _ _ _ _ _ (fun _ => rfl)⟩
    · omega
  · refine ⟨some ⟨g, 0, none⟩, cap, rfl, ?_, hb, ?_⟩
    · omega
    · by_cases hn : n = 0
      · subst hn
        exact Or.inl ⟨_, cap, rfl, (fun h => by cases h), rfl⟩
      · refine Or.inr ⟨g, 0, cap, rfl, by omega, fun i j hi hj => ?_⟩
        rw [Nat.zero_add]
        have hlt : i * sz + j < n * sz := by
          have : (i + 1) * sz ≤ n * sz := Nat.mul_le_mul_right sz hi
          rw [Nat.succ_mul] at this
          omega
        rw [h.cellAt (i * sz + j) hlt]
        exact flat_at sz n f i j hi hj

/-- A row of the call's own, of which nothing is known but what it holds. -/
theorem own_whole {w : World} {base g : Nat} {e : TypeId} {sz n : Nat} {cs : Array Value} {f : Nat → Nat → Value} (h : Whole w g e cs) (hb : base ≤ g) (hcs : cs.toList = flatCells sz n f) (hm : n ≤ maxLen) :
    w.ownsRow base e sz (.slice (some ⟨g, 0, none⟩) n n) n (flatCells sz n f) := by
  have hl : cs.size = n * sz := by rw [← Array.length_toList, hcs, flat_length]
  refine ⟨flat_length _ _ _, Or.inr ⟨g, n, cs, rfl, hb, h, Nat.le_refl _, hm, hl, ?_⟩⟩
  rw [hcs, List.take_of_length_le (by rw [flat_length]; omega)]

theorem own_later {w w' : World} {base : Nat} {e : TypeId} {sz n : Nat} {v : Value} {xs : List Value} (h : w.ownsRow base e sz v n xs) (hb : Below w.heap.size w w') : w'.ownsRow base e sz v n xs :=
  h.kept (row := none) ⟨hb.os, hb.tape, hb.output, hb.size, fun k hk _ => hb.block k hk⟩ (by cases v.ownBlock <;> simp)

/-- What an append does to what else is there: nothing but the row's own block, and what is new, has turned; and where the new row lies. -/
def Grew (w w' : World) (v v' : Value) : Prop := w.grownBy w' v.ownBlock ∧ (v'.ownBlock = v.ownBlock ∨ v'.ownBlock = some w.heap.size)
theorem Grew.whole {w w' : World} {v v' : Value} (h : Grew w w' v v') {g : Nat} {t : TypeId} {cs : Array Value} (hw : Whole w g t cs) (hne : v.ownBlock ≠ some g) : Whole w' g t cs ∧ v'.ownBlock ≠ some g := by
  refine ⟨(h.1.block g hw.lt (fun e => hne e.symm)).trans hw, fun e => ?_⟩
  rcases h.2 with h2 | h2
  · exact hne (h2.symm.trans e)
  · rw [h2] at e
    have := hw.lt
    injection e with e
    omega

theorem own_past {w : World} {base g : Nat} {e : TypeId} {sz n : Nat} {v : Value} {xs : List Value} (h : w.ownsRow base e sz v n xs) (hg : w.heap.size ≤ g) : v.ownBlock ≠ some g := fun e => by
  have := (h.lt g e).2
  omega

/-- THE APPEND, as it runs. -/
theorem run_append_elems {w : World} (t ty : TypeId) (base : Nat) (e : TypeId) (i : TypeInfo) (z : Value) (sz bytes : Nat) (ht : P.underlying t = some (.slice e)) (hi : P.info? e = some i) (hz : i.zero = some z)
    (hsize : i.size = sz) (hby : i.bytes = bytes) (hzs : z.cells.size = sz) (hsz : 0 < sz)
    (v : Value) (n : Nat) (f : Nat → Nat → Value) (hown : w.ownsRow base e sz v n (flatCells sz n f)) (A : Option Addr) (m c : Nat) (g : Nat → Nat → Value) (hE : Elems w (.slice A m c) sz m g)
    (h1 : ∀ i j, i < m → j < sz → (g i j).oneCell' = true) (h63 : n + m ≤ maxLen) (h47 : (n + m) * bytes ≤ 140737488355328) (hbase : base ≤ w.heap.size) :
    ∃ v' w', (Builtin.append_ #[t, t] ty #[v, .slice A m c]).run P w = .ok v' w' ∧ w'.ownsRow base e sz v' (n + m) (flatCells sz (n + m) (fun i j => if i < n then f i j else g (i - n) j)) ∧ Below base w w' ∧ Grew w w' v v' := by
  cases A with
  | none =>
    have hm : m = 0 ∧ c = 0 := by
      obtain ⟨_, ⟨a', c', hv, h0, hm⟩ | ⟨b, off, cap, hv, _⟩⟩ := hE
      · simp only [Value.slice.injEq] at hv
        exact ⟨hm, by rw [hv.2.2]; exact h0 hv.1.symm⟩
      · simp at hv
    obtain ⟨rfl, rfl⟩ := hm
    refine ⟨v, w, run_append_owned_none (P := P) (w := w) base t ty e i sz ht hi v n _ hown, ?_, Below.refl _ _, World.grownBy.refl w _, Or.inl rfl⟩
    have := flat_append sz n 0 f g
    rw [← this]
    simpa [flatCells] using hown
  | some ad =>
    have hnews : ∀ j u, (flatCells sz m g)[j]? = some u → w.cell? (ad.add j) = some u := by
      intro k u hu
      have hk : k < m * sz := by
        have := (List.getElem?_eq_some_iff.1 hu).1
        rwa [flat_length] at this
      obtain ⟨i', j', hi', hj', rfl⟩ := flat_split m hk
      rw [flat_at sz m g i' j' hi' hj'] at hu
      obtain ⟨b, off, hab, hc⟩ := hE.at hi'
      injection hab with hab
      rw [hab, add_plain, hc j' hj']
      exact hu
    obtain ⟨v', w', hrun, h2, h3, _, h5⟩ := run_append_own_at (P := P) w base t ty e i z sz bytes ht hi hz hsize hby hzs hsz v n _ hown ad m c (flatCells sz m g) (flat_length _ _ _) hnews
      (fun u hu => by obtain ⟨i', j', hi', hj', rfl⟩ := flat_mem hu; exact h1 i' j' hi' hj') h63 h47 hbase
    refine ⟨v', w', hrun, ?_, (Below.refl _ _).grown h3 hbase (fun k hk => (hown.lt k hk).1), h3, h5⟩
    rw [← flat_append]; exact h2

/-- at the operation -/
theorem wp_append_elems {w : World} {o : Oper} {a : Act} {K : Act → World → Prop} {Q : Exit → Act → World → Prop} (s x : Operand) (t : TypeId)
    (ho : o.op = .call { callee := .builtin .append, args := #[s, x], argTypes := #[t, t] })
    (base : Nat) (e : TypeId) (i : TypeInfo) (z : Value) (sz bytes : Nat) (ht : P.underlying t = some (.slice e)) (hi : P.info? e = some i) (hz : i.zero = some z)
    (hsize : i.size = sz) (hby : i.bytes = bytes) (hzs : z.cells.size = sz) (hsz : 0 < sz)
    (v : Value) (n : Nat) (f : Nat → Nat → Value) (hs : a.eval s = v) (hown : w.ownsRow base e sz v n (flatCells sz n f)) (A : Option Addr) (m c : Nat) (g : Nat → Nat → Value) (hx : a.eval x = .slice A m c) (hE : Elems w (.slice A m c) sz m g)
    (h1 : ∀ i j, i < m → j < sz → (g i j).oneCell' = true) (h63 : n + m ≤ maxLen) (h47 : (n + m) * bytes ≤ 140737488355328) (hbase : base ≤ w.heap.size)
    (h : ∀ v' w', w'.ownsRow base e sz v' (n + m) (flatCells sz (n + m) (fun i j => if i < n then f i j else g (i - n) j)) → Below base w w' → Grew w w' v v' → K (a.put o.dst v') w') : o.wp P a w K Q := by
  obtain ⟨v', w', hrun, h2, h3, h4⟩ := run_append_elems (P := P) (w := w) t o.type base e i z sz bytes ht hi hz hsize hby hzs hsz v n f hown A m c g hE h1 h63 h47 hbase
  unfold Oper.wp execOp
  simp only [ho, resolve, invoke, builtin, Sem.run_bind, Sem.run_pure, Result.andThen_ok, List.map_toArray, List.map_cons, List.map_nil, hs, hx, hrun]
  exact h v' w' h2 h3 h4

/-- in a plain region -/
theorem wpList_append_elems {w : World} {ops : Array Oper} {rest : List Oper} {o : Oper} {a : Act} {Q : Exit → Act → World → Prop} (hgd : o.guard = none) (s x : Operand) (t : TypeId)
    (ho : o.op = .call { callee := .builtin .append, args := #[s, x], argTypes := #[t, t] })
    (base : Nat) (e : TypeId) (i : TypeInfo) (z : Value) (sz bytes : Nat) (ht : P.underlying t = some (.slice e)) (hi : P.info? e = some i) (hz : i.zero = some z)
    (hsize : i.size = sz) (hby : i.bytes = bytes) (hzs : z.cells.size = sz) (hsz : 0 < sz)
    (v : Value) (n : Nat) (f : Nat → Nat → Value) (hs : a.eval s = v) (hown : w.ownsRow base e sz v n (flatCells sz n f)) (A : Option Addr) (m c : Nat) (g : Nat → Nat → Value) (hx : a.eval x = .slice A m c) (hE : Elems w (.slice A m c) sz m g)
    (h1 : ∀ i j, i < m → j < sz → (g i j).oneCell' = true) (h63 : n + m ≤ maxLen) (h47 : (n + m) * bytes ≤ 140737488355328) (hbase : base ≤ w.heap.size)
    (h : ∀ v' w', w'.ownsRow base e sz v' (n + m) (flatCells sz (n + m) (fun i j => if i < n then f i j else g (i - n) j)) → Below base w w' → Grew w w' v v' → wpList P ops Q rest (a.put o.dst v') w') : wpList P ops Q (o :: rest) a w :=
  wpList_plain hgd fun _ hK => wp_append_elems s x t ho base e i z sz bytes ht hi hz hsize hby hzs hsz v n f hs hown A m c g hx hE h1 h63 h47 hbase fun v' w' h2 h3 h4 => hK _ _ (h v' w' h2 h3 h4)

/-- in a region that draws its order -/
theorem step_append_elems {w : World} {ops : Array Oper} {o : Oper} {a : Act} {K : Act → World → Prop} {Q : Exit → Act → World → Prop} {E : Prop} (hgd : o.guard = none) (s x : Operand) (t : TypeId)
    (ho : o.op = .call { callee := .builtin .append, args := #[s, x], argTypes := #[t, t] })
    (base : Nat) (e : TypeId) (i : TypeInfo) (z : Value) (sz bytes : Nat) (ht : P.underlying t = some (.slice e)) (hi : P.info? e = some i) (hz : i.zero = some z)
    (hsize : i.size = sz) (hby : i.bytes = bytes) (hzs : z.cells.size = sz) (hsz : 0 < sz)
    (v : Value) (n : Nat) (f : Nat → Nat → Value) (hs : a.eval s = v) (hown : w.ownsRow base e sz v n (flatCells sz n f)) (A : Option Addr) (m c : Nat) (g : Nat → Nat → Value) (hx : a.eval x = .slice A m c) (hE : Elems w (.slice A m c) sz m g)
    (h1 : ∀ i j, i < m → j < sz → (g i j).oneCell' = true) (h63 : n + m ≤ maxLen) (h47 : (n + m) * bytes ≤ 140737488355328) (hbase : base ≤ w.heap.size)
    (h : ∀ v' w', w'.ownsRow base e sz v' (n + m) (flatCells sz (n + m) (fun i j => if i < n then f i j else g (i - n) j)) → Below base w w' → Grew w w' v v' → K (a.put o.dst v') w') :
    if Region.wanted o (yielded ops a.tmps) = true then Oper.wp P o a w K Q else E := by
  have hw : Region.wanted o (yielded ops a.tmps) = true := by simp [Region.wanted, hgd]
  rw [if_pos hw]
  exact wp_append_elems s x t ho base e i z sz bytes ht hi hz hsize hby hzs hsz v n f hs hown A m c g hx hE h1 h63 h47 hbase h
end
end Go.Proofs.Ytfpadcfahfanoaa
