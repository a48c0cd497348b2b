/- Merged texts: OwnApart, OwnBooks, OwnSet. No law is proved here. -/
import Derived.Test.YtfpadcfahfanoaaAppend
import Derived.Test.YtfpadcfahfanoaaMg2
import Derived.Test.YtfpadcfahfanoaaRowWorld
/- Rows of the call's own, of unlike types, lie apart. No function of the program in it. No law is proved here. -/
namespace Go.Proofs.Ytfpadcfahfanoaa
open Go.RowKit

/-- two rows of the call's own, of unlike types, lie in unlike blocks -/
theorem own_apart {w : World} {base b2 : Nat} {e e2 : TypeId} {s s2 n n2 : Nat} {v v2 : Value} {xs xs2 : List Value} (h : w.ownsRow base e s v n xs) (h2 : w.ownsRow b2 e2 s2 v2 n2 xs2) (he : e ≠ e2) {b : Nat} (hv : v.ownBlock = some b) : v2.ownBlock ≠ some b := by
  intro hv2
  rcases h.2 with ⟨rfl, _⟩ | ⟨g, cap, cur, rfl, _, hg, _⟩
  · simp [Value.ownBlock] at hv
  · rcases h2.2 with ⟨rfl, _⟩ | ⟨g', cap', cur', rfl, _, hg', _⟩
    · simp [Value.ownBlock] at hv2
    · obtain rfl : g = b := by simpa [Value.ownBlock] using hv
      obtain rfl : g' = g := by simpa [Value.ownBlock] using hv2
      rw [hg] at hg'
      simp at hg'
      exact he hg'.2

theorem own_kept_apart {w w' : World} {base b2 : Nat} {e e2 : TypeId} {s s2 n n2 : Nat} {v v2 : Value} {xs xs2 : List Value} (h : w.ownsRow base e s v n xs) (h2 : w.ownsRow b2 e2 s2 v2 n2 xs2) (he : e2 ≠ e) (hG : w.grownBy w' v2.ownBlock) : w'.ownsRow base e s v n xs := by
  cases hv2 : v2.ownBlock with
  | none => rw [hv2] at hG; exact h.kept hG (by cases v.ownBlock <;> simp)
  | some b =>
    have := own_apart h2 h he hv2
    rw [hv2] at hG
    exact h.kept hG (.inr this)
end Go.Proofs.Ytfpadcfahfanoaa

/- Books of the call's own: the rows in one block, each list Out in one of its own, no two in one. No function of the program in it. No law is proved here. -/
namespace Go.Proofs.Ytfpadcfahfanoaa
open Go.RowKit

theorem info_row : (Try.prog.info? 59).map (fun i => (i.zero, i.size, i.bytes)) = some (some (.agg #[.int .i64 0, .int .i64 0, .slice none 0 0]), 3, 40) := by kernel_rfl

/-- the rows, their lists by g -/
def OwnG (w : World) (base : Nat) (v : Value) (l : List Rw) (g : Nat → Value) : Prop :=
  w.ownsRow base 59 3 v l.length (flatCells 3 l.length (rowCell l g)) ∧
    (∀ k, k < l.length → (∃ A C, g k = .slice A (at_ l k).out.length C) ∧ w.ownsRow base 2 1 (g k) (at_ l k).out.length ((at_ l k).out.map (Value.int .i64))) ∧
    ∀ i j b, i < l.length → j < l.length → (g i).ownBlock = some b → (g j).ownBlock = some b → i = j
def OwnBooks (w : World) (base : Nat) (v : Value) (l : List Rw) : Prop := ∃ g : Nat → Value, OwnG w base v l g

theorem OwnBooks.books {w : World} {base : Nat} {v : Value} {l : List Rw} (h : OwnBooks w base v l) (hb : l.length ≤ 9223372036854775807) (hl : ∀ k, k < l.length → (at_ l k).out.length ≤ 9223372036854775807) :
    ∃ A C, v = .slice A l.length C ∧ Books w (.slice A l.length C) l := by
  obtain ⟨g, h1, h2, _⟩ := h
  obtain ⟨A, C, rfl, _, hE⟩ := elems_of_own h1 hb
  refine ⟨A, C, rfl, g, hE, fun k hk => ?_⟩
  obtain ⟨⟨A', C', e⟩, h4⟩ := h2 k hk
  obtain ⟨A2, C2, e2, hN⟩ := nums_of_own h4 rfl (hl k hk)
  exact ⟨A', C', e, by rw [e2]; exact hN⟩
theorem OwnG.later {w w' : World} {base : Nat} {v : Value} {l : List Rw} {g : Nat → Value} (h : OwnG w base v l g) (hb : Below w.heap.size w w') : OwnG w' base v l g := by
  obtain ⟨h1, h2, h3⟩ := h
  exact ⟨own_later h1 hb, fun k hk => ⟨(h2 k hk).1, own_later (h2 k hk).2 hb⟩, h3⟩
theorem OwnBooks.later {w w' : World} {base : Nat} {v : Value} {l : List Rw} (h : OwnBooks w base v l) (hb : Below w.heap.size w w') : OwnBooks w' base v l := ⟨h.choose, h.choose_spec.later hb⟩
theorem ownG_nil (w : World) (base : Nat) (g : Nat → Value) : OwnG w base (.slice none 0 0) [] g :=
  ⟨World.ownsRow_nil _ _ _ _, fun k hk => absurd hk (by simp), fun i j b hi => absurd hi (by simp)⟩
theorem ownBooks_nil (w : World) (base : Nat) : OwnBooks w base (.slice none 0 0) [] := ⟨fun _ => .bool false, ownG_nil _ _ _⟩

theorem at_append_lt {l : List Rw} {r : Rw} {k : Nat} (h : k < l.length) : at_ (l ++ [r]) k = at_ l k := by simp [at_, List.getElem?_append_left h]
theorem at_append_eq (l : List Rw) (r : Rw) : at_ (l ++ [r]) l.length = r := by simp [at_]

/-- ONE ROW MORE: behind 'out = append(out, Row{..})', the row's list being of the call's own, and made since. -/
theorem ownG_push {w0 w1 w2 : World} {base : Nat} {v v' u : Value} {l : List Rw} {r : Rw} {g : Nat → Value} (h : OwnG w0 base v l g) (hb : Below w0.heap.size w0 w1) (hw : base ≤ w0.heap.size)
    (hu : w1.ownsRow w0.heap.size 2 1 u r.out.length (r.out.map (Value.int .i64))) (hus : ∃ A C, u = .slice A r.out.length C)
    (hv : w2.ownsRow base 59 3 v' (l.length + 1) (flatCells 3 (l.length + 1) (fun i j => if i < l.length then rowCell l g i j else if j = 0 then .int .i64 r.inc else if j = 1 then .int .i64 r.use else u)))
    (hG : w1.grownBy w2 v.ownBlock) : OwnG w2 base v' (l ++ [r]) (fun i => if i < l.length then g i else u) := by
  obtain ⟨h1, h2, h3⟩ := h
  have h1' := own_later h1 hb
  refine ⟨?_, fun k hk => ?_, fun i j b hi hj hbi hbj => ?_⟩
  · rw [List.length_append, List.length_singleton]
    have e : flatCells 3 (l.length + 1) (rowCell (l ++ [r]) (fun i => if i < l.length then g i else u)) = flatCells 3 (l.length + 1) (fun i j => if i < l.length then rowCell l g i j else if j = 0 then .int .i64 r.inc else if j = 1 then .int .i64 r.use else u) := by
      unfold flatCells
      rw [List.flatMap_def, List.flatMap_def]
      congr 1
      apply List.map_congr_left
      intro i hi
      apply List.map_congr_left
      intro j _
      by_cases hil : i < l.length
      · unfold rowCell
        rw [at_append_lt hil]
        simp only [if_pos hil]
      · have : i = l.length := by have := List.mem_range.1 hi; omega
        subst this
        unfold rowCell
        rw [at_append_eq]
        simp only [Nat.lt_irrefl, if_false]
    rw [e]; exact hv
  · rw [List.length_append, List.length_singleton] at hk
    by_cases hkl : k < l.length
    · rw [at_append_lt hkl]
      simp only [if_pos hkl]
      obtain ⟨e, h4⟩ := h2 k hkl
      exact ⟨e, own_kept_apart (own_later h4 hb) h1' (by decide) hG⟩
    · have : k = l.length := by omega
      subst this
      rw [at_append_eq]
      simp only [Nat.lt_irrefl, if_false]
      refine ⟨hus, ?_⟩
      have h5 := own_kept_apart hu h1' (by decide) hG
      exact ⟨h5.1, h5.2.imp id fun ⟨g', cap, cur, e, hb', hh⟩ => ⟨g', cap, cur, e, Nat.le_trans hw hb', hh⟩⟩
  · rw [List.length_append, List.length_singleton] at hi hj
    have hlt : ∀ k, k < l.length → (g k).ownBlock = some b → b < w0.heap.size := fun k hk e => ((h2 k hk).2.lt b e).2
    have hge : u.ownBlock = some b → w0.heap.size ≤ b := fun e => (hu.lt b e).1
    by_cases hil : i < l.length
    · simp only [if_pos hil] at hbi
      by_cases hjl : j < l.length
      · simp only [if_pos hjl] at hbj
        exact h3 i j b hil hjl hbi hbj
      · simp only [if_neg hjl] at hbj
        have := hlt i hil hbi
        have := hge hbj
        omega
    · simp only [if_neg hil] at hbi
      by_cases hjl : j < l.length
      · simp only [if_pos hjl] at hbj
        have := hlt j hjl hbj
        have := hge hbi
        omega
      · omega
end Go.Proofs.Ytfpadcfahfanoaa

/- Books of the call's own: one number in them set anew. No function of the program in it. No law is proved here. -/
namespace Go.Proofs.Ytfpadcfahfanoaa
open Go.RowKit

theorem flat_set {sz n i j : Nat} {f f' : Nat → Nat → Value} {x : Value} (hi : i < n) (hj : j < sz) (hf : ∀ p q, p < n → q < sz → f' p q = if p = i ∧ q = j then x else f p q) :
    (flatCells sz n f).set (i * sz + j) x = flatCells sz n f' := by
  have hlt : i * sz + j < n * sz := by
    have : (i + 1) * sz ≤ n * sz := Nat.mul_le_mul_right sz hi
    rw [Nat.succ_mul] at this
    omega
  apply List.ext_getElem?
  intro m
  by_cases hm : m < n * sz
  · have hs : 0 < sz := by omega
    have e := Nat.div_add_mod m sz
    rw [Nat.mul_comm] at e
    have hq := Nat.mod_lt m hs
    have hp : m / sz < n := Nat.div_lt_of_lt_mul (by rw [Nat.mul_comm]; exact hm)
    have h2 := flat_at sz n f' (m / sz) (m % sz) hp hq
    have h1 := flat_at sz n f (m / sz) (m % sz) hp hq
    rw [e] at h1 h2
    rw [h2, hf _ _ hp hq, List.getElem?_set]
    by_cases hmi : i * sz + j = m
    · have h3 : m / sz = i := by
        rw [← hmi, Nat.mul_comm, Nat.mul_add_div hs, Nat.div_eq_of_lt hj]; rfl
      have h4 : m % sz = j := by
        rw [← hmi, Nat.mul_comm, Nat.mul_add_mod, Nat.mod_eq_of_lt hj]
      rw [if_pos hmi, if_pos (by rw [flat_length]; exact hlt), if_pos ⟨h3, h4⟩]
    · rw [if_neg hmi, if_neg (fun h => hmi (by rw [← h.1, ← h.2, e])), h1]
  · rw [List.getElem?_eq_none (by rw [List.length_set, flat_length]; omega), List.getElem?_eq_none (by rw [flat_length]; omega)]

/-- one cell of a row of the call's own set anew -/
theorem own_set {w : World} {base : Nat} {e : TypeId} {sz n : Nat} {v : Value} {f f' : Nat → Nat → Value} {x : Value} (h : w.ownsRow base e sz v n (flatCells sz n f)) {i j : Nat} (hi : i < n) (hj : j < sz)
    (hf : ∀ p q, p < n → q < sz → f' p q = if p = i ∧ q = j then x else f p q) :
    ∃ b cap, v = .slice (some ⟨b, 0, none⟩) n cap ∧ base ≤ b ∧ b < w.heap.size ∧ (∀ o, w.frozen? ⟨b, o, none⟩ = false) ∧ (∀ p q, p < n → q < sz → w.cell? ⟨b, p * sz + q, none⟩ = some (f p q)) ∧
      (w.setCell ⟨b, i * sz + j, none⟩ x).ownsRow base e sz v n (flatCells sz n f') := by
  obtain ⟨hl, ⟨_, h0⟩ | ⟨g, cap, cur, rfl, hb, hh, h1, h2, h3, h4⟩⟩ := h
  · omega
  · refine ⟨g, cap, rfl, hb, (Array.getElem?_eq_some_iff.1 hh).1, fun o => Whole.free (w := w) (g := g) (t := e) (cs := cur) hh o, fun p q hp hq => ?_, flat_length _ _ _, Or.inr ⟨g, cap, cur.setIfInBounds (i * sz + j) x, rfl, hb, ?_, h1, h2, ?_, ?_⟩⟩
    · have hlt : p * sz + q < n * sz := by
        have : (p + 1) * sz ≤ n * sz := Nat.mul_le_mul_right sz hp
        rw [Nat.succ_mul] at this
        omega
      rw [Whole.cell (w := w) (g := g) (t := e) (cs := cur) hh, ← flat_at sz n f p q hp hq, ← h4, List.getElem?_take_of_lt hlt, Array.getElem?_toList]
    · exact Whole.set (w := w) (g := g) (t := e) (cs := cur) hh _ _
    · rw [Array.size_setIfInBounds]; exact h3
    · rw [Array.toList_setIfInBounds, List.take_set, h4]
      exact flat_set hi hj hf

theorem at_set {l : List Rw} {k : Nat} {r : Rw} (hk : k < l.length) (p : Nat) : at_ (l.set k r) p = if p = k then r else at_ l p := by
  unfold at_
  rw [List.getElem?_set]
  by_cases h : k = p
  · subst h; simp [hk]
  · rw [if_neg h, if_neg (fun e => h e.symm)]

/-- A NUMBER OF A ROW set anew (what was put in: cell 0; what was taken out: cell 1) -/
theorem ownG_set {w : World} {base : Nat} {v : Value} {l : List Rw} {g : Nat → Value} (h : OwnG w base v l g) {k j : Nat} (hk : k < l.length) (hj : j < 2) (r : Rw) (x : Int) (hout : r.out = (at_ l k).out)
    (h0 : r.inc = if j = 0 then x else (at_ l k).inc) (h1 : r.use = if j = 1 then x else (at_ l k).use) :
    ∃ b cap, v = .slice (some ⟨b, 0, none⟩) l.length cap ∧ base ≤ b ∧ b < w.heap.size ∧ (∀ o, w.frozen? ⟨b, o, none⟩ = false) ∧ (∀ p q, p < l.length → q < 3 → w.cell? ⟨b, p * 3 + q, none⟩ = some (rowCell l g p q)) ∧
      OwnG (w.setCell ⟨b, k * 3 + j, none⟩ (.int .i64 x)) base v (l.set k r) g := by
  obtain ⟨hr, hg, hd⟩ := h
  obtain ⟨b, cap, hv, hb, hlt, hfz, hc, hs⟩ := own_set (f' := rowCell (l.set k r) g) (x := .int .i64 x) hr hk (Nat.lt_trans hj (by decide)) (fun p q hp hq => by
    unfold rowCell
    rw [at_set hk]
    by_cases hpk : p = k
    · subst hpk
      rw [if_pos rfl, h0, h1]
      by_cases hq0 : q = 0
      · subst hq0
        by_cases hj0 : j = 0
        · subst hj0; simp
        · simp [hj0, Ne.symm hj0]
      · by_cases hq1 : q = 1
        · subst hq1
          by_cases hj1 : j = 1
          · subst hj1; simp
          · simp [hj1, Ne.symm hj1]
        · have : ¬ (q = j) := by omega
          simp [hq0, hq1, this]
    · simp [hpk])
  refine ⟨b, cap, hv, hb, hlt, hfz, hc, by rw [List.length_set]; exact hs, fun p hp => ?_, fun p q b' hp hq => hd p q b' (by rw [List.length_set] at hp; exact hp) (by rw [List.length_set] at hq; exact hq)⟩
  rw [List.length_set] at hp
  obtain ⟨e, h4⟩ := hg p hp
  have hat : (at_ (l.set k r) p).out = (at_ l p).out := by
    rw [at_set hk]
    by_cases hpk : p = k
    · rw [if_pos hpk, hout, hpk]
    · rw [if_neg hpk]
  rw [hat]
  refine ⟨e, h4.kept (grownBy_set w ⟨b, k * 3 + j, none⟩ _) (.inr ?_)⟩
  exact own_apart hr h4 (by decide) (by rw [hv]; rfl)

/-- A NUMBER OF A LIST set anew -/
theorem ownG_out {w : World} {base : Nat} {v : Value} {l : List Rw} {g : Nat → Value} (h : OwnG w base v l g) {k j : Nat} (hk : k < l.length) (hj : j < (at_ l k).out.length) (x : Int) :
    ∃ b c b2 c2, v = .slice (some ⟨b, 0, none⟩) l.length c ∧ g k = .slice (some ⟨b2, 0, none⟩) (at_ l k).out.length c2 ∧ base ≤ b2 ∧ b2 < w.heap.size ∧ b < w.heap.size ∧ (∀ o, w.frozen? ⟨b2, o, none⟩ = false) ∧
      (∀ p q, p < l.length → q < 3 → w.cell? ⟨b, p * 3 + q, none⟩ = some (rowCell l g p q)) ∧ w.cell? ⟨b2, j, none⟩ = some (.int .i64 ((at_ l k).out[j]?.getD 0)) ∧
      OwnG (w.setCell ⟨b2, j, none⟩ (.int .i64 x)) base v (l.set k ⟨(at_ l k).inc, (at_ l k).use, (at_ l k).out.set j x⟩) g := by
  obtain ⟨hr, hg, hd⟩ := h
  obtain ⟨b, c, hv, hb, hlt, _, hc, _⟩ := own_set (f' := rowCell l g) (x := rowCell l g k 0) hr hk (j := 0) (by decide) (fun p q hp hq => by
    by_cases e : p = k ∧ q = 0
    · rw [if_pos e, e.1, e.2]
    · rw [if_neg e])
  obtain ⟨_, hk4⟩ := hg k hk
  have hk5 := hk4
  rw [flat_one] at hk5
  obtain ⟨b2, c2, hv2, hb2, hlt2, hfz, hc2, hs⟩ := own_set (f' := fun q _ => .int .i64 (((at_ l k).out.set j x)[q]?.getD 0)) (x := .int .i64 x) hk5 hj (j := 0) (by decide) (fun p q hp hq => by
    obtain rfl : q = 0 := by omega
    by_cases e : p = j
    · subst e; simp [hp]
    · simp [e, Ne.symm e])
  have hcell := hc2 j 0 hj (by decide)
  rw [Nat.mul_one, Nat.add_zero] at hcell hs
  refine ⟨b, c, b2, c2, hv, hv2, hb2, hlt2, hlt, hfz, hc, hcell, ?_, fun p hp => ?_, fun p q b' hp hq => hd p q b' (by rw [List.length_set] at hp; exact hp) (by rw [List.length_set] at hq; exact hq)⟩
  · have h6 := hr.kept (grownBy_set w ⟨b2, j, none⟩ (.int .i64 x)) (.inr (own_apart hk4 hr (by decide) (by rw [hv2]; rfl)))
    have e : flatCells 3 l.length (rowCell (l.set k ⟨(at_ l k).inc, (at_ l k).use, (at_ l k).out.set j x⟩) g) = flatCells 3 l.length (rowCell l g) := by
      congr 1
      funext p q
      unfold rowCell
      rw [at_set hk]
      by_cases hpk : p = k
      · subst hpk; simp
      · simp [hpk]
    rw [List.length_set, e]; exact h6
  · rw [List.length_set] at hp
    rw [at_set hk]
    by_cases hpk : p = k
    · subst hpk
      rw [if_pos rfl]
      have hl2 : ((at_ l p).out.set j x).length = (at_ l p).out.length := List.length_set
      refine ⟨⟨_, c2, by show g p = .slice _ ((at_ l p).out.set j x).length _; rw [hl2]; exact hv2⟩, ?_⟩
      show World.ownsRow _ _ _ _ _ ((at_ l p).out.set j x).length _
      have e := flat_one ((at_ l p).out.set j x)
      rw [hl2] at e
      rw [hl2]
      show World.ownsRow _ _ _ _ _ _ (List.map _ ((at_ l p).out.set j x))
      rw [e]; exact hs
    · rw [if_neg hpk]
      obtain ⟨e, h4⟩ := hg p hp
      refine ⟨e, h4.kept (grownBy_set w ⟨b2, j, none⟩ _) (.inr fun e2 => ?_)⟩
      exact hpk (hd p k b2 hp hk e2 (by rw [hv2]; rfl))
end Go.Proofs.Ytfpadcfahfanoaa
