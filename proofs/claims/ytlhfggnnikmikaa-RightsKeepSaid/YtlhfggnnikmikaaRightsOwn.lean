/- Books of the call's own, made at once and filled row by row. No function of the program in it. No law is proved here. -/
import Derived.Test.YtlhfggnnikmikaaOwnSet
import Derived.Test.YtlhfggnnikmikaaRefRightsCopy
namespace Go.Proofs.Ytlhfggnnikmikaa
open Go.RowKit

/-- the block of a row of the call's own, and what its cells hold -/
theorem own_block {w : World} {base : Nat} {e : TypeId} {sz n : Nat} {v : Value} {f : Nat → Nat → Value} (h : w.ownsRow base e sz v n (flatCells sz n f)) (hn : 0 < n) :
    ∃ b cap, v = .slice (some ⟨b, 0, none⟩) n cap ∧ base ≤ b ∧ b < w.heap.size ∧ (∀ o, w.frozen? ⟨b, o, none⟩ = false) ∧ ∀ p q, p < n → q < sz → w.cell? ⟨b, p * sz + q, none⟩ = some (f p q) := by
  obtain ⟨hl, ⟨_, h0⟩ | ⟨g, cap, cur, rfl, hb, hh, h1, h2, h3, h4⟩⟩ := h
  · omega
  · refine ⟨g, cap, rfl, hb, (Array.getElem?_eq_some_iff.1 hh).1, fun o => Whole.free (w := w) (g := g) (t := e) (cs := cur) hh o, fun p q hp hq => ?_⟩
    have hlt : p * sz + q < n * sz := by
      have : (p + 1) * sz ≤ n * sz := Nat.mul_le_mul_right sz hp
      rw [Nat.succ_mul] at this
      omega
    rw [Whole.cell (w := w) (g := g) (t := e) (cs := cur) hh, ← flat_at sz n f p q hp hq, ← h4, List.getElem?_take_of_lt hlt, Array.getElem?_toList]

/-- a row of books of the call's own set anew, its list made since -/
theorem ownG_core {w0 w1 w2 : World} {base b : Nat} {v u : Value} {l : List Rw} {r : Rw} {g : Nat → Value} (h : OwnG w0 base v l g) (hb : Below w0.heap.size w0 w1) (hw : base ≤ w0.heap.size)
    (hu : w1.ownsRow w0.heap.size 2 1 u r.out.length (r.out.map (Value.int .i64))) (hus : ∃ A C, u = .slice A r.out.length C) {k : Nat} (hk : k < l.length) (hv : v.ownBlock = some b)
    (hrow : w2.ownsRow base 49 3 v l.length (flatCells 3 l.length (rowCell (l.set k r) (fun i => if i = k then u else g i))))
    (keep : ∀ (b2 n2 : Nat) (v2 : Value) (xs2 : List Value), v2.ownBlock ≠ some b → w1.ownsRow b2 2 1 v2 n2 xs2 → w2.ownsRow b2 2 1 v2 n2 xs2) :
    OwnG w2 base v (l.set k r) (fun i => if i = k then u else g i) := by
  obtain ⟨h1, h2, h3⟩ := h
  have hvb : b < w0.heap.size := (h1.lt b hv).2
  have hub : u.ownBlock ≠ some b := fun e => by have := (hu.lt b e).1; omega
  refine ⟨by rw [List.length_set]; exact hrow, fun p hp => ?_, fun i j b' hi hj hbi hbj => ?_⟩
  · rw [List.length_set] at hp
    rw [at_set hk]
    by_cases hpk : p = k
    · simp only [if_pos hpk]
      exact ⟨hus, keep _ _ _ _ hub (own_base hu hw)⟩
    · simp only [if_neg hpk]
      obtain ⟨e, h4⟩ := h2 p hp
      exact ⟨e, keep _ _ _ _ (own_apart h1 h4 (by decide) hv) (own_later h4 hb)⟩
  · rw [List.length_set] at hi hj
    have hlt : ∀ k, k < l.length → (g k).ownBlock = some b' → b' < w0.heap.size := fun k hk e => ((h2 k hk).2.lt b' e).2
    have hge : u.ownBlock = some b' → w0.heap.size ≤ b' := fun e => (hu.lt b' e).1
    by_cases hik : i = k
    · by_cases hjk : j = k
      · omega
      · simp only [if_pos hik] at hbi
        simp only [if_neg hjk] at hbj
        have := hlt j hj hbj
        have := hge hbi
        omega
    · by_cases hjk : j = k
      · simp only [if_neg hik] at hbi
        simp only [if_pos hjk] at hbj
        have := hlt i hi hbi
        have := hge hbj
        omega
      · simp only [if_neg hik] at hbi
        simp only [if_neg hjk] at hbj
        exact h3 i j b' hi hj hbi hbj

/-- the row's three cells written -/
theorem ownG_row {w0 w1 : World} {base : Nat} {v u : Value} {l : List Rw} {r : Rw} {g : Nat → Value} (h : OwnG w0 base v l g) (hb : Below w0.heap.size w0 w1) (hw : base ≤ w0.heap.size)
    (hu : w1.ownsRow w0.heap.size 2 1 u r.out.length (r.out.map (Value.int .i64))) (hus : ∃ A C, u = .slice A r.out.length C) {k : Nat} (hk : k < l.length) :
    ∃ b cap, v = .slice (some ⟨b, 0, none⟩) l.length cap ∧ base ≤ b ∧ b < w0.heap.size ∧ (∀ o, w1.frozen? ⟨b, o, none⟩ = false) ∧ (∀ p q, p < l.length → q < 3 → w1.cell? ⟨b, p * 3 + q, none⟩ = some (rowCell l g p q)) ∧
      OwnG (((w1.setCell ⟨b, k * 3, none⟩ (.int .i64 r.inc)).setCell ⟨b, k * 3 + 1, none⟩ (.int .i64 r.use)).setCell ⟨b, k * 3 + 2, none⟩ u) base v (l.set k r) (fun i => if i = k then u else g i) := by
  have h1 := own_later h.1 hb
  obtain ⟨b, cap, hv, hbb, _, hfz, hc⟩ := own_block h1 (by omega)
  have hvo : v.ownBlock = some b := by rw [hv]; rfl
  have hvb : b < w0.heap.size := (h.1.lt b hvo).2
  obtain ⟨b1, c1, e1, _, _, _, _, s1⟩ := own_set (f' := fun p q => if p = k ∧ q = 0 then .int .i64 r.inc else rowCell l g p q) (x := .int .i64 r.inc) h1 hk (j := 0) (by decide) (fun _ _ _ _ => rfl)
  obtain rfl : b1 = b := by rw [hv] at e1; simp only [Value.slice.injEq, Option.some.injEq, Addr.mk.injEq] at e1; exact e1.1.1.symm
  obtain ⟨b2, c2, e2, _, _, _, _, s2⟩ := own_set (f' := fun p q => if p = k ∧ q = 1 then .int .i64 r.use else if p = k ∧ q = 0 then .int .i64 r.inc else rowCell l g p q) (x := .int .i64 r.use) s1 hk (j := 1) (by decide) (fun _ _ _ _ => rfl)
  obtain rfl : b2 = b1 := by rw [hv] at e2; simp only [Value.slice.injEq, Option.some.injEq, Addr.mk.injEq] at e2; exact e2.1.1.symm
  obtain ⟨b3, c3, e3, _, _, _, _, s3⟩ := own_set (f' := rowCell (l.set k r) (fun i => if i = k then u else g i)) (x := u) s2 hk (j := 2) (by decide) (fun p q hp hq => by
    unfold rowCell
    rw [at_set hk]
    by_cases hpk : p = k
    · subst hpk
      match q, hq with
      | 0, _ => simp
      | 1, _ => simp
      | 2, _ => simp
    · simp [hpk])
  obtain rfl : b3 = b2 := by rw [hv] at e3; simp only [Value.slice.injEq, Option.some.injEq, Addr.mk.injEq] at e3; exact e3.1.1.symm
  rw [Nat.add_zero] at s3
  refine ⟨b3, cap, hv, hbb, hvb, hfz, hc, ownG_core h hb hw hu hus hk hvo s3 (fun bb n2 v2 xs2 hne hr => ?_)⟩
  exact ((hr.kept (grownBy_set w1 ⟨b3, k * 3, none⟩ _) (.inr hne)).kept (grownBy_set _ ⟨b3, k * 3 + 1, none⟩ _) (.inr hne)).kept (grownBy_set _ ⟨b3, k * 3 + 2, none⟩ _) (.inr hne)

/-- the row's list written -/
theorem ownG_list {w0 w1 : World} {base : Nat} {v u : Value} {l : List Rw} {r : Rw} {g : Nat → Value} (h : OwnG w0 base v l g) (hb : Below w0.heap.size w0 w1) (hw : base ≤ w0.heap.size)
    (hu : w1.ownsRow w0.heap.size 2 1 u r.out.length (r.out.map (Value.int .i64))) (hus : ∃ A C, u = .slice A r.out.length C) {k : Nat} (hk : k < l.length) (hi : r.inc = (at_ l k).inc) (hu2 : r.use = (at_ l k).use) :
    ∃ b cap, v = .slice (some ⟨b, 0, none⟩) l.length cap ∧ base ≤ b ∧ b < w0.heap.size ∧ (∀ o, w1.frozen? ⟨b, o, none⟩ = false) ∧ (∀ p q, p < l.length → q < 3 → w1.cell? ⟨b, p * 3 + q, none⟩ = some (rowCell l g p q)) ∧
      OwnG (w1.setCell ⟨b, k * 3 + 2, none⟩ u) base v (l.set k r) (fun i => if i = k then u else g i) := by
  have h1 := own_later h.1 hb
  obtain ⟨b, cap, hv, hbb, _, hfz, hc⟩ := own_block h1 (by omega)
  have hvo : v.ownBlock = some b := by rw [hv]; rfl
  have hvb : b < w0.heap.size := (h.1.lt b hvo).2
  obtain ⟨b3, c3, e3, _, _, _, _, s3⟩ := own_set (f' := rowCell (l.set k r) (fun i => if i = k then u else g i)) (x := u) h1 hk (j := 2) (by decide) (fun p q hp hq => by
    unfold rowCell
    rw [at_set hk]
    by_cases hpk : p = k
    · subst hpk
      match q, hq with
      | 0, _ => simp [hi]
      | 1, _ => simp [hu2]
      | 2, _ => simp
    · simp [hpk])
  obtain rfl : b3 = b := by rw [hv] at e3; simp only [Value.slice.injEq, Option.some.injEq, Addr.mk.injEq] at e3; exact e3.1.1.symm
  refine ⟨b3, cap, hv, hbb, hvb, hfz, hc, ownG_core h hb hw hu hus hk hvo s3 (fun bb n2 v2 xs2 hne hr => ?_)⟩
  exact hr.kept (grownBy_set w1 ⟨b3, k * 3 + 2, none⟩ _) (.inr hne)

/-- a row that nothing is written to yet -/
def bare : Rw := ⟨0, 0, []⟩
/-- the first k rows are there -/
def part (L : List Rw) (k : Nat) : List Rw := L.take k ++ List.replicate (L.length - k) bare
theorem part_length {L : List Rw} {k : Nat} (h : k ≤ L.length) : (part L k).length = L.length := by
  unfold part; rw [List.length_append, List.length_take, List.length_replicate]; omega
theorem part_zero (L : List Rw) : part L 0 = List.replicate L.length bare := by simp [part]
theorem part_all (L : List Rw) : part L L.length = L := by simp [part]
theorem part_at {L : List Rw} {k : Nat} (h : k < L.length) : at_ (part L k) k = bare := by
  unfold at_ part
  rw [List.getElem?_append_right (by rw [List.length_take]; omega), List.length_take]
  rw [show k - min k L.length = 0 by omega, List.getElem?_replicate, if_pos (by omega)]
  rfl
theorem part_set {L : List Rw} {k : Nat} (h : k < L.length) : (part L k).set k (at_ L k) = part L (k + 1) := by
  unfold part
  rw [List.set_append_right _ _ (by rw [List.length_take]; omega), List.length_take]
  rw [show k - min k L.length = 0 by omega, show L.length - k = (L.length - (k + 1)) + 1 by omega, List.replicate_succ, List.set_cons_zero, take_at h]
  rw [List.append_assoc]; rfl

theorem made_rows (n : Nat) : (madeCells #[.int .i64 0, .int .i64 0, .slice none 0 0] (n * 3)).toList = flatCells 3 n (rowCell (List.replicate n bare) (fun _ => .slice none 0 0)) := by
  apply List.ext_getElem?
  intro i
  by_cases hi : i < n * 3
  · obtain ⟨p, q, hp, hq, rfl⟩ := flat_split (sz := 3) n hi
    rw [flat_at 3 n _ p q hp hq]
    unfold madeCells
    have hm : (p * 3 + q) % 3 = q := by omega
    have hat : at_ (List.replicate n bare) p = bare := by simp [at_, hp]
    rw [Array.getElem?_toList, Array.getElem?_map]
    rw [show (Array.range (n * 3))[p * 3 + q]? = some (p * 3 + q) by simp [hi]]
    unfold rowCell
    rw [hat]
    match q, hq, hm with
    | 0, _, _ => simp; rfl
    | 1, _, hm => simp [hm]; rfl
    | 2, _, hm => simp [hm]
  · rw [List.getElem?_eq_none (by simp [madeCells]; omega), List.getElem?_eq_none (by rw [flat_length]; omega)]
/-- books made at once, no row written yet -/
theorem own_bare (w : World) (n : Nat) (hn : n ≤ maxLen) : OwnBooks (w.alloc (.cells (madeCells #[.int .i64 0, .int .i64 0, .slice none 0 0] (n * 3)) 49)) w.heap.size (.slice (some ⟨w.heap.size, 0, none⟩) n n) (List.replicate n bare) := by
  refine ⟨fun _ => .slice none 0 0, ?_, fun k hk => ?_, fun i j b hi hj hbi => ?_⟩
  · have := own_whole (w := w.alloc (.cells (madeCells #[.int .i64 0, .int .i64 0, .slice none 0 0] (n * 3)) 49)) (base := w.heap.size) (n := n) (Whole.made w _ _) (Nat.le_refl _) (made_rows n) hn
    rw [List.length_replicate]; exact this
  · rw [List.length_replicate] at hk
    have hat : at_ (List.replicate n bare) k = bare := by simp [at_, hk]
    rw [hat]
    exact ⟨⟨none, 0, rfl⟩, World.ownsRow_nil _ _ _ _⟩
  · simp [Value.ownBlock] at hbi

/-- ONE ROW MORE is written: its three cells, the list having been made since -/
theorem part_row {wr w2 : World} {base B n b2 : Nat} {L : List Rw} {k : Nat} {u : Value} (hO : OwnBooks wr base (.slice (some ⟨B, 0, none⟩) n n) (part L k)) (hb : Below wr.heap.size wr w2) (hw : base ≤ wr.heap.size) (hkl : k < L.length)
    (hb2 : wr.heap.size ≤ b2) (hu : w2.ownsRow b2 2 1 u (at_ L k).out.length ((at_ L k).out.map (Value.int .i64))) (hus : ∃ A C, u = .slice A (at_ L k).out.length C) :
    base ≤ B ∧ B < wr.heap.size ∧ (w2.frozen? ⟨B, k * 3, none⟩ = false ∧ w2.frozen? ⟨B, k * 3 + 1, none⟩ = false ∧ w2.frozen? ⟨B, k * 3 + 2, none⟩ = false) ∧
      (∃ x0 x1 x2, w2.cell? ⟨B, k * 3, none⟩ = some x0 ∧ w2.cell? ⟨B, k * 3 + 1, none⟩ = some x1 ∧ w2.cell? ⟨B, k * 3 + 2, none⟩ = some x2) ∧
      OwnBooks (((w2.setCell ⟨B, k * 3, none⟩ (.int .i64 (at_ L k).inc)).setCell ⟨B, k * 3 + 1, none⟩ (.int .i64 (at_ L k).use)).setCell ⟨B, k * 3 + 2, none⟩ u) base (.slice (some ⟨B, 0, none⟩) n n) (part L (k + 1)) := by
  obtain ⟨g, hG⟩ := hO
  have hpl : k < (part L k).length := by rw [part_length (by omega)]; exact hkl
  obtain ⟨bb, cap, hv, hbb, hblt, hfz, hcs, hG2⟩ := ownG_row (r := at_ L k) hG hb hw (own_base hu hb2) hus hpl
  simp only [Value.slice.injEq, Option.some.injEq, Addr.mk.injEq] at hv
  have hbeq := hv.1.1
  clear hv
  subst hbeq
  rw [part_set hkl] at hG2
  exact ⟨hbb, hblt, ⟨hfz _, hfz _, hfz _⟩, ⟨_, _, _, hcs k 0 hpl (by decide), hcs k 1 hpl (by decide), hcs k 2 hpl (by decide)⟩, _, hG2⟩
end Go.Proofs.Ytlhfggnnikmikaa
