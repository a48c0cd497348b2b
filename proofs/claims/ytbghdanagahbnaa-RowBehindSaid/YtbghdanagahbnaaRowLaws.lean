/- RowJoins and RowOrder, walked. -/
import Derived.Test.YtbghdanagahbnaaRowAwake
namespace Go.Proofs.Ytbghdanagahbnaa
open Go.RowKit

theorem join_up_l (i u : Int) (la : List Int) (j v : Int) (lb : List Int) (h : la.length = lb.length) : behindB i u la (max i j) (max u v) (joinL la lb) = true :=
  behindB_iff.2 ⟨(joinL_length h).symm, by omega, by omega, fun k hk => by rw [joinL_at h hk]; omega⟩
theorem join_up_r (i u : Int) (la : List Int) (j v : Int) (lb : List Int) (h : la.length = lb.length) : behindB j v lb (max i j) (max u v) (joinL la lb) = true :=
  behindB_iff.2 ⟨by rw [joinL_length h, h], by omega, by omega, fun k hk => by rw [joinL_at h (by omega)]; omega⟩
theorem join_least {i u j v p q : Int} {la lb lc : List Int} (h : la.length = lb.length) (h1 : behindB i u la p q lc = true) (h2 : behindB j v lb p q lc = true) : behindB (max i j) (max u v) (joinL la lb) p q lc = true := by
  obtain ⟨a1, a2, a3, a4⟩ := behindB_iff.1 h1
  obtain ⟨b1, b2, b3, b4⟩ := behindB_iff.1 h2
  refine behindB_iff.2 ⟨by rw [joinL_length h]; exact a1, by omega, by omega, fun k hk => ?_⟩
  rw [joinL_length h] at hk
  rw [joinL_at h hk]
  have := a4 k hk
  have := b4 k (by omega)
  omega
theorem same_self (i u : Int) (l : List Int) : sameB i u l i u l = true := decide_eq_true ⟨rfl, rfl, rfl⟩
theorem same_of {i u j v : Int} {la lb : List Int} (h1 : i = j) (h2 : u = v) (h3 : la = lb) : sameB i u la j v lb = true := decide_eq_true ⟨h1, h2, h3⟩
theorem nums_none (w : World) : Nums w (.slice none 0 0) [] := elems_nil w _ _ _ _ (fun _ => rfl)

/-- three rows, each in a box of the call's own -/
def three (W : World) (i u : Int) (a : Option Addr) (n c : Nat) (j v : Int) (b : Option Addr) (m d : Nat) (p q : Int) (e : Option Addr) (k f : Nat) : World :=
  ((W.alloc (.cells #[.int .i64 i, .int .i64 u, .slice a n c] 24)).alloc (.cells #[.int .i64 j, .int .i64 v, .slice b m d] 24)).alloc (.cells #[.int .i64 p, .int .i64 q, .slice e k f] 24)

section
variable (W : World) (i u : Int) (a : Option Addr) (n c : Nat) (j v : Int) (b : Option Addr) (m d : Nat) (p q : Int) (e : Option Addr) (k f : Nat)
theorem three_a : Whole (three W i u a n c j v b m d p q e k f) W.heap.size 24 #[.int .i64 i, .int .i64 u, .slice a n c] :=
  ((Whole.made W 24 #[.int .i64 i, .int .i64 u, .slice a n c]).alloc (.cells #[.int .i64 j, .int .i64 v, .slice b m d] 24)).alloc (.cells #[.int .i64 p, .int .i64 q, .slice e k f] 24)
theorem three_b : Whole (three W i u a n c j v b m d p q e k f) (W.heap.size + 1) 24 #[.int .i64 j, .int .i64 v, .slice b m d] :=
  (Whole.made2 W (.cells #[.int .i64 i, .int .i64 u, .slice a n c] 24) 24 #[.int .i64 j, .int .i64 v, .slice b m d]).alloc (.cells #[.int .i64 p, .int .i64 q, .slice e k f] 24)
theorem three_c : Whole (three W i u a n c j v b m d p q e k f) (W.heap.size + 1 + 1) 24 #[.int .i64 p, .int .i64 q, .slice e k f] :=
  Whole.madeAt _ _ _ _ (by simp)
theorem three_below : Below W.heap.size W (three W i u a n c j v b m d p q e k f) := (below_two W _ _).alloc (by simp; omega) _
end

set_option maxRecDepth 100000 in
set_option maxHeartbeats 4000000 in
theorem joins_law (W : World) (i u : Int) (a : Option Addr) (n c : Nat) (la : List Int) (j v : Int) (b : Option Addr) (m d : Nat) (lb : List Int) (p q : Int) (e : Option Addr) (k f : Nat) (lc : List Int)
    (hn : n = la.length) (hm : m = lb.length) (hk : k = lc.length) (hA : Nums W (.slice a n c) la) (hB : Nums W (.slice b m d) lb) (hC : Nums W (.slice e k f) lc) :
    Calls Try.prog 3 #[rowV i u (.slice a n c), rowV j v (.slice b m d), rowV p q (.slice e k f)] W (Says W true) := by
  have hbn : n ≤ 9223372036854775807 := by rw [hn]; exact hA.1
  have hbm : m ≤ 9223372036854775807 := by rw [hm]; exact hB.1
  have hbk : k ≤ 9223372036854775807 := by rw [hk]; exact hC.1
  have HA := Lib.hid hA; clear hA
  have HB := Lib.hid hB; clear hB
  have HC := Lib.hid hC; clear hC
  have Hn := Lib.hid hn; clear hn
  have Hm := Lib.hid hm; clear hm
  have Hk := Lib.hid hk; clear hk
  obtain ⟨w0, Hw0⟩ : ∃ w0, Hid (three W i u a n c j v b m d p q e k f = w0) := ⟨_, rfl⟩
  have HWa : Hid (Whole w0 W.heap.size 24 #[.int .i64 i, .int .i64 u, .slice a n c]) := by rw [← Hw0.out]; exact three_a ..
  have HWb : Hid (Whole w0 (W.heap.size + 1) 24 #[.int .i64 j, .int .i64 v, .slice b m d]) := by rw [← Hw0.out]; exact three_b ..
  have HWc : Hid (Whole w0 (W.heap.size + 1 + 1) 24 #[.int .i64 p, .int .i64 q, .slice e k f]) := by rw [← Hw0.out]; exact three_c ..
  have Hb0 : Hid (Below W.heap.size W w0) := by rw [← Hw0.out]; exact three_below ..
  go_enter Try.func3, Try.ntmps3
  go_wp2_with fail
  have hw0 := Hw0.out
  unfold three at hw0
  rw [hw0]
  clear hw0 Hw0
  refine (awake_calls _).mono ?_
  rintro ee w1 ⟨rfl, hb⟩
  have Hb1 := Lib.hid (held_next Hb0.out hb)
  have HWa1 := Lib.hid (HWa.out.later hb HWa.out.lt)
  have HWb1 := Lib.hid (HWb.out.later hb HWb.out.lt)
  have HWc1 := Lib.hid (HWc.out.later hb HWc.out.lt)
  clear hb HWa HWb HWc Hb0
  obtain ⟨a0, a1, a2⟩ := row_cells HWa1.out
  obtain ⟨b0, b1, b2⟩ := row_cells HWb1.out
  obtain ⟨c0, c1, c2⟩ := row_cells HWc1.out
  have hla := HWa1.out.lt
  have hlb := HWb1.out.lt
  have hlc := HWc1.out.lt
  by_cases h1 : 100 < n
  · go_wp2_with fail
    go_ret
    exact ⟨rfl, Hb1.out⟩
  by_cases h2 : 100 < m
  · go_wp2_with fail
    go_ret
    exact ⟨rfl, Hb1.out⟩
  by_cases h3 : 100 < k
  · go_wp2_with fail
    go_ret
    exact ⟨rfl, Hb1.out⟩
  by_cases hnm : n = m
  · subst hnm
    have hlen : la.length = lb.length := by rw [← Hn.out, ← Hm.out]
    have Hup := Lib.hid (join_up_l i u la j v lb hlen)
    have Hvp := Lib.hid (join_up_r i u la j v lb hlen)
    have Hle := Lib.hid (fun h1 h2 => join_least (i := i) (u := u) (j := j) (v := v) (p := p) (q := q) (la := la) (lb := lb) (lc := lc) hlen h1 h2)
    have Hlj := Lib.hid (show n = (joinL la lb).length by rw [joinL_length hlen, ← Hn.out])
    clear hlen
    obtain ⟨I, HI⟩ : ∃ I, Hid (max i j = I) := ⟨_, rfl⟩
    obtain ⟨U, HU⟩ : ∃ U, Hid (max u v = U) := ⟨_, rfl⟩
    obtain ⟨L, HL⟩ : ∃ L, Hid (joinL la lb = L) := ⟨_, rfl⟩
    rw [HI.out, HU.out, HL.out] at Hup Hvp Hle
    rw [HL.out] at Hlj
    go_wp2_with fail
    refine (join_loop a n c b d i u j v la lb Hn.out Hm.out _ (HA.out.later Hb1.out) (HB.out.later Hb1.out) (by omega)).mono ?_
    rw [HI.out, HU.out, HL.out]
    rintro ee w2 ⟨A, C, rfl, hN, hb⟩
    have HN2 := Lib.hid hN
    have Hb2 := Lib.hid (held_next Hb1.out hb)
    have HWa2 := Lib.hid (HWa1.out.later hb HWa1.out.lt)
    have HWb2 := Lib.hid (HWb1.out.later hb HWb1.out.lt)
    have HWc2 := Lib.hid (HWc1.out.later hb HWc1.out.lt)
    have Hb2' := Lib.hid (Hb2.out.alloc Hb2.out.size (.cells #[.int .i64 I, .int .i64 U, .slice A n C] 24))
    have HN2' := Lib.hid (hN.later (below_box w2 (.cells #[.int .i64 I, .int .i64 U, .slice A n C] 24)))
    have HJ2 := Lib.hid (Whole.made w2 24 #[.int .i64 I, .int .i64 U, .slice A n C])
    clear hb hN a0 a1 a2 b0 b1 b2 c0 c1 c2 hla hlb hlc HWa1 HWb1 HWc1
    obtain ⟨a0, a1, a2⟩ := row_cells HWa2.out
    obtain ⟨b0, b1, b2⟩ := row_cells HWb2.out
    have hla := HWa2.out.lt
    have hlb := HWb2.out.lt
    go_wp2_with fail
    refine (refjoin_loop a n c b d i u j v la lb Hn.out Hm.out _ (HA.out.later Hb2'.out) (HB.out.later Hb2'.out) (by omega)).mono ?_
    rw [HI.out, HU.out, HL.out]
    rintro ee w3 ⟨A', C', rfl, hN, hb⟩
    have HN3 := Lib.hid (HN2'.out.later hb)
    have HM3 := Lib.hid hN
    have Hb3 := Lib.hid (held_next Hb2'.out hb)
    have HWa3 := Lib.hid ((HWa2.out.alloc (.cells #[.int .i64 I, .int .i64 U, .slice A n C] 24)).later hb (HWa2.out.alloc _).lt)
    have HWb3 := Lib.hid ((HWb2.out.alloc (.cells #[.int .i64 I, .int .i64 U, .slice A n C] 24)).later hb (HWb2.out.alloc _).lt)
    have HWc3 := Lib.hid ((HWc2.out.alloc (.cells #[.int .i64 I, .int .i64 U, .slice A n C] 24)).later hb (HWc2.out.alloc _).lt)
    have HJ3 := Lib.hid (HJ2.out.later hb HJ2.out.lt)
    have Hb3' := Lib.hid (Hb3.out.alloc Hb3.out.size (.cells #[.int .i64 I, .int .i64 U, .slice A' n C'] 24))
    have HN3' := Lib.hid (HN3.out.later (below_box w3 (.cells #[.int .i64 I, .int .i64 U, .slice A' n C'] 24)))
    have HM3' := Lib.hid (hN.later (below_box w3 (.cells #[.int .i64 I, .int .i64 U, .slice A' n C'] 24)))
    clear hb hN a0 a1 a2 b0 b1 b2 hla hlb HWa2 HWb2 HWc2
    obtain ⟨j0, j1, j2⟩ := row_cells HJ3.out
    have hlj := HJ3.out.lt
    go_wp2_with fail
    refine (refsame_calls A n C A' n C' I U I U L L Hlj.out Hlj.out _ HN3'.out HM3'.out).mono ?_
    rintro ee w4 ⟨rfl, hb⟩
    rw [same_self]
    have Hb4 := Lib.hid (held_next Hb3'.out hb)
    have HN4 := Lib.hid (HN3'.out.later hb)
    have HWa4 := Lib.hid ((HWa3.out.alloc (.cells #[.int .i64 I, .int .i64 U, .slice A' n C'] 24)).later hb (HWa3.out.alloc _).lt)
    have HWb4 := Lib.hid ((HWb3.out.alloc (.cells #[.int .i64 I, .int .i64 U, .slice A' n C'] 24)).later hb (HWb3.out.alloc _).lt)
    have HWc4 := Lib.hid ((HWc3.out.alloc (.cells #[.int .i64 I, .int .i64 U, .slice A' n C'] 24)).later hb (HWc3.out.alloc _).lt)
    have HJ4 := Lib.hid ((HJ3.out.alloc (.cells #[.int .i64 I, .int .i64 U, .slice A' n C'] 24)).later hb (HJ3.out.alloc _).lt)
    clear hb j0 j1 j2 hlj HWa3 HWb3 HWc3 HJ3 HJ2
    obtain ⟨a0, a1, a2⟩ := row_cells HWa4.out
    obtain ⟨j0, j1, j2⟩ := row_cells HJ4.out
    go_wp2_with fail
    refine (behind_calls a n c A n C i u I U la L Hn.out Hlj.out _ (HA.out.later Hb4.out) HN4.out).mono ?_
    rintro ee w5 ⟨rfl, hb⟩
    rw [Hup.out]
    have Hb5 := Lib.hid (held_next Hb4.out hb)
    have HN5 := Lib.hid (HN4.out.later hb)
    have HWa5 := Lib.hid (HWa4.out.later hb HWa4.out.lt)
    have HWb5 := Lib.hid (HWb4.out.later hb HWb4.out.lt)
    have HWc5 := Lib.hid (HWc4.out.later hb HWc4.out.lt)
    have HJ5 := Lib.hid (HJ4.out.later hb HJ4.out.lt)
    clear hb j0 j1 j2 a0 a1 a2
    obtain ⟨b0, b1, b2⟩ := row_cells HWb5.out
    obtain ⟨j0, j1, j2⟩ := row_cells HJ5.out
    go_wp2_with fail
    refine (behind_calls b n d A n C j v I U lb L Hm.out Hlj.out _ (HB.out.later Hb5.out) HN5.out).mono ?_
    rintro ee w6 ⟨rfl, hb⟩
    rw [Hvp.out]
    have Hb6 := Lib.hid (held_next Hb5.out hb)
    have HN6 := Lib.hid (HN5.out.later hb)
    have HWa6 := Lib.hid (HWa5.out.later hb HWa5.out.lt)
    have HWb6 := Lib.hid (HWb5.out.later hb HWb5.out.lt)
    have HWc6 := Lib.hid (HWc5.out.later hb HWc5.out.lt)
    have HJ6 := Lib.hid (HJ5.out.later hb HJ5.out.lt)
    clear hb j0 j1 j2 b0 b1 b2
    obtain ⟨a0, a1, a2⟩ := row_cells HWa6.out
    obtain ⟨c0, c1, c2⟩ := row_cells HWc6.out
    obtain ⟨x, Hx⟩ : ∃ x, Hid (behindB i u la p q lc = x) := ⟨_, rfl⟩
    obtain ⟨y, Hy⟩ : ∃ y, Hid (behindB j v lb p q lc = y) := ⟨_, rfl⟩
    go_wp2_with fail
    refine (refbehind_calls a n c e k f i u p q la lc Hn.out Hk.out _ (HA.out.later Hb6.out) (HC.out.later Hb6.out)).mono ?_
    rintro ee w7 ⟨rfl, hb⟩
    rw [Hx.out]
    have Hb7 := Lib.hid (held_next Hb6.out hb)
    have HN7 := Lib.hid (HN6.out.later hb)
    have HWb7 := Lib.hid (HWb6.out.later hb HWb6.out.lt)
    have HWc7 := Lib.hid (HWc6.out.later hb HWc6.out.lt)
    have HJ7 := Lib.hid (HJ6.out.later hb HJ6.out.lt)
    clear hb a0 a1 a2 c0 c1 c2
    obtain ⟨b0, b1, b2⟩ := row_cells HWb7.out
    obtain ⟨c0, c1, c2⟩ := row_cells HWc7.out
    cases x with
    | false =>
      go_wp2_with fail
      go_ret
      exact ⟨by simp, Hb7.out⟩
    | true =>
      go_wp2_with fail
      refine (refbehind_calls b n d e k f j v p q lb lc Hm.out Hk.out _ (HB.out.later Hb7.out) (HC.out.later Hb7.out)).mono ?_
      rintro ee w8 ⟨rfl, hb⟩
      rw [Hy.out]
      have Hb8 := Lib.hid (held_next Hb7.out hb)
      have HN8 := Lib.hid (HN7.out.later hb)
      have HWc8 := Lib.hid (HWc7.out.later hb HWc7.out.lt)
      have HJ8 := Lib.hid (HJ7.out.later hb HJ7.out.lt)
      clear hb b0 b1 b2 c0 c1 c2
      obtain ⟨c0, c1, c2⟩ := row_cells HWc8.out
      obtain ⟨j0, j1, j2⟩ := row_cells HJ8.out
      cases y with
      | false =>
        go_wp2_with fail
        go_ret
        exact ⟨by simp, Hb8.out⟩
      | true =>
        have Hz := Lib.hid (Hle.out Hx.out Hy.out)
        go_wp2_with fail
        refine (behind_calls A n C e k f I U p q L lc Hlj.out Hk.out _ HN8.out (HC.out.later Hb8.out)).mono ?_
        rintro ee w9 ⟨rfl, hb⟩
        rw [Hz.out]
        have Hb9 := Lib.hid (held_next Hb8.out hb)
        clear hb
        go_wp2_with fail
        go_ret
        exact ⟨by simp, Hb9.out⟩
  · go_wp2_with fail
    refine (join_no a n c b m d i u j v _ hnm).mono ?_
    rintro ee w2 ⟨rfl, hb⟩
    have Hb2 := Lib.hid (held_next Hb1.out hb)
    have HWa2 := Lib.hid (HWa1.out.later hb HWa1.out.lt)
    have HWb2 := Lib.hid (HWb1.out.later hb HWb1.out.lt)
    have Hb2' := Lib.hid (Hb2.out.alloc Hb2.out.size (.cells #[.int .i64 0, .int .i64 0, .slice none 0 0] 24))
    have HJ2 := Lib.hid (Whole.made w2 24 #[.int .i64 0, .int .i64 0, .slice none 0 0])
    clear hb a0 a1 a2 b0 b1 b2 c0 c1 c2 hla hlb hlc HWa1 HWb1 HWc1
    obtain ⟨a0, a1, a2⟩ := row_cells HWa2.out
    obtain ⟨b0, b1, b2⟩ := row_cells HWb2.out
    have hla := HWa2.out.lt
    have hlb := HWb2.out.lt
    go_wp2_with fail
    refine (refjoin_no a n c b m d i u j v _ hnm).mono ?_
    rintro ee w3 ⟨rfl, hb⟩
    have Hb3 := Lib.hid (held_next Hb2'.out hb)
    have HJ3 := Lib.hid (HJ2.out.later hb HJ2.out.lt)
    have Hb3' := Lib.hid (Hb3.out.alloc Hb3.out.size (.cells #[.int .i64 0, .int .i64 0, .slice none 0 0] 24))
    clear hb a0 a1 a2 b0 b1 b2 hla hlb HWa2 HWb2 HJ2
    obtain ⟨j0, j1, j2⟩ := row_cells HJ3.out
    have hlj := HJ3.out.lt
    go_wp2_with fail
    refine (refsame_calls none 0 0 none 0 0 0 0 0 0 [] [] rfl rfl _ (nums_none _) (nums_none _)).mono ?_
    rintro ee w4 ⟨rfl, hb⟩
    rw [same_self]
    have Hb4 := Lib.hid (held_next Hb3'.out hb)
    clear hb j0 j1 j2 hlj
    go_wp2_with fail
    go_ret
    exact ⟨rfl, Hb4.out⟩
end Go.Proofs.Ytbghdanagahbnaa
