/- The document's own: are books the same; are they short. No law is proved here. -/
import Derived.Test.YtlhfggnnikmikaaBooks
import Derived.Test.YtlhfggnnikmikaaRef04Same
import Derived.Deep.RegionHeld3
namespace Go.Proofs.Ytlhfggnnikmikaa
open Go.RowKit

/-- the same books -/
def sameL (la lb : List Rw) : Bool := decide (la.length = lb.length ∧ ∀ k, k < la.length → sameB (at_ la k).inc (at_ la k).use (at_ la k).out (at_ lb k).inc (at_ lb k).use (at_ lb k).out = true)
theorem sameL_no {la lb : List Rw} (h : ¬ (la.length = lb.length ∧ ∀ k, k < la.length → sameB (at_ la k).inc (at_ la k).use (at_ la k).out (at_ lb k).inc (at_ lb k).use (at_ lb k).out = true)) : sameL la lb = false := decide_eq_false h
theorem sameL_self (l : List Rw) : sameL l l = true := decide_eq_true ⟨rfl, fun _ _ => decide_eq_true ⟨rfl, rfl, rfl⟩⟩
theorem sameL_eq {la lb : List Rw} (h : sameL la lb = true) : la = lb := by
  obtain ⟨h1, h2⟩ := of_decide_eq_true h
  apply List.ext_getElem h1
  intro k hk1 hk2
  have := of_decide_eq_true (h2 k hk1)
  rw [at_lt hk1, at_lt hk2] at this
  obtain ⟨e1, e2, e3⟩ := this
  cases ha : la[k]; cases hb : lb[k]
  rw [ha, hb] at e1 e2 e3
  simp only at e1 e2 e3
  rw [e1, e2, e3]

set_option maxRecDepth 100000 in
set_option maxHeartbeats 4000000 in
theorem refsamebooks_calls (a : Option Addr) (m d : Nat) (b : Option Addr) (n e : Nat) (la lb : List Rw) (hm : m = la.length) (hn : n = lb.length) (w : World) (hA : Books w (.slice a m d) la) (hB : Books w (.slice b n e) lb) :
    Calls Try.prog 15 #[.slice a m d, .slice b n e] w (Says w (sameL la lb)) := by
  have hbm : m ≤ 9223372036854775807 := by rw [hm]; exact hA.big
  have hbn : n ≤ 9223372036854775807 := by rw [hn]; exact hB.big
  have HA := Lib.hid hA; clear hA
  have HB := Lib.hid hB; clear hB
  have Hm := Lib.hid hm; clear hm
  have Hn := Lib.hid hn; clear hn
  obtain ⟨res, Hres⟩ : ∃ z, Hid (sameL la lb = z) := ⟨_, rfl⟩
  rw [Hres.out]
  by_cases hne : m ≠ n
  · obtain rfl : res = false := Hres.out.symm.trans (sameL_no fun h => hne (by rw [Hm.out, Hn.out, h.1]))
    have hne' : ((m : Int) != (n : Int)) = true := by simp; omega
    go_enter Try.func15, Try.ntmps15
    go_wp2
    go_ret
    exact ⟨rfl, Below.refl _ _⟩
  have hne' : m = n := by omega
  clear hne
  subst hne'
  go_enter Try.func15, Try.ntmps15
  go_wp2
  go_loopw [5] (fun x wr => ∃ k : Nat, k ≤ m ∧ x = .int .i64 k ∧ Hid (∀ q, q < k → sameB (at_ la q).inc (at_ la q).use (at_ la q).out (at_ lb q).inc (at_ lb q).use (at_ lb q).out = true) ∧ Hid (Below w.heap.size w wr)) (fun x _ => m - (intOf x).toNat)
  case atStart => exact ⟨0, Nat.zero_le _, rfl, fun q hq => absurd hq (Nat.not_lt_zero _), Below.refl _ _⟩
  case round =>
    obtain ⟨k, hk, rfl, Hl, Hb⟩ := hrel
    by_cases hlt : k < m
    · obtain ⟨g1, o1, A1, C1, rfl, _, c0, c1, c2, hN1⟩ := HA.out.at (k := k) (by have := Hm.out; omega)
      obtain ⟨g2, o2, A2, C2, rfl, _, d0, d1, d2, hN2⟩ := HB.out.at (k := k) (by have := Hn.out; omega)
      obtain ⟨v, Hv⟩ : ∃ z, Hid (sameB (at_ la k).inc (at_ la k).use (at_ la k).out (at_ lb k).inc (at_ lb k).use (at_ lb k).out = z) := ⟨_, rfl⟩
      have HN1 := Lib.hid hN1; clear hN1
      have HN2 := Lib.hid hN2; clear hN2
      obtain ⟨r1, R1⟩ : ∃ z, Hid (at_ la k = z) := ⟨_, rfl⟩
      obtain ⟨r2, R2⟩ : ∃ z, Hid (at_ lb k = z) := ⟨_, rfl⟩
      rw [R1.out] at c0 c1 c2 HN1 Hv
      rw [R2.out] at d0 d1 d2 HN2 Hv
      have KP : Hid (∀ w', Below wr.heap.size wr w' → (w'.cell? ⟨g1, o1 + k * 3, none⟩ = some (.int .i64 r1.inc) ∧ w'.cell? ⟨g1, o1 + k * 3 + 1, none⟩ = some (.int .i64 r1.use) ∧ w'.cell? ⟨g1, o1 + k * 3 + 2, none⟩ = some (.slice A1 r1.out.length C1)) ∧
          (w'.cell? ⟨g2, o2 + k * 3, none⟩ = some (.int .i64 r2.inc) ∧ w'.cell? ⟨g2, o2 + k * 3 + 1, none⟩ = some (.int .i64 r2.use) ∧ w'.cell? ⟨g2, o2 + k * 3 + 2, none⟩ = some (.slice A2 r2.out.length C2))) :=
        fun w' h => ⟨⟨cell_later (held_next Hb.out h) c0, cell_later (held_next Hb.out h) c1, cell_later (held_next Hb.out h) c2⟩, cell_later (held_next Hb.out h) d0, cell_later (held_next Hb.out h) d1, cell_later (held_next Hb.out h) d2⟩
      have OM : Hid (∀ w', Below wr.heap.size wr w' → Calls Try.prog 36 #[rowV r1.inc r1.use (.slice A1 r1.out.length C1), rowV r2.inc r2.use (.slice A2 r2.out.length C2)] w' (Says w' v)) := by
        rw [← Hv.out]
        exact fun w' h => refsame_calls A1 _ C1 A2 _ C2 r1.inc r1.use r2.inc r2.use r1.out r2.out rfl rfl w' (HN1.out.later (held_next Hb.out h)) (HN2.out.later (held_next Hb.out h))
      clear c0 c1 c2 d0 d1 d2
      have k0 : (0 : Int) ≤ (k : Int) := by omega
      have k1 : (k : Int) < (m : Int) := by omega
      go_wp2
      go_region_held3 (fun w' => (w'.cell? ⟨g1, o1 + k * 3, none⟩ = some (.int .i64 r1.inc) ∧ w'.cell? ⟨g1, o1 + k * 3 + 1, none⟩ = some (.int .i64 r1.use) ∧ w'.cell? ⟨g1, o1 + k * 3 + 2, none⟩ = some (.slice A1 r1.out.length C1)) ∧
          (w'.cell? ⟨g2, o2 + k * 3, none⟩ = some (.int .i64 r2.inc) ∧ w'.cell? ⟨g2, o2 + k * 3 + 1, none⟩ = some (.int .i64 r2.use) ∧ w'.cell? ⟨g2, o2 + k * 3 + 2, none⟩ = some (.slice A2 r2.out.length C2)))
        (first | exact KP.out _ (Below.refl _ _).drew | exact KP.out _ hS1)
        (first | (go_at_call 36; refine (OM.out _ (Below.refl _ _).drew).mono ?_; rintro ee w2 ⟨rfl, hb1⟩; have hS1 := held_next ((Below.refl _ _).drew) hb1))
      cases v with
      | true =>
        go_wp2
        go_roundw
        case rel => exact ⟨k + 1, by omega, by go_num, (fun q hq => by
          by_cases e : q = k
          · subst e; rw [R1.out, R2.out]; exact Hv.out
          · exact Hl.out q (by omega)), held_next Hb.out hS1⟩
        case measure => simp [intOf]; omega
      | false =>
        obtain rfl : res = false := Hres.out.symm.trans (sameL_no fun h => by
          have := h.2 k (by have := Hm.out; omega)
          rw [R1.out, R2.out, Hv.out] at this
          cases this)
        go_wp2
        go_ret
        exact ⟨by rfl, held_next Hb.out hS1⟩
    · have hkm : k = m := by omega
      obtain rfl : res = true := Hres.out.symm.trans (decide_eq_true ⟨by rw [← Hm.out, ← Hn.out], fun q hq => Hl.out q (by have := Hm.out; omega)⟩)
      have Hkm := Lib.hid hkm; clear hkm
      go_wp2
      go_ret
      exact ⟨by rfl, Hb.out⟩

/-- what memory can hold -/
def Reach (l : List Rw) : Prop := l.length ≤ 17592186044416 ∧ ∀ k, k < l.length → (at_ l k).out.length ≤ 17592186044416
/-- the numbers of the first k rows, and one a row -/
def bulk (l : List Rw) : Nat → Nat
  | 0 => l.length
  | k + 1 => bulk l k + (at_ l k).out.length
theorem bulk_mono (l : List Rw) : ∀ j k, j ≤ k → bulk l j ≤ bulk l k
  | j, 0, h => by obtain rfl : j = 0 := by omega
                  exact Nat.le_refl _
  | j, k + 1, h => by
    by_cases e : j = k + 1
    · rw [e]; exact Nat.le_refl _
    · exact Nat.le_trans (bulk_mono l j k (by omega)) (by simp only [bulk]; omega)
def shortB (l : List Rw) : Bool := decide (bulk l l.length ≤ 400)
theorem shortB_len {l : List Rw} (h : shortB l = true) : l.length ≤ 400 ∧ ∀ k, k < l.length → (at_ l k).out.length ≤ 400 := by
  have h' : bulk l l.length ≤ 400 := of_decide_eq_true h
  refine ⟨?_, fun k hk => ?_⟩
  · have := bulk_mono l 0 l.length (Nat.zero_le _)
    simp only [bulk] at this; omega
  · have := bulk_mono l (k + 1) l.length hk
    simp only [bulk] at this; omega

set_option maxRecDepth 100000 in
set_option maxHeartbeats 1000000 in
theorem refshort_calls (a : Option Addr) (m d : Nat) (l : List Rw) (hm : m = l.length) (hR : Reach l) (w : World) (hA : Books w (.slice a m d) l) :
    Calls Try.prog 10 #[.slice a m d] w (Says w (shortB l)) := by
  have hbm : m ≤ 17592186044416 := by rw [hm]; exact hR.1
  have HA := Lib.hid hA; clear hA
  have Hm := Lib.hid hm; clear hm
  have HR := Lib.hid hR; clear hR
  obtain ⟨res, Hres⟩ : ∃ z, Hid (shortB l = z) := ⟨_, rfl⟩
  rw [Hres.out]
  go_enter Try.func10, Try.ntmps10
  go_wp2
  go_loop [3, 4] (fun t x => ∃ k T : Nat, k ≤ m ∧ x = .int .i64 k ∧ t = .int .i64 T ∧ T ≤ 17592186045000 ∧ Hid (T = bulk l k)) (fun _ x => m - (intOf x).toNat)
  case atStart => exact ⟨0, m, Nat.zero_le _, rfl, rfl, by omega, Hm.out⟩
  case round =>
    obtain ⟨k, T, hk, rfl, rfl, hT, HT⟩ := hrel
    by_cases h4 : T ≤ 400
    · by_cases hlt : k < m
      · obtain ⟨g1, o1, A1, C1, rfl, _, _, _, c2, _⟩ := HA.out.at (k := k) (by have := Hm.out; omega)
        have hx := HR.out.2 k (by have := Hm.out; omega)
        obtain ⟨x, Hx⟩ : ∃ z, Hid ((at_ l k).out.length = z) := ⟨_, rfl⟩
        rw [Hx.out] at c2 hx
        have k0 : (0 : Int) ≤ (k : Int) := by omega
        have k1 : (k : Int) < (m : Int) := by omega
        go_wp2
        go_round
        case rel => exact ⟨k + 1, T + x, by omega, by go_num, by go_num, by omega, show _ = _ by rw [HT.out, ← Hx.out]; rfl⟩
        case measure => simp [intOf]; omega
      · have hkm : k = m := by omega
        obtain rfl : res = true := Hres.out.symm.trans (decide_eq_true (by rw [← Hm.out, ← hkm, ← HT.out]; exact h4))
        have Hkm := Lib.hid hkm; clear hkm
        go_wp2
        go_ret
        exact ⟨by simp; omega, Below.refl _ _⟩
    · obtain rfl : res = false := Hres.out.symm.trans (decide_eq_false fun h => by
        have := bulk_mono l k l.length (by have := Hm.out; omega)
        have := HT.out
        omega)
      go_wp2
      all_goals go_ret
      all_goals exact ⟨by simp; omega, Below.refl _ _⟩
end Go.Proofs.Ytlhfggnnikmikaa
