/- TapeKeeps, walked. No law is proved here. -/
import Derived.Test.YtokdppjpgeaiiaaTapeAwake
import Derived.Deep.RegionHeld3
import Derived.Deep.DeepCutAuto
import Derived.Deep.QuietTactic
import Derived.BigQuiet
import Derived.Laws.Concat
namespace Go.Proofs.Ytokdppjpgeaiiaa
open Go.RowKit

/-- a tape with one area, Main or Spare -/
def put1 (sp : Bool) (a : Ar) : Tp := if sp then ⟨⟨[], []⟩, a⟩ else ⟨a, ⟨[], []⟩⟩
theorem put1_fits {sp : Bool} {a : Ar} {k : Nat} (h : a.fits k) : (put1 sp a).fits k := by
  cases sp
  · exact ⟨h, Nat.zero_le _, Nat.zero_le _⟩
  · exact ⟨⟨Nat.zero_le _, Nat.zero_le _⟩, h⟩
theorem put1_may {sp : Bool} {a : Ar} (h : a.fits 20000) : mayT (put1 sp a) = true := by
  refine decide_eq_true ?_
  have := h.1
  have := h.2
  cases sp
  · show (a.s ++ a.l).length + ([] ++ []).length ≤ 65536
    rw [List.length_append]; simp; omega
  · show ([] ++ []).length + (a.s ++ a.l).length ≤ 65536
    rw [List.length_append]; simp; omega
theorem put1_write {sp : Bool} {s z : List Int} (hs : s.length ≤ 20000) (hz : z.length ≤ 20000) : writeT (put1 sp ⟨s, []⟩) sp z = (put1 sp ⟨s, z⟩, 0) := by
  have e : wroteT (put1 sp ⟨s, []⟩) sp z = put1 sp ⟨s, z⟩ := by cases sp <;> rfl
  unfold writeT
  rw [put1_may ⟨hs, Nat.zero_le _⟩, if_pos rfl, e, put1_may ⟨hs, hz⟩, if_pos rfl]
theorem put1_sync (sp : Bool) (a : Ar) : syncT (put1 sp a) sp = put1 sp ⟨a.all, []⟩ := by cases sp <;> rfl
theorem put1_lose (sp : Bool) (s l : List Int) (keep : Int) : loseT (put1 sp ⟨s, l⟩) keep = put1 sp ⟨s ++ l.take (heldV keep l.length), []⟩ := by
  have h : heldV keep ([] : List Int).length = 0 := by have := heldV_le keep ([] : List Int).length; simpa using this
  have e : ∀ k, (s ++ l).take (s.length + k) = s ++ l.take k := fun k => by
    rw [List.take_append, List.take_of_length_le (by omega)]
    congr 2
    omega
  cases sp
  · unfold loseT put1 lostA Ar.all
    simp only [h, Bool.false_eq_true, if_false, e]
    simp
  · unfold loseT put1 lostA Ar.all
    simp only [h, if_true, e]
    simp

set_option maxRecDepth 100000 in
set_option maxHeartbeats 8000000 in
theorem tapekeeps_law (sa sb : Sl) (za zb : List Int) (sp : Bool) (keep : Int) (w : World) (hA : SB w sa za) (hB : SB w sb zb) :
    Calls Try.prog 4 #[slV sa, slV sb, .bool sp, .int .i64 keep] w (Says w true) := by
  obtain ⟨aa, na, ca⟩ := sa
  obtain ⟨ab, nb, cb⟩ := sb
  have HA := Lib.hid hA; clear hA
  have HB := Lib.hid hB; clear hB
  show Calls Try.prog 4 #[.slice aa na ca, .slice ab nb cb, .bool sp, .int .i64 keep] w _
  go_enter Try.func4, Try.ntmps4
  go_wp2_with fail
  refine (awake7 _).mono ?_
  rintro e w0 ⟨rfl, hb⟩
  have Hb0 := Lib.hid hb; clear hb
  by_cases hna : 20000 < na
  · go_wp2_with fail
    go_ret
    exact ⟨by rfl, Hb0.out⟩
  by_cases hnb : 20000 < nb
  · go_wp2_with fail
    go_ret
    exact ⟨by rfl, Hb0.out⟩
  have hla : za.length ≤ 20000 := by have := HA.out.1; simp only at this; omega
  have hlb : zb.length ≤ 20000 := by have := HB.out.1; simp only at this; omega
  have Hla := Lib.hid hla; clear hla
  have Hlb := Lib.hid hlb; clear hlb
  have HN0 : Hid (TB w0 ⟨⟨⟨none, 0, 0⟩, ⟨none, 0, 0⟩⟩, ⟨⟨none, 0, 0⟩, ⟨none, 0, 0⟩⟩⟩ (put1 sp ⟨[], []⟩)) := by cases sp <;> exact ⟨⟨SB.nil _, SB.nil _⟩, SB.nil _, SB.nil _⟩
  go_wp2_with fail
  refine (tWrite_calls ⟨⟨⟨none, 0, 0⟩, ⟨none, 0, 0⟩⟩, ⟨⟨none, 0, 0⟩, ⟨none, 0, 0⟩⟩⟩ (put1 sp ⟨[], []⟩) sp ⟨aa, na, ca⟩ za _ HN0.out (put1_fits ⟨Nat.zero_le _, Nat.zero_le _⟩) (HA.out.later Hb0.out) (by have := Hla.out; omega)).mono ?_
  rw [put1_write (Nat.zero_le _) Hla.out]
  rintro e w1 ⟨⟨⟨⟨ap1, np1, cp1⟩, ⟨ap2, np2, cp2⟩⟩, ⟨⟨ap3, np3, cp3⟩, ⟨ap4, np4, cp4⟩⟩⟩, rfl, hT, _, hb⟩
  have Hb1 := Lib.hid (held_next Hb0.out hb)
  have HT1 := Lib.hid hT
  clear hb hT HN0
  have HX1 := Lib.hid (Whole.made w1 26 #[.slice ap1 np1 cp1, .slice ap2 np2 cp2, .slice ap3 np3 cp3, .slice ap4 np4 cp4])
  have Hbx := Lib.hid (below_box w1 (.cells #[.slice ap1 np1 cp1, .slice ap2 np2 cp2, .slice ap3 np3 cp3, .slice ap4 np4 cp4] 26))
  go_wp2_with fail
  refine (tSync_calls ⟨⟨⟨ap1, np1, cp1⟩, ⟨ap2, np2, cp2⟩⟩, ⟨⟨ap3, np3, cp3⟩, ⟨ap4, np4, cp4⟩⟩⟩ (put1 sp ⟨[], za⟩) sp _ (HT1.out.later Hbx.out) (put1_fits ⟨Nat.zero_le _, by have := Hla.out; show za.length ≤ _; omega⟩)).mono ?_
  rw [put1_sync, show (⟨[], za⟩ : Ar).all = za from rfl]
  rintro e w2 ⟨⟨⟨⟨aq1, nq1, cq1⟩, ⟨aq2, nq2, cq2⟩⟩, ⟨⟨aq3, nq3, cq3⟩, ⟨aq4, nq4, cq4⟩⟩⟩, rfl, hT, hO, hb⟩
  have HX2 := Lib.hid (HX1.out.later hb HX1.out.lt)
  have Hb2 := Lib.hid (held_next Hbx.out hb)
  have HT2 := Lib.hid hT
  have HO2 := Lib.hid (hO w1.heap.size (by simp) (HT1.out.off (Nat.le_refl _)))
  clear hb hT hO
  go_wp2_with fail
  refine (tWrite_calls ⟨⟨⟨aq1, nq1, cq1⟩, ⟨aq2, nq2, cq2⟩⟩, ⟨⟨aq3, nq3, cq3⟩, ⟨aq4, nq4, cq4⟩⟩⟩ (put1 sp ⟨za, []⟩) sp ⟨ab, nb, cb⟩ zb _ HT2.out (put1_fits ⟨by show za.length ≤ _; have := Hla.out; omega, Nat.zero_le _⟩) (HB.out.later (held_next Hb1.out Hb2.out)) (by have := Hlb.out; omega)).mono ?_
  rw [put1_write Hla.out Hlb.out]
  rintro e w3 ⟨⟨⟨⟨ar1, nr1, cr1⟩, ⟨ar2, nr2, cr2⟩⟩, ⟨⟨ar3, nr3, cr3⟩, ⟨ar4, nr4, cr4⟩⟩⟩, rfl, hT, hO, hb⟩
  have HX3 := Lib.hid (HX2.out.later hb HX2.out.lt)
  have Hb3 := Lib.hid (held_next Hb2.out hb)
  have HO3 := Lib.hid (hO w1.heap.size HX2.out.lt ⟨HO2.out, HB.out.off (by have := Hb1.out.size; omega)⟩)
  have HT3 : Hid (TB ((((w3.setCell ⟨w1.heap.size, 0, none⟩ (.slice ar1 nr1 cr1)).setCell ⟨w1.heap.size, 1, none⟩ (.slice ar2 nr2 cr2)).setCell ⟨w1.heap.size, 2, none⟩ (.slice ar3 nr3 cr3)).setCell ⟨w1.heap.size, 3, none⟩ (.slice ar4 nr4 cr4)) ⟨⟨⟨ar1, nr1, cr1⟩, ⟨ar2, nr2, cr2⟩⟩, ⟨⟨ar3, nr3, cr3⟩, ⟨ar4, nr4, cr4⟩⟩⟩ (put1 sp ⟨za, zb⟩)) := hT.four HO3.out _ _ _ _
  have HX4 := Lib.hid (tape_left4 HX3.out (.slice ar1 nr1 cr1) (.slice ar2 nr2 cr2) (.slice ar3 nr3 cr3) (.slice ar4 nr4 cr4))
  have Hb4 := Lib.hid (below_four Hb3.out (Nat.le_refl _) (.slice ar1 nr1 cr1) (.slice ar2 nr2 cr2) (.slice ar3 nr3 cr3) (.slice ar4 nr4 cr4))
  have z0 := HX3.out.cell 0
  have z1 := HX3.out.cell 1
  have z2 := HX3.out.cell 2
  have z3 := HX3.out.cell 3
  have y0 := HX3.out.free 0
  have y1 := HX3.out.free 1
  have y2 := HX3.out.free 2
  have y3 := HX3.out.free 3
  have hlt3 : w1.heap.size < w3.heap.size := HX3.out.lt
  clear hb hT hO
  go_wp2_with fail
  clear z0 z1 z2 z3 y0 y1 y2 y3
  refine (tLose_calls ⟨⟨⟨ar1, nr1, cr1⟩, ⟨ar2, nr2, cr2⟩⟩, ⟨⟨ar3, nr3, cr3⟩, ⟨ar4, nr4, cr4⟩⟩⟩ (put1 sp ⟨za, zb⟩) keep _ HT3.out (put1_fits ⟨by show za.length ≤ _; have := Hla.out; omega, by show zb.length ≤ _; have := Hlb.out; omega⟩)).mono ?_
  rw [put1_lose]
  obtain ⟨k, Hk⟩ : ∃ z, Hid (heldV keep zb.length = z) := ⟨_, rfl⟩
  rw [Hk.out]
  rintro e w5 ⟨⟨⟨⟨at1, nt1, ct1⟩, ⟨at2, nt2, ct2⟩⟩, ⟨⟨at3, nt3, ct3⟩, ⟨at4, nt4, ct4⟩⟩⟩, rfl, hT, hO, hb⟩
  have HX5 := Lib.hid (HX4.out.later hb HX4.out.lt)
  have Hb5 := Lib.hid (held_next Hb4.out hb)
  have hO5 := hO w1.heap.size HX4.out.lt HO3.out
  obtain ⟨w6, hw6⟩ : ∃ z, ((((w5.setCell ⟨w1.heap.size, 0, none⟩ (.slice at1 nt1 ct1)).setCell ⟨w1.heap.size, 1, none⟩ (.slice at2 nt2 ct2)).setCell ⟨w1.heap.size, 2, none⟩ (.slice at3 nt3 ct3)).setCell ⟨w1.heap.size, 3, none⟩ (.slice at4 nt4 ct4)) = z := ⟨_, rfl⟩
  have HT6 : Hid (TB w6 ⟨⟨⟨at1, nt1, ct1⟩, ⟨at2, nt2, ct2⟩⟩, ⟨⟨at3, nt3, ct3⟩, ⟨at4, nt4, ct4⟩⟩⟩ (put1 sp ⟨za ++ zb.take k, []⟩)) := by rw [← hw6]; exact hT.four hO5 _ _ _ _
  have HX6 : Hid (Whole w6 w1.heap.size 26 #[.slice at1 nt1 ct1, .slice at2 nt2 ct2, .slice at3 nt3 ct3, .slice at4 nt4 ct4]) := by rw [← hw6]; exact tape_left4 HX5.out _ _ _ _
  have Hb6 : Hid (Below w1.heap.size w1 w6) := by rw [← hw6]; exact below_four Hb5.out (Nat.le_refl _) _ _ _ _
  have z0 := HX5.out.cell 0
  have z1 := HX5.out.cell 1
  have z2 := HX5.out.cell 2
  have z3 := HX5.out.cell 3
  have y0 := HX5.out.free 0
  have y1 := HX5.out.free 1
  have y2 := HX5.out.free 2
  have y3 := HX5.out.free 3
  have hlt5 : w1.heap.size < w5.heap.size := HX5.out.lt
  clear hb hT hO hO5
  go_upto_region 8 with fail
  clear z0 z1 z2 z3 y0 y1 y2 y3 hw6
  have hkn : k ≤ nb := by rw [← Hk.out, show nb = zb.length from HB.out.1]; exact heldV_le _ _
  obtain ⟨v, hsl, hpc2, _⟩ := piece_upto (a := ab) (c := cb) (zs := zb) HB.out.1 hkn HB.out.2.1
  obtain ⟨zk, Hzk⟩ : ∃ z, Hid (zb.take k = z) := ⟨_, rfl⟩
  have hlk : zk.length ≤ 20000 := by rw [← Hzk.out, List.length_take]; have := Hlb.out; omega
  have Hlk := Lib.hid hlk
  clear hlk
  rw [Hzk.out] at HT6
  simp only [Hzk.out] at hpc2
  have hpc := And.intro hsl hpc2
  have hmm : min (max keep 0) (nb : Int) = (k : Int) := by
    have h := Hk.out
    have hnz : nb = zb.length := HB.out.1
    rw [← hnz] at h
    rw [← h, ← min_held]; omega
  clear hsl hpc2
  cases sp with
  | false =>
    have z0 := HX6.out.cell 0
    have z1 := HX6.out.cell 1
    have z2 := HX6.out.cell 2
    have z3 := HX6.out.cell 3
    have hlt6 : w1.heap.size < w6.heap.size := HX6.out.lt
    have hbx := below_box w6 (.cells #[.slice at1 nt1 ct1, .slice at2 nt2 ct2] 24)
    have hbe : Below w.heap.size w (w6.alloc (.cells #[.slice at1 nt1 ct1, .slice at2 nt2 ct2] 24)) := (held_next (held_next Hb1.out Hb6.out) hbx)
    have hs9 : SB (w6.alloc (.cells #[.slice at1 nt1 ct1, .slice at2 nt2 ct2] 24)) ⟨at1, nt1, ct1⟩ (za ++ zk) := (HT6.out.1.1.later hbx)
    have hcv1 : ∀ n, (convert 22 9 (.slice at1 nt1 ct1)).run Try.prog ((w6.alloc (.cells #[.slice at1 nt1 ct1, .slice at2 nt2 ct2] 24)).drewN n) = .ok (.string (strOfNums za ++ strOfNums zk)) ((w6.alloc (.cells #[.slice at1 nt1 ct1, .slice at2 nt2 ct2] 24)).drewN n) := fun n => by rw [← strOf_append]; exact tstr_any (w := (w6.alloc (.cells #[.slice at1 nt1 ct1, .slice at2 nt2 ct2] 24)).drewN n) hs9.2.2
    have hcv2 : ∀ n, (convert 22 9 (.slice aa na ca)).run Try.prog ((w6.alloc (.cells #[.slice at1 nt1 ct1, .slice at2 nt2 ct2] 24)).drewN n) = .ok (.string (strOfNums za)) ((w6.alloc (.cells #[.slice at1 nt1 ct1, .slice at2 nt2 ct2] 24)).drewN n) := fun n => tstr_any (w := (w6.alloc (.cells #[.slice at1 nt1 ct1, .slice at2 nt2 ct2] 24)).drewN n) (HA.out.later hbe).2.2
    have hcv3 : ∀ n, (convert 22 9 v).run Try.prog ((w6.alloc (.cells #[.slice at1 nt1 ct1, .slice at2 nt2 ct2] 24)).drewN n) = .ok (.string (strOfNums zk)) ((w6.alloc (.cells #[.slice at1 nt1 ct1, .slice at2 nt2 ct2] 24)).drewN n) := fun n => tstr_any (w := (w6.alloc (.cells #[.slice at1 nt1 ct1, .slice at2 nt2 ct2] 24)).drewN n) (hpc.2 _ (HB.out.later hbe).2.2)
    have hcat : (9223372036854775807 < (strOfNums za).size + (strOfNums zk).size) = False := by rw [strOfNums_size, strOfNums_size]; have := Hla.out; have := Hlk.out; exact eq_false (by omega)
    have Hbe := Lib.hid hbe
    have hl9 : nt2 = 0 := HT6.out.1.2.1
    subst hl9
    have hss := str_same (rfl : strOfNums za ++ strOfNums zk = strOfNums za ++ strOfNums zk)
    clear hs9 hbx hbe
    obtain ⟨hsl, _⟩ := hpc
    have Hhcv1 := Lib.hid hcv1
    clear hcv1
    have Hhcv2 := Lib.hid hcv2
    clear hcv2
    have Hhcv3 := Lib.hid hcv3
    clear hcv3
    have Hhcat := Lib.hid hcat
    clear hcat
    have Hhss := Lib.hid hss
    clear hss
    have Hhsl := Lib.hid hsl
    clear hsl
    go_wp2_with fail
    have hcv1 := Hhcv1.out
    have hcv2 := Hhcv2.out
    have hcv3 := Hhcv3.out
    have hcat := Hhcat.out
    have hss := Hhss.out
    have hsl := Hhsl.out
    go_quiet (fail)
    go_wp2_with fail
    go_ret
    exact ⟨by simp, below_drewN Hbe.out _⟩
  | true =>
    have z0 := HX6.out.cell 0
    have z1 := HX6.out.cell 1
    have z2 := HX6.out.cell 2
    have z3 := HX6.out.cell 3
    have hlt6 : w1.heap.size < w6.heap.size := HX6.out.lt
    have hbx := below_box w6 (.cells #[.slice at3 nt3 ct3, .slice at4 nt4 ct4] 24)
    have hbe : Below w.heap.size w (w6.alloc (.cells #[.slice at3 nt3 ct3, .slice at4 nt4 ct4] 24)) := (held_next (held_next Hb1.out Hb6.out) hbx)
    have hs9 : SB (w6.alloc (.cells #[.slice at3 nt3 ct3, .slice at4 nt4 ct4] 24)) ⟨at3, nt3, ct3⟩ (za ++ zk) := (HT6.out.2.1.later hbx)
    have hcv1 : ∀ n, (convert 22 9 (.slice at3 nt3 ct3)).run Try.prog ((w6.alloc (.cells #[.slice at3 nt3 ct3, .slice at4 nt4 ct4] 24)).drewN n) = .ok (.string (strOfNums za ++ strOfNums zk)) ((w6.alloc (.cells #[.slice at3 nt3 ct3, .slice at4 nt4 ct4] 24)).drewN n) := fun n => by rw [← strOf_append]; exact tstr_any (w := (w6.alloc (.cells #[.slice at3 nt3 ct3, .slice at4 nt4 ct4] 24)).drewN n) hs9.2.2
    have hcv2 : ∀ n, (convert 22 9 (.slice aa na ca)).run Try.prog ((w6.alloc (.cells #[.slice at3 nt3 ct3, .slice at4 nt4 ct4] 24)).drewN n) = .ok (.string (strOfNums za)) ((w6.alloc (.cells #[.slice at3 nt3 ct3, .slice at4 nt4 ct4] 24)).drewN n) := fun n => tstr_any (w := (w6.alloc (.cells #[.slice at3 nt3 ct3, .slice at4 nt4 ct4] 24)).drewN n) (HA.out.later hbe).2.2
    have hcv3 : ∀ n, (convert 22 9 v).run Try.prog ((w6.alloc (.cells #[.slice at3 nt3 ct3, .slice at4 nt4 ct4] 24)).drewN n) = .ok (.string (strOfNums zk)) ((w6.alloc (.cells #[.slice at3 nt3 ct3, .slice at4 nt4 ct4] 24)).drewN n) := fun n => tstr_any (w := (w6.alloc (.cells #[.slice at3 nt3 ct3, .slice at4 nt4 ct4] 24)).drewN n) (hpc.2 _ (HB.out.later hbe).2.2)
    have hcat : (9223372036854775807 < (strOfNums za).size + (strOfNums zk).size) = False := by rw [strOfNums_size, strOfNums_size]; have := Hla.out; have := Hlk.out; exact eq_false (by omega)
    have Hbe := Lib.hid hbe
    have hl9 : nt4 = 0 := HT6.out.2.2.1
    subst hl9
    have hss := str_same (rfl : strOfNums za ++ strOfNums zk = strOfNums za ++ strOfNums zk)
    clear hs9 hbx hbe
    obtain ⟨hsl, _⟩ := hpc
    have Hhcv1 := Lib.hid hcv1
    clear hcv1
    have Hhcv2 := Lib.hid hcv2
    clear hcv2
    have Hhcv3 := Lib.hid hcv3
    clear hcv3
    have Hhcat := Lib.hid hcat
    clear hcat
    have Hhss := Lib.hid hss
    clear hss
    have Hhsl := Lib.hid hsl
    clear hsl
    go_wp2_with fail
    have hcv1 := Hhcv1.out
    have hcv2 := Hhcv2.out
    have hcv3 := Hhcv3.out
    have hcat := Hhcat.out
    have hss := Hhss.out
    have hsl := Hhsl.out
    go_quiet (fail)
    go_wp2_with fail
    go_ret
    exact ⟨by simp, below_drewN Hbe.out _⟩
end Go.Proofs.Ytokdppjpgeaiiaa
