/- The document's own, walked: books copied. No law is proved here. -/
import Derived.Test.YtkkhecdmjcffjaaRightsWords
import Derived.WalkKit
import Derived.ProofKit
import Derived.OpenShut
import Derived.WalkSpells
import Derived.Laws.AppendOwn
import Derived.Laws.AppendOwnNone
import Derived.Laws.OwnMore
import Derived.Lib.Hide
import Derived.Deep.Draws
import Derived.Deep.Slices
import Derived.Deep.Fields
import Derived.ChangeSame
import Derived.RegionTactic
import Derived.Maps.AppendAt
import Derived.Lib.SmallJoins
import Derived.RangeFuncNested
import Derived.RangeFuncBound
import Derived.RangeFuncLeaves
import Derived.RangeFuncBox
import Derived.Laws.MakeOwn
import Derived.LoopTactic
import Derived.BigRegion
namespace Go.Proofs.Ytkkhecdmjcffjaa
open Go.RowKit

attribute [local go_sem ↓] run_fine
set_option maxRecDepth 100000 in
set_option maxHeartbeats 8000000 in
theorem refcopy_calls (a : Option Addr) (m d : Nat) (l : List Rw) (hm : m = l.length) (h4 : m ≤ 1000) (hlen : ∀ k, k < l.length → (at_ l k).out.length ≤ 1000) (w : World) (hA : Books w (.slice a m d) l) :
    Calls Try.prog 24 #[.slice a m d] w (Copied w l) := by
  have HA := Lib.hid hA; clear hA
  have Hm := Lib.hid hm; clear hm
  have HL := Lib.hid hlen; clear hlen
  have hbm : m ≤ 9223372036854775807 := by omega
  obtain ⟨i0, hi, hz0, hz1, hz2⟩ := info_parts info_int64
  have Hi := Lib.hid hi; clear hi
  have Hz0 := Lib.hid hz0; clear hz0
  have Hz1 := Lib.hid hz1; clear hz1
  have Hz2 := Lib.hid hz2; clear hz2
  obtain ⟨i5, hi, hz0, hz1, hz2⟩ := info_parts info_row
  have Ki := Lib.hid hi; clear hi
  have Kz0 := Lib.hid hz0; clear hz0
  have Kz1 := Lib.hid hz1; clear hz1
  have Kz2 := Lib.hid hz2; clear hz2
  go_enter Try.func24, Try.ntmps24
  go_wp2_with fail
  go_loopw [3, 4] (fun t x wr => ∃ (k : Nat) (tv : Value), k ≤ m ∧ t = tv ∧ x = .int .i64 k ∧ Hid (OwnBooks wr w.heap.size tv (l.take k)) ∧ Hid (Below w.heap.size w wr)) (fun _ x _ => m - (intOf x).toNat)
  case atStart => exact ⟨0, _, Nat.zero_le _, rfl, rfl, by rw [List.take_zero]; exact ownBooks_nil _ _, Below.refl _ _⟩
  case round =>
    obtain ⟨k, tv, hk, htv, rfl, HO, Hb⟩ := hrel
    have htv' := htv.symm
    subst htv'
    clear htv
    by_cases hlt : k < m
    · obtain ⟨g, hG⟩ := HO.out
      obtain ⟨b, off, A, C, rfl, hbw, c0, c1, c2, hN⟩ := HA.out.at (k := k) (by have := Hm.out; omega)
      have hout := HL.out k (by have := Hm.out; omega)
      obtain ⟨r, Hr⟩ : ∃ z, Hid (at_ l k = z) := ⟨_, rfl⟩
      rw [Hr.out] at c0 c1 c2 hN hout
      have htl : (l.take k).length = k := by rw [List.length_take]; have := Hm.out; omega
      have hbsz := Hb.out.size
      have hb1 : Below wr.heap.size wr (wr.alloc (.cells #[] 2)).drew := (below_box wr _).drew
      have hNr := hN.later (Hb.out.trans (hb1.mono hbsz))
      obtain ⟨v1, w1, hrun1, q1, q2, q3⟩ := run_append_elems (P := Try.prog) (w := (wr.alloc (.cells #[] 2)).drew) 35 35 wr.heap.size 2 i0 _ 1 8 Try.underlying35 Hi.out Hz0.out Hz1.out Hz2.out rfl (by decide)
        (.slice (some ⟨wr.heap.size, 0, none⟩) 0 0) 0 (fun _ _ => .bool false) (own_whole (cs := #[]) (Whole.madeAt _ _ _ _ rfl).drew (Nat.le_refl _) rfl (by decide)) A r.out.length C (fun q _ => .int .i64 (r.out[q]?.getD 0)) hNr
        (fun _ _ _ _ => rfl) (by unfold maxLen; omega) (by omega) hb1.size
      simp only [Nat.zero_add, Nat.not_lt_zero, if_false, Nat.sub_zero] at q1
      rw [← flat_one] at q1
      obtain ⟨A1, C1, rfl, _⟩ := nums_of_own q1 rfl (by omega)
      have hb2 : Below wr.heap.size wr w1 := hb1.trans q2
      have hb3 : Below wr.heap.size wr (w1.alloc (.cells #[.int .i64 r.inc, .int .i64 r.use, .slice A1 r.out.length C1] 37)) := hb2.alloc hb2.size _
      obtain ⟨v2, w2, hrun2, p1, p2, p3⟩ := run_append_elems (P := Try.prog) (w := w1.alloc (.cells #[.int .i64 r.inc, .int .i64 r.use, .slice A1 r.out.length C1] 37)) 24 24 w.heap.size 37 i5 _ 3 40 Try.underlying24 Ki.out Kz0.out Kz1.out Kz2.out rfl (by decide)
        _ _ _ (own_later hG.1 hb3) (some ⟨w1.heap.size, 0, none⟩) 1 1 (fun _ j => if j = 0 then .int .i64 r.inc else if j = 1 then .int .i64 r.use else .slice A1 r.out.length C1) (one_row (Whole.made w1 _ _))
        (fun i j _ hj => by match j, hj with | 0, _ => rfl | 1, _ => rfl | 2, _ => rfl) (by rw [htl]; unfold maxLen; omega) (by rw [htl]; omega) (by have := hb3.size; omega)
      obtain ⟨A2, C2, rfl, _⟩ := elems_of_own p1 (by rw [htl]; omega)
      have hpush := ownG_push (r := r) hG hb3 hbsz (own_later q1 (below_box w1 _)) ⟨_, _, rfl⟩ p1 p3.1
      have Hpush : Hid (OwnBooks w2 w.heap.size (.slice A2 ((l.take k).length + 1) C2) (l.take (k + 1))) := by
        rw [take_at (by have := Hm.out; omega), Hr.out]; exact ⟨_, hpush⟩
      have Hbn : Hid (Below w.heap.size w w2) := (Hb.out.trans (hb3.mono hbsz)).trans p2
      have hf1 : Fine Try.prog (wr.alloc (.cells #[] 2)).drew #[35, 35] 35 #[.slice (some ⟨wr.heap.size, 0, none⟩) 0 0, .slice A r.out.length C] := ⟨_, _, hrun1⟩
      have hv1 : appV Try.prog (wr.alloc (.cells #[] 2)).drew #[35, 35] 35 #[.slice (some ⟨wr.heap.size, 0, none⟩) 0 0, .slice A r.out.length C] = .slice A1 r.out.length C1 := by unfold appV; rw [hrun1]; rfl
      have hw1 : appW Try.prog (wr.alloc (.cells #[] 2)).drew #[35, 35] 35 #[.slice (some ⟨wr.heap.size, 0, none⟩) 0 0, .slice A r.out.length C] = w1 := by unfold appW; rw [hrun1]; rfl
      have d0 := cell_later Hb.out c0
      have d1 := cell_later Hb.out c1
      have d2 := cell_later Hb.out c2
      have f0 := cell_later hb2 d0
      have f1 := cell_later hb2 d1
      have hbr : b < wr.heap.size := by omega
      have hb1' : b < w1.heap.size := by have := hb2.size; omega
      have hszl : wr.heap.size < w1.heap.size := by have := q2.size; simp at this; omega
      have Htl := Lib.hid htl
      generalize hk2 : (l.take k).length = kk at hrun2 Hpush
      have hf2 : Fine Try.prog (w1.alloc (.cells #[.int .i64 r.inc, .int .i64 r.use, .slice A1 r.out.length C1] 37)) #[24, 24] 24 #[tv, .slice (some ⟨w1.heap.size, 0, none⟩) 1 1] := ⟨_, _, hrun2⟩
      have hv2 : appV Try.prog (w1.alloc (.cells #[.int .i64 r.inc, .int .i64 r.use, .slice A1 r.out.length C1] 37)) #[24, 24] 24 #[tv, .slice (some ⟨w1.heap.size, 0, none⟩) 1 1] = .slice A2 (kk + 1) C2 := by unfold appV; rw [hrun2]; rfl
      have hw2 : appW Try.prog (w1.alloc (.cells #[.int .i64 r.inc, .int .i64 r.use, .slice A1 r.out.length C1] 37)) #[24, 24] 24 #[tv, .slice (some ⟨w1.heap.size, 0, none⟩) 1 1] = w2 := by unfold appW; rw [hrun2]; rfl
      have Hk2 := Lib.hid hk2
      clear hk2 hrun1 hrun2 q1 q2 q3 p1 p2 p3 hpush hb1 hb2 hb3 hNr hN c0 c1 c2 htl hG
      have k0 : (0 : Int) ≤ (k : Int) := by omega
      have k1 : (k : Int) < (m : Int) := by omega
      go_wp2
      go_region
      go_wp2
      go_roundw
      case rel => exact ⟨k + 1, _, by omega, rfl, by go_num, Hpush, Hbn⟩
      case measure => simp [intOf]; omega
    · have hkm : k = m := by omega
      have hll : l.take k = l := by rw [hkm, Hm.out, List.take_length]
      have HO' := HO.out
      rw [hll] at HO'
      obtain ⟨A, C, rfl, _⟩ := HO'.books (by have := Hm.out; omega) (fun q hq => by have := HL.out q hq; omega)
      have HO2 := Lib.hid HO'
      have Hll := Lib.hid hll
      clear hll HO'
      go_wp2
      go_ret
      exact ⟨A, C, by rfl, HO2.out, Hb.out⟩
end Go.Proofs.Ytkkhecdmjcffjaa
