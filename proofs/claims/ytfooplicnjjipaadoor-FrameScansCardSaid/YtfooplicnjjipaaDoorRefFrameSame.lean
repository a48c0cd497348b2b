/- The document's own, layer 8: Same. No law is proved here. -/
import Derived.Test.YtfooplicnjjipaaDoorSls
import Derived.Deep.QuietTactic
import Derived.BigQuiet
namespace Go.Proofs.YtfooplicnjjipaaDoor
open Go.RowKit

set_option maxRecDepth 100000 in
set_option maxHeartbeats 4000000 in
theorem refsls_yes (a b : Option Addr) (m c d : Nat) (l : List (List Int)) (w : World) (hA : Sls w (.slice a m c) l) (hB : Sls w (.slice b m d) l) :
    Calls Tryd.prog 9 #[.slice a m c, .slice b m d] w (Says w true) := by
  have Hm := Lib.hid hA.len
  have hbig := hA.big
  rw [← Hm.out] at hbig
  have HA := Lib.hid hA; clear hA
  have HB := Lib.hid hB; clear hB
  go_enter Tryd.func9, Tryd.ntmps9
  go_wp2_with fail
  go_loopw [5] (fun i wr => ∃ k : Nat, k ≤ m ∧ i = .int .i64 k ∧ Hid (Below w.heap.size w wr)) (fun i _ => m - (intOf i).toNat)
  case atStart => exact ⟨0, Nat.zero_le _, rfl, Below.refl _ _⟩
  case round =>
    obtain ⟨k, hk, rfl, Hb⟩ := hrel
    by_cases hlt : k < m
    · have hkl : k < l.length := by have := Hm.out; omega
      obtain ⟨b1, o1, ⟨a3, n3, c3⟩, rfl, e1, S1⟩ := HA.out.at hkl
      obtain ⟨b2, o2, ⟨a4, n4, c4⟩, rfl, e2, S2⟩ := HB.out.at hkl
      have d1 := cell_later Hb.out e1
      have d2 := cell_later Hb.out e2
      have hcv1 : ∀ n, (convert 22 9 (.slice a3 n3 c3)).run Tryd.prog (wr.drewN n) = .ok (.string (strOfNums (l[k]?.getD []))) (wr.drewN n) := fun n => tstr_any (w := wr.drewN n) (S1.later Hb.out).2.2
      have hcv2 : ∀ n, (convert 22 9 (.slice a4 n4 c4)).run Tryd.prog (wr.drewN n) = .ok (.string (strOfNums (l[k]?.getD []))) (wr.drewN n) := fun n => tstr_any (w := wr.drewN n) (S2.later Hb.out).2.2
      obtain ⟨st, Hst⟩ : ∃ z, Hid (strOfNums (l[k]?.getD []) = z) := ⟨_, rfl⟩
      rw [Hst.out] at hcv1 hcv2
      have k0 : (0 : Int) ≤ (k : Int) := by omega
      have k1 : (k : Int) < (m : Int) := by omega
      have hss := str_same (rfl : st = st)
      clear e1 e2 S1 S2
      go_wp2_with fail
      go_quiet (fail)
      go_wp2_with fail
      go_roundw
      case rel => exact ⟨k + 1, by omega, by go_num, below_drewN Hb.out _⟩
      case measure => simp [intOf]; omega
    · obtain rfl : k = m := by omega
      go_wp2_with fail
      go_ret
      exact ⟨rfl, Hb.out⟩
end Go.Proofs.YtfooplicnjjipaaDoor
