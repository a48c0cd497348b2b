/- Package rights, walked: a sum over the books of what was moved to one. No law is proved here. -/
import Derived.Test.YtbpmonbehibgdaaMg21
import Derived.Test.YtbpmonbehibgdaaRightsSumMath
import Derived.Test.YtbpmonbehibgdaaRowSent
import Derived.WalkKit
import Derived.ProofKit
import Derived.OpenShut
import Derived.WalkSpells
import Derived.Laws.AppendOwn
import Derived.Laws.AppendOwnNone
import Derived.Laws.OwnMore
import Derived.Lib.Hide
import Derived.Deep.Draws
import Derived.Deep.Slices
import Derived.Deep.Fields
import Derived.ChangeSame
import Derived.RegionTactic
import Derived.Maps.AppendAt
import Derived.Lib.SmallJoins
import Derived.RangeFuncNested
import Derived.RangeFuncBound
import Derived.RangeFuncLeaves
import Derived.RangeFuncBox
import Derived.Laws.MakeOwn
import Derived.LoopTactic
import Derived.BigRegion
import Derived.WalkLawsBesides
import Derived.IntWalk
import Derived.WalkSmall
import Derived.Deep.QuietTactic
import Derived.BigQuiet
import Derived.Deep.RegionHeld3
import Derived.RangeFuncCalls
import Derived.Shelf.Abstract
import Derived.Shelf.RegionOpen
import Derived.OwnWalkIn
import Derived.TacticsInMore
import Derived.LoopNIn
import Derived.LoopIn
namespace Go.Proofs.Ytbpmonbehibgdaa
open Go.RowKit

/-- what a row moved to who -/
theorem given_calls (i u : Int) (A : Option Addr) (n C : Nat) (la : List Int) (hn : n = la.length) (who : Nat) (hw : who < n) (p : Nat) (w : World) (hN : Nums w (.slice A n C) la) (hp : w.cell? ⟨p, 0, none⟩ = some (.int .i64 (who : Int))) :
    Calls Try.prog 53 #[rowV i u (.slice A n C), .pointer (some ⟨p, 0, none⟩)] w (Num w (la[who]?.getD 0)) := by
  have hpl : p < w.heap.size := World.block_lt_of_cell? w _ hp
  obtain ⟨b, off, rfl, hbl, d⟩ := hN.at (i := who) (by omega)
  have hbig : n ≤ 9223372036854775807 := by rw [hn]; exact hN.1
  obtain ⟨x, Hx⟩ : ∃ z, Hid (la[who]?.getD 0 = z) := ⟨_, rfl⟩
  rw [Hx.out] at d ⊢
  clear hN hn
  have k0 : (0 : Int) ≤ (who : Int) := by omega
  have k1 : (who : Int) < (n : Int) := by omega
  go_enter Try.func53, Try.ntmps53
  go_wp2
  go_ret
  exact ⟨by rfl, below_box _ _⟩
set_option maxRecDepth 100000 in
set_option maxHeartbeats 4000000 in
theorem sums_given (a : Option Addr) (m d : Nat) (l : List Rw) (hm : m = l.length) (h16 : m ≤ 16) (hF : Fits l) (who : Nat) (hw : who < m) (bs p : Nat) (w : World) (hB : Books w (.slice a m d) l)
    (hs : w.cell? ⟨bs, 0, none⟩ = some (.slice a m d)) (hp : w.cell? ⟨p, 0, none⟩ = some (.int .i64 (who : Int))) :
    Calls Try.prog 58 #[.func (.func 53) #[] #[.pointer (some ⟨p, 0, none⟩)], .pointer (some ⟨bs, 0, none⟩)] w (Num w (sumN (fun i => (at_ l i).out[who]?.getD 0) m)) := by
  have HB := Lib.hid hB; clear hB
  have Hm := Lib.hid hm; clear hm
  have HF := Lib.hid hF; clear hF
  have hbsl : bs < w.heap.size := World.block_lt_of_cell? w _ hs
  have Hp := Lib.hid hp; clear hp
  obtain ⟨G, HG⟩ : ∃ G, Hid ((fun i => (at_ l i).out[who]?.getD 0) = G) := ⟨_, rfl⟩
  rw [HG.out]
  have hGb : Hid (∀ k, k < m → -1125899906842624 ≤ G k ∧ G k ≤ 1125899906842624) := by
    rw [← HG.out]
    intro k hk
    have := (HF.out k (by have := Hm.out; omega)).2.2.2.2.2 who (by have := Hm.out; omega)
    show -1125899906842624 ≤ (at_ l k).out[who]?.getD 0 ∧ (at_ l k).out[who]?.getD 0 ≤ 1125899906842624
    omega
  go_enter Try.func58, Try.ntmps58
  go_wp2_with fail
  clear hs
  go_loopw [3, 8] (fun t i wr => ∃ (k : Nat) (T : Int), k ≤ m ∧ i = .int .i64 k ∧ t = .int .i64 T ∧ Hid (T = sumN G k) ∧ Hid (Below w.heap.size w wr)) (fun _ i _ => m - (intOf i).toNat)
  case atStart => exact ⟨0, 0, Nat.zero_le _, rfl, rfl, show _ = _ by rfl, Below.refl _ _⟩
  case round =>
    obtain ⟨k, T, hk, rfl, rfl, HT, Hb⟩ := hrel
    have hbm : m ≤ 9223372036854775807 := by omega
    by_cases hlt : k < m
    · obtain ⟨b, off, A, C, rfl, hbw, c0, c1, c2, hN⟩ := HB.out.at (k := k) (by have := Hm.out; omega)
      have hfb := sumN_bound hGb.out k (by omega)
      rw [← HT.out] at hfb
      have hgk := hGb.out k hlt
      have hT0 : -(1125899906842624 * 16) ≤ T := by omega
      have hT1 : T ≤ 1125899906842624 * 16 := by omega
      clear hfb
      have hff := HF.out k (by have := Hm.out; omega)
      rw [← Hm.out] at hff
      obtain ⟨r, Hr⟩ : ∃ z, Hid (at_ l k = z) := ⟨_, rfl⟩
      rw [Hr.out] at c0 c1 c2 hN hff
      rw [hff.1] at c2 hN
      have Hru : Hid (0 ≤ r.inc ∧ r.inc ≤ 1099511627776 ∧ 0 ≤ r.use ∧ r.use ≤ 1099511627776) := ⟨hff.2.1, hff.2.2.1, hff.2.2.2.1, hff.2.2.2.2.1⟩
      have Hx : Hid (r.out[who]?.getD 0 = G k) := by rw [← HG.out, ← Hr.out]; exact rfl
      obtain ⟨y, Hy⟩ : ∃ z, Hid (G k = z) := ⟨_, rfl⟩
      rw [Hy.out] at hgk Hx
      obtain ⟨hy0, hy1⟩ := hgk
      have HS : Hid (sumN G (k + 1) = T + y) := by rw [HT.out, ← Hy.out]; exact rfl
      have Hout := Lib.hid hff.1.symm; clear hff
      have HN := Lib.hid hN; clear hN
      have d0 := cell_later Hb.out c0
      have d1 := cell_later Hb.out c1
      have d2 := cell_later Hb.out c2
      clear c0 c1 c2
      have hbr : b < wr.heap.size := by have := Hb.out.size; omega
      have k0 : (0 : Int) ≤ (k : Int) := by omega
      have k1 : (k : Int) < (m : Int) := by omega
      go_wp2_with fail
      have HA := held_next Hb.out (below_box wr (.cells #[.int .i64 r.inc, .int .i64 r.use, .slice A m C] 71))
      refine (given_calls r.inc r.use A m C r.out Hout.out who hw p _ (HN.out.later HA) (cell_later HA Hp.out)).mono ?_
      rintro e w2 ⟨rfl, hb⟩
      rw [Hx.out]
      have Hb2 := Lib.hid (held_next HA hb)
      clear HA hb d0 d1 d2
      go_wp2_with fail
      go_roundw
      case rel => exact ⟨k + 1, T + y, by omega, by go_num, rfl, HS.out.symm, Hb2.out⟩
      case measure => simp [intOf]; omega
    · have hkm : k = m := by omega
      have HT2 : Hid (sumN G m = T) := by rw [← hkm]; exact HT.out.symm
      have Hkm := Lib.hid hkm; clear hkm
      go_wp2
      go_ret
      exact ⟨by rw [HT2.out]; rfl, Hb.out⟩
end Go.Proofs.Ytbpmonbehibgdaa
