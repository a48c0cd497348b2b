/- Package row's iterator over numbers and what each may be at most. No law is proved here. -/
import Derived.Test.YtgonboccklpoaaaRowWorld
import Derived.RangeFuncNested
import Derived.RangeFuncBound
import Derived.RangeFuncCalls
import Derived.RangeFuncLeaves
import Derived.RangeFuncBox
import Derived.Shelf.Abstract
import Derived.Shelf.RegionOpen
import Derived.WalkKit
import Derived.OwnWalkIn
import Derived.TacticsInMore
import Derived.LoopNIn
import Derived.LoopIn
import Derived.Laws.MakeOwn
import Derived.Maps.AppendAt
import Derived.ProofKit
import Derived.OpenShut
import Derived.WalkSpells
import Derived.Laws.AppendOwn
import Derived.Laws.AppendOwnNone
import Derived.Laws.OwnMore
import Derived.Lib.Hide
import Derived.Deep.Draws
import Derived.Deep.Slices
import Derived.Deep.Fields
import Derived.ChangeSame
import Derived.RegionTactic
namespace Go.Proofs.Ytgonboccklpoaaa
open Go.RowKit Go.Shelf

attribute [local go_sem] Oper.semAt_some
/-! ### each number, and the most that it may be -/
set_option maxRecDepth 100000 in
set_option maxHeartbeats 1000000 in
theorem limits1_in (F : Fence) (n : Nat) (hF : F.fn 56) (hro : F.round = none) (hn : 1 ≤ n) (l Ba Bb : Nat) (w0 : World) (a : Option Addr) (m ca : Nat) (who : Int) (la : List Int)
    (hla : m = la.length) (hA : Nums w0 (.slice a m ca) la) (J Jx : List (Int × Int) → World → Prop)
    (hY : ∀ pre x W, J pre W → pre.length < m → YieldAt F (n - 1) Try.prog l #[.int .i64 x.1, .int .i64 x.2] W fun e W' =>
      (e = .returned (.bool true) ∧ J (pre ++ [x]) W' ∧ KeptAt w0.heap.size Bb W W') ∨ (e = .returned (.bool false) ∧ Jx (pre ++ [x]) W'))
    (W : World) (hW : Below w0.heap.size w0 W) (hBa : Boxed W Ba 31 (.slice a m ca)) (hBb : Boxed W Bb 3 (.int .i64 who)) (h0 : J [] W) :
    CallsIn F n Try.prog 56 #[.func (.yield l) #[] #[], .pointer (some ⟨Ba, 0, none⟩), .pointer (some ⟨Bb, 0, none⟩)] W fun e W' => (∃ v, e = .returned v) ∧
      ((∃ ys, ys = la.zip (mosts who m) ∧ J ys W') ∨ (∃ pre, (∃ k, k ≤ m ∧ pre = (la.zip (mosts who m)).take k) ∧ Jx pre W')) := by
  have hbig : m ≤ 9223372036854775807 := by rw [hla]; exact hA.1
  have HA := Lib.hid hA; clear hA
  have Ha := Lib.hid hla; clear hla
  have HBb := Lib.hid hBb
  have cA := hBa.cell
  have HW := Lib.hid hW
  clear hBa hBb hW
  refine callsIn_of_wp Try.func56 rfl hF ?_ hro
  simp only [Try.ntmps56, List.size_toArray, List.length_cons, List.length_nil, Nat.reduceAdd, Nat.reduceSub, Array.replicate_succ, Array.replicate_zero, List.push_toArray, List.append_toArray, List.nil_append, List.cons_append]
  gi_wp2
  gi_loopw [9] (fun i wr => ∃ k : Nat, k ≤ m ∧ i = .int .i64 k ∧ J ((la.zip (mosts who m)).take k) wr ∧ Hid (Below w0.heap.size w0 wr) ∧ Hid (Boxed wr Bb 3 (.int .i64 who)))
    (fun i _ => m - (intOf i).toNat)
  case atStart => exact ⟨0, Nat.zero_le _, rfl, by rw [List.take_zero]; exact h0, HW, HBb⟩
  case round =>
    obtain ⟨k, hk, rfl, hJs, Hw, HBr⟩ := hrel
    clear cA
    by_cases hlt : k < m
    · obtain ⟨ba, oa, rfl, _, c0⟩ := HA.out.at (i := k) (by have := Ha.out; omega)
      have d0 := cell_later Hw.out c0
      have dB := HBr.out.cell
      clear c0
      by_cases hw : (k : Int) = who
      all_goals
        obtain ⟨fn, tmps, assign, body, hy, hR⟩ := hY _ (la[k]?.getD 0, mostOf who k) wr hJs (by rw [List.length_take, List.length_zip, mosts_length, ← Ha.out]; omega)
        dsimp only at hy
        rw [← mosts_at who m k hlt, ← zip_take_snoc la (mosts who m) k (by have := Ha.out; omega) (by rw [mosts_length]; exact hlt)] at hR
        first | (have hm0 : mostOf who k = 0 := if_pos hw) | (have hm0 : mostOf who k = 1125899906842624 := if_neg hw)
        rw [hm0] at hy
        clear hm0
        first | (subst hw) | (have hd : ((k : Int) == who) = false := by simpa using hw)
        gi_wp2
        refine hR.mono ?_
        rintro e W3 (⟨rfl, hJ3, hk3⟩ | ⟨rfl, hJx3⟩)
        · have Hw3 := Lib.hid (Hw.out.trans hk3.1)
          have HB3 := Lib.hid (show Boxed W3 Bb 3 (.int .i64 _) from hk3.2.trans HBr.out)
          clear hk3
          gi_wp2
          go_roundw
          case rel => exact ⟨k + 1, by omega, by simp, hJ3, Hw3, HB3⟩
          case measure => simp [intOf]; omega
        · gi_wp2
          refine bodyPost_ret (results_none rfl _ _ _) rfl ?_
          exact ⟨⟨_, rfl⟩, .inr ⟨_, ⟨k + 1, by omega, rfl⟩, hJx3⟩⟩
    · have hkm : k = m := by omega
      have Hkm := Lib.hid hkm; clear hkm
      gi_wp2
      go_end0
      refine ⟨⟨_, rfl⟩, .inl ⟨_, ?_, hJs⟩⟩
      rw [Hkm.out, List.take_of_length_le (by rw [List.length_zip, mosts_length, ← Ha.out]; omega)]
set_option maxHeartbeats 1000000 in
theorem limits_in (F : Fence) (n : Nat) (hF : F.fn 48) (hro : F.round = none) (a : Option Addr) (m c : Nat) (who : Int) (w : World) :
    CallsIn F n Try.prog 48 #[.slice a m c, .int .i64 who] w fun e w' => e = .returned (.func (.func 56) #[] #[.pointer (some ⟨w.heap.size, 0, none⟩), .pointer (some ⟨w.heap.size + 1, 0, none⟩)]) ∧
      w' = (w.alloc (.cells #[.slice a m c] 31)).alloc (.cells #[.int .i64 who] 3) := by
  refine callsIn_of_wp Try.func48 rfl hF ?_ hro
  simp only [Try.ntmps48, List.size_toArray, List.length_cons, List.length_nil, Nat.reduceAdd, Nat.reduceSub, Array.replicate_succ, Array.replicate_zero, List.push_toArray, List.append_toArray, List.nil_append, List.cons_append]
  gi_wp2
  go_ret
  exact ⟨rfl, rfl⟩
theorem limits_stops (F : Fence) (n : Nat) (hF : F.fn 56) (hro : F.round = none) (hn : 1 ≤ n) (Ba Bb : Nat) (w0 : World) (a : Option Addr) (m ca : Nat) (who : Int) (la : List Int)
    (hla : m = la.length) (hA : Nums w0 (.slice a m ca) la) (w : World) (hb0 : Below w0.heap.size w0 w)
    (hBa : Boxed w Ba 31 (.slice a m ca)) (hBb : Boxed w Bb 3 (.int .i64 who)) :
    SeqStopsK F n Try.prog 56 #[.pointer (some ⟨Ba, 0, none⟩), .pointer (some ⟨Bb, 0, none⟩)] (fun x : Int × Int => #[Value.int .i64 x.1, Value.int .i64 x.2]) (KeptAt w0.heap.size Bb) (fun ys => ys = la.zip (mosts who m))
      (fun pre => ∃ k, k ≤ m ∧ pre = (la.zip (mosts who m)).take k) m w := fun l J Jx W hW _ _ hY h0 =>
  limits1_in F n hF hro hn l Ba Bb w0 a m ca who la hla hA J Jx hY W (hb0.trans (hW.mono hb0.size)) ((hW.block Ba hBa.lt).trans hBa) ((hW.block Bb hBb.lt).trans hBb) h0
end Go.Proofs.Ytgonboccklpoaaa
