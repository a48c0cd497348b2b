/- CrcParts, walked. -/
import Derived.Test.YtffgfenbapbakaaDoorCrcWalks
import Derived.Deep.QuietTactic
import Derived.BigQuiet
namespace Go.Proofs.YtffgfenbapbakaaDoor
open Go.RowKit

theorem size22 (w : World) : (sizeOf (Tryd.prog.elem 22)).run Tryd.prog w = .ok 1 w := by kernel_rfl
theorem elem22 : Tryd.prog.underlying 22 = some (.slice (Tryd.prog.elem 22)) := by kernel_rfl
theorem run_lh (a : Option Addr) (n c lo hi : Nat) (h1 : lo ≤ hi) (h2 : hi ≤ c) (w : World) :
    (Instr.slice 22 (.slice a n c) (some (.int .i64 (lo : Int))) (some (.int .i64 (hi : Int))) none).run Tryd.prog w = .ok (sliced a lo hi c 1) w := by
  rw [run_slice_lh w 22 a n c elem22 .i64 .i64 lo hi (by omega) (by omega) (by omega), size22]
  simp [Result.andThen]
theorem run_l (a : Option Addr) (n c lo : Nat) (h1 : lo ≤ n) (w : World) :
    (Instr.slice 22 (.slice a n c) (some (.int .i64 (lo : Int))) none none).run Tryd.prog w = .ok (sliced a lo n c 1) w := by
  rw [run_slice_l w 22 a n c elem22 .i64 lo (by omega) (by omega), size22]
  simp [Result.andThen]
theorem run_h (a : Option Addr) (n c hi : Nat) (h2 : hi ≤ c) (w : World) :
    (Instr.slice 22 (.slice a n c) none (some (.int .i64 (hi : Int))) none).run Tryd.prog w = .ok (sliced a 0 hi c 1) w := by
  rw [run_slice_h w 22 a n c elem22 .i64 hi (by omega) (by omega), size22]
  simp [Result.andThen]

/-- the three pieces, as values with a name -/
theorem piece_lh {W : World} {a : Option Addr} {n c lo hi : Nat} {zs : List Int} (hB : Bytes W (.slice a n c) zs) (hn : n = zs.length) (h1 : lo ≤ hi) (h2 : hi ≤ n) (h3 : n ≤ c) :
    ∃ v, (∀ w, (Instr.slice 22 (.slice a n c) (some (.int .i64 (lo : Int))) (some (.int .i64 (hi : Int))) none).run Tryd.prog w = .ok v w) ∧ Bytes W v ((zs.take hi).drop lo) :=
  ⟨_, run_lh a n c lo hi h1 (by omega), bytes_sliced hB hn h1 h2 h3⟩
theorem piece_l {W : World} {a : Option Addr} {n c lo : Nat} {zs : List Int} (hB : Bytes W (.slice a n c) zs) (hn : n = zs.length) (h1 : lo ≤ n) (h3 : n ≤ c) :
    ∃ v, (∀ w, (Instr.slice 22 (.slice a n c) (some (.int .i64 (lo : Int))) none none).run Tryd.prog w = .ok v w) ∧ Bytes W v (zs.drop lo) :=
  ⟨_, run_l a n c lo h1, by have := bytes_sliced hB hn h1 (Nat.le_refl n) h3; rw [hn, List.take_length, ← hn] at this; exact this⟩
theorem piece_h {W : World} {a : Option Addr} {n c hi : Nat} {zs : List Int} (hB : Bytes W (.slice a n c) zs) (hn : n = zs.length) (h2 : hi ≤ n) (h3 : n ≤ c) :
    ∃ v, (∀ w, (Instr.slice 22 (.slice a n c) none (some (.int .i64 (hi : Int))) none).run Tryd.prog w = .ok v w) ∧ Bytes W v (zs.take hi) :=
  ⟨_, run_h a n c hi (by omega), by have := bytes_sliced hB hn (Nat.zero_le hi) h2 h3; rw [List.drop_zero] at this; exact this⟩

theorem sum_quiet {W : World} {v : Value} {zs : List Int} (hB : Bytes W v zs) (ht : Tab W) (q : Nat) :
    Calls Tryd.prog 7 #[v] (W.drewN q) fun e w'' => e = .returned (.int .u32 (CrcMath.sum zs)) ∧ ∃ m, w'' = W.drewN m :=
  Calls.quiet_of_same ((sum_calls v zs (W.drewN q) hB ht).mono fun _ _ ⟨he, hw⟩ => ⟨he, hw.symm⟩)
theorem more_quiet {W : World} {s : Nat} (hs : s < 4294967296) {v : Value} {zs : List Int} (hB : Bytes W v zs) (ht : Tab W) (q : Nat) :
    Calls Tryd.prog 9 #[.int .u32 s, v] (W.drewN q) fun e w'' => e = .returned (.int .u32 (CrcMath.more s zs)) ∧ ∃ m, w'' = W.drewN m :=
  Calls.quiet_of_same ((more_calls s hs v zs (W.drewN q) hB ht).mono fun _ _ ⟨he, hw⟩ => ⟨he, hw.symm⟩)

set_option maxRecDepth 100000 in
set_option maxHeartbeats 400000 in
theorem parts_law (W : World) (n c : Nat) (a : Option Addr) (zs : List Int) (m : Nat) (h65 : m < 65536) (hn : n = zs.length) (hnc : n ≤ c) (hB : Bytes W (.slice a n c) zs) (ht : Tab W) :
    Calls Tryd.prog 5 #[.slice a n c, .int .u16 (m : Int)] W fun e W' => e = .returned (.bool true) ∧ Below W.heap.size W W' := by
  have HT := Lib.hid ht; clear ht
  have HB := Lib.hid hB; clear hB
  have hbig := HB.out.1
  rw [← hn] at hbig
  have Hn := Lib.hid hn; clear hn
  have Hnc := Lib.hid hnc; clear hnc
  by_cases h3 : n ≤ 3000
  · have h3' : ¬ 3000 < n := by omega
    go_enter Tryd.func5, Tryd.ntmps5
    go_wp2_with fail
    refine (awake_calls _ HT.out).mono ?_
    rintro e w1 ⟨rfl, hb⟩
    have Hb := Lib.hid hb; clear hb
    have HB1 := Lib.hid (HB.out.later Hb.out)
    have HT1 := Lib.hid (HT.out.later Hb.out)
    go_wp2_with fail
    refine (sum_calls _ [] _ (bytes_nil _ _ _ (fun _ => rfl)) HT1.out).mono ?_
    rintro e w' ⟨rfl, rfl⟩
    rw [CrcMath.sum_nil]
    go_wp2_with fail
    go_loop [5, 6] (fun v i => ∃ k r : Nat, k ≤ n ∧ i = .int .i64 k ∧ v = .int .u32 r ∧ r < 4294967296 ∧ Hid (r = CrcMath.sum (zs.take k))) (fun _ i => n - (intOf i).toNat)
    case atStart => exact ⟨0, 0, Nat.zero_le _, rfl, rfl, by omega, by show _ = _; rw [List.take_zero, CrcMath.sum_nil]⟩
    case round =>
      obtain ⟨k, r, hk, rfl, rfl, hr, Hr⟩ := hrel
      by_cases hlt : k < n
      · obtain ⟨v1, hv1, hB1⟩ := piece_lh (lo := k) (hi := k + 1) HB1.out Hn.out (by omega) (by omega) Hnc.out
        have HBv := Lib.hid hB1; clear hB1
        simp only [Int.natCast_add, Int.cast_ofNat_Int] at hv1
        go_wp2_with fail
        refine (more_calls r hr v1 _ _ HBv.out HT1.out).mono ?_
        rintro e w' ⟨rfl, rfl⟩
        go_wp2_with fail
        go_round
        case rel =>
          refine ⟨k + 1, _, by omega, by go_num, rfl, CrcMath.more_lt _ _, ?_⟩
          show _ = _
          rw [Hr.out, CrcMath.more_sum _ _ (fun x hx => HB.out.2.1 x (List.mem_of_mem_take hx))]
          congr 1
          have := List.take_append_drop k (zs.take (k + 1))
          rw [List.take_take, Nat.min_eq_left (by omega)] at this
          exact this
        case measure => simp [intOf]; omega
      · have hkn : k = n := by omega
        have hr1 : CrcMath.sum zs = r := by rw [Hr.out, hkn, Hn.out, List.take_length]
        have hmm : m % (n + 1) ≤ n := by have := Nat.mod_lt m (y := n + 1) (by omega); omega
        obtain ⟨v2, hv2, hB2⟩ := piece_h (hi := m % (n + 1)) HB1.out Hn.out hmm Hnc.out
        obtain ⟨v3, hv3, hB3⟩ := piece_l (lo := m % (n + 1)) HB1.out Hn.out hmm Hnc.out
        have e : ((m % (n + 1) : Nat) : Int) = (m : Int) % ((n : Int) + 1) := by simp
        rw [e] at hv2 hv3
        obtain ⟨r2, hr2⟩ : ∃ r2, CrcMath.sum (zs.take (m % (n + 1))) = r2 := ⟨_, rfl⟩
        have hr2l : r2 < 4294967296 := by rw [← hr2]; exact CrcMath.more_lt 0 _
        have hr3 : CrcMath.more r2 (zs.drop (m % (n + 1))) = r := by
          rw [← hr2, CrcMath.more_sum _ _ (fun x hx => HB.out.2.1 x (List.mem_of_mem_take hx)), List.take_append_drop, hr1]
        have c1 : Hid (∀ q, Calls Tryd.prog 7 #[.slice a n c] (w1.drewN q) fun e w'' => e = .returned (.int .u32 r) ∧ ∃ m, w'' = w1.drewN m) := fun q => by
          rw [← hr1]; exact sum_quiet HB1.out HT1.out q
        have c2 : Hid (∀ q, Calls Tryd.prog 7 #[v2] (w1.drewN q) fun e w'' => e = .returned (.int .u32 r2) ∧ ∃ m, w'' = w1.drewN m) := fun q => by
          rw [← hr2]; exact sum_quiet hB2 HT1.out q
        have c3 : Hid (∀ q, Calls Tryd.prog 9 #[.int .u32 r2, v3] (w1.drewN q) fun e w'' => e = .returned (.int .u32 r) ∧ ∃ m, w'' = w1.drewN m) := fun q => by
          rw [← hr3]; exact more_quiet hr2l hB3 HT1.out q
        have c4 : Hid (∀ q, Calls Tryd.prog 9 #[.int .u32 r, .slice none 0 0] (w1.drewN q) fun e w'' => e = .returned (.int .u32 r) ∧ ∃ m, w'' = w1.drewN m) := fun q => by
          have := more_quiet hr (bytes_nil w1 none 0 (fun _ => rfl)) HT1.out q
          rw [CrcMath.more_nil r hr] at this
          exact this
        clear hB2 hB3 hr1 hr2 hr3 e hmm hkn hr2l
        go_wp2_with fail
        go_quiet (first | (go_at_call 7; (with_reducible exact c1.out _)) | (go_at_call 7; (with_reducible exact c2.out _)) | (go_at_call 9; (with_reducible exact c3.out _)) | (go_at_call 9; (with_reducible exact c4.out _)))
        go_wp2_with fail
        go_ret
        exact ⟨rfl, below_drewN Hb.out _⟩
  · have h3' : 3000 < n := by omega
    go_enter Tryd.func5, Tryd.ntmps5
    go_wp2_with fail
    refine (awake_calls _ HT.out).mono ?_
    rintro e w1 ⟨rfl, hb⟩
    have Hb := Lib.hid hb; clear hb
    go_wp2_with fail
    go_ret
    exact ⟨rfl, Hb.out⟩
end Go.Proofs.YtffgfenbapbakaaDoor
