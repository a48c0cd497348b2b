/- The walks of Take, each by what its bytes begin with: a number and what is behind it, or none. No law is proved here. -/
import Derived.Test.YtfooplicnjjipaaDoorPackTakeWords
import Derived.Test.YtfooplicnjjipaaDoorPackPut
namespace Go.Proofs.YtfooplicnjjipaaDoor
open Go.RowKit

theorem after_all {W : World} {a : Option Addr} {n c lo : Nat} {zs : List Int} (hB : Bytes W (.slice a n c) zs) (hn : n = zs.length) (h1 : lo ≤ n) (h3 : n ≤ c) :
    ∃ v, (∀ w, Calls Tryd.prog 28 #[.slice a n c, .int .i64 (lo : Int)] w fun e w' => e = .returned v ∧ w = w') ∧ (∀ W', Bytes W' (.slice a n c) zs → Bytes W' v (zs.drop lo)) ∧ ∃ a', v = .slice a' (n - lo) (n - lo) := by
  obtain ⟨v, hv, hb, ha⟩ := piece_after hn h1 h3
  refine ⟨v, fun w => ?_, hb, ha⟩
  have hbig := hB.1
  rw [← hn] at hbig
  clear hB hn hb ha
  go_enter Tryd.func28, Tryd.ntmps28
  go_wp2_with fail
  go_ret
  exact ⟨rfl, rfl⟩
theorem after_calls {W : World} {a : Option Addr} {n c lo : Nat} {zs : List Int} (hB : Bytes W (.slice a n c) zs) (hn : n = zs.length) (h1 : lo ≤ n) (h3 : n ≤ c) :
    ∃ v, (∀ w, Calls Tryd.prog 28 #[.slice a n c, .int .i64 (lo : Int)] w fun e w' => e = .returned v ∧ w = w') ∧ Bytes W v (zs.drop lo) ∧ ∃ a', v = .slice a' (n - lo) (n - lo) := by
  obtain ⟨v, hv, hb, ha⟩ := after_all hB hn h1 h3
  exact ⟨v, hv, hb W hB, ha⟩


set_option maxRecDepth 100000 in
set_option maxHeartbeats 1000000 in
theorem take_yes_some (b off n c : Nat) (zs rest : List Int) (x : Nat) (w : World) (hB : Bytes w (.slice (some ⟨b, off, none⟩) n c) zs) (hcell : ∀ j, j < zs.length → w.cell? ⟨b, off + j, none⟩ = some (.int .u8 (zs.getD j 0))) (hn : n = zs.length) (hnc : n ≤ c) (hx : PackMath.Begins zs x rest) :
    ∃ v, (Calls Tryd.prog 27 #[.slice (some ⟨b, off, none⟩) n c] w fun e w' => e = .returned (.tuple #[.int .u64 x, v, .bool true]) ∧ w = w') ∧ (∀ W, Bytes W (.slice (some ⟨b, off, none⟩) n c) zs → Bytes W v rest) ∧ ∃ a', v = .slice a' rest.length rest.length := by
  have hl : zs.length = (PackMath.num x).length + rest.length := by rw [hx.2, List.length_append]
  obtain ⟨v, hv, hb, ha⟩ := after_all (lo := (PackMath.num x).length) hB hn (by omega) hnc
  refine ⟨v, ?_, fun W hW => by have := hb W hW; rw [hx.2] at this; simpa using this, by rwa [show n - (PackMath.num x).length = rest.length by omega] at ha⟩
  clear hb ha
  have hbig := hB.1
  rw [← hn] at hbig
  have Hn := Lib.hid hn; clear hn
  have Hv := Lib.hid hv; clear hv
  have Hl := Lib.hid hl; clear hl
  have Hx := Lib.hid hx; clear hx
  have Hc := Lib.hid hcell; clear hcell hB
  go_enter Tryd.func27, Tryd.ntmps27
  go_wp2_with fail
  go_step3
  go_wp2_with fail
  go_step3
  go_wp2_with fail
  go_loop [2, 9] (fun v i => ∃ k m r : Nat, k ≤ 9 ∧ k < n ∧ i = .int .i64 k ∧ v = .int .u64 m ∧ Hid (Going zs rest x k m r)) (fun _ i => n - (intOf i).toNat)
  case atStart => exact ⟨0, 0, x, by omega, by have := PackMath.num_pos x; have := Hn.out; have := Hl.out; omega, rfl, rfl, [], rfl, by simpa using Hx.out.2, by simp, PackMath.read_nil, Or.inl rfl⟩
  case round =>
    obtain ⟨k, m, r, hk9, hkn, rfl, rfl, Hg⟩ := hrel
    by_cases hge : 128 ≤ r
    · obtain ⟨h1, h2, h3⟩ := Hg.out.more hge
      have hk8 : k ≤ 8 := by
        by_cases e : k = 9
        · have := Hg.out.nine Hx.out.1 e; omega
        · omega
      have hk1 : k + 1 < n := by have := Hn.out; omega
      have Hg2 := Lib.hid h3; clear h3
      have hc1 := Hc.out k (by omega)
      rw [h1] at hc1
      have hor := or_shift m k (r % 128) Hg.out.low (by have := Hg.out.fits; have := Hx.out.1; omega)
      clear h1 h2
      obtain ⟨d, Hd⟩ : ∃ d : Nat, Hid (r % 128 = d) := ⟨_, rfl⟩
      have hd : d < 128 := by rw [← Hd.out]; omega
      rw [Hd.out] at hc1 hor
      obtain ⟨m2, Hm2⟩ : ∃ m2 : Nat, Hid (m + 128 ^ k * d = m2) := ⟨_, rfl⟩
      rw [Hm2.out] at hor
      rw [Int.natCast_add] at hc1
      have hk9' : ((k : Int) == 9) = false := beq_eq_false_iff_ne.2 (by omega)
      clear hge
      go_wp2_with fail
      go_round
      case rel => exact ⟨k + 1, m2, r / 128, by omega, by omega, by go_num, rfl, by rw [← Hm2.out, ← Hd.out]; exact Hg2⟩
      case measure => simp [intOf]; omega
    · have hr : r < 128 := by omega
      obtain ⟨h1, h2, h3, h4⟩ := Hg.out.last hr
      have h9 : k = 9 → r ≤ 1 := Hg.out.nine Hx.out.1
      have h0 := Hg.out.zero
      have hc1 := Hc.out k (by have := Hn.out; omega)
      rw [h1] at hc1
      have hor := or_shift m k r h2 (by have := Hx.out.1; omega)
      rw [← h3] at hor
      have hv := Hv.out
      rw [h4] at hv
      have Hv2 : Hid (∀ w, Calls Tryd.prog 28 #[.slice (some ⟨b, off, none⟩) n c, .int .i64 ((k : Int) + 1)] w fun e w' => e = .returned v ∧ w = w') := by
        exact hv
      clear h1 h2 h3 h4 hv hge
      by_cases h9' : k = 9
      · have hr0 : 0 < r := by omega
        have hr1 : r ≤ 1 := h9 h9'
        have hk9' : ((k : Int) == 9) = true := beq_iff_eq.2 (by omega)
        have hz : ((r : Int) == 0) = false := beq_eq_false_iff_ne.2 (by omega)
        clear h9' h9 h0
        go_wp2_with (go_at_call 28; refine (Hv2.out _).mono ?_; rintro e w' ⟨rfl, rfl⟩)
        try rw [Exit.noGoto_ret]
        go_ret3
        exact ⟨rfl, rfl⟩
      · have hk9' : ((k : Int) == 9) = false := beq_eq_false_iff_ne.2 (by omega)
        by_cases hr0 : 0 < r
        · have hz : ((r : Int) == 0) = false := beq_eq_false_iff_ne.2 (by omega)
          clear h9' h9 h0
          go_wp2_with (go_at_call 28; refine (Hv2.out _).mono ?_; rintro e w' ⟨rfl, rfl⟩)
          try rw [Exit.noGoto_ret]
          go_ret3
          exact ⟨rfl, rfl⟩
        · have hk0 : k = 0 := by omega
          have hr00 : r = 0 := by omega
          have hz : ((r : Int) == 0) = true := beq_iff_eq.2 (by omega)
          have hz2 : decide (0 < (k : Int)) = false := by simp; omega
          have hz3 : ¬ (0 < k) := by omega
          clear h9' h9 h0 hk0 hr00 hr0
          go_wp2_with (go_at_call 28; refine (Hv2.out _).mono ?_; rintro e w' ⟨rfl, rfl⟩)
          try rw [Exit.noGoto_ret]
          go_ret3
          exact ⟨rfl, rfl⟩

theorem take_all (a : Option Addr) (n c : Nat) (zs rest : List Int) (x : Nat) (w : World) (hB : Bytes w (.slice a n c) zs) (hn : n = zs.length) (hnc : n ≤ c) (hx : PackMath.Begins zs x rest) :
    ∃ v, (Calls Tryd.prog 27 #[.slice a n c] w fun e w' => e = .returned (.tuple #[.int .u64 x, v, .bool true]) ∧ w = w') ∧ (∀ W, Bytes W (.slice a n c) zs → Bytes W v rest) ∧ ∃ a', v = .slice a' rest.length rest.length := by
  obtain ⟨h1, h2, ⟨a0, c0, h3, h4, h5⟩ | ⟨b, off, c0, h3, h4⟩⟩ := id hB
  · have := hx.2
    have hp := PackMath.num_pos x
    rw [h5] at this
    have := congrArg List.length this
    simp only [List.length_nil, List.length_append] at this
    omega
  · simp only [Value.slice.injEq] at h3
    obtain ⟨rfl, _, rfl⟩ := h3
    exact take_yes_some b off n c zs rest x w hB h4 hn hnc hx

theorem take_yes (a : Option Addr) (n c : Nat) (zs rest : List Int) (x : Nat) (w : World) (hB : Bytes w (.slice a n c) zs) (hn : n = zs.length) (hnc : n ≤ c) (hx : PackMath.Begins zs x rest) :
    ∃ v, (Calls Tryd.prog 27 #[.slice a n c] w fun e w' => e = .returned (.tuple #[.int .u64 x, v, .bool true]) ∧ w = w') ∧ Bytes w v rest ∧ ∃ a', v = .slice a' rest.length rest.length := by
  obtain ⟨v, h1, h2, h3⟩ := take_all a n c zs rest x w hB hn hnc hx
  exact ⟨v, h1, h2 w hB, h3⟩

set_option maxRecDepth 100000 in
set_option maxHeartbeats 1000000 in
theorem take_no_some (b off n c : Nat) (zs : List Int) (w : World) (hB : Bytes w (.slice (some ⟨b, off, none⟩) n c) zs) (hcell : ∀ j, j < zs.length → w.cell? ⟨b, off + j, none⟩ = some (.int .u8 (zs.getD j 0))) (hn : n = zs.length) (hx : PackMath.Bare zs) :
    Calls Tryd.prog 27 #[.slice (some ⟨b, off, none⟩) n c] w fun e w' => e = .returned (.tuple #[.int .u64 0, .slice none 0 0, .bool false]) ∧ w = w' := by
  have hbig := hB.1
  rw [← hn] at hbig
  have Hs := Lib.hid hB.2.1
  have Hn := Lib.hid hn; clear hn
  have Hx := Lib.hid hx; clear hx
  have Hc := Lib.hid hcell; clear hcell hB
  go_enter Tryd.func27, Tryd.ntmps27
  go_wp2_with fail
  go_step3
  go_wp2_with fail
  go_step3
  go_wp2_with fail
  go_loop [2, 9] (fun v i => ∃ k m : Nat, k ≤ n ∧ i = .int .i64 k ∧ v = .int .u64 m ∧ Hid (Vain zs k m)) (fun _ i => n - (intOf i).toNat)
  case atStart => exact ⟨0, 0, by omega, rfl, rfl, Vain.start zs⟩
  case round =>
    obtain ⟨k, m, hk, rfl, rfl, Hv⟩ := hrel
    by_cases hlt : k < n
    · obtain ⟨d, h1, h2, h3, h4⟩ := Hv.out.at_ Hx.out (by have := Hn.out; omega) Hs.out
      have hc1 := Hc.out k (by have := Hn.out; omega)
      rw [h1] at hc1
      clear h1
      have H3 := Lib.hid h3; clear h3
      have H4 := Lib.hid h4; clear h4
      have hv9 := Hv.out.2.2
      by_cases h9 : k = 9
      · have hk9' : ((k : Int) == 9) = true := beq_iff_eq.2 (by omega)
        by_cases hd1 : 1 < d
        · clear h9
          go_wp2_with fail
          try rw [Exit.noGoto_ret]
          go_ret3
          exact ⟨rfl, rfl⟩
        · have hd0 : d = 0 := by have := H3.out (by omega); omega
          have hz : ((d : Int) == 0) = true := beq_iff_eq.2 (by omega)
          have hk0 : 0 < k := by omega
          have hdd : d ≤ 1 := by omega
          clear h9 hd0 hd1
          go_wp2_with fail
          try rw [Exit.noGoto_ret]
          go_ret3
          exact ⟨rfl, rfl⟩
      · have hk9' : ((k : Int) == 9) = false := beq_eq_false_iff_ne.2 (by omega)
        have hk8 : k ≤ 8 := by omega
        by_cases hge : 128 ≤ d
        · have Hv2 := Lib.hid (H4.out (by omega) hge)
          obtain ⟨f, hf⟩ : ∃ f : Nat, d = f + 128 := ⟨d - 128, by omega⟩
          subst hf
          have hf2 := Hv.out.fits (k := k) (c := f) (by omega) (by omega)
          have hor := or_shift m k f hf2.1 hf2.2
          obtain ⟨m2, Hm2⟩ : ∃ m2 : Nat, Hid (m + 128 ^ k * f = m2) := ⟨_, rfl⟩
          rw [Hm2.out] at hor
          rw [Nat.add_sub_cancel, Hm2.out] at Hv2
          rw [Int.natCast_add] at hc1
          clear hf2 h9
          go_wp2_with fail
          go_round
          case rel => exact ⟨k + 1, m2, by omega, by go_num, rfl, Hv2⟩
          case measure => simp [intOf]; omega
        · have hd0 : d = 0 := by have := H3.out (by omega); omega
          have hz : ((d : Int) == 0) = true := beq_iff_eq.2 (by omega)
          have hk0 : 0 < k := by have := H3.out (by omega); omega
          have hdd : d < 128 := by omega
          clear h9 hd0 hge
          go_wp2_with fail
          try rw [Exit.noGoto_ret]
          go_ret3
          exact ⟨rfl, rfl⟩
    · go_wp2_with fail
      try rw [Exit.noGoto_ret]
      go_ret3
      exact ⟨rfl, rfl⟩

theorem take_no (a : Option Addr) (n c : Nat) (zs : List Int) (w : World) (hB : Bytes w (.slice a n c) zs) (hn : n = zs.length) (hx : PackMath.Bare zs) :
    Calls Tryd.prog 27 #[.slice a n c] w fun e w' => e = .returned (.tuple #[.int .u64 0, .slice none 0 0, .bool false]) ∧ w = w' := by
  obtain ⟨h1, h2, ⟨a0, c0, h3, h4, h5⟩ | ⟨b, off, c0, h3, h4⟩⟩ := id hB
  · simp only [Value.slice.injEq] at h3
    obtain ⟨rfl, rfl, rfl⟩ := h3
    clear hB hn h1 h2 h4 hx
    go_enter Tryd.func27, Tryd.ntmps27
    go_wp2_with fail
    go_step3
    go_wp2_with fail
    go_step3
    go_wp2_with fail
    refine wp_loop_rounds 1 ?_
    rw [rounds_succ]
    go_wp2_with fail
    try rw [Exit.noGoto_ret]
    go_ret3
    exact ⟨rfl, rfl⟩
  · simp only [Value.slice.injEq] at h3
    obtain ⟨rfl, _, rfl⟩ := h3
    exact take_no_some b off n c zs w hB h4 hn hx
end Go.Proofs.YtfooplicnjjipaaDoor
