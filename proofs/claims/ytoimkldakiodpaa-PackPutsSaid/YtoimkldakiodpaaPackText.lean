/- The walks of TakeText, of the program and of the document. -/
import Derived.Test.YtoimkldakiodpaaPackRefTake
namespace Go.Proofs.Ytoimkldakiodpaa
open Go.RowKit

theorem reftake_no (a : Option Addr) (n c : Nat) (zs : List Int) (w : World) (hB : Bytes w (.slice a n c) zs) (hn : n = zs.length) (hnc : n ≤ c) (hx : PackMath.Bare zs) :
    Calls Try.prog 9 #[.slice a n c] w fun e w' => e = .returned (.tuple #[.int .u64 0, .slice none 0 0, .bool false]) ∧ Below w.heap.size w w' := by
  obtain ⟨h1, h2, ⟨a0, c0, h3, h4, h5⟩ | ⟨b, off, c0, h3, h4⟩⟩ := id hB
  · simp only [Value.slice.injEq] at h3
    obtain ⟨rfl, rfl, rfl⟩ := h3
    clear hB hn h1 h2 h4 hx
    go_enter Try.func9, Try.ntmps9
    go_wp2_with fail
    refine wp_loop_rounds 1 ?_
    rw [rounds_succ]
    go_wp2_with fail
    go_ret3
    exact ⟨rfl, Below.refl _ _⟩
  · simp only [Value.slice.injEq] at h3
    obtain ⟨rfl, _, rfl⟩ := h3
    exact reftake_no_some b off n c zs w hB h4 hn hnc hx

theorem piece_head {W : World} {a : Option Addr} {n c hi : Nat} {zs : List Int} (hB : Bytes W (.slice a n c) zs) (hn : n = zs.length) (h2 : hi ≤ n) (h3 : n ≤ c) :
    ∃ v, (∀ w, (Instr.slice 22 (.slice a n c) none (some (.int .i64 (hi : Int))) none).run Try.prog w = .ok v w) ∧ Bytes W v (zs.take hi) := by
  refine ⟨sliced a 0 hi c 1, fun w => ?_, ?_⟩
  · rw [run_slice_h w 22 a n c elem_bytes .i64 hi (by omega) (by omega), size_bytes]
    simp [Result.andThen]
  · have := bytes_sliced hB hn (Nat.zero_le hi) h2 h3
    rwa [List.drop_zero] at this

/-- No text stands at the head. -/
def NoText (zs : List Int) : Prop := PackMath.Bare zs ∨ ∃ x r, PackMath.Begins zs x r ∧ r.length < x

set_option maxRecDepth 100000 in
set_option maxHeartbeats 400000 in
theorem ttext_yes (a : Option Addr) (n c : Nat) (zs r : List Int) (x : Nat) (w : World) (hB : Bytes w (.slice a n c) zs) (hn : n = zs.length) (hnc : n ≤ c) (hx : PackMath.Begins zs x r) (hxr : x ≤ r.length) :
    ∃ v, (Calls Try.prog 10 #[.slice a n c] w fun e w' => e = .returned (.tuple #[.string (strOfNums (r.take x)), v, .bool true]) ∧ ∃ m, w' = w.drewN m) ∧ Bytes w v (r.drop x) ∧ ∃ a', v = .slice a' (r.length - x) (r.length - x) := by
  obtain ⟨v0, hc0, hb0, a0, rfl⟩ := take_yes a n c zs r x w hB hn hnc hx
  obtain ⟨u, hu, hub⟩ := piece_head (hi := x) hb0 rfl hxr (Nat.le_refl _)
  obtain ⟨v, hv, hvb, a', hva⟩ := after_calls (lo := x) hb0 rfl hxr (Nat.le_refl _)
  refine ⟨v, ?_, hvb, a', hva⟩
  have hbig := hb0.1
  obtain ⟨L, HL⟩ : ∃ L, Hid (r.length = L) := ⟨_, rfl⟩
  rw [HL.out] at hc0 hu hv hbig hxr
  have H0 := Lib.hid hc0; clear hc0
  have Hv := Lib.hid hv; clear hv
  obtain ⟨s, Hs⟩ : ∃ s, Hid (strOfNums (r.take x) = s) := ⟨_, rfl⟩
  have hcv : ∀ q, (convert 22 9 u).run Try.prog (w.drewN q) = .ok (.string s) (w.drewN q) := fun q => by rw [← Hs.out]; exact str_any (w := w.drewN q) hub
  rw [Hs.out]
  clear hb0 hub hvb hva hn hnc hB hx
  go_enter Try.func10, Try.ntmps10
  go_wp2_with (go_at_call 8; refine H0.out.mono ?_; rintro e w' ⟨rfl, rfl⟩)
  go_quiet ((go_at_call 16; exact Calls.quiet_of_same ((Hv.out _).mono fun _ _ ⟨he, hw⟩ => ⟨he, hw.symm⟩)))
  go_wp2_with fail
  go_ret3
  exact ⟨rfl, _, rfl⟩

set_option maxRecDepth 100000 in
set_option maxHeartbeats 400000 in
theorem ttext_no (a : Option Addr) (n c : Nat) (zs : List Int) (w : World) (hB : Bytes w (.slice a n c) zs) (hn : n = zs.length) (hnc : n ≤ c) (hx : NoText zs) :
    Calls Try.prog 10 #[.slice a n c] w fun e w' => e = .returned (.tuple #[.string ByteArray.empty, .slice none 0 0, .bool false]) ∧ w = w' := by
  rcases hx with hx | ⟨x, r, hx, hlt⟩
  · have H0 := Lib.hid (take_no a n c zs w hB hn hx)
    clear hB hn hnc hx
    go_enter Try.func10, Try.ntmps10
    go_wp2_with (go_at_call 8; refine H0.out.mono ?_; rintro e w' ⟨rfl, rfl⟩)
    go_ret3
    exact ⟨rfl, rfl⟩
  · obtain ⟨v0, hc0, hb0, a0, rfl⟩ := take_yes a n c zs r x w hB hn hnc hx
    have hbig := hb0.1
    obtain ⟨L, HL⟩ : ∃ L, Hid (r.length = L) := ⟨_, rfl⟩
    rw [HL.out] at hc0 hbig hlt
    have H0 := Lib.hid hc0; clear hc0
    clear hb0 hn hnc hB hx
    go_enter Try.func10, Try.ntmps10
    go_wp2_with (go_at_call 8; refine H0.out.mono ?_; rintro e w' ⟨rfl, rfl⟩)
    go_ret3
    exact ⟨rfl, rfl⟩

set_option maxRecDepth 100000 in
set_option maxHeartbeats 400000 in
theorem refttext_yes (a : Option Addr) (n c : Nat) (zs r : List Int) (x : Nat) (w : World) (hB : Bytes w (.slice a n c) zs) (hn : n = zs.length) (hnc : n ≤ c) (hx : PackMath.Begins zs x r) (hxr : x ≤ r.length) :
    ∃ v, (Calls Try.prog 11 #[.slice a n c] w fun e w' => e = .returned (.tuple #[.string (strOfNums (r.take x)), v, .bool true]) ∧ Below w.heap.size w w') ∧ Bytes w v (r.drop x) := by
  obtain ⟨v0, hc0, hb0, a0, c0, rfl, hl0⟩ := reftake_yes a n c zs r x w hB hn hnc hx
  obtain ⟨u, hu, hub⟩ := piece_head (hi := x) hb0 rfl hxr hl0
  obtain ⟨v, hv, hvb, _⟩ := piece_from (lo := x) hb0 rfl hxr hl0
  refine ⟨v, ?_, hvb⟩
  have hbig := hb0.1
  obtain ⟨L, HL⟩ : ∃ L, Hid (r.length = L) := ⟨_, rfl⟩
  rw [HL.out] at hc0 hu hv hbig hxr hl0
  have H0 := Lib.hid hc0; clear hc0
  obtain ⟨s, Hs⟩ : ∃ s, Hid (strOfNums (r.take x) = s) := ⟨_, rfl⟩
  have Hcv : Hid (∀ w1 q, Below w.heap.size w w1 → (convert 22 9 u).run Try.prog (w1.drewN q) = .ok (.string s) (w1.drewN q)) := fun w1 q hb => by rw [← Hs.out]; exact str_any (w := w1.drewN q) (hub.later (below_drewN hb q))
  rw [Hs.out]
  clear hb0 hub hvb hn hnc hB hx
  go_enter Try.func11, Try.ntmps11
  go_wp2_with (go_at_call 9; refine H0.out.mono ?_; rintro e w1 ⟨rfl, hb1⟩; have Hb1 := Lib.hid hb1; clear hb1; have hcv := fun q => Hcv.out _ q Hb1.out)
  go_quiet (fail)
  go_wp2_with fail
  go_ret3
  exact ⟨rfl, below_drewN Hb1.out _⟩

set_option maxRecDepth 100000 in
set_option maxHeartbeats 400000 in
theorem refttext_no (a : Option Addr) (n c : Nat) (zs : List Int) (w : World) (hB : Bytes w (.slice a n c) zs) (hn : n = zs.length) (hnc : n ≤ c) (hx : NoText zs) :
    Calls Try.prog 11 #[.slice a n c] w fun e w' => e = .returned (.tuple #[.string ByteArray.empty, .slice none 0 0, .bool false]) ∧ Below w.heap.size w w' := by
  rcases hx with hx | ⟨x, r, hx, hlt⟩
  · have H0 := Lib.hid (reftake_no a n c zs w hB hn hnc hx)
    clear hB hn hnc hx
    go_enter Try.func11, Try.ntmps11
    go_wp2_with (go_at_call 9; refine H0.out.mono ?_; rintro e w1 ⟨rfl, hb1⟩; have Hb1 := Lib.hid hb1; clear hb1)
    go_ret3
    exact ⟨rfl, Hb1.out⟩
  · obtain ⟨v0, hc0, hb0, a0, c0, rfl, hl0⟩ := reftake_yes a n c zs r x w hB hn hnc hx
    have hbig := hb0.1
    obtain ⟨L, HL⟩ : ∃ L, Hid (r.length = L) := ⟨_, rfl⟩
    rw [HL.out] at hc0 hbig hlt
    have H0 := Lib.hid hc0; clear hc0
    clear hb0 hn hnc hB hx
    go_enter Try.func11, Try.ntmps11
    go_wp2_with (go_at_call 9; refine H0.out.mono ?_; rintro e w1 ⟨rfl, hb1⟩; have Hb1 := Lib.hid hb1; clear hb1)
    go_ret3
    exact ⟨rfl, Hb1.out⟩
end Go.Proofs.Ytoimkldakiodpaa
