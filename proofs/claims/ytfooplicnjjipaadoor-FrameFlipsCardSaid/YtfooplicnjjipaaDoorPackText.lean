/- The walks of TakeText. No law is proved here. -/
import Derived.Test.YtfooplicnjjipaaDoorPackTake
import Derived.Test.YtfooplicnjjipaaDoorPackRefTake
import Derived.Test.YtfooplicnjjipaaDoorPackPutText
namespace Go.Proofs.YtfooplicnjjipaaDoor
open Go.RowKit

set_option maxRecDepth 100000 in
set_option maxHeartbeats 400000 in
theorem ttext_yes (a : Option Addr) (n c : Nat) (zs r : List Int) (x : Nat) (w : World) (hB : Bytes w (.slice a n c) zs) (hn : n = zs.length) (hnc : n ≤ c) (hx : PackMath.Begins zs x r) (hxr : x ≤ r.length) :
    ∃ v, (Calls Tryd.prog 21 #[.slice a n c] w fun e w' => e = .returned (.tuple #[.string (strOfNums (r.take x)), v, .bool true]) ∧ ∃ m, w' = w.drewN m) ∧ Bytes w v (r.drop x) ∧ ∃ a', v = .slice a' (r.length - x) (r.length - x) := by
  obtain ⟨v0, hc0, hb0, a0, rfl⟩ := take_yes a n c zs r x w hB hn hnc hx
  obtain ⟨u, hu, hub⟩ := piece_head (hi := x) hb0 rfl hxr (Nat.le_refl _)
  obtain ⟨v, hv, hvb, a', hva⟩ := after_calls (lo := x) hb0 rfl hxr (Nat.le_refl _)
  refine ⟨v, ?_, hvb, a', hva⟩
  have hbig := hb0.1
  obtain ⟨L, HL⟩ : ∃ L, Hid (r.length = L) := ⟨_, rfl⟩
  rw [HL.out] at hc0 hu hv hbig hxr
  have H0 := Lib.hid hc0; clear hc0
  have Hv := Lib.hid hv; clear hv
  obtain ⟨s, Hs⟩ : ∃ s, Hid (strOfNums (r.take x) = s) := ⟨_, rfl⟩
  have hcv : ∀ q, (convert 22 9 u).run Tryd.prog (w.drewN q) = .ok (.string s) (w.drewN q) := fun q => by rw [← Hs.out]; exact str_any (w := w.drewN q) hub
  rw [Hs.out]
  clear hb0 hub hvb hva hn hnc hB hx
  go_enter Tryd.func21, Tryd.ntmps21
  go_wp2_with (go_at_call 27; refine H0.out.mono ?_; rintro e w' ⟨rfl, rfl⟩)
  go_quiet ((go_at_call 28; exact Calls.quiet_of_same ((Hv.out _).mono fun _ _ ⟨he, hw⟩ => ⟨he, hw.symm⟩)))
  go_wp2_with fail
  go_ret3
  exact ⟨rfl, _, rfl⟩

set_option maxRecDepth 100000 in
set_option maxHeartbeats 400000 in
theorem ttext_no (a : Option Addr) (n c : Nat) (zs : List Int) (w : World) (hB : Bytes w (.slice a n c) zs) (hn : n = zs.length) (hnc : n ≤ c) (hx : NoText zs) :
    Calls Tryd.prog 21 #[.slice a n c] w fun e w' => e = .returned (.tuple #[.string ByteArray.empty, .slice none 0 0, .bool false]) ∧ w = w' := by
  rcases hx with hx | ⟨x, r, hx, hlt⟩
  · have H0 := Lib.hid (take_no a n c zs w hB hn hx)
    clear hB hn hnc hx
    go_enter Tryd.func21, Tryd.ntmps21
    go_wp2_with (go_at_call 27; refine H0.out.mono ?_; rintro e w' ⟨rfl, rfl⟩)
    go_ret3
    exact ⟨rfl, rfl⟩
  · obtain ⟨v0, hc0, hb0, a0, rfl⟩ := take_yes a n c zs r x w hB hn hnc hx
    have hbig := hb0.1
    obtain ⟨L, HL⟩ : ∃ L, Hid (r.length = L) := ⟨_, rfl⟩
    rw [HL.out] at hc0 hbig hlt
    have H0 := Lib.hid hc0; clear hc0
    clear hb0 hn hnc hB hx
    go_enter Tryd.func21, Tryd.ntmps21
    go_wp2_with (go_at_call 27; refine H0.out.mono ?_; rintro e w' ⟨rfl, rfl⟩)
    go_ret3
    exact ⟨rfl, rfl⟩
end Go.Proofs.YtfooplicnjjipaaDoor
