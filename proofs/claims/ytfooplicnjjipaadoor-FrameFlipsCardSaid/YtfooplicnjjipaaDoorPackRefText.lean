/- The document's own TakeText. No law is proved here. -/
import Derived.Test.YtfooplicnjjipaaDoorPackRefTake
import Derived.Test.YtfooplicnjjipaaDoorPackRefPutText
namespace Go.Proofs.YtfooplicnjjipaaDoor
open Go.RowKit

set_option maxRecDepth 100000 in
set_option maxHeartbeats 400000 in
theorem refttext_yes (a : Option Addr) (n c : Nat) (zs r : List Int) (x : Nat) (w : World) (hB : Bytes w (.slice a n c) zs) (hn : n = zs.length) (hnc : n ≤ c) (hx : PackMath.Begins zs x r) (hxr : x ≤ r.length) :
    ∃ v, (Calls Tryd.prog 14 #[.slice a n c] w fun e w' => e = .returned (.tuple #[.string (strOfNums (r.take x)), v, .bool true]) ∧ Below w.heap.size w w') ∧ Bytes w v (r.drop x) := by
  obtain ⟨v0, hc0, hb0, a0, c0, rfl, hl0⟩ := reftake_yes a n c zs r x w hB hn hnc hx
  obtain ⟨u, hu, hub⟩ := piece_head (hi := x) hb0 rfl hxr hl0
  obtain ⟨v, hv, hvb, _⟩ := piece_from (lo := x) hb0 rfl hxr hl0
  refine ⟨v, ?_, hvb⟩
  have hbig := hb0.1
  obtain ⟨L, HL⟩ : ∃ L, Hid (r.length = L) := ⟨_, rfl⟩
  rw [HL.out] at hc0 hu hv hbig hxr hl0
  have H0 := Lib.hid hc0; clear hc0
  obtain ⟨s, Hs⟩ : ∃ s, Hid (strOfNums (r.take x) = s) := ⟨_, rfl⟩
  have Hcv : Hid (∀ w1 q, Below w.heap.size w w1 → (convert 22 9 u).run Tryd.prog (w1.drewN q) = .ok (.string s) (w1.drewN q)) := fun w1 q hb => by rw [← Hs.out]; exact str_any (w := w1.drewN q) (hub.later (below_drewN hb q))
  rw [Hs.out]
  clear hb0 hub hvb hn hnc hB hx
  go_enter Tryd.func14, Tryd.ntmps14
  go_wp2_with (go_at_call 22; refine H0.out.mono ?_; rintro e w1 ⟨rfl, hb1⟩; have Hb1 := Lib.hid hb1; clear hb1; have hcv := fun q => Hcv.out _ q Hb1.out)
  go_quiet (fail)
  go_wp2_with fail
  go_ret3
  exact ⟨rfl, below_drewN Hb1.out _⟩

set_option maxRecDepth 100000 in
set_option maxHeartbeats 400000 in
theorem refttext_no (a : Option Addr) (n c : Nat) (zs : List Int) (w : World) (hB : Bytes w (.slice a n c) zs) (hn : n = zs.length) (hnc : n ≤ c) (hx : NoText zs) :
    Calls Tryd.prog 14 #[.slice a n c] w fun e w' => e = .returned (.tuple #[.string ByteArray.empty, .slice none 0 0, .bool false]) ∧ Below w.heap.size w w' := by
  rcases hx with hx | ⟨x, r, hx, hlt⟩
  · have H0 := Lib.hid (reftake_no a n c zs w hB hn hnc hx)
    clear hB hn hnc hx
    go_enter Tryd.func14, Tryd.ntmps14
    go_wp2_with (go_at_call 22; refine H0.out.mono ?_; rintro e w1 ⟨rfl, hb1⟩; have Hb1 := Lib.hid hb1; clear hb1)
    go_ret3
    exact ⟨rfl, Hb1.out⟩
  · obtain ⟨v0, hc0, hb0, a0, c0, rfl, hl0⟩ := reftake_yes a n c zs r x w hB hn hnc hx
    have hbig := hb0.1
    obtain ⟨L, HL⟩ : ∃ L, Hid (r.length = L) := ⟨_, rfl⟩
    rw [HL.out] at hc0 hbig hlt
    have H0 := Lib.hid hc0; clear hc0
    clear hb0 hn hnc hB hx
    go_enter Tryd.func14, Tryd.ntmps14
    go_wp2_with (go_at_call 22; refine H0.out.mono ?_; rintro e w1 ⟨rfl, hb1⟩; have Hb1 := Lib.hid hb1; clear hb1)
    go_ret3
    exact ⟨rfl, Hb1.out⟩
end Go.Proofs.YtfooplicnjjipaaDoor
