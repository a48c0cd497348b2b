/- Text. No law is proved here. -/
import Derived.Test.YtfooplicnjjipaaDoorPackPut
namespace Go.Proofs.YtfooplicnjjipaaDoor
open Go.RowKit

set_option maxRecDepth 100000 in
set_option maxHeartbeats 400000 in
theorem text_calls (a : Option Addr) (n c : Nat) (zs : List Int) (s : ByteArray) (w : World) (hB : Bytes w (.slice a n c) zs) (hn : n = zs.length) (hnc : n ≤ c) (h47 : n ≤ 70368744177000) (hs : s.size ≤ 70368744177000) :
    Calls Tryd.prog 16 #[.slice a n c, .string s] w (Made w (zs ++ textBytes s)) := by
  obtain ⟨i5, hi, hz0, hz1, hz2⟩ := info_parts info_u8
  have Hi := Lib.hid hi; clear hi
  have Hz0 := Lib.hid hz0; clear hz0
  have Hz1 := Lib.hid hz1; clear hz1
  have Hz2 := Lib.hid hz2; clear hz2
  have Hc := Lib.hid (put_calls a n c zs s.size (by omega) w hB hn hnc (by omega)); clear hB
  have Hn := Lib.hid hn; clear hn
  have Hx := Lib.hid (PackMath.num_len_64 s.size (by omega))
  go_enter Tryd.func16, Tryd.ntmps16
  go_wp2_with fail
  refine Hc.out.mono ?_
  rintro e w1 ⟨v1, rfl, hb1, hF1⟩
  have HF1 := Lib.hid hF1; have Hb1 := Lib.hid hb1; clear hF1 hb1
  go_wp2_with (at_builtin; refine wpList_append_text rfl (.tmp 9) (.tmp 10) 22 9 rfl w.heap.size 5 i5 Tryd.underlying22 Tryd.underlying9 Hi.out Hz0.out Hz1.out Hz2.out _ _ rfl HF1.out s rfl (by have := Hx.out; have := Hn.out; rw [List.length_append]; omega) Hb1.out.size ?_; intro v' w' hF hB2; have HF2 := Lib.hid hF; have HB2 := Lib.hid hB2; clear hF hB2)
  go_ret
  exact ⟨v', rfl, Hb1.out.trans HB2.out, by have := HF2.out; rwa [List.append_assoc] at this⟩
end Go.Proofs.YtfooplicnjjipaaDoor
