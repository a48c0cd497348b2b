/- Layer 8's fixed answers, walked. No law is proved here. -/
import Derived.Test.YtfooplicnjjipaaDoorFrameStand
import Derived.Lib.SlBytesConst
namespace Go.Proofs.YtfooplicnjjipaaDoor
open Go.RowKit

theorem frm_nil : FrameMath.frm [] = [0, 141, 239, 2, 210] := by decide +kernel
theorem wake8 : FrameMath.Scans [0, 141, 239, 2, 210, 1] [[]] [1] := by
  refine ⟨by rw [FrameMath.frames_cons, FrameMath.frames_nil, frm_nil]; rfl, fun p x h => ?_⟩
  have h1 := congrArg List.length h
  rw [List.length_append, FrameMath.frm_length] at h1
  have := FrameMath.sizeN_pos p.length
  simp at h1
  omega
set_option maxRecDepth 100000 in
set_option maxHeartbeats 2000000 in
theorem awake8 (w : World) (hT : Tab w) : Calls Tryd.prog 6 #[] w (Says w true) := by
  have hb0 := below_box w (.cells #[.int .u8 0, .int .u8 141, .int .u8 239, .int .u8 2, .int .u8 210, .int .u8 1] 5 (6, 7))
  have g1 : (w.alloc (.cells #[.int .u8 0, .int .u8 141, .int .u8 239, .int .u8 2, .int .u8 210, .int .u8 1] 5 (6, 7))).heap[w.heap.size]? = some (.cells #[.int .u8 0, .int .u8 141, .int .u8 239, .int .u8 2, .int .u8 210, .int .u8 1] 5 (6, 7)) := heap_alloc_new w _
  have h1 : SB (w.alloc (.cells #[.int .u8 0, .int .u8 141, .int .u8 239, .int .u8 2, .int .u8 210, .int .u8 1] 5 (6, 7))) ⟨some ⟨w.heap.size, 0, none⟩, 6, 6⟩ [0, 141, 239, 2, 210, 1] := ⟨rfl, Nat.le_refl _, bytes_marked (zs := [0, 141, 239, 2, 210, 1]) g1 rfl (by decide) (by decide)⟩
  clear g1
  have H1 := Lib.hid h1; clear h1
  have Hb0 := Lib.hid hb0; clear hb0
  have HT := Lib.hid hT; clear hT
  have hcc := fun (w : World) (C : Array Value) (n c : Nat) => Lib.run_convert_bytes_const (P := Tryd.prog) w 22 5 C n c Tryd.underlying22 Tryd.underlying5
  go_enter Tryd.func6, Tryd.ntmps6
  go_wp2_with fail
  clear hcc
  refine (fScan_calls (some ⟨w.heap.size, 0, none⟩) 6 6 _ [[]] [1] _ H1.out (by decide) wake8 (HT.out.later Hb0.out)).mono ?_
  rintro e w1 ⟨A, C, rfl, _, hL, hb⟩
  have hfl : (FrameMath.frames [[]]).length = 5 := by rw [FrameMath.frames_cons, FrameMath.frames_nil, frm_nil]; rfl
  rw [hfl]
  obtain ⟨b, o, ⟨a2, n2, c2⟩, rfl, hc, hS⟩ := hL.at (i := 0) (by decide)
  have hn2 : n2 = 0 := hS.1
  subst hn2
  rw [Nat.add_zero] at hc
  have Hc := Lib.hid hc
  have Hb1 := Lib.hid (held_next Hb0.out hb)
  clear hL hc hS hb hfl
  go_wp2_with fail
  refine (fPut_calls ⟨none, 0, 0⟩ ⟨none, 0, 0⟩ [] [] w1 (SB.nil _) (SB.nil _) (by decide) (by decide) (HT.out.later Hb1.out)).mono ?_
  rw [List.nil_append, frm_nil]
  rintro e w2 ⟨v2, rfl, hb, hF⟩
  obtain ⟨⟨a3, n3, c3⟩, rfl, hS3, _⟩ := SB.fresh_off hF
  have hcv := tstr_any hS3.2.2
  simp only [slV] at hcv
  have e1 : strOfNums [0, 141, 239, 2, 210] = { data := #[0, 141, 239, 2, 210] } := by decide +kernel
  rw [e1] at hcv
  have hc2 : w2.cell? ⟨b, o, none⟩ = some (.slice a2 0 c2) := cell_later hb Hc.out
  have Hb2 := Lib.hid (held_next Hb1.out hb)
  clear hb hF hS3 e1
  go_wp2_with fail
  refine (fSize_calls 0 w2 (by decide)).mono ?_
  have e5 : sizeV 0 = 5 := by decide +kernel
  rw [e5]
  rintro e w3 ⟨rfl, hb⟩
  have Hb3 := Lib.hid (held_next Hb2.out hb)
  clear hb e5 hcv hc2
  go_wp2_with fail
  go_ret
  exact ⟨by simp, Hb3.out⟩
end Go.Proofs.YtfooplicnjjipaaDoor
