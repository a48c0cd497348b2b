/- The document's own, layer 7: Sync. No law is proved here. -/
import Derived.Test.YtokdppjpgeaiiaaRefTapeBytes
namespace Go.Proofs.Ytokdppjpgeaiiaa
open Go.RowKit

set_option maxRecDepth 100000 in
set_option maxHeartbeats 4000000 in
theorem refsync_calls (x : TpS) (t : Tp) (sp : Bool) (w : World) (h : TB w x t) (hf : t.fits 1000000) : Calls Try.prog 16 #[tpV x, .bool sp] w (Taped w (TOff · x t) (syncT t sp)) := by
  obtain ⟨⟨⟨a1, n1, c1⟩, ⟨a2, n2, c2⟩⟩, ⟨⟨a3, n3, c3⟩, ⟨a4, n4, c4⟩⟩⟩ := x
  have H := Lib.hid h; clear h
  have HF := Lib.hid hf; clear hf
  have HW := Lib.hid ((Whole.made w 26 #[.slice a1 n1 c1, .slice a2 n2 c2, .slice a3 n3 c3, .slice a4 n4 c4]).alloc (.cells #[.slice none 0 0, .slice none 0 0, .slice none 0 0, .slice none 0 0] 26))
  have HZ := Lib.hid (Whole.made2 w (.cells #[.slice a1 n1 c1, .slice a2 n2 c2, .slice a3 n3 c3, .slice a4 n4 c4] 26) 26 #[.slice none 0 0, .slice none 0 0, .slice none 0 0, .slice none 0 0])
  have Hb0 := Lib.hid (below_two w (.cells #[.slice a1 n1 c1, .slice a2 n2 c2, .slice a3 n3 c3, .slice a4 n4 c4] 26) (.cells #[.slice none 0 0, .slice none 0 0, .slice none 0 0, .slice none 0 0] 26))
  show Calls Try.prog 16 #[.agg #[.slice a1 n1 c1, .slice a2 n2 c2, .slice a3 n3 c3, .slice a4 n4 c4], .bool sp] w _
  cases sp with
  | true =>
    go_enter Try.func16, Try.ntmps16
    go_wp2_with fail
    refine (reftbytes_calls ⟨⟨a3, n3, c3⟩, ⟨a4, n4, c4⟩⟩ t.s _ (H.out.2.later Hb0.out) HF.out.2).mono ?_
    rintro e w1 ⟨⟨a5, n5, c5⟩, rfl, hS, hO, hb⟩
    have HW1 := HW.out.later hb HW.out.lt
    have HZ1 := Lib.hid (HZ.out.later hb HZ.out.lt)
    have Hb1 := Lib.hid (held_next Hb0.out hb)
    have HS := Lib.hid hS
    have HO : Hid (∀ g, g < ((w.alloc (.cells #[.slice a1 n1 c1, .slice a2 n2 c2, .slice a3 n3 c3, .slice a4 n4 c4] 26)).alloc (.cells #[.slice none 0 0, .slice none 0 0, .slice none 0 0, .slice none 0 0] 26)).heap.size → Off g ⟨a5, n5, c5⟩ t.s.all) := fun g hg => hO g hg trivial
    have p0 := HW1.cell 0
    have p1 := HW1.cell 1
    have p2 := HW1.cell 2
    have p3 := HW1.cell 3
    have f2 := HW1.free 2
    have f3 := HW1.free 3
    have z0 := HZ1.out.cell 0
    have z1 := HZ1.out.cell 1
    have z2 := HZ1.out.cell 2
    have z3 := HZ1.out.cell 3
    have y0 := HZ1.out.free 0
    have y1 := HZ1.out.free 1
    have y2 := HZ1.out.free 2
    have y3 := HZ1.out.free 3
    have hlt : w.heap.size + 1 < w1.heap.size := HZ1.out.lt
    clear hb hS hO HW1
    go_wp2_with fail
    have hL := tape_left (i := 2) (j := 3) HZ1.out (Nat.succ_ne_self w.heap.size) (.slice a5 n5 c5) (.slice none 0 0) (.slice a1 n1 c1) (.slice a2 n2 c2) (.slice a5 n5 c5) (.slice none 0 0)
    have k0 := hL.cell 0
    have k1 := hL.cell 1
    have k2 := hL.cell 2
    have k3 := hL.cell 3
    refine bodyPost_ret (v := .agg #[.slice a1 n1 c1, .slice a2 n2 c2, .slice a5 n5 c5, .slice none 0 0]) (by simp [results, Try.results16, go_sem, k0, k1, k2, k3]) rfl ?_
    exact ⟨⟨⟨⟨a1, n1, c1⟩, ⟨a2, n2, c2⟩⟩, ⟨⟨a5, n5, c5⟩, ⟨none, 0, 0⟩⟩⟩, rfl, ⟨⟨(H.out.1.1.later Hb1.out).six (H.out.1.1.off (Nat.le_refl _)) (H.out.1.1.off (Nat.le_succ _)) _ _ _ _ _ _, (H.out.1.2.later Hb1.out).six (H.out.1.2.off (Nat.le_refl _)) (H.out.1.2.off (Nat.le_succ _)) _ _ _ _ _ _⟩, ⟨HS.out.six (HO.out _ (by simp; omega)) (HO.out _ (by simp)) _ _ _ _ _ _, SB.nil _⟩⟩, fun g hg h => ⟨h.1, ⟨HO.out _ (by simp; omega), Off.nil _ _⟩⟩, below_six Hb1.out (Nat.le_refl _) (Nat.le_succ _) _ _ _ _ _ _⟩
  | false =>
    go_enter Try.func16, Try.ntmps16
    go_wp2_with fail
    refine (reftbytes_calls ⟨⟨a1, n1, c1⟩, ⟨a2, n2, c2⟩⟩ t.m _ (H.out.1.later Hb0.out) HF.out.1).mono ?_
    rintro e w1 ⟨⟨a5, n5, c5⟩, rfl, hS, hO, hb⟩
    have HW1 := HW.out.later hb HW.out.lt
    have HZ1 := Lib.hid (HZ.out.later hb HZ.out.lt)
    have Hb1 := Lib.hid (held_next Hb0.out hb)
    have HS := Lib.hid hS
    have HO : Hid (∀ g, g < ((w.alloc (.cells #[.slice a1 n1 c1, .slice a2 n2 c2, .slice a3 n3 c3, .slice a4 n4 c4] 26)).alloc (.cells #[.slice none 0 0, .slice none 0 0, .slice none 0 0, .slice none 0 0] 26)).heap.size → Off g ⟨a5, n5, c5⟩ t.m.all) := fun g hg => hO g hg trivial
    have p0 := HW1.cell 0
    have p1 := HW1.cell 1
    have p2 := HW1.cell 2
    have p3 := HW1.cell 3
    have f2 := HW1.free 0
    have f3 := HW1.free 1
    have z0 := HZ1.out.cell 0
    have z1 := HZ1.out.cell 1
    have z2 := HZ1.out.cell 2
    have z3 := HZ1.out.cell 3
    have y0 := HZ1.out.free 0
    have y1 := HZ1.out.free 1
    have y2 := HZ1.out.free 2
    have y3 := HZ1.out.free 3
    have hlt : w.heap.size + 1 < w1.heap.size := HZ1.out.lt
    clear hb hS hO HW1
    go_wp2_with fail
    have hL := tape_left (i := 0) (j := 1) HZ1.out (Nat.succ_ne_self w.heap.size) (.slice a5 n5 c5) (.slice none 0 0) (.slice a5 n5 c5) (.slice none 0 0) (.slice a3 n3 c3) (.slice a4 n4 c4)
    have k0 := hL.cell 0
    have k1 := hL.cell 1
    have k2 := hL.cell 2
    have k3 := hL.cell 3
    refine bodyPost_ret (v := .agg #[.slice a5 n5 c5, .slice none 0 0, .slice a3 n3 c3, .slice a4 n4 c4]) (by simp [results, Try.results16, go_sem, k0, k1, k2, k3]) rfl ?_
    exact ⟨⟨⟨⟨a5, n5, c5⟩, ⟨none, 0, 0⟩⟩, ⟨⟨a3, n3, c3⟩, ⟨a4, n4, c4⟩⟩⟩, rfl, ⟨⟨HS.out.six (HO.out _ (by simp; omega)) (HO.out _ (by simp)) _ _ _ _ _ _, SB.nil _⟩, ⟨(H.out.2.1.later Hb1.out).six (H.out.2.1.off (Nat.le_refl _)) (H.out.2.1.off (Nat.le_succ _)) _ _ _ _ _ _, (H.out.2.2.later Hb1.out).six (H.out.2.2.off (Nat.le_refl _)) (H.out.2.2.off (Nat.le_succ _)) _ _ _ _ _ _⟩⟩, fun g hg h => ⟨⟨HO.out _ (by simp; omega), Off.nil _ _⟩, h.2⟩, below_six Hb1.out (Nat.le_refl _) (Nat.le_succ _) _ _ _ _ _ _⟩
end Go.Proofs.Ytokdppjpgeaiiaa
