/- Layer 7's fixed answers, walked. No law is proved here. -/
import Derived.Test.YtokdppjpgeaiiaaTapeStand
import Derived.Lib.SlBytesConst
namespace Go.Proofs.Ytokdppjpgeaiiaa
open Go.RowKit

def wake7 : Tp := ⟨⟨[97, 98], []⟩, ⟨[], []⟩⟩
theorem wake7_write : writeT wake7 false [99, 100] = (⟨⟨[97, 98], [99, 100]⟩, ⟨[], []⟩⟩, 0) := by rfl
theorem wake7_lose : loseT ⟨⟨[97, 98], [99, 100]⟩, ⟨[], []⟩⟩ 1 = ⟨⟨[97, 98, 99], []⟩, ⟨[], []⟩⟩ := by rfl

set_option maxRecDepth 100000 in
set_option maxHeartbeats 2000000 in
theorem awake7 (w : World) : Calls Try.prog 6 #[] w (Says w true) := by
  have hb0 := below_two w (.cells #[.int .u8 97, .int .u8 98] 5 (2, 3)) (.cells #[.int .u8 99, .int .u8 100] 5 (2, 3))
  have g1 : ((w.alloc (.cells #[.int .u8 97, .int .u8 98] 5 (2, 3))).alloc (.cells #[.int .u8 99, .int .u8 100] 5 (2, 3))).heap[w.heap.size]? = some (.cells #[.int .u8 97, .int .u8 98] 5 (2, 3)) := (Below.heap_alloc _ _ _ (by simp)).trans (heap_alloc_new w _)
  have g2 : ((w.alloc (.cells #[.int .u8 97, .int .u8 98] 5 (2, 3))).alloc (.cells #[.int .u8 99, .int .u8 100] 5 (2, 3))).heap[w.heap.size + 1]? = some (.cells #[.int .u8 99, .int .u8 100] 5 (2, 3)) := by
    have := heap_alloc_new (w.alloc (.cells #[.int .u8 97, .int .u8 98] 5 (2, 3))) (.cells #[.int .u8 99, .int .u8 100] 5 (2, 3))
    rwa [World.size_alloc] at this
  have h1 : SB ((w.alloc (.cells #[.int .u8 97, .int .u8 98] 5 (2, 3))).alloc (.cells #[.int .u8 99, .int .u8 100] 5 (2, 3))) ⟨some ⟨w.heap.size, 0, none⟩, 2, 2⟩ [97, 98] := ⟨rfl, Nat.le_refl _, bytes_marked (zs := [97, 98]) g1 rfl (by decide) (by decide)⟩
  have h2 : SB ((w.alloc (.cells #[.int .u8 97, .int .u8 98] 5 (2, 3))).alloc (.cells #[.int .u8 99, .int .u8 100] 5 (2, 3))) ⟨some ⟨w.heap.size + 1, 0, none⟩, 2, 2⟩ [99, 100] := ⟨rfl, Nat.le_refl _, bytes_marked (zs := [99, 100]) g2 rfl (by decide) (by decide)⟩
  clear g1 g2
  have H1 := Lib.hid h1; clear h1
  have H2 := Lib.hid h2; clear h2
  have Hb0 := Lib.hid hb0; clear hb0
  have hcc := fun (w : World) (C : Array Value) (n c : Nat) => Lib.run_convert_bytes_const (P := Try.prog) w 22 5 C n c Try.underlying22 Try.underlying5
  have hcc2 : ∀ (o : Obj) (C : Array Value) (n c : Nat), (convert 22 22 (.slice (some ⟨w.heap.size + 1, 0, none⟩) n c)).run Try.prog ((w.alloc o).alloc (.cells C 5)) = .ok (.slice (some ⟨w.heap.size + 1, 0, none⟩) n c) ((w.alloc o).alloc (.cells C 5 (C.size, C.size + 1))) := by
    intro o C n c
    have := hcc (w.alloc o) C n c
    rwa [World.size_alloc] at this
  go_enter Try.func6, Try.ntmps6
  go_wp2_with fail
  refine (tWrite_calls ⟨⟨⟨some ⟨w.heap.size, 0, none⟩, 2, 2⟩, ⟨none, 0, 0⟩⟩, ⟨⟨none, 0, 0⟩, ⟨none, 0, 0⟩⟩⟩ wake7 false ⟨some ⟨w.heap.size + 1, 0, none⟩, 2, 2⟩ [99, 100] _ ⟨⟨H1.out, SB.nil _⟩, SB.nil _, SB.nil _⟩ ⟨⟨by decide, by decide⟩, by decide, by decide⟩ H2.out (by decide)).mono ?_
  rw [wake7_write]
  rintro e w1 ⟨⟨⟨⟨a1, n1, c1⟩, ⟨a2, n2, c2⟩⟩, ⟨⟨a3, n3, c3⟩, ⟨a4, n4, c4⟩⟩⟩, rfl, hT, _, hb⟩
  have Hb1 := Lib.hid (held_next Hb0.out hb)
  have HT := Lib.hid hT
  clear hb hT
  go_wp2_with fail
  have Hb2 := Lib.hid (held_next Hb1.out (below_box w1 (.cells #[.slice a1 n1 c1, .slice a2 n2 c2, .slice a3 n3 c3, .slice a4 n4 c4] 26)))
  have HX := Lib.hid (Whole.made w1 26 #[.slice a1 n1 c1, .slice a2 n2 c2, .slice a3 n3 c3, .slice a4 n4 c4])
  refine (tLose_calls ⟨⟨⟨a1, n1, c1⟩, ⟨a2, n2, c2⟩⟩, ⟨⟨a3, n3, c3⟩, ⟨a4, n4, c4⟩⟩⟩ _ 1 _ (HT.out.later (below_box w1 _)) ⟨⟨by decide, by decide⟩, by decide, by decide⟩).mono ?_
  rw [wake7_lose]
  rintro e w2 ⟨⟨⟨⟨a5, n5, c5⟩, ⟨a6, n6, c6⟩⟩, ⟨⟨a7, n7, c7⟩, ⟨a8, n8, c8⟩⟩⟩, rfl, hT2, hO2, hb⟩
  have HX2 := Lib.hid (HX.out.later hb HX.out.lt)
  have Hb3 := Lib.hid (held_next Hb2.out hb)
  have hoff := hO2 w1.heap.size (by simp) (HT.out.off (Nat.le_refl _))
  have e6 := hT2.1.2.1
  simp only [List.length_nil] at e6
  subst e6
  have H5 := Lib.hid (hT2.1.1.four hoff.1.1 (.slice a5 n5 c5) (.slice a6 0 c6) (.slice a7 n7 c7) (.slice a8 n8 c8))
  have z0 := HX2.out.cell 0
  have z1 := HX2.out.cell 1
  have z2 := HX2.out.cell 2
  have z3 := HX2.out.cell 3
  have y0 := HX2.out.free 0
  have y1 := HX2.out.free 1
  have y2 := HX2.out.free 2
  have y3 := HX2.out.free 3
  have hlt : w1.heap.size < w2.heap.size := HX2.out.lt
  have hcv := tstr_any H5.out.2.2
  simp only [slV] at hcv
  have e1 : strOfNums [97, 98, 99] = { data := #[97, 98, 99] } := by decide +kernel
  rw [e1] at hcv
  clear hb hT2 hO2 hoff e1
  go_wp2_with fail
  go_ret
  exact ⟨by simp, below_four Hb3.out (by have := Hb1.out.size; exact this) _ _ _ _⟩
end Go.Proofs.Ytokdppjpgeaiiaa
