/- The document's own, layer 7: an area's bytes. No law is proved here. -/
import Derived.Test.YtokdppjpgeaiiaaTapeWords
import Derived.BigRegion
import Derived.WalkSmall
namespace Go.Proofs.Ytokdppjpgeaiiaa
open Go.RowKit
attribute [local go_sem ↓] run_fine

set_option maxRecDepth 100000 in
set_option maxHeartbeats 4000000 in
theorem reftbytes_calls (x : ArS) (y : Ar) (w : World) (h : AB w x y) (hf : y.fits 1000000) : Calls Try.prog 14 #[arV x] w (Bytesd w (fun _ => True) y.all) := by
  obtain ⟨⟨a1, n1, c1⟩, ⟨a2, n2, c2⟩⟩ := x
  obtain ⟨z1, z2⟩ := y
  obtain ⟨⟨e1, g1, B1⟩, ⟨e2, g2, B2⟩⟩ := h
  obtain ⟨f1, f2⟩ := hf
  simp only at e1 g1 B1 e2 g2 B2 f1 f2
  obtain ⟨i5, hi, hz0, hz1, hz2⟩ := info_parts info_u8
  have hb0 := below_box w (.cells #[.slice a1 n1 c1, .slice a2 n2 c2] 24)
  have hb1 : Below w.heap.size w ((w.alloc (.cells #[.slice a1 n1 c1, .slice a2 n2 c2] 24)).alloc (.cells #[] 5)).drew := (below_two w _ _).drew
  have hF : Fresh (w.heap.size + 1) 5 ((w.alloc (.cells #[.slice a1 n1 c1, .slice a2 n2 c2] 24)).alloc (.cells #[] 5)).drew (.slice (some ⟨w.heap.size + 1, 0, none⟩) 0 0) [] := by
    have := fresh_empty (w.alloc (.cells #[.slice a1 n1 c1, .slice a2 n2 c2] 24))
    rw [World.size_alloc] at this
    exact this
  obtain ⟨v1, w1, hr1, F1, b1⟩ := run_append_bytes hF (by simp) (B1.later hb1) e1 g1 (by simp; omega) i5 hi hz0 hz1 hz2
  rw [List.nil_append] at F1
  have hb2 : Below w.heap.size w w1 := hb1.trans (b1.mono (by omega))
  obtain ⟨v2, w2, hr2, F2, b2⟩ := run_append_bytes F1 (by have := b1.size; simp at this; omega) (B2.later hb2) e2 g2 (by omega) i5 hi hz0 hz1 hz2
  have hb3 : Below w.heap.size w w2 := hb2.trans (b2.mono (by omega))
  obtain ⟨⟨a3, n3, c3⟩, rfl, hS, hO⟩ := SB.fresh_off F2
  have HO := Lib.hid hO
  clear hO
  have hf1 : Fine Try.prog ((w.alloc (.cells #[.slice a1 n1 c1, .slice a2 n2 c2] 24)).alloc (.cells #[] 5)).drew #[22, 22] 22 #[.slice (some ⟨w.heap.size + 1, 0, none⟩) 0 0, .slice a1 n1 c1] := ⟨_, _, hr1⟩
  have hv1 : appV Try.prog ((w.alloc (.cells #[.slice a1 n1 c1, .slice a2 n2 c2] 24)).alloc (.cells #[] 5)).drew #[22, 22] 22 #[.slice (some ⟨w.heap.size + 1, 0, none⟩) 0 0, .slice a1 n1 c1] = v1 := by unfold appV; rw [hr1]; rfl
  have hw1 : appW Try.prog ((w.alloc (.cells #[.slice a1 n1 c1, .slice a2 n2 c2] 24)).alloc (.cells #[] 5)).drew #[22, 22] 22 #[.slice (some ⟨w.heap.size + 1, 0, none⟩) 0 0, .slice a1 n1 c1] = w1 := by unfold appW; rw [hr1]; rfl
  have hf2 : Fine Try.prog w1 #[22, 22] 22 #[v1, .slice a2 n2 c2] := ⟨_, _, hr2⟩
  have hv2 : appV Try.prog w1 #[22, 22] 22 #[v1, .slice a2 n2 c2] = .slice a3 n3 c3 := by unfold appV; rw [hr2]; rfl
  have hw2 : appW Try.prog w1 #[22, 22] 22 #[v1, .slice a2 n2 c2] = w2 := by unfold appW; rw [hr2]; rfl
  have c0 : w1.cell? ⟨w.heap.size, 0, none⟩ = some (.slice a1 n1 c1) := by
    have h1 := (Whole.made w 24 #[.slice a1 n1 c1, .slice a2 n2 c2]).alloc (.cells #[] 5)
    exact (h1.drew.later b1 (by omega)).cell 0
  have c1' : w1.cell? ⟨w.heap.size, 1, none⟩ = some (.slice a2 n2 c2) := by
    have h1 := (Whole.made w 24 #[.slice a1 n1 c1, .slice a2 n2 c2]).alloc (.cells #[] 5)
    exact (h1.drew.later b1 (by omega)).cell 1
  have E1 := Lib.hid e1; clear e1
  have E2 := Lib.hid e2; clear e2
  have HS := Lib.hid hS
  have Hb := Lib.hid hb3
  clear hr1 hr2 F1 F2 hF b1 b2 hb0 hb1 hb2 hb3 hS hi hz0 hz1 hz2 B1 B2
  show Calls Try.prog 14 #[.agg #[.slice a1 n1 c1, .slice a2 n2 c2]] w _
  go_enter Try.func14, Try.ntmps14
  go_wp2_with fail
  go_region
  go_wp2_with fail
  go_ret
  exact ⟨⟨a3, n3, c3⟩, by rfl, HS.out, fun g hg _ => HO.out g (by omega), Hb.out⟩
end Go.Proofs.Ytokdppjpgeaiiaa
