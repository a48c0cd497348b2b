/- The document's own, layer 7: a tape when the power goes. No law is proved here. -/
import Derived.Test.YtokdppjpgeaiiaaRefTapeLost
namespace Go.Proofs.Ytokdppjpgeaiiaa
open Go.RowKit

/-- four cells written -/
theorem tape_left4 {w1 : World} {g : Nat} {T : TypeId} {z0 z1 z2 z3 : Value} (hz : Whole w1 g T #[z0, z1, z2, z3]) (x0 x1 x2 x3 : Value) :
    Whole ((((w1.setCell ⟨g, 0, none⟩ x0).setCell ⟨g, 1, none⟩ x1).setCell ⟨g, 2, none⟩ x2).setCell ⟨g, 3, none⟩ x3) g T #[x0, x1, x2, x3] := (((hz.set 0 x0).set 1 x1).set 2 x2).set 3 x3
theorem SB.four {w1 : World} {g : Nat} {s : Sl} {zs : List Int} (h : SB w1 s zs) (hg : Off g s zs) (x0 x1 x2 x3 : Value) : SB ((((w1.setCell ⟨g, 0, none⟩ x0).setCell ⟨g, 1, none⟩ x1).setCell ⟨g, 2, none⟩ x2).setCell ⟨g, 3, none⟩ x3) s zs := by
  refine h.past fun b hb => ?_
  rcases hg with h0 | hg
  · exact Or.inr h0
  · rcases hb with h0 | hb
    · exact Or.inr h0
    · have n2 : b ≠ g := fun e => hg (by rw [hb, e])
      refine Or.inl ?_
      rw [Below.heap_setCell _ _ _ _ n2, Below.heap_setCell _ _ _ _ n2, Below.heap_setCell _ _ _ _ n2, Below.heap_setCell _ _ _ _ n2]
theorem below_four {w w1 : World} {g : Nat} (hb : Below w.heap.size w w1) (hg : w.heap.size ≤ g) (x0 x1 x2 x3 : Value) : Below w.heap.size w ((((w1.setCell ⟨g, 0, none⟩ x0).setCell ⟨g, 1, none⟩ x1).setCell ⟨g, 2, none⟩ x2).setCell ⟨g, 3, none⟩ x3) :=
  (((hb.setCell (p := ⟨g, 0, none⟩) hg x0).setCell (p := ⟨g, 1, none⟩) hg x1).setCell (p := ⟨g, 2, none⟩) hg x2).setCell (p := ⟨g, 3, none⟩) hg x3

theorem TB.four {w1 : World} {g : Nat} {x : TpS} {t : Tp} (h : TB w1 x t) (hg : TOff g x t) (x0 x1 x2 x3 : Value) : TB ((((w1.setCell ⟨g, 0, none⟩ x0).setCell ⟨g, 1, none⟩ x1).setCell ⟨g, 2, none⟩ x2).setCell ⟨g, 3, none⟩ x3) x t :=
  ⟨⟨h.1.1.four hg.1.1 _ _ _ _, h.1.2.four hg.1.2 _ _ _ _⟩, h.2.1.four hg.2.1 _ _ _ _, h.2.2.four hg.2.2 _ _ _ _⟩
set_option maxRecDepth 100000 in
set_option maxHeartbeats 4000000 in
theorem reflose_calls (x : TpS) (t : Tp) (keep : Int) (w : World) (h : TB w x t) (hf : t.fits 1000000) : Calls Try.prog 24 #[tpV x, .int .i64 keep] w (Taped w (TOff · x t) (loseT t keep)) := by
  obtain ⟨⟨⟨a1, n1, c1⟩, ⟨a2, n2, c2⟩⟩, ⟨⟨a3, n3, c3⟩, ⟨a4, n4, c4⟩⟩⟩ := x
  have H := Lib.hid h; clear h
  have HF := Lib.hid hf; clear hf
  obtain ⟨W1, hW1⟩ : ∃ z, (w.alloc (.cells #[.slice a1 n1 c1, .slice a2 n2 c2, .slice a3 n3 c3, .slice a4 n4 c4] 26)).alloc (.cells #[.slice none 0 0, .slice none 0 0, .slice none 0 0, .slice none 0 0] 26) = z := ⟨_, rfl⟩
  have HW : Hid (Whole W1 w.heap.size 26 #[.slice a1 n1 c1, .slice a2 n2 c2, .slice a3 n3 c3, .slice a4 n4 c4]) := by rw [← hW1]; exact (Whole.made w _ _).alloc _
  have HZ : Hid (Whole W1 (w.heap.size + 1) 26 #[.slice none 0 0, .slice none 0 0, .slice none 0 0, .slice none 0 0]) := by rw [← hW1]; exact Whole.made2 w _ _ _
  have Hb0 : Hid (Below w.heap.size w W1) := by rw [← hW1]; exact below_two w _ _
  have hs1 : w.heap.size + 1 < W1.heap.size := HZ.out.lt
  have KP : Hid (∀ w', Whole w' w.heap.size 26 #[.slice a1 n1 c1, .slice a2 n2 c2, .slice a3 n3 c3, .slice a4 n4 c4] → Below w.heap.size w w' → Below w.heap.size w w' ∧ w'.cell? ⟨w.heap.size, 0, none⟩ = some (.slice a1 n1 c1) ∧ w'.cell? ⟨w.heap.size, 1, none⟩ = some (.slice a2 n2 c2) ∧ w'.cell? ⟨w.heap.size, 2, none⟩ = some (.slice a3 n3 c3) ∧ w'.cell? ⟨w.heap.size, 3, none⟩ = some (.slice a4 n4 c4)) := fun w' h hb => ⟨hb, h.cell 0, h.cell 1, h.cell 2, h.cell 3⟩
  have O1 : Hid (∀ w', Below w.heap.size w w' → Calls Try.prog 32 #[.agg #[.slice a1 n1 c1, .slice a2 n2 c2], .int .i64 keep] w' (Areaed w' (AOff · ⟨⟨a1, n1, c1⟩, ⟨a2, n2, c2⟩⟩ t.m) (lostA t.m keep))) :=
    fun w' h => reflost_calls ⟨⟨a1, n1, c1⟩, ⟨a2, n2, c2⟩⟩ t.m keep w' (H.out.1.later h) HF.out.1
  have O2 : Hid (∀ w', Below w.heap.size w w' → Calls Try.prog 32 #[.agg #[.slice a3 n3 c3, .slice a4 n4 c4], .int .i64 keep] w' (Areaed w' (AOff · ⟨⟨a3, n3, c3⟩, ⟨a4, n4, c4⟩⟩ t.s) (lostA t.s keep))) :=
    fun w' h => reflost_calls ⟨⟨a3, n3, c3⟩, ⟨a4, n4, c4⟩⟩ t.s keep w' (H.out.2.later h) HF.out.2
  show Calls Try.prog 24 #[.agg #[.slice a1 n1 c1, .slice a2 n2 c2, .slice a3 n3 c3, .slice a4 n4 c4], .int .i64 keep] w _
  go_enter Try.func24, Try.ntmps24
  go_wp2_with fail
  clear hW1
  go_region_held3 (fun w' => Below w.heap.size w w' ∧ w'.cell? ⟨w.heap.size, 0, none⟩ = some (.slice a1 n1 c1) ∧ w'.cell? ⟨w.heap.size, 1, none⟩ = some (.slice a2 n2 c2) ∧ w'.cell? ⟨w.heap.size, 2, none⟩ = some (.slice a3 n3 c3) ∧ w'.cell? ⟨w.heap.size, 3, none⟩ = some (.slice a4 n4 c4))
    (first | exact KP.out _ HW.out.drew Hb0.out.drew | exact KP.out _ HWa.out hSa | exact KP.out _ HWb.out hSb | exact KP.out _ ((((HWb.out.other hne _).other hne _).other hne _).other hne _) (below_four hSb (Nat.le_succ _) _ _ _ _))
    (first | (go_at_call 32; have hcall := O1.out _ Hb0.out.drew; (with_reducible refine hcall.mono ?_); rintro e wa ⟨⟨⟨a5, n5, c5⟩, ⟨a6, n6, c6⟩⟩, rfl, hA, hOA, hb⟩; have hba := held_next (Below.refl W1.heap.size W1).drew hb; have hSa := held_next Hb0.out.drew hb; have HWa := Lib.hid (HW.out.later hba (by omega)); have HAa := Lib.hid hA; have HOa := Lib.hid (hOA (w.heap.size + 1) (by simpa using hs1) (H.out.1.off (by omega))); have HOl := Lib.hid hOA; clear hb hcall hA hOA) | (go_at_call 32; have hcall := O2.out _ hSa; (with_reducible refine hcall.mono ?_); rintro e wb ⟨⟨⟨a7, n7, c7⟩, ⟨a8, n8, c8⟩⟩, rfl, hA, hOA, hb⟩; have hbb := held_next hba hb; have hSb := held_next hSa hb; have hne : w.heap.size ≠ w.heap.size + 1 := (by omega); have HWb := Lib.hid (HW.out.later hbb (by omega)); have HZb := Lib.hid (HZ.out.later hbb hs1); have HAb := Lib.hid hA; have HAa2 := Lib.hid (HAa.out.later hb); have HOb := Lib.hid (hOA (w.heap.size + 1) (by have := hba.size; omega) (H.out.2.off (by omega))); have HOlb := Lib.hid hOA; have z0 := HZb.out.cell 0; have z1 := HZb.out.cell 1; have z2 := HZb.out.cell 2; have z3 := HZb.out.cell 3; have y0 := HZb.out.free 0; have y1 := HZb.out.free 1; have y2 := HZb.out.free 2; have y3 := HZb.out.free 3; have hlt := HZb.out.lt; clear hb hcall hA hOA))
  clear z0 z1 z2 z3 y0 y1 y2 y3
  have hL := tape_left4 HZb.out (.slice a5 n5 c5) (.slice a6 n6 c6) (.slice a7 n7 c7) (.slice a8 n8 c8)
  have k0 := hL.cell 0
  have k1 := hL.cell 1
  have k2 := hL.cell 2
  have k3 := hL.cell 3
  go_wp2_with fail
  refine bodyPost_ret (v := .agg #[.slice a5 n5 c5, .slice a6 n6 c6, .slice a7 n7 c7, .slice a8 n8 c8]) (by simp [results, Try.results24, go_sem, k0, k1, k2, k3]) rfl ?_
  exact ⟨⟨⟨⟨a5, n5, c5⟩, ⟨a6, n6, c6⟩⟩, ⟨⟨a7, n7, c7⟩, ⟨a8, n8, c8⟩⟩⟩, rfl, ⟨⟨HAa2.out.1.four HOa.out.1 _ _ _ _, HAa2.out.2.four HOa.out.2 _ _ _ _⟩, HAb.out.1.four HOb.out.1 _ _ _ _, HAb.out.2.four HOb.out.2 _ _ _ _⟩,
    fun g hg h => ⟨HOl.out g (by simp; omega) h.1, HOlb.out g (by have := hba.size; omega) h.2⟩, below_four hSb (Nat.le_succ _) _ _ _ _⟩
end Go.Proofs.Ytokdppjpgeaiiaa
