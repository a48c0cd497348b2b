/- The document's own, layer 7: a tape cut. No law is proved here. -/
import Derived.Test.YtokdppjpgeaiiaaRefTapeLose
namespace Go.Proofs.Ytokdppjpgeaiiaa
open Go.RowKit

/-- a piece of bytes, as it is cut -/
theorem SB.between {W : World} {s : Sl} {zs : List Int} (h : SB W s zs) {lo hi : Nat} (h1 : lo ≤ hi) (h2 : hi ≤ s.n) :
    ∃ s' : Sl, (∀ w, (Instr.slice 22 (slV s) (some (.int .i64 (lo : Int))) (some (.int .i64 (hi : Int))) none).run Try.prog w = .ok (slV s') w) ∧ SB W s' ((zs.take hi).drop lo) ∧ ∀ g, Off g s zs → Off g s' ((zs.take hi).drop lo) := by
  obtain ⟨hn, h3, hB⟩ := h
  obtain ⟨a, n, c⟩ := s
  simp only at hn h2 h3
  have hv := bytes_sliced hB hn h1 h2 h3
  refine ⟨⟨(if c = lo then a else a.map (·.add (lo * 1))), hi - lo, c - lo⟩, fun w => ?_, ⟨by rw [List.length_drop, List.length_take]; show hi - lo = _; omega, by show hi - lo ≤ c - lo; omega, hv⟩, fun g hg => ?_⟩
  · show (Instr.slice 22 (.slice a n c) _ _ none).run _ _ = _
    rw [run_slice_lh w 22 a n c elem_bytes .i64 .i64 lo hi (by omega) (by omega) (by omega), size_bytes]
    simp [Result.andThen, sliced]
  · rcases hg with h0 | hg
    · exact Or.inl (by rw [h0]; simp)
    · refine Or.inr fun e => hg ?_
      exact sliced_block (a := a) (lo := lo) (hi := hi) (c := c) rfl e

set_option maxRecDepth 100000 in
set_option maxHeartbeats 4000000 in
theorem refcut_calls (x : TpS) (t : Tp) (n : Int) (w : World) (h : TB w x t) (hf : t.fits 1000000) : Calls Try.prog 22 #[tpV x, .int .i64 n] w (Taped w (TOff · x t) (cutT t n)) := by
  obtain ⟨⟨⟨a1, n1, c1⟩, ⟨a2, n2, c2⟩⟩, ⟨⟨a3, n3, c3⟩, ⟨a4, n4, c4⟩⟩⟩ := x
  have H := Lib.hid h; clear h
  have HF := Lib.hid hf; clear hf
  obtain ⟨k, Hk⟩ : ∃ z, Hid (heldV n t.m.all.length = z) := ⟨_, rfl⟩
  obtain ⟨m, Hm⟩ : ∃ z, Hid (heldV (k : Int) t.m.s.length = z) := ⟨_, rfl⟩
  have hk1 : k ≤ t.m.all.length := by rw [← Hk.out]; exact heldV_le _ _
  have hm1 : m ≤ t.m.s.length := by rw [← Hm.out]; exact heldV_le _ _
  have hmk : m ≤ k := by rw [← Hm.out]; unfold heldV; split <;> (try split) <;> omega
  have Hc : Hid (cutT t n = ⟨⟨t.m.all.take m, (t.m.all.take k).drop m⟩, t.s⟩) := by unfold cutT; rw [Hk.out, Hm.out]; exact rfl
  rw [Hc.out]
  obtain ⟨W1, hW1⟩ : ∃ z, (w.alloc (.cells #[.slice a1 n1 c1, .slice a2 n2 c2, .slice a3 n3 c3, .slice a4 n4 c4] 26)).alloc (.cells #[.slice none 0 0, .slice none 0 0, .slice none 0 0, .slice none 0 0] 26) = z := ⟨_, rfl⟩
  have HW : Hid (Whole W1 w.heap.size 26 #[.slice a1 n1 c1, .slice a2 n2 c2, .slice a3 n3 c3, .slice a4 n4 c4]) := by rw [← hW1]; exact (Whole.made w _ _).alloc _
  have HZ : Hid (Whole W1 (w.heap.size + 1) 26 #[.slice none 0 0, .slice none 0 0, .slice none 0 0, .slice none 0 0]) := by rw [← hW1]; exact Whole.made2 w _ _ _
  have Hb0 : Hid (Below w.heap.size w W1) := by rw [← hW1]; exact below_two w _ _
  have hs1 : w.heap.size + 1 < W1.heap.size := HZ.out.lt
  have q0 := HW.out.cell 0
  have q1 := HW.out.cell 1
  show Calls Try.prog 22 #[.agg #[.slice a1 n1 c1, .slice a2 n2 c2, .slice a3 n3 c3, .slice a4 n4 c4], .int .i64 n] w _
  go_enter Try.func22, Try.ntmps22
  go_wp2_with fail
  clear hW1
  refine (reftbytes_calls ⟨⟨a1, n1, c1⟩, ⟨a2, n2, c2⟩⟩ t.m _ (H.out.1.later Hb0.out) HF.out.1).mono ?_
  rintro e w2 ⟨⟨a5, n5, c5⟩, rfl, hS5, hO, hb⟩
  have HW2 := Lib.hid (HW.out.later hb HW.out.lt)
  have HZ2 := Lib.hid (HZ.out.later hb HZ.out.lt)
  have Hb2 := Lib.hid (held_next Hb0.out hb)
  have e5 := hS5.1
  simp only at e5
  obtain ⟨⟨a6, n6, c6⟩, hs6, hS6, hO6⟩ := SB.upto hS5 (hi := m) (by show m ≤ n5; unfold Ar.all at hk1; rw [List.length_append] at hk1; rw [e5]; unfold Ar.all; rw [List.length_append]; omega)
  obtain ⟨⟨a7, n7, c7⟩, hs7, hS7, hO7⟩ := SB.between hS5 (lo := m) (hi := k) hmk (by show k ≤ n5; omega)
  have HS6 := Lib.hid hS6
  have HS7 := Lib.hid hS7
  have HO6 : Hid (∀ g, g < W1.heap.size → Off g ⟨a6, n6, c6⟩ (t.m.all.take m)) := fun g hg => hO6 g (hO g hg trivial)
  have HO7 : Hid (∀ g, g < W1.heap.size → Off g ⟨a7, n7, c7⟩ ((t.m.all.take k).drop m)) := fun g hg => hO7 g (hO g hg trivial)
  have hs6' : ∀ w, (Instr.slice 22 (.slice a5 n5 c5) none (some (.int .i64 (m : Int))) none).run Try.prog w = .ok (.slice a6 n6 c6) w := hs6
  have hs7' : ∀ w, (Instr.slice 22 (.slice a5 n5 c5) (some (.int .i64 (m : Int))) (some (.int .i64 (k : Int))) none).run Try.prog w = .ok (.slice a7 n7 c7) w := hs7
  have Hh1 : Hid (heldV n n5 = k) := by rw [e5]; exact Hk.out
  have Hh2 : Hid (heldV (k : Int) n1 = m) := by have := H.out.1.1.1; simp only at this; rw [this]; exact Hm.out
  have hlw : w.heap.size + 1 < w2.heap.size := HZ2.out.lt
  clear hb hS5 hO hs6 hs7 hS6 hS7 hO6 hO7 q0 q1 e5 hk1 hm1
  go_wp2_with fail
  refine (refheld_calls n n5 _).mono ?_
  rw [Hh1.out]
  rintro e w' ⟨rfl, rfl⟩
  have q0 := HW2.out.cell 0
  go_wp2_with fail
  refine (refheld_calls (k : Int) n1 _).mono ?_
  rw [Hh2.out]
  rintro e w' ⟨rfl, rfl⟩
  have f0 := HW2.out.free 0
  have f1 := HW2.out.free 1
  have q1 := HW2.out.cell 1
  have q2 := HW2.out.cell 2
  have q3 := HW2.out.cell 3
  have z0 := HZ2.out.cell 0
  have z1 := HZ2.out.cell 1
  have z2 := HZ2.out.cell 2
  have z3 := HZ2.out.cell 3
  have y0 := HZ2.out.free 0
  have y1 := HZ2.out.free 1
  have y2 := HZ2.out.free 2
  have y3 := HZ2.out.free 3
  go_wp2_with fail
  go_region
  go_wp2_with fail
  have hL := (tape_left (i := 0) (j := 1) HZ2.out (Nat.succ_ne_self w.heap.size) (.slice a6 n6 c6) (.slice a7 n7 c7) (.slice a6 n6 c6) (.slice a7 n7 c7) (.slice a3 n3 c3) (.slice a4 n4 c4)).drew
  have k0 := hL.cell 0
  have k1 := hL.cell 1
  have k2 := hL.cell 2
  have k3 := hL.cell 3
  refine bodyPost_ret (v := .agg #[.slice a6 n6 c6, .slice a7 n7 c7, .slice a3 n3 c3, .slice a4 n4 c4]) (by simp [results, Try.results22, go_sem, k0, k1, k2, k3]) rfl ?_
  have D := fun (W : World) => (Below.refl W.heap.size W).drew
  exact ⟨⟨⟨⟨a6, n6, c6⟩, ⟨a7, n7, c7⟩⟩, ⟨⟨a3, n3, c3⟩, ⟨a4, n4, c4⟩⟩⟩, rfl,
    ⟨⟨(HS6.out.six (HO6.out _ (by omega)) (HO6.out _ hs1) _ _ _ _ _ _).later (D _), (HS7.out.six (HO7.out _ (by omega)) (HO7.out _ hs1) _ _ _ _ _ _).later (D _)⟩,
      ((H.out.2.1.later Hb2.out).six (H.out.2.1.off (Nat.le_refl _)) (H.out.2.1.off (Nat.le_succ _)) _ _ _ _ _ _).later (D _), ((H.out.2.2.later Hb2.out).six (H.out.2.2.off (Nat.le_refl _)) (H.out.2.2.off (Nat.le_succ _)) _ _ _ _ _ _).later (D _)⟩,
    fun g hg h => ⟨⟨HO6.out g (by omega), HO7.out g (by omega)⟩, h.2⟩, (below_six Hb2.out (Nat.le_refl _) (Nat.le_succ _) _ _ _ _ _ _).drew⟩
end Go.Proofs.Ytokdppjpgeaiiaa
