/- The document's own, layer 7: May. No law is proved here. -/
import Derived.Test.YtokdppjpgeaiiaaRefTapeBytes
import Derived.Deep.RegionHeld3
namespace Go.Proofs.Ytokdppjpgeaiiaa
open Go.RowKit

set_option maxRecDepth 100000 in
set_option maxHeartbeats 4000000 in
theorem reftmay_calls (x : TpS) (t : Tp) (w : World) (h : TB w x t) (hf : t.fits 1000000) : Calls Try.prog 11 #[tpV x] w (Says w (mayT t)) := by
  obtain ⟨⟨⟨a1, n1, c1⟩, ⟨a2, n2, c2⟩⟩, ⟨⟨a3, n3, c3⟩, ⟨a4, n4, c4⟩⟩⟩ := x
  have H := Lib.hid h; clear h
  have HF := Lib.hid hf; clear hf
  obtain ⟨W1, hW1⟩ : ∃ z, w.alloc (.cells #[.slice a1 n1 c1, .slice a2 n2 c2, .slice a3 n3 c3, .slice a4 n4 c4] 26) = z := ⟨_, rfl⟩
  have HW : Hid (Whole W1 w.heap.size 26 #[.slice a1 n1 c1, .slice a2 n2 c2, .slice a3 n3 c3, .slice a4 n4 c4]) := by rw [← hW1]; exact Whole.made w _ _
  have Hb0 : Hid (Below w.heap.size w W1) := by rw [← hW1]; exact below_box w _
  obtain ⟨M1, HM1⟩ : ∃ z, Hid (t.m.all.length = z) := ⟨_, rfl⟩
  obtain ⟨M2, HM2⟩ : ∃ z, Hid (t.s.all.length = z) := ⟨_, rfl⟩
  have hm1 : M1 ≤ 2000000 := by rw [← HM1.out]; unfold Ar.all; rw [List.length_append]; have := HF.out.1.1; have := HF.out.1.2; omega
  have hm2 : M2 ≤ 2000000 := by rw [← HM2.out]; unfold Ar.all; rw [List.length_append]; have := HF.out.2.1; have := HF.out.2.2; omega
  have E1 : Hid (IntKind.i64.wrap ((M1 : Int) + (M2 : Int)) = (M1 : Int) + (M2 : Int)) := IntWalk.i64_in _ (by omega)
  obtain ⟨r, Hr⟩ : ∃ z, Hid (mayT t = z) := ⟨_, rfl⟩
  rw [Hr.out]
  have Hr2 : Hid (decide (M1 + M2 ≤ 65536) = r) := by rw [← Hr.out, ← HM1.out, ← HM2.out]; exact rfl
  have KP : Hid (∀ w', Below W1.heap.size W1 w' → Below W1.heap.size W1 w' ∧ w'.cell? ⟨w.heap.size, 0, none⟩ = some (.slice a1 n1 c1) ∧ w'.cell? ⟨w.heap.size, 1, none⟩ = some (.slice a2 n2 c2) ∧ w'.cell? ⟨w.heap.size, 2, none⟩ = some (.slice a3 n3 c3) ∧ w'.cell? ⟨w.heap.size, 3, none⟩ = some (.slice a4 n4 c4)) :=
    fun w' h => ⟨h, (HW.out.later h HW.out.lt).cell 0, (HW.out.later h HW.out.lt).cell 1, (HW.out.later h HW.out.lt).cell 2, (HW.out.later h HW.out.lt).cell 3⟩
  have O1 : Hid (∀ w', Below W1.heap.size W1 w' → Calls Try.prog 14 #[.agg #[.slice a1 n1 c1, .slice a2 n2 c2]] w' (fun e w'' => ∃ a c, e = .returned (.slice a M1 c) ∧ Below w'.heap.size w' w'')) :=
    fun w' h => (reftbytes_calls ⟨⟨a1, n1, c1⟩, ⟨a2, n2, c2⟩⟩ t.m w' (H.out.1.later (held_next Hb0.out h)) HF.out.1).mono fun e w'' ⟨s, he, hs, _, hb⟩ => ⟨s.a, s.c, by rw [he, ← HM1.out, ← hs.1], hb⟩
  have O2 : Hid (∀ w', Below W1.heap.size W1 w' → Calls Try.prog 14 #[.agg #[.slice a3 n3 c3, .slice a4 n4 c4]] w' (fun e w'' => ∃ a c, e = .returned (.slice a M2 c) ∧ Below w'.heap.size w' w'')) :=
    fun w' h => (reftbytes_calls ⟨⟨a3, n3, c3⟩, ⟨a4, n4, c4⟩⟩ t.s w' (H.out.2.later (held_next Hb0.out h)) HF.out.2).mono fun e w'' ⟨s, he, hs, _, hb⟩ => ⟨s.a, s.c, by rw [he, ← HM2.out, ← hs.1], hb⟩
  show Calls Try.prog 11 #[.agg #[.slice a1 n1 c1, .slice a2 n2 c2, .slice a3 n3 c3, .slice a4 n4 c4]] w _
  go_enter Try.func11, Try.ntmps11
  go_wp2_with fail
  clear hW1
  go_region_held3 (fun w' => Below W1.heap.size W1 w' ∧ w'.cell? ⟨w.heap.size, 0, none⟩ = some (.slice a1 n1 c1) ∧ w'.cell? ⟨w.heap.size, 1, none⟩ = some (.slice a2 n2 c2) ∧ w'.cell? ⟨w.heap.size, 2, none⟩ = some (.slice a3 n3 c3) ∧ w'.cell? ⟨w.heap.size, 3, none⟩ = some (.slice a4 n4 c4))
    (first | exact KP.out _ (Below.refl _ _).drew | (refine KP.out _ ?_; assumption))
    (first | (go_at_call 14; have hcur := (‹Below W1.heap.size W1 _ ∧ _ ∧ _›).1; have hcall := O1.out _ hcur; (with_reducible refine hcall.mono ?_); rintro e wn ⟨a5, c5, rfl, hb⟩; have hS := held_next hcur hb; clear hb hcall) | (go_at_call 14; have hcur := (‹Below W1.heap.size W1 _ ∧ _ ∧ _›).1; have hcall := O2.out _ hcur; (with_reducible refine hcall.mono ?_); rintro e wn ⟨a6, c6, rfl, hb⟩; have hS := held_next hcur hb; clear hb hcall))
  all_goals go_wp2_with fail
  all_goals go_ret
  all_goals exact ⟨by rw [← Hr2.out]; simp [E1.out]; omega, held_next Hb0.out (by assumption)⟩
end Go.Proofs.Ytokdppjpgeaiiaa
