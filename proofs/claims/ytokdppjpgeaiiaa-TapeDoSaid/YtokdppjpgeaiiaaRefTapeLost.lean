/- The document's own, layer 7: an area when the power goes. No law is proved here. -/
import Derived.Test.YtokdppjpgeaiiaaRefTapeSmall
import Derived.Deep.RegionHeld3
namespace Go.Proofs.Ytokdppjpgeaiiaa
open Go.RowKit

/-- two cells written -/
theorem area_left {w1 : World} {g : Nat} {T : TypeId} {z0 z1 : Value} (hz : Whole w1 g T #[z0, z1]) (x0 x1 : Value) : Whole ((w1.setCell ⟨g, 0, none⟩ x0).setCell ⟨g, 1, none⟩ x1) g T #[x0, x1] := (hz.set 0 x0).set 1 x1
theorem SB.two {w1 : World} {g : Nat} {s : Sl} {zs : List Int} (h : SB w1 s zs) (hg : Off g s zs) (x0 x1 : Value) : SB ((w1.setCell ⟨g, 0, none⟩ x0).setCell ⟨g, 1, none⟩ x1) s zs := by
  refine h.past fun b hb => ?_
  rcases hg with h0 | hg
  · exact Or.inr h0
  · rcases hb with h0 | hb
    · exact Or.inr h0
    · have n2 : b ≠ g := fun e => hg (by rw [hb, e])
      refine Or.inl ?_
      rw [Below.heap_setCell _ _ _ _ n2, Below.heap_setCell _ _ _ _ n2]
/-- a beginning of bytes, as it is cut -/
theorem SB.upto {W : World} {s : Sl} {zs : List Int} (h : SB W s zs) {hi : Nat} (h2 : hi ≤ s.n) :
    ∃ s' : Sl, (∀ w, (Instr.slice 22 (slV s) none (some (.int .i64 (hi : Int))) none).run Try.prog w = .ok (slV s') w) ∧ SB W s' (zs.take hi) ∧ ∀ g, Off g s zs → Off g s' (zs.take hi) := by
  obtain ⟨h1, h3, hB⟩ := h
  obtain ⟨a, n, c⟩ := s
  simp only at h1 h2 h3
  have hv := bytes_sliced hB h1 (Nat.zero_le hi) h2 h3
  rw [List.drop_zero] at hv
  refine ⟨⟨(if c = 0 then a else a.map (·.add (0 * 1))), hi - 0, c - 0⟩, fun w => ?_, ⟨by rw [List.length_take]; show hi - 0 = _; omega, by show hi - 0 ≤ c - 0; omega, hv⟩, fun g hg => ?_⟩
  · show (Instr.slice 22 (.slice a n c) none _ none).run _ _ = _
    rw [run_slice_h w 22 a n c elem_bytes .i64 hi (by omega) (by omega), size_bytes]
    simp [Result.andThen, sliced]
  · rcases hg with h0 | hg
    · exact Or.inl (by rw [h0]; simp)
    · refine Or.inr fun e => hg ?_
      exact sliced_block (a := a) (lo := 0) (hi := hi) (c := c) rfl e

set_option maxRecDepth 100000 in
set_option maxHeartbeats 4000000 in
theorem reflost_calls (x : ArS) (y : Ar) (keep : Int) (w : World) (h : AB w x y) (hf : y.fits 1000000) : Calls Try.prog 32 #[arV x, .int .i64 keep] w (Areaed w (AOff · x y) (lostA y keep)) := by
  obtain ⟨⟨a1, n1, c1⟩, ⟨a2, n2, c2⟩⟩ := x
  have H := Lib.hid h; clear h
  have HF := Lib.hid hf; clear hf
  obtain ⟨k, Hk⟩ : ∃ z, Hid (heldV keep n2 = z) := ⟨_, rfl⟩
  have hk2 : k ≤ n2 := by rw [← Hk.out]; exact heldV_le _ _
  have hn1 : n1 ≤ 1000000 := by have := HF.out.1; have := H.out.1.1; simp only at this; omega
  have hn2 : n2 ≤ 1000000 := by have := HF.out.2; have := H.out.2.1; simp only at this; omega
  have Hkk : Hid (lostA y keep = ⟨y.all.take (n1 + k), []⟩) := by
    have e1 := H.out.1.1
    have e2 := H.out.2.1
    simp only at e1 e2
    unfold lostA
    rw [← e1, ← e2, Hk.out]; exact rfl
  rw [Hkk.out]
  have e3 : IntKind.i64.wrap ((n1 : Int) + (k : Int)) = (n1 : Int) + (k : Int) := IntWalk.i64_in _ (by omega)
  obtain ⟨W1, hW1⟩ : ∃ z, (w.alloc (.cells #[.slice a1 n1 c1, .slice a2 n2 c2] 24)).alloc (.cells #[.slice none 0 0, .slice none 0 0] 24) = z := ⟨_, rfl⟩
  have HW : Hid (Whole W1 w.heap.size 24 #[.slice a1 n1 c1, .slice a2 n2 c2]) := by rw [← hW1]; exact (Whole.made w _ _).alloc _
  have HZ : Hid (Whole W1 (w.heap.size + 1) 24 #[.slice none 0 0, .slice none 0 0]) := by rw [← hW1]; exact Whole.made2 w _ _ _
  have Hb0 : Hid (Below w.heap.size w W1) := by rw [← hW1]; exact below_two w _ _
  have hs1 : w.heap.size + 1 < W1.heap.size := HZ.out.lt
  have KP : Hid (∀ w', Below W1.heap.size W1 w' → Below W1.heap.size W1 w' ∧ w'.cell? ⟨w.heap.size, 0, none⟩ = some (.slice a1 n1 c1) ∧ w'.cell? ⟨w.heap.size, 1, none⟩ = some (.slice a2 n2 c2)) := fun w' h => ⟨h, (HW.out.later h HW.out.lt).cell 0, (HW.out.later h HW.out.lt).cell 1⟩
  show Calls Try.prog 32 #[.agg #[.slice a1 n1 c1, .slice a2 n2 c2], .int .i64 keep] w _
  go_enter Try.func32, Try.ntmps32
  go_wp2_with fail
  clear hW1
  go_region_held3 (fun w' => Below W1.heap.size W1 w' ∧ w'.cell? ⟨w.heap.size, 0, none⟩ = some (.slice a1 n1 c1) ∧ w'.cell? ⟨w.heap.size, 1, none⟩ = some (.slice a2 n2 c2))
    (first | exact KP.out _ (Below.refl _ _).drew | (refine KP.out _ ?_; assumption))
    (first | (go_at_call 31; have hcur := (‹Below W1.heap.size W1 _ ∧ _ ∧ _›).1; refine (refheld_calls keep n2 _).mono ?_; rw [Hk.out]; rintro e wn ⟨rfl, rfl⟩) | fail)
  have HW2 : Hid (Whole W1.drew w.heap.size 24 #[.slice a1 n1 c1, .slice a2 n2 c2]) := HW.out.drew
  have HZ2 : Hid (Whole W1.drew (w.heap.size + 1) 24 #[.slice none 0 0, .slice none 0 0]) := HZ.out.drew
  have Hb2 : Hid (Below w.heap.size w W1.drew) := Hb0.out.drew
  have q0 := HW2.out.cell 0
  have q1 := HW2.out.cell 1
  clear e3 KP
  go_wp2_with fail
  refine (reftbytes_calls ⟨⟨a1, n1, c1⟩, ⟨a2, n2, c2⟩⟩ y _ (H.out.later Hb2.out) HF.out).mono ?_
  rintro e w2 ⟨⟨a5, n5, c5⟩, rfl, hS5, hO, hb⟩
  have hO5 : Off (w.heap.size + 1) ⟨a5, n5, c5⟩ y.all := hO _ (by simpa using hs1) trivial
  have hOlt : ∀ g, g < w.heap.size → Off g ⟨a5, n5, c5⟩ y.all := fun g hg => hO g (by simp; omega) trivial
  have hn5 : n1 + k ≤ n5 := by
    have e1 := H.out.1.1
    have e2 := H.out.2.1
    have e5 := hS5.1
    simp only at e1 e2 e5
    unfold Ar.all at e5
    rw [List.length_append] at e5
    omega
  obtain ⟨⟨a6, n6, c6⟩, hsl, hS6, hO6⟩ := SB.upto hS5 hn5
  have HO6 := Lib.hid (hO6 _ hO5)
  have HOlt : Hid (∀ g, g < w.heap.size → Off g ⟨a6, n6, c6⟩ (y.all.take (n1 + k))) := fun g hg => hO6 g (hOlt g hg)
  have HS6 := Lib.hid hS6
  have hsl' : ∀ w, (Instr.slice 22 (.slice a5 n5 c5) none (some (.int .i64 ((n1 : Int) + (k : Int)))) none).run Try.prog w = .ok (.slice a6 n6 c6) w := by
    intro w
    have := hsl w
    rw [Int.natCast_add] at this
    exact this
  have HZ3 := Lib.hid (HZ2.out.later hb (by simpa using hs1))
  have Hb3 := Lib.hid (held_next Hb2.out hb)
  have z0 := HZ3.out.cell 0
  have z1 := HZ3.out.cell 1
  have y0 := HZ3.out.free 0
  have y1 := HZ3.out.free 1
  have hlt : w.heap.size + 1 < w2.heap.size := HZ3.out.lt
  clear hb hS5 hO hO5 hOlt hsl hS6 hO6 q0 q1
  go_wp2_with fail
  have hL := area_left HZ3.out (.slice a6 n6 c6) (.slice none 0 0)
  have k0 := hL.cell 0
  have k1 := hL.cell 1
  refine bodyPost_ret (v := .agg #[.slice a6 n6 c6, .slice none 0 0]) (by simp [results, Try.results32, go_sem, k0, k1]) rfl ?_
  exact ⟨⟨⟨a6, n6, c6⟩, ⟨none, 0, 0⟩⟩, rfl, ⟨HS6.out.two HO6.out _ _, SB.nil _⟩, fun g hg _ => ⟨HOlt.out g hg, Off.nil _ _⟩, (Hb3.out.setCell (p := ⟨w.heap.size + 1, 0, none⟩) (Nat.le_succ _) _).setCell (p := ⟨w.heap.size + 1, 1, none⟩) (Nat.le_succ _) _⟩
end Go.Proofs.Ytokdppjpgeaiiaa
