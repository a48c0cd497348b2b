/- Package tape, walked: its small functions. No law is proved here. -/
import Derived.Test.YtokdppjpgeaiiaaConcat
import Derived.Test.YtokdppjpgeaiiaaRefTapeLost
import Derived.WalkKit
import Derived.ProofKit
import Derived.OpenShut
import Derived.WalkSpells
import Derived.Laws.AppendOwn
import Derived.Laws.AppendOwnNone
import Derived.Laws.OwnMore
import Derived.Lib.Hide
import Derived.Deep.Draws
import Derived.RegionTactic
import Derived.LoopTactic
import Derived.BigRegion
import Derived.Deep.LoopGhost
import Derived.Lib.MinMax
import Derived.IntWalk
import Derived.Deep.RegionHeld3
namespace Go.Proofs.Ytokdppjpgeaiiaa
open Go.RowKit
attribute [local go_sem ↓] run_fine

theorem min_held (v : Int) (n : Nat) : max 0 (min v (n : Int)) = ((heldV v n : Nat) : Int) := by
  unfold heldV
  split
  · omega
  · split <;> omega
theorem kept_calls (v : Int) (n : Nat) (w : World) : Calls Try.prog 30 #[.int .i64 v, .int .i64 (n : Int)] w (fun e w' => e = .returned (.int .i64 (heldV v n : Int)) ∧ w = w') := by
  have hm := min_held v n
  go_enter Try.func30, Try.ntmps30
  go_wp2
  go_ret
  exact ⟨by rfl, rfl⟩
/-- how many bytes a tape has -/
def sizeT (t : Tp) : Nat := t.m.all.length + t.s.all.length
set_option maxRecDepth 100000 in
theorem size_calls (x : TpS) (t : Tp) (w : World) (h : TB w x t) (hf : t.fits 1000000) : Calls Try.prog 25 #[tpV x] w (fun e w' => e = .returned (.int .i64 (sizeT t : Nat)) ∧ Below w.heap.size w w') := by
  obtain ⟨⟨⟨a1, n1, c1⟩, ⟨a2, n2, c2⟩⟩, ⟨⟨a3, n3, c3⟩, ⟨a4, n4, c4⟩⟩⟩ := x
  have e1 := h.1.1.1
  have e2 := h.1.2.1
  have e3 := h.2.1.1
  have e4 := h.2.2.1
  simp only at e1 e2 e3 e4
  obtain ⟨⟨f1, f2⟩, f3, f4⟩ := hf
  have hs : sizeT t = n1 + n2 + n3 + n4 := by unfold sizeT Ar.all; rw [List.length_append, List.length_append]; omega
  rw [hs]
  have g1 : IntKind.i64.wrap ((n1 : Int) + (n2 : Int)) = (n1 : Int) + (n2 : Int) := IntWalk.i64_in _ (by omega)
  have g2 : IntKind.i64.wrap ((n1 : Int) + (n2 : Int) + (n3 : Int)) = (n1 : Int) + (n2 : Int) + (n3 : Int) := IntWalk.i64_in _ (by omega)
  have g3 : IntKind.i64.wrap ((n1 : Int) + (n2 : Int) + (n3 : Int) + (n4 : Int)) = (n1 : Int) + (n2 : Int) + (n3 : Int) + (n4 : Int) := IntWalk.i64_in _ (by omega)
  have HW := Lib.hid (Whole.made w 26 #[.slice a1 n1 c1, .slice a2 n2 c2, .slice a3 n3 c3, .slice a4 n4 c4])
  have q0 := HW.out.cell 0
  have q1 := HW.out.cell 1
  have q2 := HW.out.cell 2
  have q3 := HW.out.cell 3
  clear h e1 e2 e3 e4 f1 f2 f3 f4 hs
  show Calls Try.prog 25 #[.agg #[.slice a1 n1 c1, .slice a2 n2 c2, .slice a3 n3 c3, .slice a4 n4 c4]] w _
  go_enter Try.func25, Try.ntmps25
  go_wp2_with fail
  go_ret
  exact ⟨by simp, below_box _ _⟩
set_option maxRecDepth 100000 in
theorem tMay_calls (x : TpS) (t : Tp) (w : World) (h : TB w x t) (hf : t.fits 400000) : Calls Try.prog 10 #[tpV x] w (Says w (mayT t)) := by
  have Hz := Lib.hid (size_calls x t (w.alloc (.cells (tpCells x) 26)) (h.later (below_box w _)) ⟨⟨by have := hf.1.1; omega, by have := hf.1.2; omega⟩, by have := hf.2.1; omega, by have := hf.2.2; omega⟩)
  obtain ⟨⟨⟨a1, n1, c1⟩, ⟨a2, n2, c2⟩⟩, ⟨⟨a3, n3, c3⟩, ⟨a4, n4, c4⟩⟩⟩ := x
  have HW := Lib.hid (Whole.made w 26 #[.slice a1 n1 c1, .slice a2 n2 c2, .slice a3 n3 c3, .slice a4 n4 c4])
  have q0 := HW.out.cell 0
  have q1 := HW.out.cell 1
  have q2 := HW.out.cell 2
  have q3 := HW.out.cell 3
  have hd : (decide ((sizeT t : Int) ≤ 65536)) = mayT t := by unfold mayT sizeT; congr 1; apply propext; omega
  obtain ⟨z, Hzz⟩ : ∃ z, Hid (sizeT t = z) := ⟨_, rfl⟩
  rw [Hzz.out] at Hz hd
  have Hd := Lib.hid hd
  clear h hf hd
  show Calls Try.prog 10 #[.agg #[.slice a1 n1 c1, .slice a2 n2 c2, .slice a3 n3 c3, .slice a4 n4 c4]] w _
  go_enter Try.func10, Try.ntmps10
  go_wp2_with fail
  refine Hz.out.mono ?_
  rintro e w1 ⟨rfl, hb⟩
  have Hb := Lib.hid (held_next (below_box w _) hb)
  clear hb q0 q1 q2 q3
  go_wp2_with fail
  go_ret
  exact ⟨by rw [← Hd.out]; rfl, Hb.out⟩
/-- which area is meant -/
theorem area_calls (g : Nat) (sp : Bool) (w : World) : Calls Try.prog 27 #[.pointer (some ⟨g, 0, none⟩), .bool sp] w (fun e w' => e = .returned (.pointer (some ⟨g, if sp then 2 else 0, none⟩)) ∧ w = w') := by
  cases sp with
  | true =>
    go_enter Try.func27, Try.ntmps27
    go_wp2
    go_ret
    exact ⟨by simp, rfl⟩
  | false =>
    go_enter Try.func27, Try.ntmps27
    go_wp2
    go_ret
    exact ⟨by simp, rfl⟩
/-- a beginning of bytes, with no room behind -/
theorem SB.first {W : World} {s : Sl} {zs : List Int} (h : SB W s zs) {k : Nat} (hk : k ≤ s.n) :
    ∃ s' : Sl, (∀ w, (Instr.slice 22 (slV s) none (some (.int .i64 (k : Int))) (some (.int .i64 (k : Int)))).run Try.prog w = .ok (slV s') w) ∧ SB W s' (zs.take k) ∧ ∀ g, Off g s zs → Off g s' (zs.take k) := by
  obtain ⟨h1, h3, hB⟩ := h
  obtain ⟨a, n, c⟩ := s
  simp only at h1 hk h3
  have hB2 : Bytes W (.slice a n n) zs := by
    obtain ⟨g1, g2, ⟨a0, c0, g3, g4, rfl⟩ | ⟨b, off, c0, g3, g4⟩⟩ := hB
    · simp only [Value.slice.injEq] at g3
      obtain ⟨rfl, rfl, rfl⟩ := g3
      exact bytes_nil _ _ _ (fun _ => rfl)
    · simp only [Value.slice.injEq] at g3
      obtain ⟨rfl, rfl, rfl⟩ := g3
      exact ⟨g1, g2, Or.inr ⟨b, off, _, rfl, g4⟩⟩
  have hv : Bytes W (sliced a 0 k k 1) (zs.take k) := by
    by_cases h0 : k = 0
    · subst h0
      rw [List.take_zero]
      unfold sliced
      exact bytes_nil _ _ _ (fun _ => rfl)
    · obtain ⟨g1, g2, ⟨a0, c0, g3, g4, rfl⟩ | ⟨b, off, c0, g3, g4⟩⟩ := hB2
      · simp at h1; omega
      · simp only [Value.slice.injEq] at g3
        obtain ⟨rfl, rfl, _⟩ := g3
        have hl : (zs.take k).length = k := by rw [List.length_take]; omega
        refine ⟨by rw [hl]; omega, fun x hx => g2 x (List.mem_of_mem_take hx), Or.inr ⟨b, off, k, ?_, fun j hj => ?_⟩⟩
        · rw [hl]; unfold sliced; rw [if_neg h0]; simp [Addr.add]
        · rw [hl] at hj
          rw [g4 j (by omega)]
          simp [List.getD_eq_getElem?_getD, hj]
  refine ⟨⟨(if k = 0 then a else a.map (·.add (0 * 1))), k - 0, k - 0⟩, fun w => ?_, ⟨by rw [List.length_take]; show k - 0 = _; omega, Nat.le_refl _, hv⟩, fun g hg => ?_⟩
  · show (Instr.slice 22 (.slice a n c) none _ _).run _ _ = _
    rw [run_slice_hm w 22 a n c elem_bytes .i64 .i64 k k (by omega) (by omega) (by omega), size_bytes]
    simp [Result.andThen, sliced]
  · rcases hg with h0 | hg
    · exact Or.inl (by rw [h0]; simp)
    · refine Or.inr fun e => hg ?_
      exact sliced_block (a := a) (lo := 0) (hi := k) (c := k) rfl e
/-- the rest of bytes, with no room behind -/
theorem SB.rest {W : World} {s : Sl} {zs : List Int} (h : SB W s zs) {k : Nat} (hk : k ≤ s.n) :
    ∃ s' : Sl, (∀ w, (Instr.slice 22 (slV s) (some (.int .i64 (k : Int))) (some (.int .i64 (s.n : Int))) (some (.int .i64 (s.n : Int)))).run Try.prog w = .ok (slV s') w) ∧ SB W s' (zs.drop k) ∧ ∀ g, Off g s zs → Off g s' (zs.drop k) := by
  obtain ⟨h1, h3, hB⟩ := h
  obtain ⟨a, n, c⟩ := s
  simp only at h1 hk h3
  have hB2 : Bytes W (.slice a n n) zs := by
    obtain ⟨g1, g2, ⟨a0, c0, g3, g4, rfl⟩ | ⟨b, off, c0, g3, g4⟩⟩ := hB
    · simp only [Value.slice.injEq] at g3
      obtain ⟨rfl, rfl, rfl⟩ := g3
      exact bytes_nil _ _ _ (fun _ => rfl)
    · simp only [Value.slice.injEq] at g3
      obtain ⟨rfl, rfl, rfl⟩ := g3
      exact ⟨g1, g2, Or.inr ⟨b, off, _, rfl, g4⟩⟩
  have hv := bytes_sliced hB2 h1 hk (Nat.le_refl n) (Nat.le_refl n)
  rw [h1, List.take_length, ← h1] at hv
  refine ⟨⟨(if n = k then a else a.map (·.add (k * 1))), n - k, n - k⟩, fun w => ?_, ⟨by rw [List.length_drop]; show n - k = _; omega, Nat.le_refl _, hv⟩, fun g hg => ?_⟩
  · show (Instr.slice 22 (.slice a n c) _ _ _).run _ _ = _
    rw [run_slice_lhm w 22 a n c elem_bytes .i64 .i64 .i64 k n n (by omega) (by omega) (by omega) (by omega), size_bytes]
    simp [Result.andThen, sliced]
  · rcases hg with h0 | hg
    · exact Or.inl (by rw [h0]; simp)
    · refine Or.inr fun e => hg ?_
      exact sliced_block (a := a) (lo := k) (hi := n) (c := n) rfl e
set_option maxRecDepth 100000 in
set_option maxHeartbeats 4000000 in
theorem laid_calls (s : Sl) (zs : List Int) (k : Nat) (w : World) (h : SB w s zs) (hk : k ≤ s.n) : Calls Try.prog 28 #[slV s, .int .i64 (k : Int)] w (Areaed w (fun g => Off g s zs) ⟨zs.take k, zs.drop k⟩) := by
  obtain ⟨⟨a6, n6, c6⟩, hs6, hS6, hO6⟩ := h.first hk
  obtain ⟨⟨a7, n7, c7⟩, hs7, hS7, hO7⟩ := h.rest hk
  obtain ⟨a, n, c⟩ := s
  have HS6 := Lib.hid hS6
  have HS7 := Lib.hid hS7
  have HO6 := Lib.hid hO6
  have HO7 := Lib.hid hO7
  have hbn : n ≤ 9223372036854775807 := by have := h.1; have := h.2.2.1; simp only at *; omega
  have hs6' : ∀ w, (Instr.slice 22 (.slice a n c) none (some (.int .i64 (k : Int))) (some (.int .i64 (k : Int)))).run Try.prog w = .ok (.slice a6 n6 c6) w := hs6
  have hs7' : ∀ w, (Instr.slice 22 (.slice a n c) (some (.int .i64 (k : Int))) (some (.int .i64 (n : Int))) (some (.int .i64 (n : Int)))).run Try.prog w = .ok (.slice a7 n7 c7) w := hs7
  have HZ := Lib.hid (Whole.made w 24 #[.slice none 0 0, .slice none 0 0])
  have z0 := HZ.out.cell 0
  have z1 := HZ.out.cell 1
  have y0 := HZ.out.free 0
  have y1 := HZ.out.free 1
  clear hs6 hs7 hS6 hS7 hO6 hO7 h hk
  show Calls Try.prog 28 #[.slice a n c, .int .i64 (k : Int)] w _
  go_enter Try.func28, Try.ntmps28
  go_wp2_with fail
  go_region
  go_wp2_with fail
  refine bodyPost_ret (v := .agg #[.slice a6 n6 c6, .slice a7 n7 c7]) (by simp [results, Try.results28, go_sem]) rfl ?_
  exact ⟨⟨⟨a6, n6, c6⟩, ⟨a7, n7, c7⟩⟩, rfl, ⟨HS6.out.later (below_box w _).drew, HS7.out.later (below_box w _).drew⟩, fun g hg h => ⟨HO6.out g h, HO7.out g h⟩, (below_box w _).drew⟩
set_option maxRecDepth 100000 in
set_option maxHeartbeats 4000000 in
theorem tbytes_calls (x : ArS) (y : Ar) (w : World) (h : AB w x y) (hf : y.fits 1000000) : Calls Try.prog 13 #[arV x] w (OwnedB w y.all) := by
  obtain ⟨⟨a1, n1, c1⟩, ⟨a2, n2, c2⟩⟩ := x
  have HW := Lib.hid (Whole.made w 24 #[.slice a1 n1 c1, .slice a2 n2 c2])
  have q0 := HW.out.cell 0
  have q1 := HW.out.cell 1
  have hb2 := below_two w (.cells #[.slice a1 n1 c1, .slice a2 n2 c2] 24) (.cells #[.slice a1 n1 c1, .slice a2 n2 c2] 22)
  have HG := Whole.made2 w (.cells #[.slice a1 n1 c1, .slice a2 n2 c2] 24) 22 #[.slice a1 n1 c1, .slice a2 n2 c2]
  have hR : RowsB ((w.alloc (.cells #[.slice a1 n1 c1, .slice a2 n2 c2] 24)).alloc (.cells #[.slice a1 n1 c1, .slice a2 n2 c2] 22)) (w.heap.size + 1) 2 (fun k => if k = 0 then ⟨a1, n1, c1⟩ else ⟨a2, n2, c2⟩) (fun k => if k = 0 then y.s else y.l) := by
    intro k hk
    match k, hk with
    | 0, _ => exact ⟨HG.cell 0, h.1.later hb2⟩
    | 1, _ => exact ⟨HG.cell 1, h.2.later hb2⟩
  have e : catN (fun k => if k = 0 then y.s else y.l) 2 = y.all := by simp [catN, Ar.all]
  have hc := concat_calls (w.heap.size + 1) 2 _ _ _ hR (by decide) (by rw [e]; unfold Ar.all; rw [List.length_append]; have := hf.1; have := hf.2; omega)
  rw [e] at hc
  have Hc := Lib.hid hc
  have Hb2 := Lib.hid hb2
  clear hc hR HG hb2 h hf e
  show Calls Try.prog 13 #[.agg #[.slice a1 n1 c1, .slice a2 n2 c2]] w _
  go_enter Try.func13, Try.ntmps13
  go_wp2_with fail
  refine Hc.out.mono ?_
  rintro e w1 ⟨v1, rfl, hO, hb⟩
  have HO := Lib.hid (hO.mono (B' := w.heap.size) (by simp; omega))
  have Hb := Lib.hid (held_next Hb2.out hb)
  clear hO hb
  go_wp2_with fail
  go_ret
  exact ⟨_, rfl, HO.out, Hb.out⟩
theorem tBytes_calls (x : ArS) (y : Ar) (w : World) (h : AB w x y) (hf : y.fits 400000) : Calls Try.prog 13 #[arV x] w (Bytesd w (AOff · x y) y.all) := by
  refine (tbytes_calls x y w h ⟨by have := hf.1; omega, by have := hf.2; omega⟩).mono ?_
  rintro e w' ⟨v, rfl, hO, hb⟩
  obtain ⟨s, rfl, hS, ho⟩ := hO.sl (by unfold Ar.all; rw [List.length_append]; have := hf.1; have := hf.2; omega)
  exact ⟨s, rfl, hS, fun g hg _ => ho g hg, hb⟩
end Go.Proofs.Ytokdppjpgeaiiaa
