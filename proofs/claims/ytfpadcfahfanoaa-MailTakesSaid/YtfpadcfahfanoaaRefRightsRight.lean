/- The document's own, walked: are books right. No law is proved here. -/
import Derived.Test.YtfpadcfahfanoaaMg16
import Derived.WalkKit
import Derived.ProofKit
import Derived.OpenShut
import Derived.WalkSpells
import Derived.Laws.AppendOwn
import Derived.Laws.AppendOwnNone
import Derived.Laws.OwnMore
import Derived.Lib.Hide
import Derived.Deep.Draws
import Derived.Deep.Slices
import Derived.Deep.Fields
import Derived.ChangeSame
import Derived.RegionTactic
import Derived.Maps.AppendAt
import Derived.Lib.SmallJoins
import Derived.WalkLawsBesides
import Derived.LoopTactic
import Derived.IntWalk
import Derived.WalkSmall
import Derived.Deep.QuietTactic
import Derived.BigQuiet
import Derived.Deep.RegionHeld3
import Derived.RangeFuncNested
import Derived.RangeFuncBound
import Derived.RangeFuncLeaves
import Derived.RangeFuncBox
import Derived.Laws.MakeOwn
namespace Go.Proofs.Ytfpadcfahfanoaa
open Go.RowKit

set_option maxRecDepth 100000 in
set_option maxHeartbeats 8000000 in
theorem refright_calls (c : Cf) (a : Option Addr) (m d : Nat) (l : List Rw) (hm : m = l.length) (w : World) (hB : Books w (.slice a m d) l) :
    Calls Try.prog 29 #[cfV c, .slice a m d] w (Says w (rightB c l)) := by
  have hbig : m ≤ 9223372036854775807 := by rw [hm]; exact hB.big
  have HW := Lib.hid (Whole.made w 23 (cfCells c))
  have Hb0 := Lib.hid (below_box w (.cells (cfCells c) 23))
  have HB := Lib.hid hB; clear hB
  have Hm := Lib.hid hm; clear hm
  obtain ⟨n, q, r, p, kk, cc⟩ := c
  obtain ⟨res, Hres⟩ : ∃ z, Hid (rightB ⟨n, q, r, p, kk, cc⟩ l = z) := ⟨_, rfl⟩
  rw [Hres.out]
  obtain ⟨ok, Hok⟩ : ∃ z, Hid (cfB ⟨n, q, r, p, kk, cc⟩ = z) := ⟨_, rfl⟩
  go_enter Try.func29, Try.ntmps29
  go_wp2_with fail
  refine (refcfg_calls ⟨n, q, r, p, kk, cc⟩ _).mono ?_
  rintro e w1 ⟨rfl, hb⟩
  rw [Hok.out]
  have Hb1 := Lib.hid (held_next Hb0.out hb)
  have HW1 := Lib.hid (HW.out.later hb HW.out.lt)
  clear hb
  obtain ⟨d0, d1, d2, d3, d4, d5⟩ := config_cells HW1.out
  simp only at d0 d1 d2 d3 d4 d5
  cases ok with
  | false =>
    obtain rfl : res = false := Hres.out.symm.trans (rightB_no fun h => by
      have := cfB_yes h.1
      rw [Hok.out] at this
      cases this)
    go_wp2_with fail
    go_ret
    exact ⟨rfl, Hb1.out⟩
  | true =>
    by_cases hnm : (m : Int) ≠ n
    · obtain rfl : res = false := Hres.out.symm.trans (rightB_no fun h => hnm (by rw [Hm.out]; exact h.2.1))
      have hnm' : ((m : Int) != n) = true := bne_iff_ne.2 hnm
      go_wp2_with fail
      go_ret
      exact ⟨by rfl, Hb1.out⟩
    have hnme : n = (m : Int) := by omega
    clear hnm
    subst hnme
    go_wp2_with fail
    clear d0 d1 d2 d3 d4 d5
    go_loopw [5] (fun x wr => ∃ k : Nat, k ≤ m ∧ x = .int .i64 k ∧ Hid (∀ q, q < k → mayR (at_ l q).inc (at_ l q).use (at_ l q).out (m : Int) q = true ∧ (at_ l q).inc ≤ cc) ∧ Hid (Below w.heap.size w wr) ∧ Hid (Whole wr w.heap.size 23 (cfCells ⟨m, q, r, p, kk, cc⟩))) (fun x _ => m - (intOf x).toNat)
    case atStart => exact ⟨0, Nat.zero_le _, rfl, fun q hq => absurd hq (Nat.not_lt_zero _), Hb1.out, HW1.out⟩
    case round =>
      obtain ⟨k, hk, rfl, Hl, Hb, HWr⟩ := hrel
      have d0 : wr.cell? ⟨w.heap.size, 0, none⟩ = some (.int .i64 (m : Int)) := HWr.out.cell 0
      by_cases hlt : k < m
      · obtain ⟨b, off, A, C, rfl, _, c0, c1, c2, hN⟩ := HB.out.at (k := k) (by have := Hm.out; omega)
        obtain ⟨x, Hx⟩ : ∃ z, Hid ((at_ l k).inc = z) := ⟨_, rfl⟩
        obtain ⟨y, Hy⟩ : ∃ z, Hid ((at_ l k).use = z) := ⟨_, rfl⟩
        obtain ⟨v, Hv⟩ : ∃ z, Hid (mayR (at_ l k).inc (at_ l k).use (at_ l k).out (m : Int) k = z) := ⟨_, rfl⟩
        rw [Hx.out] at c0
        rw [Hy.out] at c1
        have HN := Lib.hid hN; clear hN
        have KP : Hid (∀ w', Below wr.heap.size wr w' → ((w'.cell? ⟨w.heap.size, 0, none⟩ = some (.int .i64 (m : Int)) ∧ w'.cell? ⟨w.heap.size, 5, none⟩ = some (.int .i64 cc)) ∧ w'.cell? ⟨b, off + k * 3, none⟩ = some (.int .i64 x) ∧ w'.cell? ⟨b, off + k * 3 + 1, none⟩ = some (.int .i64 y) ∧ w'.cell? ⟨b, off + k * 3 + 2, none⟩ = some (.slice A (at_ l k).out.length C))) :=
          fun w' h => ⟨⟨(HWr.out.later h HWr.out.lt).cell 0, (HWr.out.later h HWr.out.lt).cell 5⟩, cell_later (held_next Hb.out h) c0, cell_later (held_next Hb.out h) c1, cell_later (held_next Hb.out h) c2⟩
        have OM : Hid (∀ w', Below wr.heap.size wr w' → Calls Try.prog 48 #[rowV x y (.slice A (at_ l k).out.length C), .int .i64 (m : Int), .int .i64 (k : Int)] w' (Says w' v)) := by
          rw [← Hv.out, Hx.out, Hy.out]
          exact fun w' h => refmay_calls A _ C x y m k (at_ l k).out rfl w' (HN.out.later (held_next Hb.out h))
        clear c0 c1 c2
        have k0 : (0 : Int) ≤ (k : Int) := by omega
        have k1 : (k : Int) < (m : Int) := by omega
        cases v with
        | true =>
          by_cases hxc : cc < x
          · obtain rfl : res = false := Hres.out.symm.trans (rightB_no fun h => by
              have := (h.2.2.1 k (by have := Hm.out; omega)).2
              rw [Hx.out] at this
              simp only at this
              omega)
            go_wp2_with fail
            first | go_region_held3 (fun w' => (w'.cell? ⟨w.heap.size, 0, none⟩ = some (.int .i64 (m : Int)) ∧ w'.cell? ⟨w.heap.size, 5, none⟩ = some (.int .i64 cc)) ∧ w'.cell? ⟨b, off + k * 3, none⟩ = some (.int .i64 x) ∧ w'.cell? ⟨b, off + k * 3 + 1, none⟩ = some (.int .i64 y) ∧ w'.cell? ⟨b, off + k * 3 + 2, none⟩ = some (.slice A (at_ l k).out.length C)) (first | exact KP.out _ (Below.refl _ _).drew | exact KP.out _ hS1) (first | (go_at_call 48; refine (OM.out _ (Below.refl _ _).drew).mono ?_; rintro e w2 ⟨rfl, hb1⟩; have hS1 := held_next ((Below.refl _ _).drew) hb1)) | fail
            all_goals go_wp2_with fail
            all_goals go_ret
            all_goals exact ⟨by rfl, held_next Hb.out hS1⟩
          · go_wp2_with fail
            first | go_region_held3 (fun w' => (w'.cell? ⟨w.heap.size, 0, none⟩ = some (.int .i64 (m : Int)) ∧ w'.cell? ⟨w.heap.size, 5, none⟩ = some (.int .i64 cc)) ∧ w'.cell? ⟨b, off + k * 3, none⟩ = some (.int .i64 x) ∧ w'.cell? ⟨b, off + k * 3 + 1, none⟩ = some (.int .i64 y) ∧ w'.cell? ⟨b, off + k * 3 + 2, none⟩ = some (.slice A (at_ l k).out.length C)) (first | exact KP.out _ (Below.refl _ _).drew | exact KP.out _ hS1) (first | (go_at_call 48; refine (OM.out _ (Below.refl _ _).drew).mono ?_; rintro e w2 ⟨rfl, hb1⟩; have hS1 := held_next ((Below.refl _ _).drew) hb1)) | fail
            all_goals go_wp2_with fail
            all_goals go_roundw
            case rel => exact ⟨k + 1, by omega, by go_num, (fun z hz => by
              by_cases e : z = k
              · subst e; exact ⟨Hv.out, by rw [Hx.out]; omega⟩
              · exact Hl.out z (by omega)), held_next Hb.out hS1, HWr.out.later hS1 HWr.out.lt⟩
            case measure => simp [intOf]; omega
        | false =>
          obtain rfl : res = false := Hres.out.symm.trans (rightB_no fun h => by
            have := (h.2.2.1 k (by have := Hm.out; omega)).1
            simp only at this
            rw [Hv.out] at this
            cases this)
          go_wp2_with fail
          refine wp_region_held_drew (S := (fun w' => (w'.cell? ⟨w.heap.size, 0, none⟩ = some (.int .i64 (m : Int)) ∧ w'.cell? ⟨w.heap.size, 5, none⟩ = some (.int .i64 cc)) ∧ w'.cell? ⟨b, off + k * 3, none⟩ = some (.int .i64 x) ∧ w'.cell? ⟨b, off + k * 3 + 1, none⟩ = some (.int .i64 y) ∧ w'.cell? ⟨b, off + k * 3 + 2, none⟩ = some (.slice A (at_ l k).out.length C))) (by kernel_rfl) (KP.out _ (Below.refl _ _).drew) (fun hHeld => ?_)
          refine wpAnyH_take (i := 0) (oi := ⟨some 23, _, _, _, _, _⟩) (v := ?_) rfl (by kernel_rfl) (by kernel_rfl) (by kernel_rfl) (fun _ _ _ h => h) (Or.inl ⟨by rfl, ?_⟩) (by assumption) ?_
          rotate_left 1
          · intro w hSw
            try dsimp only at hSw
            go_simp
            try with_reducible rfl
          simp only [Act.put, List.setIfInBounds_toArray, List.set_cons_zero, List.set_cons_succ]
          refine wpAnyH_take (i := 1) (oi := ⟨some 24, _, _, _, _, _⟩) (v := ?_) rfl (by kernel_rfl) (by kernel_rfl) (by kernel_rfl) (fun _ _ _ h => h) (Or.inl ⟨by rfl, ?_⟩) (by assumption) ?_
          rotate_left 1
          · intro w hSw
            try dsimp only at hSw
            go_simp
            try with_reducible rfl
          simp only [Act.put, List.setIfInBounds_toArray, List.set_cons_zero, List.set_cons_succ]
          refine wpAnyH_take (i := 2) (oi := ⟨some 25, _, _, _, _, _⟩) (v := ?_) rfl (by kernel_rfl) (by kernel_rfl) (by kernel_rfl) (fun _ _ _ h => h) (Or.inl ⟨by rfl, ?_⟩) (by assumption) ?_
          rotate_left 1
          · intro w hSw
            try dsimp only at hSw
            go_simp
            try with_reducible rfl
          simp only [Act.put, List.setIfInBounds_toArray, List.set_cons_zero, List.set_cons_succ]
          refine wpAnyH_take (i := 3) (oi := ⟨some 26, _, _, _, _, _⟩) (v := ?_) rfl (by kernel_rfl) (by kernel_rfl) (by kernel_rfl) (fun _ _ _ h => h) (Or.inl ⟨by rfl, ?_⟩) (by assumption) ?_
          rotate_left 1
          · intro w hSw
            try dsimp only at hSw
            go_simp
            try with_reducible rfl
          simp only [Act.put, List.setIfInBounds_toArray, List.set_cons_zero, List.set_cons_succ]
          refine wpAnyH_take (i := 4) (oi := ⟨some 27, _, _, _, _, _⟩) (v := ?_) rfl (by kernel_rfl) (by kernel_rfl) (by kernel_rfl) (fun _ _ _ h => h) (Or.inl ⟨by rfl, ?_⟩) (by assumption) ?_
          rotate_left 1
          · intro w hSw
            try dsimp only at hSw
            go_simp
            try with_reducible rfl
          simp only [Act.put, List.setIfInBounds_toArray, List.set_cons_zero, List.set_cons_succ]
          refine wpAnyH_take (i := 5) (oi := ⟨some 28, _, _, _, _, _⟩) (v := ?_) rfl (by kernel_rfl) (by kernel_rfl) (by kernel_rfl) (fun _ _ _ h => h) (Or.inl ⟨by rfl, ?_⟩) (by assumption) ?_
          rotate_left 1
          · intro w hSw
            try dsimp only at hSw
            go_simp
            try with_reducible rfl
          simp only [Act.put, List.setIfInBounds_toArray, List.set_cons_zero, List.set_cons_succ]
          refine wpAnyH_take (i := 6) (oi := ⟨some 29, _, _, _, _, _⟩) (v := ?_) rfl (by kernel_rfl) (by kernel_rfl) (by kernel_rfl) (fun _ _ _ h => h) (Or.inl ⟨by rfl, ?_⟩) (by assumption) ?_
          rotate_left 1
          · intro w hSw
            try dsimp only at hSw
            go_simp
            try with_reducible rfl
          simp only [Act.put, List.setIfInBounds_toArray, List.set_cons_zero, List.set_cons_succ]
          refine wpAnyH_ready (rs := [7]) (by kernel_rfl) (by simp) ?_
          refine AllReadyH.cons rfl (fun K hK => ?_) AllReadyH.nil
          go_simp
          go_wp2_with (go_at_call 48; refine (OM.out _ (Below.refl _ _).drew).mono ?_; rintro e w2 ⟨rfl, hb1⟩; have hS1 := held_next ((Below.refl _ _).drew) hb1)
          refine hK.out _ _ (KP.out _ hS1) (fun hHeld2 => ?_)
          clear hHeld hK K
          refine wpAnyH_take (i := 8) (oi := ⟨some 31, _, _, _, _, _⟩) (v := ?_) rfl (by kernel_rfl) (by kernel_rfl) (by kernel_rfl) (fun _ _ _ h => h) (Or.inl ⟨by rfl, ?_⟩) (by assumption) ?_
          rotate_left 1
          · intro w hSw
            try dsimp only at hSw
            go_simp
            try with_reducible rfl
          simp only [Act.put, List.setIfInBounds_toArray, List.set_cons_zero, List.set_cons_succ]
          refine wpAnyH_take (i := 9) (oi := ⟨some 32, _, _, _, _, _⟩) (v := ?_) rfl (by kernel_rfl) (by kernel_rfl) (by kernel_rfl) (fun _ _ _ h => h) (Or.inl ⟨by rfl, ?_⟩) (by assumption) ?_
          rotate_left 1
          · intro w hSw
            try dsimp only at hSw
            go_simp
            try with_reducible rfl
          simp only [Act.put, List.setIfInBounds_toArray, List.set_cons_zero, List.set_cons_succ]
          refine wpAnyH_take (i := 10) (oi := ⟨some 33, _, _, _, _, _⟩) (v := undef) rfl (by kernel_rfl) (by kernel_rfl) (by kernel_rfl) (fun _ _ _ h => h) (Or.inr ⟨by rfl, rfl⟩) (by assumption) ?_
          simp only [Act.put, List.setIfInBounds_toArray, List.set_cons_zero, List.set_cons_succ]
          refine wpAnyH_take (i := 11) (oi := ⟨some 34, _, _, _, _, _⟩) (v := undef) rfl (by kernel_rfl) (by kernel_rfl) (by kernel_rfl) (fun _ _ _ h => h) (Or.inr ⟨by rfl, rfl⟩) (by assumption) ?_
          simp only [Act.put, List.setIfInBounds_toArray, List.set_cons_zero, List.set_cons_succ]
          refine wpAnyH_take (i := 12) (oi := ⟨some 35, _, _, _, _, _⟩) (v := undef) rfl (by kernel_rfl) (by kernel_rfl) (by kernel_rfl) (fun _ _ _ h => h) (Or.inr ⟨by rfl, rfl⟩) (by assumption) ?_
          simp only [Act.put, List.setIfInBounds_toArray, List.set_cons_zero, List.set_cons_succ]
          refine wpAnyH_take (i := 13) (oi := ⟨some 36, _, _, _, _, _⟩) (v := undef) rfl (by kernel_rfl) (by kernel_rfl) (by kernel_rfl) (fun _ _ _ h => h) (Or.inr ⟨by rfl, rfl⟩) (by assumption) ?_
          simp only [Act.put, List.setIfInBounds_toArray, List.set_cons_zero, List.set_cons_succ]
          refine wpAnyH_take (i := 14) (oi := ⟨some 37, _, _, _, _, _⟩) (v := undef) rfl (by kernel_rfl) (by kernel_rfl) (by kernel_rfl) (fun _ _ _ h => h) (Or.inr ⟨by rfl, rfl⟩) (by assumption) ?_
          simp only [Act.put, List.setIfInBounds_toArray, List.set_cons_zero, List.set_cons_succ]
          refine wpAnyH_take (i := 15) (oi := ⟨some 38, _, _, _, _, _⟩) (v := undef) rfl (by kernel_rfl) (by kernel_rfl) (by kernel_rfl) (fun _ _ _ h => h) (Or.inr ⟨by rfl, rfl⟩) (by assumption) ?_
          simp only [Act.put, List.setIfInBounds_toArray, List.set_cons_zero, List.set_cons_succ]
          refine wpAnyH_take (i := 16) (oi := ⟨some 39, _, _, _, _, _⟩) (v := undef) rfl (by kernel_rfl) (by kernel_rfl) (by kernel_rfl) (fun _ _ _ h => h) (Or.inr ⟨by rfl, rfl⟩) (by assumption) ?_
          simp only [Act.put, List.setIfInBounds_toArray, List.set_cons_zero, List.set_cons_succ]
          refine wpAnyH_take (i := 17) (oi := ⟨some 40, _, _, _, _, _⟩) (v := undef) rfl (by kernel_rfl) (by kernel_rfl) (by kernel_rfl) (fun _ _ _ h => h) (Or.inr ⟨by rfl, rfl⟩) (by assumption) ?_
          simp only [Act.put, List.setIfInBounds_toArray, List.set_cons_zero, List.set_cons_succ]
          refine wpAnyH_take (i := 18) (oi := ⟨some 41, _, _, _, _, _⟩) (v := ?_) rfl (by kernel_rfl) (by kernel_rfl) (by kernel_rfl) (fun _ _ _ h => h) (Or.inl ⟨by rfl, ?_⟩) (by assumption) ?_
          rotate_left 1
          · intro w hSw
            try dsimp only at hSw
            go_simp
            try with_reducible rfl
          simp only [Act.put, List.setIfInBounds_toArray, List.set_cons_zero, List.set_cons_succ]
          refine wpAnyH_done (by kernel_rfl) ?_ _
          go_wp2_with fail
          go_ret
          exact ⟨by rfl, held_next Hb.out hS1⟩
      · have hkm : k = m := by omega
        have Hl' : Hid (∀ i, i < l.length → mayR (at_ l i).inc (at_ l i).use (at_ l i).out (m : Int) i = true ∧ (at_ l i).inc ≤ cc) := fun i hi => Hl.out i (by have := Hm.out; omega)
        have HF : Hid (Fits l) := fits_of_may fun i hi => by rw [← Hm.out]; exact (Hl'.out i hi).1
        have h16 : m ≤ 16 := by have := (cfB_ok Hok.out).2.1; simp only at this; omega
        have Hkm := Lib.hid hkm; clear hkm
        clear Hl
        have Hbk := Lib.hid Hb.out
        have HWk := Lib.hid HWr.out
        go_wp2_with fail
        clear d0
        go_loopw [6] (fun x wr => ∃ k : Nat, k ≤ m ∧ x = .int .i64 k ∧ Hid (∀ z, z < k → 0 ≤ rightsV ⟨m, q, r, p, kk, cc⟩ l z) ∧ Hid (Below w.heap.size w wr) ∧ Hid (Whole wr w.heap.size 23 (cfCells ⟨m, q, r, p, kk, cc⟩))) (fun x _ => m - (intOf x).toNat)
        case atStart => exact ⟨0, Nat.zero_le _, rfl, fun q hq => absurd hq (Nat.not_lt_zero _), Hbk.out, HWk.out⟩
        case round =>
          clear Hbk HWk Hb HWr
          obtain ⟨k, hk, rfl, Hg, Hb, HWr⟩ := hrel
          obtain ⟨d0, d1, d2, d3, d4, d5⟩ := config_cells HWr.out
          simp only at d0 d1 d2 d3 d4 d5
          by_cases hlt : k < m
          · obtain ⟨v, Hv⟩ : ∃ z, Hid (rightsV ⟨m, q, r, p, kk, cc⟩ l k = z) := ⟨_, rfl⟩
            go_wp2_with fail
            refine (refof_calls ⟨m, q, r, p, kk, cc⟩ a m d l k Hm.out h16 hlt HF.out _ (HB.out.later Hb.out)).mono ?_
            rintro e w2 ⟨rfl, hb⟩
            rw [Hv.out]
            have Hb2 := Lib.hid (held_next Hb.out hb)
            have HW2 := Lib.hid (HWr.out.later hb HWr.out.lt)
            clear hb d0 d1 d2 d3 d4 d5
            by_cases hv : v < 0
            · obtain rfl : res = false := Hres.out.symm.trans (rightB_no fun h => by
                have := h.2.2.2 k (by have := Hm.out; omega)
                rw [Hv.out] at this
                omega)
              go_wp2_with fail
              go_ret
              exact ⟨by rfl, Hb2.out⟩
            · go_wp2_with fail
              go_roundw
              case rel => exact ⟨k + 1, by omega, by go_num, (fun z hz => by
                by_cases e : z = k
                · subst e; rw [Hv.out]; omega
                · exact Hg.out z (by omega)), Hb2.out, HW2.out⟩
              case measure => simp [intOf]; omega
          · have hkm : k = m := by omega
            obtain rfl : res = true := Hres.out.symm.trans (decide_eq_true ⟨cfB_ok Hok.out, by rw [← Hm.out], Hl'.out, fun i hi => Hg.out i (by have := Hm.out; omega)⟩)
            have Hkm2 := Lib.hid hkm; clear hkm
            go_wp2_with fail
            go_ret
            exact ⟨by rfl, Hb.out⟩
end Go.Proofs.Ytfpadcfahfanoaa
