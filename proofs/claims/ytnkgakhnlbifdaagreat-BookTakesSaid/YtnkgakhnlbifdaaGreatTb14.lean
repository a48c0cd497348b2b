/- Parts, as far as BookTakesCards reaches them, of: RefRightsRight, RefPaintTake, RefStampMay, RefStamp. No law is proved here. -/
import Derived.Test.YtnkgakhnlbifdaaGreatTb13
import Derived.WalkKit
import Derived.ProofKit
import Derived.OpenShut
import Derived.WalkSpells
import Derived.Laws.AppendOwn
import Derived.Laws.AppendOwnNone
import Derived.Laws.OwnMore
import Derived.Lib.Hide
import Derived.Deep.Draws
import Derived.Deep.Slices
import Derived.Deep.Fields
import Derived.ChangeSame
import Derived.RegionTactic
import Derived.Maps.AppendAt
import Derived.Lib.SmallJoins
import Derived.WalkLawsBesides
import Derived.LoopTactic
import Derived.IntWalk
import Derived.WalkSmall
import Derived.Deep.QuietTactic
import Derived.BigQuiet
import Derived.Deep.RegionHeld3
import Derived.RangeFuncNested
import Derived.RangeFuncBound
import Derived.RangeFuncLeaves
import Derived.RangeFuncBox
import Derived.Laws.MakeOwn
import Derived.Test.YtnkgakhnlbifdaaGreatTbQ
import Derived.Test.YtnkgakhnlbifdaaGreatTb12
import Derived.Deep.LoopGhost
import Derived.BigRegion
import Derived.Test.YtnkgakhnlbifdaaGreatTb1
namespace Go.Proofs.YtnkgakhnlbifdaaGreat
open Go.RowKit
set_option maxRecDepth 100000 in
set_option maxHeartbeats 8000000 in
theorem refright_calls (c : Cf) (a : Option Addr) (m d : Nat) (l : List Rw) (hm : m = l.length) (w : World) (hB : Books w (.slice a m d) l) :
 Calls Tryz.prog 48 #[cfV c, .slice a m d] w (Says w (rightB c l)) := by
 have hbig : m ≤ 9223372036854775807 := by rw [hm]; exact hB.big
 have HW := Lib.hid (Whole.made w 23 (cfCells c))
 have Hb0 := Lib.hid (below_box w (.cells (cfCells c) 23))
 have HB := Lib.hid hB; clear hB
 have Hm := Lib.hid hm; clear hm
 obtain ⟨n, q, r, p, kk, cc⟩ := c
 obtain ⟨res, Hres⟩ : ∃ z, Hid (rightB ⟨n, q, r, p, kk, cc⟩ l = z) := ⟨_, rfl⟩
 rw [Hres.out]
 obtain ⟨ok, Hok⟩ : ∃ z, Hid (cfB ⟨n, q, r, p, kk, cc⟩ = z) := ⟨_, rfl⟩
 go_enter Tryz.func48, Tryz.ntmps48
 go_wp2_with fail
 refine (refcfg_calls ⟨n, q, r, p, kk, cc⟩ _).mono ?_
 rintro e w1 ⟨rfl, hb⟩
 rw [Hok.out]
 have Hb1 := Lib.hid (held_next Hb0.out hb)
 have HW1 := Lib.hid (HW.out.later hb HW.out.lt)
 clear hb
 obtain ⟨d0, d1, d2, d3, d4, d5⟩ := config_cells HW1.out
 simp only at d0 d1 d2 d3 d4 d5
 cases ok with
 | false =>
   obtain rfl : res = false := Hres.out.symm.trans (rightB_no fun h => by
    have := cfB_yes h.1
    rw [Hok.out] at this
    cases this)
   go_wp2_with fail
   go_ret
   exact ⟨rfl, Hb1.out⟩
 | true =>
   by_cases hnm : (m : Int) ≠ n
   · obtain rfl : res = false := Hres.out.symm.trans (rightB_no fun h => hnm (by rw [Hm.out]; exact h.2.1))
     have hnm' : ((m : Int) != n) = true := bne_iff_ne.2 hnm
     go_wp2_with fail
     go_ret
     exact ⟨by rfl, Hb1.out⟩
   have hnme : n = (m : Int) := by omega
   clear hnm
   subst hnme
   go_wp2_with fail
   clear d0 d1 d2 d3 d4 d5
   go_loopw [5] (fun x wr => ∃ k : Nat, k ≤ m ∧ x = .int .i64 k ∧ Hid (∀ q, q < k → mayR (at_ l q).inc (at_ l q).use (at_ l q).out (m : Int) q = true ∧ (at_ l q).inc ≤ cc) ∧ Hid (Below w.heap.size w wr) ∧ Hid (Whole wr w.heap.size 23 (cfCells ⟨m, q, r, p, kk, cc⟩))) (fun x _ => m - (intOf x).toNat)
   case atStart => exact ⟨0, Nat.zero_le _, rfl, fun q hq => absurd hq (Nat.not_lt_zero _), Hb1.out, HW1.out⟩
   case round =>
    obtain ⟨k, hk, rfl, Hl, Hb, HWr⟩ := hrel
    have d0 : wr.cell? ⟨w.heap.size, 0, none⟩ = some (.int .i64 (m : Int)) := HWr.out.cell 0
    by_cases hlt : k < m
    · obtain ⟨b, off, A, C, rfl, _, c0, c1, c2, hN⟩ := HB.out.at (k := k) (by have := Hm.out; omega)
      obtain ⟨x, Hx⟩ : ∃ z, Hid ((at_ l k).inc = z) := ⟨_, rfl⟩
      obtain ⟨y, Hy⟩ : ∃ z, Hid ((at_ l k).use = z) := ⟨_, rfl⟩
      obtain ⟨v, Hv⟩ : ∃ z, Hid (mayR (at_ l k).inc (at_ l k).use (at_ l k).out (m : Int) k = z) := ⟨_, rfl⟩
      rw [Hx.out] at c0
      rw [Hy.out] at c1
      have HN := Lib.hid hN; clear hN
      have KP : Hid (∀ w', Below wr.heap.size wr w' → ((w'.cell? ⟨w.heap.size, 0, none⟩ = some (.int .i64 (m : Int)) ∧ w'.cell? ⟨w.heap.size, 5, none⟩ = some (.int .i64 cc)) ∧ w'.cell? ⟨b, off + k * 3, none⟩ = some (.int .i64 x) ∧ w'.cell? ⟨b, off + k * 3 + 1, none⟩ = some (.int .i64 y) ∧ w'.cell? ⟨b, off + k * 3 + 2, none⟩ = some (.slice A (at_ l k).out.length C))) :=
       fun w' h => ⟨⟨(HWr.out.later h HWr.out.lt).cell 0, (HWr.out.later h HWr.out.lt).cell 5⟩, cell_later (held_next Hb.out h) c0, cell_later (held_next Hb.out h) c1, cell_later (held_next Hb.out h) c2⟩
      have OM : Hid (∀ w', Below wr.heap.size wr w' → Calls Tryz.prog 81 #[rowV x y (.slice A (at_ l k).out.length C), .int .i64 (m : Int), .int .i64 (k : Int)] w' (Says w' v)) := by
       rw [← Hv.out, Hx.out, Hy.out]
       exact fun w' h => refmay_calls A _ C x y m k (at_ l k).out rfl w' (HN.out.later (held_next Hb.out h))
      clear c0 c1 c2
      have k0 : (0 : Int) ≤ (k : Int) := by omega
      have k1 : (k : Int) < (m : Int) := by omega
      cases v with
      | true =>
        by_cases hxc : cc < x
        · obtain rfl : res = false := Hres.out.symm.trans (rightB_no fun h => by
           have := (h.2.2.1 k (by have := Hm.out; omega)).2
           rw [Hx.out] at this
           simp only at this
           omega)
          go_wp2_with fail
          first | go_region_held3 (fun w' => (w'.cell? ⟨w.heap.size, 0, none⟩ = some (.int .i64 (m : Int)) ∧ w'.cell? ⟨w.heap.size, 5, none⟩ = some (.int .i64 cc)) ∧ w'.cell? ⟨b, off + k * 3, none⟩ = some (.int .i64 x) ∧ w'.cell? ⟨b, off + k * 3 + 1, none⟩ = some (.int .i64 y) ∧ w'.cell? ⟨b, off + k * 3 + 2, none⟩ = some (.slice A (at_ l k).out.length C)) (first | exact KP.out _ (Below.refl _ _).drew | exact KP.out _ hS1) (first | (go_at_call 81; refine (OM.out _ (Below.refl _ _).drew).mono ?_; rintro e w2 ⟨rfl, hb1⟩; have hS1 := held_next ((Below.refl _ _).drew) hb1)) | fail
          all_goals go_wp2_with fail
          all_goals go_ret
          all_goals exact ⟨by rfl, held_next Hb.out hS1⟩
        · go_wp2_with fail
          first | go_region_held3 (fun w' => (w'.cell? ⟨w.heap.size, 0, none⟩ = some (.int .i64 (m : Int)) ∧ w'.cell? ⟨w.heap.size, 5, none⟩ = some (.int .i64 cc)) ∧ w'.cell? ⟨b, off + k * 3, none⟩ = some (.int .i64 x) ∧ w'.cell? ⟨b, off + k * 3 + 1, none⟩ = some (.int .i64 y) ∧ w'.cell? ⟨b, off + k * 3 + 2, none⟩ = some (.slice A (at_ l k).out.length C)) (first | exact KP.out _ (Below.refl _ _).drew | exact KP.out _ hS1) (first | (go_at_call 81; refine (OM.out _ (Below.refl _ _).drew).mono ?_; rintro e w2 ⟨rfl, hb1⟩; have hS1 := held_next ((Below.refl _ _).drew) hb1)) | fail
          all_goals go_wp2_with fail
          all_goals go_roundw
          case rel => exact ⟨k + 1, by omega, by go_num, (fun z hz => by
           by_cases e : z = k
           · subst e; exact ⟨Hv.out, by rw [Hx.out]; omega⟩
           · exact Hl.out z (by omega)), held_next Hb.out hS1, HWr.out.later hS1 HWr.out.lt⟩
          case measure => simp [intOf]; omega
      | false =>
        obtain rfl : res = false := Hres.out.symm.trans (rightB_no fun h => by
         have := (h.2.2.1 k (by have := Hm.out; omega)).1
         simp only at this
         rw [Hv.out] at this
         cases this)
        go_wp2_with fail
        refine wp_region_held_drew (S := (fun w' => (w'.cell? ⟨w.heap.size, 0, none⟩ = some (.int .i64 (m : Int)) ∧ w'.cell? ⟨w.heap.size, 5, none⟩ = some (.int .i64 cc)) ∧ w'.cell? ⟨b, off + k * 3, none⟩ = some (.int .i64 x) ∧ w'.cell? ⟨b, off + k * 3 + 1, none⟩ = some (.int .i64 y) ∧ w'.cell? ⟨b, off + k * 3 + 2, none⟩ = some (.slice A (at_ l k).out.length C))) (by kernel_rfl) (KP.out _ (Below.refl _ _).drew) (fun hHeld => ?_)
        refine wpAnyH_take (i := 0) (oi := ⟨some 23, _, _, _, _, _⟩) (v := ?_) rfl (by kernel_rfl) (by kernel_rfl) (by kernel_rfl) (fun _ _ _ h => h) (Or.inl ⟨by rfl, ?_⟩) (by assumption) ?_
        rotate_left 1
        · intro w hSw
          try dsimp only at hSw
          go_simp
          try with_reducible rfl
        simp only [Act.put, qA, qB, qC]
        refine wpAnyH_take (i := 1) (oi := ⟨some 24, _, _, _, _, _⟩) (v := ?_) rfl (by kernel_rfl) (by kernel_rfl) (by kernel_rfl) (fun _ _ _ h => h) (Or.inl ⟨by rfl, ?_⟩) (by assumption) ?_
        rotate_left 1
        · intro w hSw
          try dsimp only at hSw
          go_simp
          try with_reducible rfl
        simp only [Act.put, qA, qB, qC]
        refine wpAnyH_take (i := 2) (oi := ⟨some 25, _, _, _, _, _⟩) (v := ?_) rfl (by kernel_rfl) (by kernel_rfl) (by kernel_rfl) (fun _ _ _ h => h) (Or.inl ⟨by rfl, ?_⟩) (by assumption) ?_
        rotate_left 1
        · intro w hSw
          try dsimp only at hSw
          go_simp
          try with_reducible rfl
        simp only [Act.put, qA, qB, qC]
        refine wpAnyH_take (i := 3) (oi := ⟨some 26, _, _, _, _, _⟩) (v := ?_) rfl (by kernel_rfl) (by kernel_rfl) (by kernel_rfl) (fun _ _ _ h => h) (Or.inl ⟨by rfl, ?_⟩) (by assumption) ?_
        rotate_left 1
        · intro w hSw
          try dsimp only at hSw
          go_simp
          try with_reducible rfl
        simp only [Act.put, qA, qB, qC]
        refine wpAnyH_take (i := 4) (oi := ⟨some 27, _, _, _, _, _⟩) (v := ?_) rfl (by kernel_rfl) (by kernel_rfl) (by kernel_rfl) (fun _ _ _ h => h) (Or.inl ⟨by rfl, ?_⟩) (by assumption) ?_
        rotate_left 1
        · intro w hSw
          try dsimp only at hSw
          go_simp
          try with_reducible rfl
        simp only [Act.put, qA, qB, qC]
        refine wpAnyH_take (i := 5) (oi := ⟨some 28, _, _, _, _, _⟩) (v := ?_) rfl (by kernel_rfl) (by kernel_rfl) (by kernel_rfl) (fun _ _ _ h => h) (Or.inl ⟨by rfl, ?_⟩) (by assumption) ?_
        rotate_left 1
        · intro w hSw
          try dsimp only at hSw
          go_simp
          try with_reducible rfl
        simp only [Act.put, qA, qB, qC]
        refine wpAnyH_take (i := 6) (oi := ⟨some 29, _, _, _, _, _⟩) (v := ?_) rfl (by kernel_rfl) (by kernel_rfl) (by kernel_rfl) (fun _ _ _ h => h) (Or.inl ⟨by rfl, ?_⟩) (by assumption) ?_
        rotate_left 1
        · intro w hSw
          try dsimp only at hSw
          go_simp
          try with_reducible rfl
        simp only [Act.put, qA, qB, qC]
        refine wpAnyH_ready (rs := [7]) (by kernel_rfl) (by simp) ?_
        refine AllReadyH.cons rfl (fun K hK => ?_) AllReadyH.nil
        go_simp
        go_wp2_with (go_at_call 81; refine (OM.out _ (Below.refl _ _).drew).mono ?_; rintro e w2 ⟨rfl, hb1⟩; have hS1 := held_next ((Below.refl _ _).drew) hb1)
        refine hK.out _ _ (KP.out _ hS1) (fun hHeld2 => ?_)
        clear hHeld hK K
        refine wpAnyH_take (i := 8) (oi := ⟨some 31, _, _, _, _, _⟩) (v := ?_) rfl (by kernel_rfl) (by kernel_rfl) (by kernel_rfl) (fun _ _ _ h => h) (Or.inl ⟨by rfl, ?_⟩) (by assumption) ?_
        rotate_left 1
        · intro w hSw
          try dsimp only at hSw
          go_simp
          try with_reducible rfl
        simp only [Act.put, qA, qB, qC]
        refine wpAnyH_take (i := 9) (oi := ⟨some 32, _, _, _, _, _⟩) (v := ?_) rfl (by kernel_rfl) (by kernel_rfl) (by kernel_rfl) (fun _ _ _ h => h) (Or.inl ⟨by rfl, ?_⟩) (by assumption) ?_
        rotate_left 1
        · intro w hSw
          try dsimp only at hSw
          go_simp
          try with_reducible rfl
        simp only [Act.put, qA, qB, qC]
        refine wpAnyH_take (i := 10) (oi := ⟨some 33, _, _, _, _, _⟩) (v := undef) rfl (by kernel_rfl) (by kernel_rfl) (by kernel_rfl) (fun _ _ _ h => h) (Or.inr ⟨by rfl, rfl⟩) (by assumption) ?_
        simp only [Act.put, qA, qB, qC]
        refine wpAnyH_take (i := 11) (oi := ⟨some 34, _, _, _, _, _⟩) (v := undef) rfl (by kernel_rfl) (by kernel_rfl) (by kernel_rfl) (fun _ _ _ h => h) (Or.inr ⟨by rfl, rfl⟩) (by assumption) ?_
        simp only [Act.put, qA, qB, qC]
        refine wpAnyH_take (i := 12) (oi := ⟨some 35, _, _, _, _, _⟩) (v := undef) rfl (by kernel_rfl) (by kernel_rfl) (by kernel_rfl) (fun _ _ _ h => h) (Or.inr ⟨by rfl, rfl⟩) (by assumption) ?_
        simp only [Act.put, qA, qB, qC]
        refine wpAnyH_take (i := 13) (oi := ⟨some 36, _, _, _, _, _⟩) (v := undef) rfl (by kernel_rfl) (by kernel_rfl) (by kernel_rfl) (fun _ _ _ h => h) (Or.inr ⟨by rfl, rfl⟩) (by assumption) ?_
        simp only [Act.put, qA, qB, qC]
        refine wpAnyH_take (i := 14) (oi := ⟨some 37, _, _, _, _, _⟩) (v := undef) rfl (by kernel_rfl) (by kernel_rfl) (by kernel_rfl) (fun _ _ _ h => h) (Or.inr ⟨by rfl, rfl⟩) (by assumption) ?_
        simp only [Act.put, qA, qB, qC]
        refine wpAnyH_take (i := 15) (oi := ⟨some 38, _, _, _, _, _⟩) (v := undef) rfl (by kernel_rfl) (by kernel_rfl) (by kernel_rfl) (fun _ _ _ h => h) (Or.inr ⟨by rfl, rfl⟩) (by assumption) ?_
        simp only [Act.put, qA, qB, qC]
        refine wpAnyH_take (i := 16) (oi := ⟨some 39, _, _, _, _, _⟩) (v := undef) rfl (by kernel_rfl) (by kernel_rfl) (by kernel_rfl) (fun _ _ _ h => h) (Or.inr ⟨by rfl, rfl⟩) (by assumption) ?_
        simp only [Act.put, qA, qB, qC]
        refine wpAnyH_take (i := 17) (oi := ⟨some 40, _, _, _, _, _⟩) (v := undef) rfl (by kernel_rfl) (by kernel_rfl) (by kernel_rfl) (fun _ _ _ h => h) (Or.inr ⟨by rfl, rfl⟩) (by assumption) ?_
        simp only [Act.put, qA, qB, qC]
        refine wpAnyH_take (i := 18) (oi := ⟨some 41, _, _, _, _, _⟩) (v := ?_) rfl (by kernel_rfl) (by kernel_rfl) (by kernel_rfl) (fun _ _ _ h => h) (Or.inl ⟨by rfl, ?_⟩) (by assumption) ?_
        rotate_left 1
        · intro w hSw
          try dsimp only at hSw
          go_simp
          try with_reducible rfl
        simp only [Act.put, qA, qB, qC]
        refine wpAnyH_done (by kernel_rfl) ?_ _
        go_wp2_with fail
        go_ret
        exact ⟨by rfl, held_next Hb.out hS1⟩
    · have hkm : k = m := by omega
      have Hl' : Hid (∀ i, i < l.length → mayR (at_ l i).inc (at_ l i).use (at_ l i).out (m : Int) i = true ∧ (at_ l i).inc ≤ cc) := fun i hi => Hl.out i (by have := Hm.out; omega)
      have HF : Hid (Fits l) := fits_of_may fun i hi => by rw [← Hm.out]; exact (Hl'.out i hi).1
      have h16 : m ≤ 16 := by have := (cfB_ok Hok.out).2.1; simp only at this; omega
      have Hkm := Lib.hid hkm; clear hkm
      clear Hl
      have Hbk := Lib.hid Hb.out
      have HWk := Lib.hid HWr.out
      go_wp2_with fail
      clear d0
      go_loopw [6] (fun x wr => ∃ k : Nat, k ≤ m ∧ x = .int .i64 k ∧ Hid (∀ z, z < k → 0 ≤ rightsV ⟨m, q, r, p, kk, cc⟩ l z) ∧ Hid (Below w.heap.size w wr) ∧ Hid (Whole wr w.heap.size 23 (cfCells ⟨m, q, r, p, kk, cc⟩))) (fun x _ => m - (intOf x).toNat)
      case atStart => exact ⟨0, Nat.zero_le _, rfl, fun q hq => absurd hq (Nat.not_lt_zero _), Hbk.out, HWk.out⟩
      case round =>
       clear Hbk HWk Hb HWr
       obtain ⟨k, hk, rfl, Hg, Hb, HWr⟩ := hrel
       obtain ⟨d0, d1, d2, d3, d4, d5⟩ := config_cells HWr.out
       simp only at d0 d1 d2 d3 d4 d5
       by_cases hlt : k < m
       · obtain ⟨v, Hv⟩ : ∃ z, Hid (rightsV ⟨m, q, r, p, kk, cc⟩ l k = z) := ⟨_, rfl⟩
         go_wp2_with fail
         refine (refof_calls ⟨m, q, r, p, kk, cc⟩ a m d l k Hm.out h16 hlt HF.out _ (HB.out.later Hb.out)).mono ?_
         rintro e w2 ⟨rfl, hb⟩
         rw [Hv.out]
         have Hb2 := Lib.hid (held_next Hb.out hb)
         have HW2 := Lib.hid (HWr.out.later hb HWr.out.lt)
         clear hb d0 d1 d2 d3 d4 d5
         by_cases hv : v < 0
         · obtain rfl : res = false := Hres.out.symm.trans (rightB_no fun h => by
            have := h.2.2.2 k (by have := Hm.out; omega)
            rw [Hv.out] at this
            omega)
           go_wp2_with fail
           go_ret
           exact ⟨by rfl, Hb2.out⟩
         · go_wp2_with fail
           go_roundw
           case rel => exact ⟨k + 1, by omega, by go_num, (fun z hz => by
            by_cases e : z = k
            · subst e; rw [Hv.out]; omega
            · exact Hg.out z (by omega)), Hb2.out, HW2.out⟩
           case measure => simp [intOf]; omega
       · have hkm : k = m := by omega
         obtain rfl : res = true := Hres.out.symm.trans (decide_eq_true ⟨cfB_ok Hok.out, by rw [← Hm.out], Hl'.out, fun i hi => Hg.out i (by have := Hm.out; omega)⟩)
         have Hkm2 := Lib.hid hkm; clear hkm
         go_wp2_with fail
         go_ret
         exact ⟨by rfl, Hb.out⟩
end Go.Proofs.YtnkgakhnlbifdaaGreat
namespace Go.Proofs.YtnkgakhnlbifdaaGreat
open Go.RowKit
attribute [local go_sem ↓] run_fine
set_option maxRecDepth 100000 in
set_option maxHeartbeats 16000000 in
theorem refptake_far (c : Cf) (a : Option Addr) (n d : Nat) (zs : List Int) (w : World) (hB : Bytes w (.slice a n d) zs) (hn : n = zs.length) (hnd : n ≤ d) :
 Calls Tryz.prog 23 #[cfV c, .slice a n d] w (TookBF w (takeB c zs)) := by
 have HW := Lib.hid (Whole.made w 23 (cfCells c))
 have Hb0 := Lib.hid (below_box w (.cells (cfCells c) 23))
 have HB := Lib.hid hB; clear hB
 have Hn := Lib.hid hn; clear hn
 obtain ⟨nn, q, r, p, kk, cc⟩ := c
 obtain ⟨res, Hres⟩ : ∃ z, Hid (takeB ⟨nn, q, r, p, kk, cc⟩ zs = z) := ⟨_, rfl⟩
 rw [Hres.out]
 obtain ⟨ok, Hok⟩ : ∃ z, Hid (cfB ⟨nn, q, r, p, kk, cc⟩ = z) := ⟨_, rfl⟩
 obtain ⟨i5, hi, hz0, hz1, hz2⟩ := info_parts info_row
 have Ki := Lib.hid hi; clear hi
 have Kz0 := Lib.hid hz0; clear hz0
 have Kz1 := Lib.hid hz1; clear hz1
 have Kz2 := Lib.hid hz2; clear hz2
 go_enter Tryz.func23, Tryz.ntmps23
 go_wp2_with fail
 refine (refcfg_calls ⟨nn, q, r, p, kk, cc⟩ _).mono ?_
 rintro e w1 ⟨rfl, hb⟩
 rw [Hok.out]
 have Hb1 := Lib.hid (held_next Hb0.out hb)
 have HW1 := Lib.hid (HW.out.later hb HW.out.lt)
 clear hb
 cases ok with
 | false =>
   obtain rfl : res = none := Hres.out.symm.trans (takeB_cf fun h => by
    have := cfB_yes h
    rw [Hok.out] at this
    cases this)
   go_wp2_with fail
   go_ret3
   exact Or.inr ⟨rfl, by rfl, Hb1.out⟩
 | true =>
 have hok := cfB_ok Hok.out
 obtain ⟨N, hN⟩ : ∃ N : Nat, nn = (N : Int) := ⟨nn.toNat, by have := hok.1; simp only at this; omega⟩
 subst hN
 have h16 : N ≤ 16 := by have := hok.2.1; simp only at this; omega
 have hN1 : 1 ≤ N := by have := hok.1; simp only at this; omega
 clear hok
 go_wp2_with fail
 go_loopg [1, 7, 8] N (fun g s1 s7 s8 wr => ∃ (i : Nat) (L : List Rw) (cur : List Int) (a1 : Option Addr) (n1 d1 : Nat) (lv : Value), i + g = N ∧ s8 = .int .i64 i ∧ s1 = .slice a1 n1 d1 ∧ s7 = lv ∧ Hid (n1 = cur.length ∧ n1 ≤ d1 ∧ Bytes w (.slice a1 n1 d1) cur) ∧
  Hid (HeldBooks wr w.heap.size lv L) ∧ Hid (L.length = i ∧ Rowed N L ∧ (∀ x ∈ flatR L, 0 ≤ x ∧ x < 18446744073709551616) ∧ zs = booksB L ++ cur) ∧ Hid (Below w.heap.size w wr) ∧ Hid (Whole wr w.heap.size 23 (cfCells ⟨N, q, r, p, kk, cc⟩)))
 case atStart => exact ⟨0, [], zs, a, n, d, _, by omega, rfl, rfl, rfl, ⟨Hn.out, hnd, HB.out⟩, heldBooks_nil _ _, ⟨rfl, fun _ h => (by cases h), fun _ h => (by simp [flatR] at h), by simp [booksB, flatR, bytesN]⟩, Hb1.out, HW1.out⟩
 case round =>
  obtain ⟨i, L, cur, a1, n1, d1, lv, hg, rfl, rfl, hlv, HC, HH, HL, Hb, HWr⟩ := hrel
  have hlv' := hlv.symm
  subst hlv'
  clear hlv
  have d0 : wr.cell? ⟨w.heap.size, 0, none⟩ = some (.int .i64 (N : Int)) := HWr.out.cell 0
  by_cases hlt : i < N
  · have hgp : 0 < gk := by omega
    obtain ⟨wo, hwo⟩ : ∃ wo, wo = wr := ⟨_, rfl⟩
    subst hwo
    go_wp2_with fail
    clear d0
    go_loopg [1, 9, 10] (N + 2) (fun g s1 s9 s10 wr => ∃ (k : Nat) (P : List Int) (cu : List Int) (a2 : Option Addr) (n2 d2 : Nat) (tv : Value), k + g = N + 2 ∧ s10 = .int .i64 k ∧ s1 = .slice a2 n2 d2 ∧ s9 = tv ∧ Hid (n2 = cu.length ∧ n2 ≤ d2 ∧ Bytes w (.slice a2 n2 d2) cu) ∧
     Hid (wr.ownsRow wo.heap.size 2 1 tv k (P.map (Value.int .i64))) ∧ Hid (P.length = k ∧ (∀ x ∈ P, 0 ≤ x ∧ x < 18446744073709551616) ∧ zs = booksB L ++ (bytesN (P.map u64n) ++ cu)) ∧ Hid (Below wo.heap.size wo wr))
    case atStart => exact ⟨0, [], cur, a1, n1, d1, _, by omega, rfl, rfl, rfl, HC.out, World.ownsRow_nil _ _ _ _, ⟨rfl, fun _ h => (by cases h), by simpa [bytesN] using HL.out.2.2.2⟩, Below.refl _ _⟩
    case round =>
     obtain ⟨k, P, cu, a2, n2, d2, tv, hgk, rfl, rfl, htv, HC2, HT, HP, Hbi⟩ := hrel
     have htv' := htv.symm
     subst htv'
     clear htv
     have d0 : wr.cell? ⟨w.heap.size, 0, none⟩ = some (.int .i64 (N : Int)) := (HWr.out.later Hbi.out HWr.out.lt).cell 0
     have HbW : Hid (Below w.heap.size w wr) := held_next Hb.out Hbi.out
     by_cases hkn : k < N + 2
     · have hkn' : (k : Int) < (N : Int) + 2 := by omega
       rcases PackMath.begins_or cu with ⟨v, rest, hbg⟩ | hbare
       · obtain ⟨tv2, hcall, hBr, a3, d3, rfl, hd3⟩ := reftake_all a2 n2 d2 cu rest v wr (HC2.out.2.2.later HbW.out) HC2.out.1 HC2.out.2.1 hbg
         have Hrest := Lib.hid (⟨hBr w HC2.out.2.2, hd3⟩ : Bytes w (.slice a3 rest.length d3) rest ∧ rest.length ≤ d3)
         obtain ⟨n3, Hn3⟩ : ∃ z, Hid (z = rest.length) := ⟨_, rfl⟩
         rw [← Hn3.out] at hcall Hrest
         have Hcall := Lib.hid hcall
         clear hcall hBr hd3
         have hv64 := hbg.1
         go_wp2_with fail
         refine Hcall.out.mono ?_
         rintro e w4 ⟨rfl, hb⟩
         have Hb4i := Lib.hid (held_next Hbi.out hb)
         have Hb4 := Lib.hid (held_next HbW.out hb)
         have HT4 := Lib.hid (own_later HT.out hb)
         clear hb d0
         by_cases hbig : 4611686018427387904 < v
         · obtain rfl : res = none := Hres.out.symm.trans (takeB_big (n := N) rfl (zs_flat HP.out.2.2) (flat_count HL.out.1 HL.out.2.1 HP.out.1 hlt hkn) hbg (by omega))
           have hbig' : (4611686018427387904 : Int) < (v : Int) := by omega
           go_wp2_with fail
           go_ret3
           exact Or.inr ⟨rfl, by rfl, Hb4.out⟩
         · have hbig' : ¬ ((4611686018427387904 : Int) < (v : Int)) := by omega
           obtain ⟨tv5, w5, hrun, q1, q2, q3⟩ := nums_push (v : Int) HP.out.1 HT4.out Hb4i.out.size (by omega)
           have hf2 : Fine Tryz.prog (w4.alloc (.cells #[.int .i64 (v : Int)] 2)) #[33, 33] 33 #[tv, .slice (some ⟨w4.heap.size, 0, none⟩) 1 1] := ⟨_, _, hrun⟩
           have hv2 : appV Tryz.prog (w4.alloc (.cells #[.int .i64 (v : Int)] 2)) #[33, 33] 33 #[tv, .slice (some ⟨w4.heap.size, 0, none⟩) 1 1] = tv5 := by unfold appV; rw [hrun]; rfl
           have hw2 : appW Tryz.prog (w4.alloc (.cells #[.int .i64 (v : Int)] 2)) #[33, 33] 33 #[tv, .slice (some ⟨w4.heap.size, 0, none⟩) 1 1] = w5 := by unfold appW; rw [hrun]; rfl
           have HP5 : Hid ((P ++ [(v : Int)]).length = k + 1 ∧ (∀ x ∈ P ++ [(v : Int)], 0 ≤ x ∧ x < 18446744073709551616) ∧ zs = booksB L ++ (bytesN ((P ++ [(v : Int)]).map u64n) ++ rest)) :=
            ⟨by rw [List.length_append, HP.out.1]; rfl, fun x hx => by
             rcases List.mem_append.1 hx with h | h
             · exact HP.out.2.1 x h
             · have : x = (v : Int) := by simpa using h
               omega, zs_more HP.out.2.2 hbg⟩
           have HT5 := Lib.hid q1
           have Hb5 : Hid (Below wo.heap.size wo w5) := Hb4i.out.trans q2
           have hb45 : Hid (Below w.heap.size w w5) := held_next Hb.out Hb5.out
           have HR5 : Hid (n3 = rest.length ∧ n3 ≤ d3 ∧ Bytes w (.slice a3 n3 d3) rest) := ⟨Hn3.out, Hrest.out.2, Hrest.out.1⟩
           clear hrun q1 q2 q3
           go_wp2_with fail
           go_roundg (N + 2 - (k + 1))
           case measure => omega
           case rel => exact ⟨k + 1, P ++ [(v : Int)], rest, a3, n3, d3, _, by omega, by go_num, rfl, rfl, HR5.out, HT5.out, HP5.out, Hb5.out⟩
       · have hr := reftake_no a2 n2 d2 cu wr (HC2.out.2.2.later HbW.out) HC2.out.1 HC2.out.2.1 hbare
         obtain rfl : res = none := Hres.out.symm.trans (takeB_bare (n := N) rfl (zs_flat HP.out.2.2) (flat_count HL.out.1 HL.out.2.1 HP.out.1 hlt hkn) hbare)
         have Hr := Lib.hid hr; clear hr
         go_wp2_with fail
         refine Hr.out.mono ?_
         rintro e w4 ⟨rfl, hb⟩
         have Hb4 := Lib.hid (held_next HbW.out hb)
         clear hb
         go_wp2_with fail
         go_ret3
         exact Or.inr ⟨rfl, by rfl, Hb4.out⟩
     · have hke : k = N + 2 := by omega
       have hkn' : ¬ ((k : Int) < (N : Int) + 2) := by omega
       have Hke := Lib.hid hke; clear hke
       go_wp2_with fail
       have hke := Hke.out
       have hk2 : 2 ≤ k := by omega
       obtain ⟨gb, cap, rfl, hgb0, hgb1, hcap, x0, x1, hN2⟩ := three HT.out HP.out.1 (by omega)
       obtain ⟨X, HX⟩ : ∃ z : Int, Hid (P[0]?.getD 0 = z) := ⟨_, Lib.hid rfl⟩
       obtain ⟨Y, HY⟩ : ∃ z : Int, Hid (P[1]?.getD 0 = z) := ⟨_, Lib.hid rfl⟩
       obtain ⟨O, HO⟩ : ∃ z, Hid (P.drop 2 = z) := ⟨_, rfl⟩
       rw [HX.out] at x0
       rw [HY.out] at x1
       rw [HO.out] at hN2
       have hOl : O.length = N := by rw [← HO.out, List.length_drop, HP.out.1]; omega
       have HRow : Hid (rowN ⟨X, Y, O⟩ = P) := by
        rw [← HX.out, ← HY.out, ← HO.out]
        exact rowN_of (N := N) (by rw [HP.out.1, Hke.out])
       obtain ⟨gh, hG⟩ := HH.out
       have hbi := Hbi.out
       have hb3 : Below wo.heap.size wo (wr.alloc (.cells #[.int .i64 X, .int .i64 Y, .slice (some ⟨gb, 2, none⟩) N (cap - 2)] 109)).drew := (hbi.alloc hbi.size _).drew
       have hLl := HL.out.1
       obtain ⟨v2, w6, hrun2, p1, p2, p3⟩ := run_append_elems (P := Tryz.prog) (w := (wr.alloc (.cells #[.int .i64 X, .int .i64 Y, .slice (some ⟨gb, 2, none⟩) N (cap - 2)] 109)).drew) 26 26 w.heap.size 109 i5 _ 3 40 Tryz.underlying26 Ki.out Kz0.out Kz1.out Kz2.out rfl (by decide)
        _ _ _ (own_later hG.1 hb3) (some ⟨wr.heap.size, 0, none⟩) 1 1 (fun _ j => if j = 0 then .int .i64 X else if j = 1 then .int .i64 Y else .slice (some ⟨gb, 2, none⟩) N (cap - 2)) (one_row (Whole.made wr _ _).drew)
        (fun i j _ hj => by match j, hj with | 0, _ => rfl | 1, _ => rfl | 2, _ => rfl) (by unfold maxLen; omega) (by omega) (by have := hb3.size; have := Hb.out.size; omega)
       have hpush := held_push (r := ⟨X, Y, O⟩) (u := .slice (some ⟨gb, 2, none⟩) N (cap - 2)) hG hb3 ⟨gb, 2, cap - 2, by rw [hOl], by rw [hOl]; omega, hgb0, hN2.later (below_box wr _).drew⟩ p1 p3 Hb.out.size
       have hf2 : Fine Tryz.prog (wr.alloc (.cells #[.int .i64 X, .int .i64 Y, .slice (some ⟨gb, 2, none⟩) N (cap - 2)] 109)).drew #[26, 26] 26 #[lv, .slice (some ⟨wr.heap.size, 0, none⟩) 1 1] := ⟨_, _, hrun2⟩
       have hv2 : appV Tryz.prog (wr.alloc (.cells #[.int .i64 X, .int .i64 Y, .slice (some ⟨gb, 2, none⟩) N (cap - 2)] 109)).drew #[26, 26] 26 #[lv, .slice (some ⟨wr.heap.size, 0, none⟩) 1 1] = v2 := by unfold appV; rw [hrun2]; rfl
       have hw2 : appW Tryz.prog (wr.alloc (.cells #[.int .i64 X, .int .i64 Y, .slice (some ⟨gb, 2, none⟩) N (cap - 2)] 109)).drew #[26, 26] 26 #[lv, .slice (some ⟨wr.heap.size, 0, none⟩) 1 1] = w6 := by unfold appW; rw [hrun2]; rfl
       have HPush := Lib.hid hpush
       have Hb6 : Hid (Below w.heap.size w w6) := (Hb.out.trans (hb3.mono Hb.out.size)).trans p2
       have HW6 : Hid (Whole w6 w.heap.size 23 (cfCells ⟨N, q, r, p, kk, cc⟩)) := by
        have h1 := HWr.out.later hb3 HWr.out.lt
        exact (p3.whole h1 (fun e => (h1.not_row (by decide) (own_later hG.1 hb3)) e.symm)).1
       have HL6 : Hid ((L ++ [(⟨X, Y, O⟩ : Rw)]).length = i + 1 ∧ Rowed N (L ++ [(⟨X, Y, O⟩ : Rw)]) ∧ (∀ x ∈ flatR (L ++ [(⟨X, Y, O⟩ : Rw)]), 0 ≤ x ∧ x < 18446744073709551616) ∧ zs = booksB (L ++ [(⟨X, Y, O⟩ : Rw)]) ++ cu) :=
        ⟨by rw [List.length_append, hLl]; rfl, fun rr hrr => by
         rcases List.mem_append.1 hrr with h | h
         · exact HL.out.2.1 rr h
         · have : rr = ⟨X, Y, O⟩ := by simpa using h
           rw [this]; exact hOl, fun x hx => by
         rw [flatR_append, flatR_one, HRow.out] at hx
         rcases List.mem_append.1 hx with h | h
         · exact HL.out.2.2.1 x h
         · exact HP.out.2.1 x h, zs_row HP.out.2.2 HRow.out⟩
       have hsl : ∀ w : World, (Instr.slice 33 (.slice (some ⟨gb, 0, none⟩) k cap) (some (.int .i64 2)) none none).run Tryz.prog w = .ok (.slice (some ⟨gb, 2, none⟩) N (cap - 2)) w := by
        intro w
        rw [run_slice_l w 33 (some ⟨gb, 0, none⟩) k cap elem_nums .i64 2 (by omega) (by omega), size_nums]
        have e1 : k - 2 = N := by omega
        have e2 : ¬ cap = 2 := by omega
        simp [Result.andThen, sliced, Addr.add, e1, e2]
       have hsz : gb < wr.heap.size := hgb1
       clear hrun2 p1 p2 p3 hpush hb3 hG hN2 d0 hbi hLl hke
       have j0 : (0 : Int) < (k : Int) := by omega
       have j1 : (1 : Int) < (k : Int) := by omega
       go_region
       go_wp2_with fail
       go_roundg (N - (i + 1))
       case measure => omega
       case rel => exact ⟨i + 1, L ++ [(⟨X, Y, O⟩ : Rw)], cu, a2, n2, d2, _, by omega, by go_num, rfl, rfl, HC2.out, HPush.out, HL6.out, Hb6.out, HW6.out⟩
  · have hiN : i = N := by omega
    have hLn : L.length = N := by rw [HL.out.1, hiN]
    have HR : Hid (res = if rightOk ⟨N, q, r, p, kk, cc⟩ L then some (L, cur) else none) := Hres.out.symm.trans (takeB_end (n := N) rfl hLn HL.out.2.1 HL.out.2.2.1 HL.out.2.2.2)
    obtain ⟨A, C, rfl, hBk⟩ := HH.out.far (by omega)
    rw [hLn] at hBk
    have HBk := Lib.hid hBk
    have HLn := Lib.hid hLn
    have HiN := Lib.hid hiN
    obtain ⟨okj, Hokj⟩ : ∃ z, Hid (rightB ⟨N, q, r, p, kk, cc⟩ L = z) := ⟨_, rfl⟩
    clear d0 hBk hiN
    obtain ⟨d0, d1', d2, d3, d4, d5⟩ := config_cells HWr.out
    simp only at d0 d1' d2 d3 d4 d5
    rw [HLn.out]
    clear hLn
    go_wp2_with fail
    refine (refright_calls ⟨N, q, r, p, kk, cc⟩ A N C L HLn.out.symm _ HBk.out.1).mono ?_
    rintro e w5 ⟨rfl, hb⟩
    rw [Hokj.out]
    have Hb5 := Lib.hid (held_next Hb.out hb)
    have HBk5 := Lib.hid (HBk.out.later hb)
    clear hb d0 d1' d2 d3 d4 d5
    cases okj with
    | false =>
      obtain rfl : res = none := HR.out.trans (if_neg fun h => by
       have := decide_eq_true h
       rw [show decide (rightOk ⟨N, q, r, p, kk, cc⟩ L) = false from Hokj.out] at this
       cases this)
      go_wp2_with fail
      go_ret3
      exact Or.inr ⟨rfl, by rfl, Hb5.out⟩
    | true =>
      obtain rfl : res = some (L, cur) := HR.out.trans (if_pos (rightB_ok Hokj.out))
      obtain ⟨hc1, hc2, hc3⟩ := HC.out
      have HC1 := Lib.hid hc1
      have HC3 := Lib.hid (hc3.later Hb5.out)
      clear hc1 hc3
      go_wp2_with fail
      go_ret3
      exact Or.inl ⟨L, cur, A, C, a1, d1, rfl, by rw [HLn.out, ← HC1.out]; rfl, by rw [HLn.out]; exact HBk5.out, by rw [← HC1.out]; exact HC3.out, by rw [← HC1.out]; exact hc2, Hb5.out⟩
end Go.Proofs.YtnkgakhnlbifdaaGreat
namespace Go.Proofs.YtnkgakhnlbifdaaGreat
open Go.RowKit
set_option maxHeartbeats 400000 in
theorem refstampmay_calls (t a n : Int) (w : World) :
 Calls Tryz.prog 50 #[stampV t a, .int .i64 n] w (Says w (mayB t a n)) := by
 by_cases h : 1 ≤ t ∧ t ≤ 1125899906842624 ∧ 0 ≤ a ∧ a < n
 · rw [mayB_yes h]
   obtain ⟨h1, h2, h3, h4⟩ := h
   have h0 : 0 < t := by omega
   go_enter Tryz.func50, Tryz.ntmps50
   go_wp2_with fail
   go_ret
   exact ⟨by simp_all, below_box _ _⟩
 · rw [mayB_no h]
   by_cases h1 : 0 < t
   · by_cases h2 : t ≤ 1125899906842624
     · by_cases h3 : 0 ≤ a
       · have h4 : ¬ a < n := by omega
         clear h
         go_enter Tryz.func50, Tryz.ntmps50
         go_wp2_with fail
         go_ret
         exact ⟨by simp_all, below_box _ _⟩
       · clear h
         go_enter Tryz.func50, Tryz.ntmps50
         go_wp2_with fail
         go_ret
         exact ⟨by simp_all, below_box _ _⟩
     · clear h
       go_enter Tryz.func50, Tryz.ntmps50
       go_wp2_with fail
       go_ret
       exact ⟨by simp_all, below_box _ _⟩
   · clear h
     go_enter Tryz.func50, Tryz.ntmps50
     go_wp2_with fail
     go_ret
     exact ⟨by simp_all, below_box _ _⟩
end Go.Proofs.YtnkgakhnlbifdaaGreat
namespace Go.Proofs.YtnkgakhnlbifdaaGreat
open Go.RowKit
set_option maxHeartbeats 400000 in
theorem refolder_calls (t a u b : Int) (w : World) :
 Calls Tryz.prog 84 #[stampV t a, stampV u b] w (Says w (olderB t a u b)) := by
 by_cases h1 : t < u
 · rw [olderB_yes (Or.inl h1)]
   go_enter Tryz.func84, Tryz.ntmps84
   go_wp2_with fail
   go_ret
   exact ⟨by simp_all, below_two _ _ _⟩
 · by_cases h2 : t = u
   · subst h2
     by_cases h3 : a < b
     · rw [olderB_yes (Or.inr ⟨rfl, h3⟩)]
       go_enter Tryz.func84, Tryz.ntmps84
       go_wp2_with fail
       go_ret
       exact ⟨by simp_all, below_two _ _ _⟩
     · rw [olderB_no (by omega)]
       go_enter Tryz.func84, Tryz.ntmps84
       go_wp2_with fail
       go_ret
       exact ⟨by simp_all, below_two _ _ _⟩
   · rw [olderB_no (by omega)]
     have hn : (t == u) = false := beq_eq_false_iff_ne.2 h2
     go_enter Tryz.func84, Tryz.ntmps84
     go_wp2_with fail
     go_ret
     exact ⟨by simp_all, below_two _ _ _⟩
end Go.Proofs.YtnkgakhnlbifdaaGreat
