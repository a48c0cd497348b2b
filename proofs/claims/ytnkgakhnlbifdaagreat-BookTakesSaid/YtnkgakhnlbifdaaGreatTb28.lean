/- Parts, as far as BookTakesCards reaches them, of: RowMay, RightsRight, PaintStand, BookRows, BookHeld. No law is proved here. -/
import Derived.Test.YtnkgakhnlbifdaaGreatTb27
import Derived.RangeFuncNested
import Derived.RangeFuncBound
import Derived.RangeFuncCalls
import Derived.RangeFuncLeaves
import Derived.RangeFuncBox
import Derived.Shelf.Abstract
import Derived.Shelf.RegionOpen
import Derived.WalkKit
import Derived.OwnWalkIn
import Derived.TacticsInMore
import Derived.LoopNIn
import Derived.LoopIn
import Derived.Laws.MakeOwn
import Derived.Maps.AppendAt
import Derived.ProofKit
import Derived.OpenShut
import Derived.WalkSpells
import Derived.Laws.AppendOwn
import Derived.Laws.AppendOwnNone
import Derived.Laws.OwnMore
import Derived.Lib.Hide
import Derived.Deep.Draws
import Derived.Deep.Slices
import Derived.Deep.Fields
import Derived.ChangeSame
import Derived.RegionTactic
import Derived.Lib.SmallJoins
import Derived.LoopTactic
import Derived.BigRegion
import Derived.WalkLawsBesides
import Derived.IntWalk
import Derived.WalkSmall
import Derived.Deep.QuietTactic
import Derived.BigQuiet
import Derived.Deep.RegionHeld3
import Derived.Laws.EntriesVeiled
import Derived.Test.YtnkgakhnlbifdaaGreatTb26
import Derived.Test.YtnkgakhnlbifdaaGreatTb21
import Derived.Deep.LoopGhost
import Derived.Test.YtnkgakhnlbifdaaGreatTb6
namespace Go.Proofs.YtnkgakhnlbifdaaGreat
open Go.RowKit Go.Shelf
attribute [local go_sem] Oper.semAt_some
theorem counts_in (F : Fence) (n : Nat) (hF : F.fn 93) (hro : F.round = none) (v : Int) (w : World) : CallsIn F n Tryz.prog 93 #[.int .i64 v] w (fun e w' => e = .returned (.bool (countB v)) ∧ w = w') := by
 refine callsIn_of_wp Tryz.func93 rfl hF ?_ hro
 simp only [Tryz.ntmps93, List.size_toArray, List.length_cons, List.length_nil, Nat.reduceAdd, Nat.reduceSub, Array.replicate_succ, Array.replicate_zero, List.push_toArray, List.append_toArray, List.nil_append, List.cons_append]
 by_cases h1 : 0 ≤ v
 · by_cases h2 : v ≤ 1099511627776
   · rw [countB_yes ⟨h1, h2⟩]
     gi_wp2
     go_ret
     exact ⟨by simp, rfl⟩
   · rw [countB_no (by omega)]
     gi_wp2
     go_ret
     exact ⟨by simp, rfl⟩
 · rw [countB_no (by omega)]
   gi_wp2
   go_ret
   exact ⟨by simp, rfl⟩
theorem counts_calls (v : Int) (w : World) : Calls Tryz.prog 93 #[.int .i64 v] w (fun e w' => e = .returned (.bool (countB v)) ∧ w = w') :=
 callsIn_wide.1 (counts_in Fence.wide 9 trivial rfl v w)
set_option maxRecDepth 100000 in
set_option maxHeartbeats 2000000 in
theorem may_loop (F : Fence) (N : Nat) (hf : ∀ k, F.fn k) (hro : F.round = none) (hN : 3 ≤ N) (a : Option Addr) (n c : Nat) (i u who : Int) (la : List Int) (hn : n = la.length) (w : World) (hA : Nums w (.slice a n c) la)
 (h0 : 0 ≤ who) (hwn : who < n) (hi : countB i = true) (hu : countB u = true) : CallsIn F N Tryz.prog 72 #[rowV i u (.slice a n c), .int .i64 (n : Int), .int .i64 who] w (Says w (fits (la.zip (mosts who n)))) := by
 have hbig : n ≤ 9223372036854775807 := by rw [hn]; exact hA.1
 have h1 : 1 ≤ N := by omega
 have HA := Lib.hid hA; clear hA
 have Hn := Lib.hid hn; clear hn
 have Hi := Lib.hid hi; clear hi
 have Hu := Lib.hid hu; clear hu
 refine callsIn_of_wp_marks Tryz.func72 rfl (hf _) ?_ hro
 simp only [Tryz.ntmps72, List.size_toArray, List.length_cons, List.length_nil, Nat.reduceAdd, Nat.reduceSub, Array.replicate_succ, Array.replicate_zero, List.push_toArray, List.append_toArray, List.nil_append, List.cons_append]
 gi_wp2_with fail
 refine (counts_in F (N - 1) (hf _) hro i _).mono ?_
 rintro e w' ⟨rfl, rfl⟩
 rw [Hi.out]
 gi_wp2_with fail
 refine (counts_in F (N - 1) (hf _) hro u _).mono ?_
 rintro e w' ⟨rfl, rfl⟩
 rw [Hu.out]
 gi_wp2_with (gi_at_call 94; refine (limits_in F (N - 1) (hf _) hro _ _ _ _ _).mono ?_; rintro e w' ⟨rfl, rfl⟩)
 have c2 := Boxed.new (w.alloc (.cells #[.int .i64 i, .int .i64 u, .slice a n c] 109)) 4 (.bool false)
 obtain ⟨w3, hw3⟩ : ∃ w3, (w.alloc (.cells #[.int .i64 i, .int .i64 u, .slice a n c] 109)).alloc (.cells #[.bool false] 4) = w3 := ⟨_, rfl⟩
 have hs3 : w3.heap.size = w.heap.size + 1 + 1 := by rw [← hw3]; simp
 have hb3 : Below w.heap.size w w3 := by rw [← hw3]; exact below_two w _ _
 simp only [World.size_alloc] at c2
 rw [hw3] at c2 ⊢
 clear hw3
 have bA := Boxed.new w3 33 (.slice a n c)
 have bB := Boxed.new (w3.alloc (.cells #[.slice a n c] 33)) 3 (.int .i64 who)
 rw [World.size_alloc] at bB
 rw [hs3] at bA bB
 have hB0 : Below w.heap.size w ((w3.alloc (.cells #[.slice a n c] 33)).alloc (.cells #[.int .i64 who] 3)) := (hb3.alloc (by omega) _).alloc (by simp; omega) _
 refine wpIn_rangeFunc_ownG hro h1 (gf := 112) (lb := #[.pointer (some ⟨w.heap.size + 1 + 1, 0, none⟩), .pointer (some ⟨w.heap.size + 1 + 1 + 1, 0, none⟩)]) rfl (hf _) (enters_of Tryz.func112 (by kernel_rfl) rfl)
  (limits_stops F (N - 1) (hf _) hro (by omega) (w.heap.size + 1 + 1) (w.heap.size + 1 + 1 + 1) w a n c who la Hn.out HA.out _ hB0 (bA.alloc _) bB) kept_trans (kept_put (by simp; omega) (by simp; omega)) (Below.refl _ _) (fun _ => rfl)
  (fun pre W => ((∀ x ∈ pre, 0 ≤ x.1 ∧ x.1 ≤ x.2) ∧ Boxed W (w.heap.size + 1) 4 (.bool false)) ∧ Below w.heap.size w W)
  (fun cd pre W => (cd = .ret ∧ Bad pre ∧ Boxed W (w.heap.size + 1) 4 (.bool false)) ∧ Below w.heap.size w W)
  (OwnFrom.and (Own.from (fun s A B row hs hg hr => ⟨hs.1, box_kept hs.2 hg hr⟩) _) (ownFrom_below (Nat.le_refl _) (by simp; omega)))
  (fun cd => OwnFrom.and (Own.from (fun s A B row hs hg hr => ⟨hs.1, hs.2.1, box_kept hs.2.2 hg hr⟩) _) (ownFrom_below (Nat.le_refl _) (by simp; omega)))
  ⟨⟨by simp, (c2.alloc _).alloc _⟩, hB0⟩
  ?a1 ?assign ?body ?done ?stop
 case assign =>
  intro l x W K hK
  gi_wp2
  exact hK
 case body =>
  rintro l pre x W ⟨⟨hp, hr⟩, hB⟩ _
  have hc := hr.cell
  have hfz := hr.frozen
  by_cases hx0 : 0 ≤ x.1
  · by_cases hx1 : x.1 ≤ x.2
    · gi_wp2
      exact ⟨KeepsFrom.refl _ _, kept_refl _ _ _, ⟨fun y hy => (List.mem_append.1 hy).elim (hp y) (fun e => by simp at e; subst e; exact ⟨hx0, hx1⟩), hr⟩, hB⟩
    · gi_wp2
      exact ⟨(KeepsOthers.setCell _ _ _).from _, ⟨rfl, bad_of (by omega), hr.set _⟩, hB.setCell (p := ⟨w.heap.size + 1, 0, none⟩) (by simp) _⟩
  · gi_wp2
    exact ⟨(KeepsOthers.setCell _ _ _).from _, ⟨rfl, bad_of (by omega), hr.set _⟩, hB.setCell (p := ⟨w.heap.size + 1, 0, none⟩) (by simp) _⟩
 case done =>
  rintro D ys W hD rfl ⟨⟨hp, hr⟩, hB⟩ hK
  have hc := hr.cell
  have hfz := hr.frozen
  gi_wp2
  have hK' := (KeepsOthers.setCell W ⟨w.heap.size + 1, 0, none⟩ (.bool true)).same D _ hK rfl
  refine ⟨by simp, .inl ⟨_, _, rfl, run_takeDeferred hK', ?_⟩⟩
  have hc5 := cell_kept (hr.set (.bool true)).cell (grownBy_putObj' _ D (.deferred none)) (fun r e => by cases e; exact ⟨_, hK', rfl⟩)
  refine ⟨.bool true, ?_, by rw [fits_yes hp], (hB.setCell (p := ⟨w.heap.size + 1, 0, none⟩) (by simp) _).trans (belowK_b (w := w) (Nat.le_refl _) _ D _ _ (by simp at hD; omega) hK' rfl rfl)⟩
  simp [results, Tryz.f72, go_sem, hc5]
 case stop =>
  rintro D cd pre W hD ⟨k, hk, rfl⟩ ⟨⟨rfl, hbad, hr⟩, hB⟩ hK
  gi_wp2
  refine ⟨by simp, .inl ⟨_, _, rfl, run_takeDeferred hK, ?_⟩⟩
  have hc5 := cell_kept hr.cell (grownBy_putObj' _ D (.deferred none)) (fun r e => by cases e; exact ⟨_, hK, rfl⟩)
  refine ⟨.bool false, ?_, by rw [hbad.fits], hB.trans (belowK_b (w := w) (Nat.le_refl _) W D _ _ (by simp at hD; omega) hK rfl rfl)⟩
  simp [results, Tryz.f72, go_sem, hc5]
section
variable (a : Option Addr) (n c : Nat) (i u m who : Int) (w : World)
set_option maxHeartbeats 1000000 in
theorem may_no (h : ¬ (((n : Int) = m ∧ 0 ≤ who ∧ who < m) ∧ countB i = true ∧ countB u = true)) : Calls Tryz.prog 72 #[rowV i u (.slice a n c), .int .i64 m, .int .i64 who] w (Says w false) := by
 by_cases h1 : (n : Int) = m
 · subst h1
   by_cases h2 : 0 ≤ who
   · by_cases h3 : who < (n : Int)
     · cases hi : countB i with
       | false =>
         have Hi := Lib.hid hi; clear hi h
         go_enter Tryz.func72, Tryz.ntmps72
         go_wp2_with fail
         refine (counts_calls i _).mono ?_
         rintro e w' ⟨rfl, rfl⟩
         rw [Hi.out]
         go_wp2
         refine bodyPost_ret (v := .bool false) (by simp [results, Tryz.results72, go_sem]) rfl ⟨rfl, below_two w _ _⟩
       | true =>
         have hu : countB u = false := by
          cases hu : countB u with
          | false => rfl
          | true => exact absurd ⟨⟨rfl, h2, h3⟩, hi, hu⟩ h
         have Hi := Lib.hid hi; clear hi h
         have Hu := Lib.hid hu; clear hu
         go_enter Tryz.func72, Tryz.ntmps72
         go_wp2_with fail
         refine (counts_calls i _).mono ?_
         rintro e w' ⟨rfl, rfl⟩
         rw [Hi.out]
         go_wp2_with fail
         refine (counts_calls u _).mono ?_
         rintro e w' ⟨rfl, rfl⟩
         rw [Hu.out]
         go_wp2
         refine bodyPost_ret (v := .bool false) (by simp [results, Tryz.results72, go_sem]) rfl ⟨rfl, below_two w _ _⟩
     · clear h
       go_enter Tryz.func72, Tryz.ntmps72
       go_wp2
       refine bodyPost_ret (v := .bool false) (by simp [results, Tryz.results72, go_sem]) rfl ⟨rfl, below_two w _ _⟩
   · clear h
     go_enter Tryz.func72, Tryz.ntmps72
     go_wp2
     refine bodyPost_ret (v := .bool false) (by simp [results, Tryz.results72, go_sem]) rfl ⟨rfl, below_two w _ _⟩
 · clear h
   have h1' : ((n : Int) != m) = true := bne_iff_ne.2 h1
   go_enter Tryz.func72, Tryz.ntmps72
   go_wp2
   refine bodyPost_ret (v := .bool false) (by simp [results, Tryz.results72, go_sem]) rfl ⟨rfl, below_two w _ _⟩
end
theorem may_calls (a : Option Addr) (n c : Nat) (i u m who : Int) (la : List Int) (hn : n = la.length) (w : World) (hA : Nums w (.slice a n c) la) :
 Calls Tryz.prog 72 #[rowV i u (.slice a n c), .int .i64 m, .int .i64 who] w (Says w (mayR i u la m who)) := by
 by_cases h : ((n : Int) = m ∧ 0 ≤ who ∧ who < m) ∧ countB i = true ∧ countB u = true
 · have e : mayR i u la m who = fits (la.zip (mosts who n)) := by
    unfold mayR
    rw [← hn, decide_eq_true h.1, h.2.1, h.2.2]; rfl
   rw [e]
   obtain ⟨⟨rfl, h0, h1⟩, hi, hu⟩ := h
   exact callsIn_wide.1 (may_loop Fence.wide 9 (fun _ => trivial) rfl (by decide) a n c i u who la hn w hA h0 h1 hi hu)
 · have e : mayR i u la m who = false := by
    unfold mayR
    rw [← hn]
    cases hd : decide ((n : Int) = m ∧ 0 ≤ who ∧ who < m) with
    | false => rfl
    | true =>
      cases hi : countB i with
      | false => rfl
      | true =>
        cases hu : countB u with
        | false => rfl
        | true => exact absurd ⟨of_decide_eq_true hd, hi, hu⟩ h
   rw [e]
   exact may_no a n c i u m who w h
end Go.Proofs.YtnkgakhnlbifdaaGreat
namespace Go.Proofs.YtnkgakhnlbifdaaGreat
open Go.RowKit
set_option maxRecDepth 100000 in
set_option maxHeartbeats 8000000 in
theorem rRight_calls (c : Cf) (a : Option Addr) (m d : Nat) (l : List Rw) (hm : m = l.length) (w : World) (hB : Books w (.slice a m d) l) : Calls Tryz.prog 43 #[cfV c, .slice a m d] w (Says w (rightB c l)) := by
 have hbig : m ≤ 9223372036854775807 := by rw [hm]; exact hB.big
 have HW := Lib.hid (Whole.made w 23 (cfCells c))
 have Hb0 := Lib.hid (below_box w (.cells (cfCells c) 23))
 have HB := Lib.hid hB; clear hB
 have Hm := Lib.hid hm; clear hm
 obtain ⟨n, q, r, p, kk, cc⟩ := c
 obtain ⟨res, Hres⟩ : ∃ z, Hid (rightB ⟨n, q, r, p, kk, cc⟩ l = z) := ⟨_, rfl⟩
 rw [Hres.out]
 obtain ⟨ok, Hok⟩ : ∃ z, Hid (cfB ⟨n, q, r, p, kk, cc⟩ = z) := ⟨_, rfl⟩
 go_enter Tryz.func43, Tryz.ntmps43
 go_wp2_with fail
 refine (rMay_calls ⟨n, q, r, p, kk, cc⟩ _).mono ?_
 rintro e w1 ⟨rfl, hb⟩
 rw [Hok.out]
 have Hb1 := Lib.hid (held_next Hb0.out hb)
 have HW1 := Lib.hid (HW.out.later hb HW.out.lt)
 clear hb
 obtain ⟨d0, d1, d2, d3, d4, d5⟩ := config_cells HW1.out
 simp only at d0 d1 d2 d3 d4 d5
 cases ok with
 | false =>
   obtain rfl : res = false := Hres.out.symm.trans (rightB_no fun h => by
    have := cfB_yes h.1
    rw [Hok.out] at this
    cases this)
   go_wp2_with fail
   go_ret
   exact ⟨by rfl, Hb1.out⟩
 | true =>
   by_cases hnm : (m : Int) ≠ n
   · obtain rfl : res = false := Hres.out.symm.trans (rightB_no fun h => hnm (by rw [Hm.out]; exact h.2.1))
     have hnm' : ((m : Int) != n) = true := bne_iff_ne.2 hnm
     go_wp2_with fail
     go_ret
     exact ⟨by rfl, Hb1.out⟩
   have hnme : n = (m : Int) := by omega
   clear hnm
   subst hnme
   go_wp2_with fail
   clear d0 d1 d2 d3 d4 d5
   go_loopw [21] (fun x wr => ∃ k : Nat, k ≤ m ∧ x = .int .i64 k ∧ Hid (∀ q, q < k → mayR (at_ l q).inc (at_ l q).use (at_ l q).out (m : Int) q = true ∧ (at_ l q).inc ≤ cc) ∧ Hid (Below w.heap.size w wr) ∧ Hid (Whole wr w.heap.size 23 (cfCells ⟨m, q, r, p, kk, cc⟩))) (fun x _ => m - (intOf x).toNat)
   case atStart => exact ⟨0, Nat.zero_le _, rfl, fun q hq => absurd hq (Nat.not_lt_zero _), Hb1.out, HW1.out⟩
   case round =>
    obtain ⟨k, hk, rfl, Hl, Hb, HWr⟩ := hrel
    have d0 : wr.cell? ⟨w.heap.size, 0, none⟩ = some (.int .i64 (m : Int)) := HWr.out.cell 0
    have hszr : w.heap.size < wr.heap.size := HWr.out.lt
    by_cases hlt : k < m
    · obtain ⟨b, off, A, C, rfl, hbw, c0, c1, c2, hN⟩ := HB.out.at (k := k) (by have := Hm.out; omega)
      obtain ⟨x, Hx⟩ : ∃ z, Hid ((at_ l k).inc = z) := ⟨_, rfl⟩
      obtain ⟨y, Hy⟩ : ∃ z, Hid ((at_ l k).use = z) := ⟨_, rfl⟩
      obtain ⟨lo, Hlo⟩ : ∃ z, Hid ((at_ l k).out = z) := ⟨_, rfl⟩
      obtain ⟨lm, Hlm⟩ : ∃ z, Hid (z = lo.length) := ⟨_, rfl⟩
      obtain ⟨v, Hv⟩ : ∃ z, Hid (mayR (at_ l k).inc (at_ l k).use (at_ l k).out (m : Int) k = z) := ⟨_, rfl⟩
      rw [Hx.out] at c0
      rw [Hy.out] at c1
      rw [Hlo.out, ← Hlm.out] at c2 hN
      have HN := Lib.hid (hN.later Hb.out); clear hN
      have e0 := cell_later Hb.out c0
      have e1 := cell_later Hb.out c1
      have e2 := cell_later Hb.out c2
      have Hv2 : Hid (mayR x y lo (m : Int) k = v) := by rw [← Hv.out, Hx.out, Hy.out, Hlo.out]; exact rfl
      clear c0 c1 c2
      have k0 : (0 : Int) ≤ (k : Int) := by omega
      have k1 : (k : Int) < (m : Int) := by omega
      have hbr : b < wr.heap.size := by have := Hb.out.size; omega
      have HR := Lib.hid (Whole.made wr 109 #[.int .i64 x, .int .i64 y, .slice A lm C])
      have Hbx := Lib.hid (below_box wr (.cells #[.int .i64 x, .int .i64 y, .slice A lm C] 109))
      go_wp2_with fail
      refine (may_calls A lm C x y m k lo Hlm.out _ (HN.out.later Hbx.out)).mono ?_
      rintro e w2 ⟨rfl, hb⟩
      rw [Hv2.out]
      have Hb2 := Lib.hid (held_next Hbx.out hb)
      have HR2 := Lib.hid (HR.out.later hb HR.out.lt)
      have HW2 := Lib.hid (HWr.out.later Hb2.out HWr.out.lt)
      have Hb2w := Lib.hid (held_next Hb.out Hb2.out)
      clear hb d0 e0 e1 e2 hbr
      have f0 : w2.cell? ⟨wr.heap.size, 0, none⟩ = some (.int .i64 x) := HR2.out.cell 0
      have f5 : w2.cell? ⟨w.heap.size, 5, none⟩ = some (.int .i64 cc) := HW2.out.cell 5
      cases v with
      | false =>
        obtain rfl : res = false := Hres.out.symm.trans (rightB_no fun h => by
         have := (h.2.2.1 k (by have := Hm.out; omega)).1
         simp only at this
         rw [Hv.out] at this
         cases this)
        go_wp2_with fail
        go_ret
        exact ⟨by rfl, Hb2w.out⟩
      | true =>
        by_cases hxc : cc < x
        · obtain rfl : res = false := Hres.out.symm.trans (rightB_no fun h => by
           have := (h.2.2.1 k (by have := Hm.out; omega)).2
           rw [Hx.out] at this
           simp only at this
           omega)
          go_wp2_with fail
          go_ret
          exact ⟨by rfl, Hb2w.out⟩
        · go_wp2_with fail
          go_roundw
          case rel => exact ⟨k + 1, by omega, by go_num, (fun z hz => by
           by_cases e : z = k
           · subst e; exact ⟨Hv.out, by rw [Hx.out]; omega⟩
           · exact Hl.out z (by omega)), Hb2w.out, HW2.out⟩
          case measure => simp [intOf]; omega
    · have hkm : k = m := by omega
      have Hl' : Hid (∀ i, i < l.length → mayR (at_ l i).inc (at_ l i).use (at_ l i).out (m : Int) i = true ∧ (at_ l i).inc ≤ cc) := fun i hi => Hl.out i (by have := Hm.out; omega)
      have HF : Hid (Fits l) := fits_of_may fun i hi => by rw [← Hm.out]; exact (Hl'.out i hi).1
      have h16 : m ≤ 16 := by have := (cfB_ok Hok.out).2.1; simp only at this; omega
      have Hkm := Lib.hid hkm; clear hkm
      clear Hl
      obtain ⟨d0, d1, d2, d3, d4, d5⟩ := config_cells HWr.out
      simp only at d0 d1 d2 d3 d4 d5
      go_wp2_with fail
      refine (rights_calls ⟨m, q, r, p, kk, cc⟩ a m d _).mono ?_
      rintro e w3 ⟨cv, rfl, ⟨bl, ba, bc, bs, rfl, q1, q2, q3, q4⟩, hb⟩
      have Hb3 := Lib.hid (held_next Hb.out hb)
      have Q1 := Lib.hid q1; clear q1
      have Q2 := Lib.hid q2; clear q2
      have Q3 := Lib.hid q3; clear q3
      have Q4 := Lib.hid q4; clear q4
      have HB3 := Lib.hid (HB.out.later Hb3.out)
      clear hb d0 d1 d2 d3 d4 d5
      go_wp2_with fail
      go_loopw [45] (fun x wr => ∃ k : Nat, k ≤ m ∧ x = .int .i64 k ∧ Hid (∀ z, z < k → 0 ≤ rightsV ⟨m, q, r, p, kk, cc⟩ l z) ∧ Hid (Below w3.heap.size w3 wr)) (fun x _ => m - (intOf x).toNat)
      case atStart => exact ⟨0, Nat.zero_le _, rfl, fun q hq => absurd hq (Nat.not_lt_zero _), Below.refl _ _⟩
      case round =>
       clear Hb HWr
       obtain ⟨k, hk, rfl, Hg, Hb⟩ := hrel
       by_cases hlt : k < m
       · obtain ⟨v, Hv⟩ : ∃ z, Hid (rightsV ⟨m, q, r, p, kk, cc⟩ l k = z) := ⟨_, rfl⟩
         go_wp2_with fail
         refine (clos_calls ⟨m, q, r, p, kk, cc⟩ a m d l k Hm.out h16 hlt HF.out bl ba bc bs _ (HB3.out.later Hb.out) (cell_later Hb.out Q1.out) (cell_later Hb.out Q2.out) (cell_later Hb.out Q3.out) (Q4.out.later Hb.out Q4.out.lt)).mono ?_
         rintro e w2 ⟨rfl, hb⟩
         rw [Hv.out]
         have Hb2 := Lib.hid (held_next Hb.out hb)
         clear hb
         by_cases hv : v < 0
         · obtain rfl : res = false := Hres.out.symm.trans (rightB_no fun h => by
            have := h.2.2.2 k (by have := Hm.out; omega)
            rw [Hv.out] at this
            omega)
           go_wp2_with fail
           go_ret
           exact ⟨by rfl, held_next Hb3.out Hb2.out⟩
         · go_wp2_with fail
           go_roundw
           case rel => exact ⟨k + 1, by omega, by go_num, (fun z hz => by
            by_cases e : z = k
            · subst e; rw [Hv.out]; omega
            · exact Hg.out z (by omega)), Hb2.out⟩
           case measure => simp [intOf]; omega
       · have hkm : k = m := by omega
         obtain rfl : res = true := Hres.out.symm.trans (decide_eq_true ⟨cfB_ok Hok.out, by rw [← Hm.out], Hl'.out, fun i hi => Hg.out i (by have := Hm.out; omega)⟩)
         have Hkm2 := Lib.hid hkm; clear hkm
         go_wp2_with fail
         go_ret
         exact ⟨by rfl, held_next Hb3.out Hb.out⟩
end Go.Proofs.YtnkgakhnlbifdaaGreat
namespace Go.Proofs.YtnkgakhnlbifdaaGreat
open Go.RowKit
attribute [local go_sem ↓] run_fine
set_option maxRecDepth 100000 in
set_option maxHeartbeats 8000000 in
theorem pTake_all (c : Cf) (a : Option Addr) (n d : Nat) (zs : List Int) (w : World) (hB : Bytes w (.slice a n d) zs) (hn : n = zs.length) (hnd : n ≤ d) :
 Calls Tryz.prog 88 #[cfV c, .slice a n d] w (TookBA w (.slice a n d) zs (takeB c zs)) := by
 have HW := Lib.hid (Whole.made w 23 (cfCells c))
 have Hb0 := Lib.hid (below_box w (.cells (cfCells c) 23))
 have HB := Lib.hid hB; clear hB
 have Hn := Lib.hid hn; clear hn
 obtain ⟨nn, q, r, p, kk, cc⟩ := c
 obtain ⟨res, Hres⟩ : ∃ z, Hid (takeB ⟨nn, q, r, p, kk, cc⟩ zs = z) := ⟨_, rfl⟩
 rw [Hres.out]
 obtain ⟨ok, Hok⟩ : ∃ z, Hid (cfB ⟨nn, q, r, p, kk, cc⟩ = z) := ⟨_, rfl⟩
 go_enter Tryz.func88, Tryz.ntmps88
 go_wp2_with fail
 refine (rMay_calls ⟨nn, q, r, p, kk, cc⟩ _).mono ?_
 rintro e w1 ⟨rfl, hb⟩
 rw [Hok.out]
 have Hb1 := Lib.hid (held_next Hb0.out hb)
 have HW1 := Lib.hid (HW.out.later hb HW.out.lt)
 clear hb
 cases ok with
 | false =>
   obtain rfl : res = none := Hres.out.symm.trans (takeB_cf fun h => by
    have := cfB_yes h
    rw [Hok.out] at this
    cases this)
   go_wp2_with fail
   go_ret3
   exact Or.inr ⟨rfl, by rfl, Hb1.out⟩
 | true =>
 have hok := cfB_ok Hok.out
 obtain ⟨N, hN⟩ : ∃ N : Nat, nn = (N : Int) := ⟨nn.toNat, by have := hok.1; simp only at this; omega⟩
 subst hN
 have h16 : N ≤ 16 := by have := hok.2.1; simp only at this; omega
 have hN1 : 1 ≤ N := by have := hok.1; simp only at this; omega
 clear hok
 obtain ⟨d0, d1', d2, d3, d4, d5⟩ := config_cells HW1.out
 simp only at d0 d1' d2 d3 d4 d5
 go_wp2_with fail
 refine (takeN_calls N hN1 h16 a n d zs w1 (HB.out.later Hb1.out) Hn.out hnd).mono ?_
 rintro e w2 h
 rcases h with ⟨L, cur, A, C, B, D, rfl, hL, hR, hs, hz, hBk, hBr, hD, hb⟩ | ⟨hno, rfl, hb⟩
 rotate_left 1
 · obtain rfl : res = none := Hres.out.symm.trans (hno _ rfl)
   have Hb2 := Lib.hid (held_next Hb1.out hb)
   clear hb d0 d1' d2 d3 d4 d5 hno
   go_wp2_with fail
   go_ret3
   exact Or.inr ⟨rfl, by rfl, Hb2.out⟩
 have HR : Hid (res = if rightOk ⟨N, q, r, p, kk, cc⟩ L then some (L, cur) else none) := Hres.out.symm.trans (takeB_end (n := N) rfl hL hR hs hz)
 have HBk := Lib.hid hBk
 have HL := Lib.hid hL
 have HBr := Lib.hid hBr
 have Hb2 := Lib.hid (held_next Hb1.out hb)
 have HW2 := Lib.hid (HW1.out.later hb HW1.out.lt)
 obtain ⟨m1, Hm1⟩ : ∃ z, Hid (z = cur.length) := ⟨_, rfl⟩
 rw [← Hm1.out] at hD HBr ⊢
 obtain ⟨okj, Hokj⟩ : ∃ z, Hid (rightB ⟨N, q, r, p, kk, cc⟩ L = z) := ⟨_, rfl⟩
 clear hb d0 d1' d2 d3 d4 d5 hL hR hs hz hBk hBr
 obtain ⟨d0, d1', d2, d3, d4, d5⟩ := config_cells HW2.out
 simp only at d0 d1' d2 d3 d4 d5
 go_wp2_with fail
 refine (rRight_calls ⟨N, q, r, p, kk, cc⟩ A N C L HL.out.symm _ HBk.out.1).mono ?_
 rintro e w5 ⟨rfl, hb⟩
 rw [Hokj.out]
 have Hb5 := Lib.hid (held_next Hb2.out hb)
 have HBk5 := Lib.hid (HBk.out.later hb)
 clear hb d0 d1' d2 d3 d4 d5
 cases okj with
 | false =>
   obtain rfl : res = none := HR.out.trans (if_neg fun h => by
    have := decide_eq_true h
    rw [show decide (rightOk ⟨N, q, r, p, kk, cc⟩ L) = false from Hokj.out] at this
    cases this)
   go_wp2_with fail
   go_ret3
   exact Or.inr ⟨rfl, by rfl, Hb5.out⟩
 | true =>
   obtain rfl : res = some (L, cur) := HR.out.trans (if_pos (rightB_ok Hokj.out))
   go_wp2_with fail
   go_ret3
   exact Or.inl ⟨L, cur, A, C, B, D, rfl, by rw [HL.out, ← Hm1.out]; rfl, by rw [HL.out]; exact HBk5.out.mono Hb1.out.size, by rw [← Hm1.out]; exact HBr.out, by rw [← Hm1.out]; exact hD, Hb5.out⟩
def PaintedO (w : World) (wr : World) (v : Value) (zs P : List Int) : Prop := OwnB w.heap.size wr v (zs ++ bytesN (P.map u64n)) ∧ Below w.heap.size w wr
set_option maxRecDepth 100000 in
set_option maxHeartbeats 8000000 in
theorem pPut_own (a : Option Addr) (n c : Nat) (zs : List Int) (b : Option Addr) (m d : Nat) (l : List Rw) (w : World) (hA : Bytes w (.slice a n c) zs) (hn : n = zs.length) (hnc : n ≤ c) (hm : m = l.length) (hB : Books w (.slice b m d) l)
 (hroom : zs.length + 10 * (flatR l).length ≤ 140737488355000) :
 Calls Tryz.prog 35 #[.slice a n c, .slice b m d] w (fun e w' => ∃ A m C, e = .returned (.slice A m C) ∧ m = (zs ++ booksB l).length ∧ m ≤ C ∧ Bytes w' (.slice A m C) (zs ++ booksB l) ∧ Below w.heap.size w w' ∧ OwnB w.heap.size w' (.slice A m C) (zs ++ booksB l)) := by
 have HA := Lib.hid hA; clear hA
 have HB := Lib.hid hB; clear hB
 have Hm := Lib.hid hm; clear hm
 have Hn := Lib.hid hn; clear hn
 have Hroom := Lib.hid hroom; clear hroom
 have hbm : m ≤ 9223372036854775807 := by rw [Hm.out]; exact HB.out.big
 go_enter Tryz.func35, Tryz.ntmps35
 go_wp2_with fail
 refine (cloneb_calls a n c zs w HA.out Hn.out hnc (by have := Hroom.out; omega)).mono ?_
 rintro e w1 ⟨v1, rfl, ho, hb⟩
 have HP1 : Hid (PaintedO w w1 v1 zs (flatR (l.take 0))) := ⟨by simpa [bytesN, flatR] using ho, hb⟩
 clear ho hb
 go_wp2_with fail
 go_loopg [5, 14] m (fun g s5 s14 wr => ∃ (i : Nat) (lv : Value), i + g = m ∧ s14 = .int .i64 i ∧ s5 = lv ∧ Hid (PaintedO w wr lv zs (flatR (l.take i))))
 case atStart => exact ⟨0, _, by omega, rfl, rfl, HP1.out⟩
 case round =>
  clear HP1
  obtain ⟨i, lv, hg, rfl, hlv, HP⟩ := hrel
  have hlv' := hlv.symm
  subst hlv'
  clear hlv
  by_cases hlt : i < m
  · have hil : i < l.length := by have := Hm.out; omega
    have hgp : 0 < gk := by omega
    have HPb := Lib.hid HP.out.2
    obtain ⟨bb, off, A, C, rfl, hbw, c0, c1, c2, hN⟩ := HB.out.at (k := i) hil
    have hfr := flat_room hil
    obtain ⟨r, Hr⟩ : ∃ z, Hid (at_ l i = z) := ⟨_, rfl⟩
    rw [Hr.out] at c0 c1 c2 hN hfr
    obtain ⟨q, Hq⟩ : ∃ z, Hid (z = r.out.length) := ⟨_, rfl⟩
    rw [← Hq.out] at c2 hN hfr
    obtain ⟨x, Hx⟩ : ∃ z, Hid (r.inc = z) := ⟨_, rfl⟩
    obtain ⟨y, Hy⟩ : ∃ z, Hid (r.use = z) := ⟨_, rfl⟩
    rw [Hx.out] at c0
    rw [Hy.out] at c1
    obtain ⟨P, HPP⟩ : ∃ z, Hid (flatR (l.take i) = z) := ⟨_, rfl⟩
    rw [HPP.out] at HP hfr
    have Hfr : Hid (P.length + 2 + q ≤ (flatR l).length) := hfr
    have HN := Lib.hid (hN.later HPb.out)
    have e0 := cell_later HPb.out c0
    have e1 := cell_later HPb.out c1
    have e2 := cell_later HPb.out c2
    have hbr : bb < wr.heap.size := by have := HPb.out.size; omega
    clear c0 c1 c2 hN hfr
    have k0 : (0 : Int) ≤ (i : Int) := by omega
    have k1 : (i : Int) < (m : Int) := by omega
    have hnb := (numbers_calls x y A q C r.out Hq.out (wr.alloc (.cells #[.int .i64 x, .int .i64 y, .slice A q C] 109)) (HN.out.later (below_box wr _)) (by have := Hroom.out; have := Hfr.out; omega))
    have Hnb := Lib.hid hnb
    clear hnb
    go_wp2_with fail
    refine Hnb.out.mono ?_
    rintro e w2 ⟨A2, C2, rfl, hN2, hb2⟩
    obtain ⟨F, HF⟩ : ∃ z, Hid ([x, y] ++ r.out = z) := ⟨_, rfl⟩
    rw [HF.out] at hN2 ⊢
    obtain ⟨f, Hf⟩ : ∃ z, Hid (z = F.length) := ⟨_, rfl⟩
    rw [← Hf.out] at hN2 ⊢
    have Hff : Hid (P.length + f ≤ (flatR l).length) := by
     show P.length + f ≤ (flatR l).length
     have := Hfr.out
     rw [Hf.out, ← HF.out, List.length_append, ← Hq.out]
     simp; omega
    have hfb : f ≤ 9223372036854775807 := by have := Hff.out; have := Hroom.out; omega
    have HN2 : Hid (w2.ownsRow w.heap.size 2 1 (.slice A2 f C2) f (F.map (Value.int .i64))) := ⟨hN2.1, hN2.2.imp id fun ⟨g', cap, cur, e, hb', hh⟩ => ⟨g', cap, cur, e, by have := HPb.out.size; simp at hb'; omega, hh⟩⟩
    have hbb : Below wr.heap.size wr w2 := (below_box wr _).trans (hb2.mono (by simp))
    have HP2 : Hid (PaintedO w w2 lv zs P) := ⟨HP.out.1.later hbb, HP.out.2.trans (hbb.mono HP.out.2.size)⟩
    clear e0 e1 e2 hN2 hb2 hbb HPb Hnb hbr
    go_wp2_with fail
    go_loopg [5, 21] f (fun g s5 s21 wr => ∃ (k : Nat) (lw : Value), k + g = f ∧ s21 = .int .i64 k ∧ s5 = lw ∧ Hid (PaintedO w wr lw zs (P ++ F.take k)) ∧ Hid (wr.ownsRow w.heap.size 2 1 (.slice A2 f C2) f (F.map (Value.int .i64))))
    case atStart => exact ⟨0, _, by omega, rfl, rfl, by rw [List.take_zero, List.append_nil]; exact HP2.out, HN2.out⟩
    case round =>
     clear HP2 HP
     obtain ⟨k, lw, hgk, rfl, hlw, HPk, HNk⟩ := hrel
     have hlw' := hlw.symm
     subst hlw'
     clear hlw
     by_cases hkq : k < f
     · obtain ⟨A3, C3, hA3, hN3⟩ := nums_of_own HNk.out Hf.out hfb
       simp only [Value.slice.injEq, true_and] at hA3
       obtain ⟨rfl, rfl⟩ := hA3
       obtain ⟨b4, o4, rfl, hb4, g5⟩ := hN3.at (i := k) (by rw [← Hf.out]; exact hkq)
       obtain ⟨z, Hz⟩ : ∃ z, Hid (F[k]?.getD 0 = z) := ⟨_, rfl⟩
       rw [Hz.out] at g5
       clear hN3
       have j0 : (0 : Int) ≤ (k : Int) := by omega
       have j1 : (k : Int) < (f : Int) := by omega
       have hw1 := wrap_u64n z
       have HT : Hid (P ++ F.take k ++ [z] = P ++ F.take (k + 1)) := by
        show P ++ F.take k ++ [z] = P ++ F.take (k + 1)
        have hkF : k < F.length := by rw [← Hf.out]; exact hkq
        rw [List.take_succ_eq_append_getElem hkF, ← Hz.out, List.getElem?_eq_getElem hkF]
        simp
       go_wp2_with fail
       refine (put_calls none 0 0 [] (u64n z) (u64n_lt z) _ (bytes_nil _ _ _ (fun _ => rfl)) rfl (Nat.le_refl _) (by omega)).mono ?_
       rintro e w4 ⟨v4, rfl, hb4, hF4⟩
       rw [List.nil_append] at hF4
       obtain ⟨A4, n4, c4, rfl, hn4, hnc4⟩ := hF4.args
       obtain ⟨hO, hbO⟩ := HPk.out
       have hroom4 : (zs ++ bytesN ((P ++ F.take k).map u64n)).length + (PackMath.num (u64n z)).length ≤ 140737488355300 := by
        have h1 := bytes_room zs (P ++ F.take k)
        have h2 := PackMath.num_len_64 _ (u64n_lt z)
        have h3 := Hff.out
        have h4 := Hroom.out
        have h5 : (P ++ F.take k).length ≤ P.length + k := by simp; omega
        omega
       obtain ⟨v5, w5, hrun5, q1, q2, hG5⟩ := run_append_own (hO.later hb4) (by have := hb4.size; have := hbO.size; omega) hF4.bytes hn4 hnc4 hroom4
       obtain ⟨hf5, hv5, hw5⟩ := fine_of hrun5
       rw [bytes_more, HT.out] at q1
       have HP5 : Hid (PaintedO w w5 v5 zs (P ++ F.take (k + 1))) := ⟨q1, (held_next hbO hb4).trans q2⟩
       have HN5 : Hid (w5.ownsRow w.heap.size 2 1 (.slice (some ⟨b4, o4, none⟩) f C2) f (F.map (Value.int .i64))) := own_kept_apart (own_later HNk.out hb4) (hO.later hb4).1 (by decide) hG5.1
       clear hF4 hb4 hO hbO hroom4 hrun5 q1 q2 hG5 hn4 hnc4 g5 hw1
       go_wp2_with fail
       go_roundg (f - (k + 1))
       case measure => omega
       case rel => exact ⟨k + 1, _, by omega, by go_num, rfl, HP5.out, HN5.out⟩
     · have hkq' : k = f := by omega
       have HE : Hid (P ++ F.take k = flatR (l.take (i + 1))) := by
        show P ++ F.take k = flatR (l.take (i + 1))
        rw [take_flat hil, HPP.out, Hr.out, hkq', Hf.out, List.take_length, ← HF.out, ← Hx.out, ← Hy.out]
        simp [rowN]
       rw [HE.out] at HPk
       have Hkq := Lib.hid hkq'; clear hkq'
       go_wp2_with fail
       go_roundg (m - (i + 1))
       case measure => omega
       case rel => exact ⟨i + 1, _, by omega, by go_num, rfl, HPk.out⟩
  · have him : i = m := by omega
    have HE : Hid (flatR (l.take i) = flatR l) := by rw [him, Hm.out, List.take_length]; exact rfl
    rw [HE.out] at HP
    obtain ⟨hf, hb⟩ := HP.out
    have hlen : (zs ++ bytesN ((flatR l).map u64n)).length ≤ 9223372036854775807 := by
     have h1 := bytes_room zs (flatR l)
     have := Hroom.out
     omega
    obtain ⟨A9, C9, rfl, hC9, hB9⟩ := hf.form hlen
    have HB9 := Lib.hid hB9
    have HO9 := Lib.hid hf
    have HBl := Lib.hid hb
    have HC9 := Lib.hid hC9
    obtain ⟨m9, Hm9⟩ : ∃ z, Hid (z = (zs ++ bytesN ((flatR l).map u64n)).length) := ⟨_, rfl⟩
    rw [← Hm9.out] at HB9 HC9 HO9 ⊢
    have Him := Lib.hid him; clear him
    clear hf hb hB9 hC9 HP hlen
    go_wp2_with fail
    go_ret
    exact ⟨A9, m9, C9, rfl, Hm9.out, HC9.out, HB9.out, HBl.out, HO9.out⟩
end Go.Proofs.YtnkgakhnlbifdaaGreat
namespace Go.Proofs.YtnkgakhnlbifdaaGreat
open Go.RowKit
def ReadsR (w0 : World) (gr : Nat) (c : Cf) (z : List Int) (W : World) (e : Ending) (w' : World) : Prop :=
 ButG gr W w' ∧ (((rdB c (z, false)).2.2 = false ∧ (∃ A C, e = .returned (.slice A (rdB c (z, false)).1.length C) ∧ BooksFar W.heap.size w' (.slice A (rdB c (z, false)).1.length C) (rdB c (z, false)).1) ∧ Rd w0 gr (rdB c (z, false)).2.1 w') ∨ ((rdB c (z, false)).2.2 = true ∧ e = wrongE))
set_option maxRecDepth 100000 in
set_option maxHeartbeats 8000000 in
theorem krows_calls (w0 : World) (gr : Nat) (c : Cf) (z : List Int) (w : World) (h : Rd w0 gr z w) (hb0 : Below w0.heap.size w0 w) (_ : w0.heap.size ≤ gr) :
 Calls Tryz.prog 61 #[.pointer (some ⟨gr, 0, none⟩), cfV c] w (ReadsR w0 gr c z w) := by
 obtain ⟨v, hW, hv⟩ := h
 have hlt : gr < w.heap.size := hW.lt
 have HW := Lib.hid hW; clear hW
 obtain ⟨A, n, C, rfl, hn, hnC, hG⟩ := hv
 have Hn := Lib.hid hn; clear hn
 have HG := Lib.hid hG; clear hG
 have Hb0 := Lib.hid hb0; clear hb0
 have HC := Lib.hid (Whole.made w 23 (cfCells c))
 have Hb1 := Lib.hid (below_box w (.cells (cfCells c) 23))
 have HW1 := Lib.hid (HW.out.later Hb1.out hlt)
 obtain ⟨N, q, r, p, kk, cc⟩ := c
 go_enter Tryz.func61, Tryz.ntmps61
 go_wp2_with fail
 show Code.wp _ _ _ _ (w.alloc (.cells (cfCells ⟨N, q, r, p, kk, cc⟩) 23))
 obtain ⟨W1, hW1⟩ : ∃ z, w.alloc (.cells (cfCells ⟨N, q, r, p, kk, cc⟩) 23) = z := ⟨_, rfl⟩
 rw [hW1] at HC Hb1 HW1 ⊢
 clear hW1
 have hb01 : Below w0.heap.size w0 W1 := held_next Hb0.out Hb1.out
 have KP : Hid (∀ w', Below W1.heap.size W1 w' → Below W1.heap.size W1 w' ∧ w'.cell? ⟨gr, 0, none⟩ = some (.slice A n C) ∧ Whole w' w.heap.size 23 (cfCells ⟨N, q, r, p, kk, cc⟩)) :=
  fun w' h => ⟨h, (HW1.out.later h HW1.out.lt).cell 0, HC.out.later h HC.out.lt⟩
 have HC6 : Hid (∀ w', Whole w' w.heap.size 23 (cfCells ⟨N, q, r, p, kk, cc⟩) → w'.cell? ⟨w.heap.size, 0, none⟩ = some (.int .i64 N) ∧ w'.cell? ⟨w.heap.size, 1, none⟩ = some (.int .i64 q) ∧ w'.cell? ⟨w.heap.size, 2, none⟩ = some (.int .i64 r) ∧ w'.cell? ⟨w.heap.size, 3, none⟩ = some (.int .i64 p) ∧ w'.cell? ⟨w.heap.size, 4, none⟩ = some (.int .i64 kk) ∧ w'.cell? ⟨w.heap.size, 5, none⟩ = some (.int .i64 cc)) :=
  fun w' h => ⟨h.cell 0, h.cell 1, h.cell 2, h.cell 3, h.cell 4, h.cell 5⟩
 have KQ : Hid (∀ w', Below W1.heap.size W1 w' → Below W1.heap.size W1 w' ∧ w'.cell? ⟨gr, 0, none⟩ = some (.slice A n C) ∧ w'.cell? ⟨w.heap.size, 0, none⟩ = some (.int .i64 N) ∧ w'.cell? ⟨w.heap.size, 1, none⟩ = some (.int .i64 q) ∧ w'.cell? ⟨w.heap.size, 2, none⟩ = some (.int .i64 r) ∧ w'.cell? ⟨w.heap.size, 3, none⟩ = some (.int .i64 p) ∧ w'.cell? ⟨w.heap.size, 4, none⟩ = some (.int .i64 kk) ∧ w'.cell? ⟨w.heap.size, 5, none⟩ = some (.int .i64 cc)) :=
  fun w' h => ⟨h, (KP.out w' h).2.1, HC6.out w' (KP.out w' h).2.2⟩
 have hws : w.heap.size ≤ W1.heap.size := Hb1.out.size
 have hall : ∀ W, Below W1.heap.size W1 W → Calls Tryz.prog 88 #[cfV ⟨N, q, r, p, kk, cc⟩, .slice A n C] W (TookBA W (.slice A n C) z (takeB ⟨N, q, r, p, kk, cc⟩ z)) := fun W hW => pTake_all ⟨N, q, r, p, kk, cc⟩ A n C z W (HG.out W (held_next hb01 hW)) Hn.out hnC
 have Hall := Lib.hid hall; clear hall
 cases hres : takeB ⟨N, q, r, p, kk, cc⟩ z with
 | none =>
   have HB : Hid (rdB ⟨N, q, r, p, kk, cc⟩ (z, false) = ([], ([], true))) := rdB_no (b := false) hres
   have HT : Hid (∀ W, Below W1.heap.size W1 W → Calls Tryz.prog 88 #[cfV ⟨N, q, r, p, kk, cc⟩, .slice A n C] W (fun e w' => e = .returned (.tuple #[.slice none 0 0, .slice none 0 0, .bool false]) ∧ Below W.heap.size W w')) := fun W hW => (Hall.out W hW).mono fun e w' h => by
    rw [hres] at h
    rcases h with ⟨_, _, _, _, _, _, h, _⟩ | h
    · cases h
    · exact h.2
   clear hres Hall
   go_region_held3 (fun w' => Below W1.heap.size W1 w' ∧ w'.cell? ⟨gr, 0, none⟩ = some (.slice A n C) ∧ w'.cell? ⟨w.heap.size, 0, none⟩ = some (.int .i64 N) ∧ w'.cell? ⟨w.heap.size, 1, none⟩ = some (.int .i64 q) ∧ w'.cell? ⟨w.heap.size, 2, none⟩ = some (.int .i64 r) ∧ w'.cell? ⟨w.heap.size, 3, none⟩ = some (.int .i64 p) ∧ w'.cell? ⟨w.heap.size, 4, none⟩ = some (.int .i64 kk) ∧ w'.cell? ⟨w.heap.size, 5, none⟩ = some (.int .i64 cc))
    (first | exact KQ.out _ (Below.refl _ _).drew | exact KQ.out _ hS9)
    (first | (go_at_call 88; refine (HT.out _ (Below.refl _ _).drew).mono ?_; rintro ee w9 ⟨rfl, hb9⟩; have hS9 := (Below.refl W1.heap.size W1).drew.trans (hb9.mono (Nat.le_refl _))) | fail)
   have HB9 : Hid (ButG gr w w9) := ButG.of (held_next Hb1.out hS9)
   go_wp2_with fail
   refine (kbehind_no gr none 0 0 w9).mono ?_
   rintro e w5 ⟨rfl, rfl⟩
   go_wp2_with fail
   refine ⟨rfl, HB9.out, Or.inr ⟨?_, rfl⟩⟩
   rw [HB.out]
 | some pr =>
   obtain ⟨l, rest⟩ := pr
   have HB : Hid (rdB ⟨N, q, r, p, kk, cc⟩ (z, false) = (l, (rest, false))) := rdB_yes (b := false) hres
   have HT : Hid (∀ W, Below W1.heap.size W1 W → Calls Tryz.prog 88 #[cfV ⟨N, q, r, p, kk, cc⟩, .slice A n C] W (fun e w' => ∃ A' C' B' D', e = .returned (.tuple #[.slice A' l.length C', .slice B' rest.length D', .bool true]) ∧ BooksFar w.heap.size w' (.slice A' l.length C') l ∧ GoodB w0 (.slice B' rest.length D') rest ∧ Below W.heap.size W w')) := fun W hW => (Hall.out W hW).mono fun e w' h => by
    rw [hres] at h
    rcases h with ⟨l', rest', A', C', B', D', h1, h2, h3, h4, h5, h6⟩ | h
    · simp only [Option.some.injEq, Prod.mk.injEq] at h1
      obtain ⟨rfl, rfl⟩ := h1
      exact ⟨A', C', B', D', h2, h3.mono (Nat.le_trans hws hW.size), ⟨B', _, D', rfl, rfl, h5, fun W' hW' => h4 W' (HG.out W' hW')⟩, h6⟩
    · cases h.1
   clear hres Hall
   obtain ⟨ll, Hll⟩ : ∃ z, Hid (l.length = z) := ⟨_, rfl⟩
   obtain ⟨lr, Hlr⟩ : ∃ z, Hid (rest.length = z) := ⟨_, rfl⟩
   rw [Hll.out, Hlr.out] at HT
   go_region_held3 (fun w' => Below W1.heap.size W1 w' ∧ w'.cell? ⟨gr, 0, none⟩ = some (.slice A n C) ∧ w'.cell? ⟨w.heap.size, 0, none⟩ = some (.int .i64 N) ∧ w'.cell? ⟨w.heap.size, 1, none⟩ = some (.int .i64 q) ∧ w'.cell? ⟨w.heap.size, 2, none⟩ = some (.int .i64 r) ∧ w'.cell? ⟨w.heap.size, 3, none⟩ = some (.int .i64 p) ∧ w'.cell? ⟨w.heap.size, 4, none⟩ = some (.int .i64 kk) ∧ w'.cell? ⟨w.heap.size, 5, none⟩ = some (.int .i64 cc))
    (first | exact KQ.out _ (Below.refl _ _).drew | exact KQ.out _ hS9)
    (first | (go_at_call 88; refine (HT.out _ (Below.refl _ _).drew).mono ?_; rintro ee w9 ⟨A', C', B', D', rfl, hf9, hg9, hb9⟩; have hS9 := (Below.refl W1.heap.size W1).drew.trans (hb9.mono (Nat.le_refl _))) | fail)
   have hr9 := HW1.out.later hS9 HW1.out.lt
   have HR9 := Lib.hid hr9
   have HF9 := Lib.hid hf9
   have HG9 := Lib.hid hg9
   have HB9 : Hid (ButG gr w w9) := ButG.of (held_next Hb1.out hS9)
   clear hr9 hf9 hg9
   go_wp2_with fail
   refine (kbehind_yes gr _ B' lr D' w9 HR9.out).mono ?_
   rintro e w5 ⟨rfl, hw5⟩
   have HE : Hid (ButG gr w w5 ∧ BooksFar w.heap.size w5 (.slice A' ll C') l ∧ Rd w0 gr rest w5) := by
    show _ ∧ _
    rw [hw5]
    exact ⟨HB9.out.set 0 _, HF9.out.other (p := ⟨gr, 0, none⟩) hlt _, _, HR9.out.set 0 _, HG9.out⟩
   clear hw5
   go_wp2_with fail
   go_ret
   refine ⟨HE.out.1, Or.inl ⟨by rw [HB.out], ⟨A', C', ?_, ?_⟩, ?_⟩⟩
   · rw [HB.out, Hll.out]; rfl
   · rw [HB.out]; simp only; rw [Hll.out]; exact HE.out.2.1
   · rw [HB.out]; exact HE.out.2.2
end Go.Proofs.YtnkgakhnlbifdaaGreat
namespace Go.Proofs.YtnkgakhnlbifdaaGreat
open Go.RowKit
def BkHeld (B : Nat) (w : World) (p : Bl) (x : Bk) : Prop := ∀ W : World, w.heap.size ≤ W.heap.size → (∀ g, B ≤ g → g < w.heap.size → W.heap[g]? = w.heap[g]?) → BkIn W p x
theorem BkHeld.inn {B : Nat} {w : World} {p : Bl} {x : Bk} (h : BkHeld B w p x) : BkIn w p x := h w (Nat.le_refl _) fun _ _ _ => rfl
def TookKH (w : World) (x : Option Bk) (e : Ending) (w' : World) : Prop := ∃ p : Bl, e = .returned (.tuple #[bkAt (x.getD bk0) p, .bool x.isSome]) ∧ BkHeld w.heap.size w' p (x.getD bk0) ∧ Below w.heap.size w w'
theorem TookKH.took {w w' : World} {x : Option Bk} {e : Ending} (h : TookKH w x e w') : TookK w x e w' := by
 obtain ⟨p, h1, h2, h3⟩ := h
 exact ⟨p, h1, h2.inn, h3⟩
theorem elems_held {B : Nat} {w W : World} {A : Option Addr} {n c sz m : Nat} {f : Nat → Nat → Value} (h : Elems w (.slice A n c) sz m f) (hA : ∀ ad, A = some ad → B ≤ ad.block) (hW : ∀ g, B ≤ g → g < w.heap.size → W.heap[g]? = w.heap[g]?) : Elems W (.slice A n c) sz m f := by
 obtain ⟨h1, h2⟩ := h
 refine ⟨h1, ?_⟩
 rcases h2 with h2 | ⟨b, off, cap, hv, hn, hc⟩
 · exact Or.inl h2
 · refine Or.inr ⟨b, off, cap, hv, hn, fun i j hi hj => ?_⟩
   have h3 := hc i j hi hj
   simp only [Value.slice.injEq] at hv
   have hb : B ≤ b := hA ⟨b, off, none⟩ hv.1
   have hl : b < w.heap.size := World.block_lt_of_cell? w _ h3
   exact (World.cell?_of_block (w := w) (w' := W) (a := ⟨b, off + (i * sz + j), none⟩) (hW b hb hl)).trans h3
theorem bk_held {B : Nat} {w : World} {p : Bl} {x : Bk} (h : BkIn w p x) (hf : BooksFar B w (.slice p.a1 p.m1 p.c1) x.rows) (h2 : ∀ ad, p.a2 = some ad → B ≤ ad.block) (h3 : ∀ ad, p.a3 = some ad → B ≤ ad.block) (h4 : ∀ ad, p.a4 = some ad → B ≤ ad.block)
 (h5 : ∀ ad, p.al.a1 = some ad → B ≤ ad.block) (h6 : ∀ ad, p.al.a2 = some ad → B ≤ ad.block) (h7 : ∀ ad, p.al.a3 = some ad → B ≤ ad.block) : BkHeld B w p x := fun W hs hW =>
 ⟨⟨h.1.1, hf.2 W hs hW⟩, ⟨h.2.1.1, elems_held h.2.1.2 h2 hW⟩, ⟨h.2.2.1.1, elems_held h.2.2.1.2 h3 hW⟩, ⟨h.2.2.2.1.1, elems_held h.2.2.2.1.2 h4 hW⟩, ⟨h.2.2.2.2.1.1, elems_held h.2.2.2.2.1.2 h5 hW⟩, ⟨h.2.2.2.2.2.1.1, elems_held h.2.2.2.2.2.1.2 h6 hW⟩, h.2.2.2.2.2.2.1, elems_held h.2.2.2.2.2.2.2 h7 hW⟩
end Go.Proofs.YtnkgakhnlbifdaaGreat
