/- Merged texts: RowMay, RightsRight. No law is proved here. -/
import Derived.Test.YtfpadcfahfanoaaMg21
import Derived.RangeFuncNested
import Derived.RangeFuncBound
import Derived.RangeFuncCalls
import Derived.RangeFuncLeaves
import Derived.RangeFuncBox
import Derived.Shelf.Abstract
import Derived.Shelf.RegionOpen
import Derived.WalkKit
import Derived.OwnWalkIn
import Derived.TacticsInMore
import Derived.LoopNIn
import Derived.LoopIn
import Derived.Laws.MakeOwn
import Derived.Maps.AppendAt
import Derived.ProofKit
import Derived.OpenShut
import Derived.WalkSpells
import Derived.Laws.AppendOwn
import Derived.Laws.AppendOwnNone
import Derived.Laws.OwnMore
import Derived.Lib.Hide
import Derived.Deep.Draws
import Derived.Deep.Slices
import Derived.Deep.Fields
import Derived.ChangeSame
import Derived.RegionTactic
import Derived.Test.YtfpadcfahfanoaaRightsClos
import Derived.Lib.SmallJoins
import Derived.LoopTactic
import Derived.BigRegion
import Derived.WalkLawsBesides
import Derived.IntWalk
import Derived.WalkSmall
import Derived.Deep.QuietTactic
import Derived.BigQuiet
import Derived.Deep.RegionHeld3
import Derived.Laws.EntriesVeiled
/- Package row: May. No law is proved here. -/
namespace Go.Proofs.Ytfpadcfahfanoaa
open Go.RowKit Go.Shelf

attribute [local go_sem] Oper.semAt_some
theorem counts_in (F : Fence) (n : Nat) (hF : F.fn 62) (hro : F.round = none) (v : Int) (w : World) : CallsIn F n Try.prog 62 #[.int .i64 v] w (fun e w' => e = .returned (.bool (countB v)) ∧ w = w') := by
  refine callsIn_of_wp Try.func62 rfl hF ?_ hro
  simp only [Try.ntmps62, List.size_toArray, List.length_cons, List.length_nil, Nat.reduceAdd, Nat.reduceSub, Array.replicate_succ, Array.replicate_zero, List.push_toArray, List.append_toArray, List.nil_append, List.cons_append]
  by_cases h1 : 0 ≤ v
  · by_cases h2 : v ≤ 1099511627776
    · rw [countB_yes ⟨h1, h2⟩]
      gi_wp2
      go_ret
      exact ⟨by simp, rfl⟩
    · rw [countB_no (by omega)]
      gi_wp2
      go_ret
      exact ⟨by simp, rfl⟩
  · rw [countB_no (by omega)]
    gi_wp2
    go_ret
    exact ⟨by simp, rfl⟩
theorem counts_calls (v : Int) (w : World) : Calls Try.prog 62 #[.int .i64 v] w (fun e w' => e = .returned (.bool (countB v)) ∧ w = w') :=
  callsIn_wide.1 (counts_in Fence.wide 9 trivial rfl v w)
set_option maxRecDepth 100000 in
set_option maxHeartbeats 2000000 in
theorem may_loop (F : Fence) (N : Nat) (hf : ∀ k, F.fn k) (hro : F.round = none) (hN : 3 ≤ N) (a : Option Addr) (n c : Nat) (i u who : Int) (la : List Int) (hn : n = la.length) (w : World) (hA : Nums w (.slice a n c) la)
    (h0 : 0 ≤ who) (hwn : who < n) (hi : countB i = true) (hu : countB u = true) : CallsIn F N Try.prog 54 #[rowV i u (.slice a n c), .int .i64 (n : Int), .int .i64 who] w (Says w (fits (la.zip (mosts who n)))) := by
  have hbig : n ≤ 9223372036854775807 := by rw [hn]; exact hA.1
  have h1 : 1 ≤ N := by omega
  have HA := Lib.hid hA; clear hA
  have Hn := Lib.hid hn; clear hn
  have Hi := Lib.hid hi; clear hi
  have Hu := Lib.hid hu; clear hu
  refine callsIn_of_wp_marks Try.func54 rfl (hf _) ?_ hro
  simp only [Try.ntmps54, List.size_toArray, List.length_cons, List.length_nil, Nat.reduceAdd, Nat.reduceSub, Array.replicate_succ, Array.replicate_zero, List.push_toArray, List.append_toArray, List.nil_append, List.cons_append]
  gi_wp2_with fail
  refine (counts_in F (N - 1) (hf _) hro i _).mono ?_
  rintro e w' ⟨rfl, rfl⟩
  rw [Hi.out]
  gi_wp2_with fail
  refine (counts_in F (N - 1) (hf _) hro u _).mono ?_
  rintro e w' ⟨rfl, rfl⟩
  rw [Hu.out]
  gi_wp2_with (gi_at_call 63; refine (limits_in F (N - 1) (hf _) hro _ _ _ _ _).mono ?_; rintro e w' ⟨rfl, rfl⟩)
  have c2 := Boxed.new (w.alloc (.cells #[.int .i64 i, .int .i64 u, .slice a n c] 59)) 4 (.bool false)
  obtain ⟨w3, hw3⟩ : ∃ w3, (w.alloc (.cells #[.int .i64 i, .int .i64 u, .slice a n c] 59)).alloc (.cells #[.bool false] 4) = w3 := ⟨_, rfl⟩
  have hs3 : w3.heap.size = w.heap.size + 1 + 1 := by rw [← hw3]; simp
  have hb3 : Below w.heap.size w w3 := by rw [← hw3]; exact below_two w _ _
  simp only [World.size_alloc] at c2
  rw [hw3] at c2 ⊢
  clear hw3
  have bA := Boxed.new w3 52 (.slice a n c)
  have bB := Boxed.new (w3.alloc (.cells #[.slice a n c] 52)) 3 (.int .i64 who)
  rw [World.size_alloc] at bB
  rw [hs3] at bA bB
  have hB0 : Below w.heap.size w ((w3.alloc (.cells #[.slice a n c] 52)).alloc (.cells #[.int .i64 who] 3)) := (hb3.alloc (by omega) _).alloc (by simp; omega) _
  refine wpIn_rangeFunc_ownG hro h1 (gf := 71) (lb := #[.pointer (some ⟨w.heap.size + 1 + 1, 0, none⟩), .pointer (some ⟨w.heap.size + 1 + 1 + 1, 0, none⟩)]) rfl (hf _) (enters_of Try.func71 (by kernel_rfl) rfl)
    (limits_stops F (N - 1) (hf _) hro (by omega) (w.heap.size + 1 + 1) (w.heap.size + 1 + 1 + 1) w a n c who la Hn.out HA.out _ hB0 (bA.alloc _) bB) kept_trans (kept_put (by simp; omega) (by simp; omega)) (Below.refl _ _) (fun _ => rfl)
    (fun pre W => ((∀ x ∈ pre, 0 ≤ x.1 ∧ x.1 ≤ x.2) ∧ Boxed W (w.heap.size + 1) 4 (.bool false)) ∧ Below w.heap.size w W)
    (fun cd pre W => (cd = .ret ∧ Bad pre ∧ Boxed W (w.heap.size + 1) 4 (.bool false)) ∧ Below w.heap.size w W)
    (OwnFrom.and (Own.from (fun s A B row hs hg hr => ⟨hs.1, box_kept hs.2 hg hr⟩) _) (ownFrom_below (Nat.le_refl _) (by simp; omega)))
    (fun cd => OwnFrom.and (Own.from (fun s A B row hs hg hr => ⟨hs.1, hs.2.1, box_kept hs.2.2 hg hr⟩) _) (ownFrom_below (Nat.le_refl _) (by simp; omega)))
    ⟨⟨by simp, (c2.alloc _).alloc _⟩, hB0⟩
    ?a1 ?assign ?body ?done ?stop
  case assign =>
    intro l x W K hK
    gi_wp2
    exact hK
  case body =>
    rintro l pre x W ⟨⟨hp, hr⟩, hB⟩ _
    have hc := hr.cell
    have hfz := hr.frozen
    by_cases hx0 : 0 ≤ x.1
    · by_cases hx1 : x.1 ≤ x.2
      · gi_wp2
        exact ⟨KeepsFrom.refl _ _, kept_refl _ _ _, ⟨fun y hy => (List.mem_append.1 hy).elim (hp y) (fun e => by simp at e; subst e; exact ⟨hx0, hx1⟩), hr⟩, hB⟩
      · gi_wp2
        exact ⟨(KeepsOthers.setCell _ _ _).from _, ⟨rfl, bad_of (by omega), hr.set _⟩, hB.setCell (p := ⟨w.heap.size + 1, 0, none⟩) (by simp) _⟩
    · gi_wp2
      exact ⟨(KeepsOthers.setCell _ _ _).from _, ⟨rfl, bad_of (by omega), hr.set _⟩, hB.setCell (p := ⟨w.heap.size + 1, 0, none⟩) (by simp) _⟩
  case done =>
    rintro D ys W hD rfl ⟨⟨hp, hr⟩, hB⟩ hK
    have hc := hr.cell
    have hfz := hr.frozen
    gi_wp2
    have hK' := (KeepsOthers.setCell W ⟨w.heap.size + 1, 0, none⟩ (.bool true)).same D _ hK rfl
    refine ⟨by simp, .inl ⟨_, _, rfl, run_takeDeferred hK', ?_⟩⟩
    have hc5 := cell_kept (hr.set (.bool true)).cell (grownBy_putObj' _ D (.deferred none)) (fun r e => by cases e; exact ⟨_, hK', rfl⟩)
    refine ⟨.bool true, ?_, by rw [fits_yes hp], (hB.setCell (p := ⟨w.heap.size + 1, 0, none⟩) (by simp) _).trans (belowK_b (w := w) (Nat.le_refl _) _ D _ _ (by simp at hD; omega) hK' rfl rfl)⟩
    simp [results, Try.f54, go_sem, hc5]
  case stop =>
    rintro D cd pre W hD ⟨k, hk, rfl⟩ ⟨⟨rfl, hbad, hr⟩, hB⟩ hK
    gi_wp2
    refine ⟨by simp, .inl ⟨_, _, rfl, run_takeDeferred hK, ?_⟩⟩
    have hc5 := cell_kept hr.cell (grownBy_putObj' _ D (.deferred none)) (fun r e => by cases e; exact ⟨_, hK, rfl⟩)
    refine ⟨.bool false, ?_, by rw [hbad.fits], hB.trans (belowK_b (w := w) (Nat.le_refl _) W D _ _ (by simp at hD; omega) hK rfl rfl)⟩
    simp [results, Try.f54, go_sem, hc5]
section
variable (a : Option Addr) (n c : Nat) (i u m who : Int) (w : World)
set_option maxHeartbeats 1000000 in
theorem may_no (h : ¬ (((n : Int) = m ∧ 0 ≤ who ∧ who < m) ∧ countB i = true ∧ countB u = true)) : Calls Try.prog 54 #[rowV i u (.slice a n c), .int .i64 m, .int .i64 who] w (Says w false) := by
  by_cases h1 : (n : Int) = m
  · subst h1
    by_cases h2 : 0 ≤ who
    · by_cases h3 : who < (n : Int)
      · cases hi : countB i with
        | false =>
          have Hi := Lib.hid hi; clear hi h
          go_enter Try.func54, Try.ntmps54
          go_wp2_with fail
          refine (counts_calls i _).mono ?_
          rintro e w' ⟨rfl, rfl⟩
          rw [Hi.out]
          go_wp2
          refine bodyPost_ret (v := .bool false) (by simp [results, Try.results54, go_sem]) rfl ⟨rfl, below_two w _ _⟩
        | true =>
          have hu : countB u = false := by
            cases hu : countB u with
            | false => rfl
            | true => exact absurd ⟨⟨rfl, h2, h3⟩, hi, hu⟩ h
          have Hi := Lib.hid hi; clear hi h
          have Hu := Lib.hid hu; clear hu
          go_enter Try.func54, Try.ntmps54
          go_wp2_with fail
          refine (counts_calls i _).mono ?_
          rintro e w' ⟨rfl, rfl⟩
          rw [Hi.out]
          go_wp2_with fail
          refine (counts_calls u _).mono ?_
          rintro e w' ⟨rfl, rfl⟩
          rw [Hu.out]
          go_wp2
          refine bodyPost_ret (v := .bool false) (by simp [results, Try.results54, go_sem]) rfl ⟨rfl, below_two w _ _⟩
      · clear h
        go_enter Try.func54, Try.ntmps54
        go_wp2
        refine bodyPost_ret (v := .bool false) (by simp [results, Try.results54, go_sem]) rfl ⟨rfl, below_two w _ _⟩
    · clear h
      go_enter Try.func54, Try.ntmps54
      go_wp2
      refine bodyPost_ret (v := .bool false) (by simp [results, Try.results54, go_sem]) rfl ⟨rfl, below_two w _ _⟩
  · clear h
    have h1' : ((n : Int) != m) = true := bne_iff_ne.2 h1
    go_enter Try.func54, Try.ntmps54
    go_wp2
    refine bodyPost_ret (v := .bool false) (by simp [results, Try.results54, go_sem]) rfl ⟨rfl, below_two w _ _⟩
end
theorem may_calls (a : Option Addr) (n c : Nat) (i u m who : Int) (la : List Int) (hn : n = la.length) (w : World) (hA : Nums w (.slice a n c) la) :
    Calls Try.prog 54 #[rowV i u (.slice a n c), .int .i64 m, .int .i64 who] w (Says w (mayR i u la m who)) := by
  by_cases h : ((n : Int) = m ∧ 0 ≤ who ∧ who < m) ∧ countB i = true ∧ countB u = true
  · have e : mayR i u la m who = fits (la.zip (mosts who n)) := by
      unfold mayR
      rw [← hn, decide_eq_true h.1, h.2.1, h.2.2]; rfl
    rw [e]
    obtain ⟨⟨rfl, h0, h1⟩, hi, hu⟩ := h
    exact callsIn_wide.1 (may_loop Fence.wide 9 (fun _ => trivial) rfl (by decide) a n c i u who la hn w hA h0 h1 hi hu)
  · have e : mayR i u la m who = false := by
      unfold mayR
      rw [← hn]
      cases hd : decide ((n : Int) = m ∧ 0 ≤ who ∧ who < m) with
      | false => rfl
      | true =>
        cases hi : countB i with
        | false => rfl
        | true =>
          cases hu : countB u with
          | false => rfl
          | true => exact absurd ⟨of_decide_eq_true hd, hi, hu⟩ h
    rw [e]
    exact may_no a n c i u m who w h
end Go.Proofs.Ytfpadcfahfanoaa

/- Package rights, walked: are books right. No law is proved here. -/
namespace Go.Proofs.Ytfpadcfahfanoaa
open Go.RowKit

set_option maxRecDepth 100000 in
set_option maxHeartbeats 8000000 in
theorem rRight_calls (c : Cf) (a : Option Addr) (m d : Nat) (l : List Rw) (hm : m = l.length) (w : World) (hB : Books w (.slice a m d) l) : Calls Try.prog 38 #[cfV c, .slice a m d] w (Says w (rightB c l)) := by
  have hbig : m ≤ 9223372036854775807 := by rw [hm]; exact hB.big
  have HW := Lib.hid (Whole.made w 23 (cfCells c))
  have Hb0 := Lib.hid (below_box w (.cells (cfCells c) 23))
  have HB := Lib.hid hB; clear hB
  have Hm := Lib.hid hm; clear hm
  obtain ⟨n, q, r, p, kk, cc⟩ := c
  obtain ⟨res, Hres⟩ : ∃ z, Hid (rightB ⟨n, q, r, p, kk, cc⟩ l = z) := ⟨_, rfl⟩
  rw [Hres.out]
  obtain ⟨ok, Hok⟩ : ∃ z, Hid (cfB ⟨n, q, r, p, kk, cc⟩ = z) := ⟨_, rfl⟩
  go_enter Try.func38, Try.ntmps38
  go_wp2_with fail
  refine (rMay_calls ⟨n, q, r, p, kk, cc⟩ _).mono ?_
  rintro e w1 ⟨rfl, hb⟩
  rw [Hok.out]
  have Hb1 := Lib.hid (held_next Hb0.out hb)
  have HW1 := Lib.hid (HW.out.later hb HW.out.lt)
  clear hb
  obtain ⟨d0, d1, d2, d3, d4, d5⟩ := config_cells HW1.out
  simp only at d0 d1 d2 d3 d4 d5
  cases ok with
  | false =>
    obtain rfl : res = false := Hres.out.symm.trans (rightB_no fun h => by
      have := cfB_yes h.1
      rw [Hok.out] at this
      cases this)
    go_wp2_with fail
    go_ret
    exact ⟨by rfl, Hb1.out⟩
  | true =>
    by_cases hnm : (m : Int) ≠ n
    · obtain rfl : res = false := Hres.out.symm.trans (rightB_no fun h => hnm (by rw [Hm.out]; exact h.2.1))
      have hnm' : ((m : Int) != n) = true := bne_iff_ne.2 hnm
      go_wp2_with fail
      go_ret
      exact ⟨by rfl, Hb1.out⟩
    have hnme : n = (m : Int) := by omega
    clear hnm
    subst hnme
    go_wp2_with fail
    clear d0 d1 d2 d3 d4 d5
    go_loopw [21] (fun x wr => ∃ k : Nat, k ≤ m ∧ x = .int .i64 k ∧ Hid (∀ q, q < k → mayR (at_ l q).inc (at_ l q).use (at_ l q).out (m : Int) q = true ∧ (at_ l q).inc ≤ cc) ∧ Hid (Below w.heap.size w wr) ∧ Hid (Whole wr w.heap.size 23 (cfCells ⟨m, q, r, p, kk, cc⟩))) (fun x _ => m - (intOf x).toNat)
    case atStart => exact ⟨0, Nat.zero_le _, rfl, fun q hq => absurd hq (Nat.not_lt_zero _), Hb1.out, HW1.out⟩
    case round =>
      obtain ⟨k, hk, rfl, Hl, Hb, HWr⟩ := hrel
      have d0 : wr.cell? ⟨w.heap.size, 0, none⟩ = some (.int .i64 (m : Int)) := HWr.out.cell 0
      have hszr : w.heap.size < wr.heap.size := HWr.out.lt
      by_cases hlt : k < m
      · obtain ⟨b, off, A, C, rfl, hbw, c0, c1, c2, hN⟩ := HB.out.at (k := k) (by have := Hm.out; omega)
        obtain ⟨x, Hx⟩ : ∃ z, Hid ((at_ l k).inc = z) := ⟨_, rfl⟩
        obtain ⟨y, Hy⟩ : ∃ z, Hid ((at_ l k).use = z) := ⟨_, rfl⟩
        obtain ⟨lo, Hlo⟩ : ∃ z, Hid ((at_ l k).out = z) := ⟨_, rfl⟩
        obtain ⟨lm, Hlm⟩ : ∃ z, Hid (z = lo.length) := ⟨_, rfl⟩
        obtain ⟨v, Hv⟩ : ∃ z, Hid (mayR (at_ l k).inc (at_ l k).use (at_ l k).out (m : Int) k = z) := ⟨_, rfl⟩
        rw [Hx.out] at c0
        rw [Hy.out] at c1
        rw [Hlo.out, ← Hlm.out] at c2 hN
        have HN := Lib.hid (hN.later Hb.out); clear hN
        have e0 := cell_later Hb.out c0
        have e1 := cell_later Hb.out c1
        have e2 := cell_later Hb.out c2
        have Hv2 : Hid (mayR x y lo (m : Int) k = v) := by rw [← Hv.out, Hx.out, Hy.out, Hlo.out]; exact rfl
        clear c0 c1 c2
        have k0 : (0 : Int) ≤ (k : Int) := by omega
        have k1 : (k : Int) < (m : Int) := by omega
        have hbr : b < wr.heap.size := by have := Hb.out.size; omega
        have HR := Lib.hid (Whole.made wr 59 #[.int .i64 x, .int .i64 y, .slice A lm C])
        have Hbx := Lib.hid (below_box wr (.cells #[.int .i64 x, .int .i64 y, .slice A lm C] 59))
        go_wp2_with fail
        refine (may_calls A lm C x y m k lo Hlm.out _ (HN.out.later Hbx.out)).mono ?_
        rintro e w2 ⟨rfl, hb⟩
        rw [Hv2.out]
        have Hb2 := Lib.hid (held_next Hbx.out hb)
        have HR2 := Lib.hid (HR.out.later hb HR.out.lt)
        have HW2 := Lib.hid (HWr.out.later Hb2.out HWr.out.lt)
        have Hb2w := Lib.hid (held_next Hb.out Hb2.out)
        clear hb d0 e0 e1 e2 hbr
        have f0 : w2.cell? ⟨wr.heap.size, 0, none⟩ = some (.int .i64 x) := HR2.out.cell 0
        have f5 : w2.cell? ⟨w.heap.size, 5, none⟩ = some (.int .i64 cc) := HW2.out.cell 5
        cases v with
        | false =>
          obtain rfl : res = false := Hres.out.symm.trans (rightB_no fun h => by
            have := (h.2.2.1 k (by have := Hm.out; omega)).1
            simp only at this
            rw [Hv.out] at this
            cases this)
          go_wp2_with fail
          go_ret
          exact ⟨by rfl, Hb2w.out⟩
        | true =>
          by_cases hxc : cc < x
          · obtain rfl : res = false := Hres.out.symm.trans (rightB_no fun h => by
              have := (h.2.2.1 k (by have := Hm.out; omega)).2
              rw [Hx.out] at this
              simp only at this
              omega)
            go_wp2_with fail
            go_ret
            exact ⟨by rfl, Hb2w.out⟩
          · go_wp2_with fail
            go_roundw
            case rel => exact ⟨k + 1, by omega, by go_num, (fun z hz => by
              by_cases e : z = k
              · subst e; exact ⟨Hv.out, by rw [Hx.out]; omega⟩
              · exact Hl.out z (by omega)), Hb2w.out, HW2.out⟩
            case measure => simp [intOf]; omega
      · have hkm : k = m := by omega
        have Hl' : Hid (∀ i, i < l.length → mayR (at_ l i).inc (at_ l i).use (at_ l i).out (m : Int) i = true ∧ (at_ l i).inc ≤ cc) := fun i hi => Hl.out i (by have := Hm.out; omega)
        have HF : Hid (Fits l) := fits_of_may fun i hi => by rw [← Hm.out]; exact (Hl'.out i hi).1
        have h16 : m ≤ 16 := by have := (cfB_ok Hok.out).2.1; simp only at this; omega
        have Hkm := Lib.hid hkm; clear hkm
        clear Hl
        obtain ⟨d0, d1, d2, d3, d4, d5⟩ := config_cells HWr.out
        simp only at d0 d1 d2 d3 d4 d5
        go_wp2_with fail
        refine (rights_calls ⟨m, q, r, p, kk, cc⟩ a m d _).mono ?_
        rintro e w3 ⟨cv, rfl, ⟨bl, ba, bc, bs, rfl, q1, q2, q3, q4⟩, hb⟩
        have Hb3 := Lib.hid (held_next Hb.out hb)
        have Q1 := Lib.hid q1; clear q1
        have Q2 := Lib.hid q2; clear q2
        have Q3 := Lib.hid q3; clear q3
        have Q4 := Lib.hid q4; clear q4
        have HB3 := Lib.hid (HB.out.later Hb3.out)
        clear hb d0 d1 d2 d3 d4 d5
        go_wp2_with fail
        go_loopw [45] (fun x wr => ∃ k : Nat, k ≤ m ∧ x = .int .i64 k ∧ Hid (∀ z, z < k → 0 ≤ rightsV ⟨m, q, r, p, kk, cc⟩ l z) ∧ Hid (Below w3.heap.size w3 wr)) (fun x _ => m - (intOf x).toNat)
        case atStart => exact ⟨0, Nat.zero_le _, rfl, fun q hq => absurd hq (Nat.not_lt_zero _), Below.refl _ _⟩
        case round =>
          clear Hb HWr
          obtain ⟨k, hk, rfl, Hg, Hb⟩ := hrel
          by_cases hlt : k < m
          · obtain ⟨v, Hv⟩ : ∃ z, Hid (rightsV ⟨m, q, r, p, kk, cc⟩ l k = z) := ⟨_, rfl⟩
            go_wp2_with fail
            refine (clos_calls ⟨m, q, r, p, kk, cc⟩ a m d l k Hm.out h16 hlt HF.out bl ba bc bs _ (HB3.out.later Hb.out) (cell_later Hb.out Q1.out) (cell_later Hb.out Q2.out) (cell_later Hb.out Q3.out) (Q4.out.later Hb.out Q4.out.lt)).mono ?_
            rintro e w2 ⟨rfl, hb⟩
            rw [Hv.out]
            have Hb2 := Lib.hid (held_next Hb.out hb)
            clear hb
            by_cases hv : v < 0
            · obtain rfl : res = false := Hres.out.symm.trans (rightB_no fun h => by
                have := h.2.2.2 k (by have := Hm.out; omega)
                rw [Hv.out] at this
                omega)
              go_wp2_with fail
              go_ret
              exact ⟨by rfl, held_next Hb3.out Hb2.out⟩
            · go_wp2_with fail
              go_roundw
              case rel => exact ⟨k + 1, by omega, by go_num, (fun z hz => by
                by_cases e : z = k
                · subst e; rw [Hv.out]; omega
                · exact Hg.out z (by omega)), Hb2.out⟩
              case measure => simp [intOf]; omega
          · have hkm : k = m := by omega
            obtain rfl : res = true := Hres.out.symm.trans (decide_eq_true ⟨cfB_ok Hok.out, by rw [← Hm.out], Hl'.out, fun i hi => Hg.out i (by have := Hm.out; omega)⟩)
            have Hkm2 := Lib.hid hkm; clear hkm
            go_wp2_with fail
            go_ret
            exact ⟨by rfl, held_next Hb3.out Hb.out⟩
end Go.Proofs.Ytfpadcfahfanoaa
