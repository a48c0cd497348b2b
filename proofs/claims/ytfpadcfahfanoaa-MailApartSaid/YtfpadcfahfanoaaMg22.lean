/- Merged texts: RowSent, RightsGiven. No law is proved here. -/
import Derived.Test.YtfpadcfahfanoaaMg21
import Derived.RangeFuncNested
import Derived.RangeFuncBound
import Derived.RangeFuncCalls
import Derived.RangeFuncLeaves
import Derived.RangeFuncBox
import Derived.Shelf.Abstract
import Derived.Shelf.RegionOpen
import Derived.WalkKit
import Derived.OwnWalkIn
import Derived.TacticsInMore
import Derived.LoopNIn
import Derived.LoopIn
import Derived.Laws.MakeOwn
import Derived.Maps.AppendAt
import Derived.ProofKit
import Derived.OpenShut
import Derived.WalkSpells
import Derived.Laws.AppendOwn
import Derived.Laws.AppendOwnNone
import Derived.Laws.OwnMore
import Derived.Lib.Hide
import Derived.Deep.Draws
import Derived.Deep.Slices
import Derived.Deep.Fields
import Derived.ChangeSame
import Derived.RegionTactic
import Derived.Lib.SmallJoins
import Derived.LoopTactic
import Derived.BigRegion
import Derived.WalkLawsBesides
import Derived.IntWalk
import Derived.WalkSmall
import Derived.Deep.QuietTactic
import Derived.BigQuiet
import Derived.Deep.RegionHeld3
/- Package row: Sent. No law is proved here. -/
namespace Go.Proofs.Ytfpadcfahfanoaa
open Go.RowKit Go.Shelf

attribute [local go_sem] Oper.semAt_some
set_option maxRecDepth 100000 in
set_option maxHeartbeats 2000000 in
theorem sent_loop (F : Fence) (N : Nat) (hf : ∀ k, F.fn k) (hro : F.round = none) (hN : 3 ≤ N) (a : Option Addr) (n c : Nat) (i u : Int) (la : List Int) (hn : n = la.length) (w : World) (hA : Nums w (.slice a n c) la)
    (h16 : n ≤ 16) : CallsIn F N Try.prog 68 #[rowV i u (.slice a n c)] w (fun e w' => e = .returned (.int .i64 (sentV la)) ∧ Below w.heap.size w w') := by
  have h1 : 1 ≤ N := by omega
  have HA := Lib.hid hA; clear hA
  have Hn := Lib.hid hn; clear hn
  refine callsIn_of_wp_marks Try.func68 rfl (hf _) ?_ hro
  simp only [Try.ntmps68, List.size_toArray, List.length_cons, List.length_nil, Nat.reduceAdd, Nat.reduceSub, Array.replicate_succ, Array.replicate_zero, List.push_toArray, List.append_toArray, List.nil_append, List.cons_append]
  gi_wp2_with (gi_at_call 63; refine (limits_in F (N - 1) (hf _) hro _ _ _ _ _).mono ?_; rintro e w' ⟨rfl, rfl⟩)
  have c2 := Boxed.new (w.alloc (.cells #[.int .i64 i, .int .i64 u, .slice a n c] 59)) 2 (.int .i64 0)
  obtain ⟨w3, hw3⟩ : ∃ w3, (w.alloc (.cells #[.int .i64 i, .int .i64 u, .slice a n c] 59)).alloc (.cells #[.int .i64 0] 2) = w3 := ⟨_, rfl⟩
  have hs3 : w3.heap.size = w.heap.size + 1 + 1 := by rw [← hw3]; simp
  have hb3 : Below w.heap.size w w3 := by rw [← hw3]; exact below_two w _ _
  simp only [World.size_alloc] at c2
  rw [hw3] at c2 ⊢
  clear hw3
  have bA := Boxed.new w3 52 (.slice a n c)
  have bB := Boxed.new (w3.alloc (.cells #[.slice a n c] 52)) 3 (.int .i64 (-1))
  rw [World.size_alloc] at bB
  rw [hs3] at bA bB
  have hB0 : Below w.heap.size w ((w3.alloc (.cells #[.slice a n c] 52)).alloc (.cells #[.int .i64 (-1)] 3)) := (hb3.alloc (by omega) _).alloc (by simp; omega) _
  refine wpIn_rangeFunc_ownG hro h1 (gf := 71) (lb := #[.pointer (some ⟨w.heap.size + 1 + 1, 0, none⟩), .pointer (some ⟨w.heap.size + 1 + 1 + 1, 0, none⟩)]) rfl (hf _) (enters_of Try.func71 (by kernel_rfl) rfl)
    (limits_stops F (N - 1) (hf _) hro (by omega) (w.heap.size + 1 + 1) (w.heap.size + 1 + 1 + 1) w a n c (-1) la Hn.out HA.out _ hB0 (bA.alloc _) bB) kept_trans (kept_put (by simp; omega) (by simp; omega)) (Below.refl _ _) (fun _ => rfl)
    (fun pre W => ((∀ x ∈ pre, 0 ≤ x.1 ∧ x.1 ≤ x.2) ∧ Boxed W (w.heap.size + 1) 2 (.int .i64 (sumW (pre.map Prod.fst)))) ∧ Below w.heap.size w W)
    (fun cd pre W => (cd = .ret ∧ Bad pre ∧ Boxed W (w.heap.size + 1) 2 (.int .i64 0)) ∧ Below w.heap.size w W)
    (OwnFrom.and (Own.from (fun s A B row hs hg hr => ⟨hs.1, box_kept hs.2 hg hr⟩) _) (ownFrom_below (Nat.le_refl _) (by simp; omega)))
    (fun cd => OwnFrom.and (Own.from (fun s A B row hs hg hr => ⟨hs.1, hs.2.1, box_kept hs.2.2 hg hr⟩) _) (ownFrom_below (Nat.le_refl _) (by simp; omega)))
    ⟨⟨by simp, (c2.alloc _).alloc _⟩, hB0⟩
    ?a1 ?assign ?body ?done ?stop
  case assign =>
    intro l x W K hK
    gi_wp2
    exact hK
  case body =>
    rintro l pre x W ⟨⟨hp, hr⟩, hB⟩ _
    obtain ⟨s, Hs⟩ : ∃ s, Hid (sumW (pre.map Prod.fst) = s) := ⟨_, rfl⟩
    rw [Hs.out] at hr
    have Hs1 : Hid (sumW ((pre ++ [x]).map Prod.fst) = wrap64 (s + x.1)) := by
      rw [List.map_append, List.map_cons, List.map_nil, sumW_snoc, Hs.out]; exact rfl
    have hc := hr.cell
    have hfz := hr.frozen
    by_cases hx0 : 0 ≤ x.1
    · by_cases hx1 : x.1 ≤ x.2
      · gi_wp2
        exact ⟨(KeepsOthers.setCell _ _ _).from _, kept_set _ (by simp) (by simp; omega), ⟨fun y hy => (List.mem_append.1 hy).elim (hp y) (fun e => by simp at e; subst e; exact ⟨hx0, hx1⟩), by rw [Hs1.out]; exact hr.set _⟩, hB.setCell (p := ⟨w.heap.size + 1, 0, none⟩) (by simp) _⟩
      · gi_wp2
        exact ⟨(KeepsOthers.setCell _ _ _).from _, ⟨rfl, bad_of (by omega), hr.set _⟩, hB.setCell (p := ⟨w.heap.size + 1, 0, none⟩) (by simp) _⟩
    · gi_wp2
      exact ⟨(KeepsOthers.setCell _ _ _).from _, ⟨rfl, bad_of (by omega), hr.set _⟩, hB.setCell (p := ⟨w.heap.size + 1, 0, none⟩) (by simp) _⟩
  case done =>
    rintro D ys W hD rfl ⟨⟨hp, hr⟩, hB⟩ hK
    have hmap : (la.zip (mosts (-1) n)).map Prod.fst = la := by
      rw [List.map_fst_zip]; rw [mosts_length, ← Hn.out]; exact Nat.le_refl _
    rw [hmap] at hr
    have hv : sentV la = sumW la := by
      unfold sentV
      rw [if_pos]
      rw [← Hn.out]
      exact ⟨h16, fits_yes hp⟩
    have hc := hr.cell
    have hfz := hr.frozen
    have Hmap := Lib.hid hmap
    have Hv := Lib.hid hv
    have hp' := Lib.hid hp
    clear hmap hv hp
    obtain ⟨s, Hs⟩ : ∃ s, Hid (sumW la = s) := ⟨_, rfl⟩
    rw [Hs.out] at hc hr
    gi_wp2
    have hK' := (KeepsOthers.setCell W ⟨w.heap.size + 1, 0, none⟩ (.int .i64 s)).same D _ hK rfl
    refine ⟨by simp, .inl ⟨_, _, rfl, run_takeDeferred hK', ?_⟩⟩
    have hc5 := cell_kept (hr.set (.int .i64 s)).cell (grownBy_putObj' _ D (.deferred none)) (fun r e => by cases e; exact ⟨_, hK', rfl⟩)
    refine ⟨.int .i64 s, ?_, by rw [Hv.out, Hs.out], (hB.setCell (p := ⟨w.heap.size + 1, 0, none⟩) (by simp) _).trans (belowK_b (w := w) (Nat.le_refl _) _ D _ _ (by simp at hD; omega) hK' rfl rfl)⟩
    simp [results, Try.f68, go_sem, hc5]
  case stop =>
    rintro D cd pre W hD ⟨k, hk, rfl⟩ ⟨⟨rfl, hbad, hr⟩, hB⟩ hK
    have hv : sentV la = 0 := by
      unfold sentV
      rw [if_neg]
      rw [← Hn.out, hbad.fits]
      simp
    have Hv := Lib.hid hv
    clear hv
    gi_wp2
    refine ⟨by simp, .inl ⟨_, _, rfl, run_takeDeferred hK, ?_⟩⟩
    have hc5 := cell_kept hr.cell (grownBy_putObj' _ D (.deferred none)) (fun r e => by cases e; exact ⟨_, hK, rfl⟩)
    refine ⟨.int .i64 0, ?_, by rw [Hv.out], hB.trans (belowK_b (w := w) (Nat.le_refl _) W D _ _ (by simp at hD; omega) hK rfl rfl)⟩
    simp [results, Try.f68, go_sem, hc5]
theorem sent_calls (a : Option Addr) (n c : Nat) (i u : Int) (la : List Int) (hn : n = la.length) (w : World) (hA : Nums w (.slice a n c) la) :
    Calls Try.prog 68 #[rowV i u (.slice a n c)] w (fun e w' => e = .returned (.int .i64 (sentV la)) ∧ Below w.heap.size w w') := by
  by_cases h : n ≤ 16
  · exact callsIn_wide.1 (sent_loop Fence.wide 9 (fun _ => trivial) rfl (by decide) a n c i u la hn w hA h)
  · have hbig : n ≤ 9223372036854775807 := by rw [hn]; exact hA.1
    have hv : sentV la = 0 := by
      unfold sentV
      rw [if_neg]
      rw [← hn]
      exact fun k => h k.1
    rw [hv]
    have h' : 16 < n := by omega
    clear hv hA hn h
    go_enter Try.func68, Try.ntmps68
    go_wp2
    exact bodyPost_ret (v := .int .i64 0) (by simp [results, Try.results68, go_sem]) rfl ⟨rfl, below_two w _ _⟩
end Go.Proofs.Ytfpadcfahfanoaa

/- Package rights, walked: a sum over the books of what was moved to one. No law is proved here. -/
namespace Go.Proofs.Ytfpadcfahfanoaa
open Go.RowKit

/-- what a row moved to who -/
theorem given_calls (i u : Int) (A : Option Addr) (n C : Nat) (la : List Int) (hn : n = la.length) (who : Nat) (hw : who < n) (p : Nat) (w : World) (hN : Nums w (.slice A n C) la) (hp : w.cell? ⟨p, 0, none⟩ = some (.int .i64 (who : Int))) :
    Calls Try.prog 66 #[rowV i u (.slice A n C), .pointer (some ⟨p, 0, none⟩)] w (Num w (la[who]?.getD 0)) := by
  have hpl : p < w.heap.size := World.block_lt_of_cell? w _ hp
  obtain ⟨b, off, rfl, hbl, d⟩ := hN.at (i := who) (by omega)
  have hbig : n ≤ 9223372036854775807 := by rw [hn]; exact hN.1
  obtain ⟨x, Hx⟩ : ∃ z, Hid (la[who]?.getD 0 = z) := ⟨_, rfl⟩
  rw [Hx.out] at d ⊢
  clear hN hn
  have k0 : (0 : Int) ≤ (who : Int) := by omega
  have k1 : (who : Int) < (n : Int) := by omega
  go_enter Try.func66, Try.ntmps66
  go_wp2
  go_ret
  exact ⟨by rfl, below_box _ _⟩
set_option maxRecDepth 100000 in
set_option maxHeartbeats 4000000 in
theorem sums_given (a : Option Addr) (m d : Nat) (l : List Rw) (hm : m = l.length) (h16 : m ≤ 16) (hF : Fits l) (who : Nat) (hw : who < m) (bs p : Nat) (w : World) (hB : Books w (.slice a m d) l)
    (hs : w.cell? ⟨bs, 0, none⟩ = some (.slice a m d)) (hp : w.cell? ⟨p, 0, none⟩ = some (.int .i64 (who : Int))) :
    Calls Try.prog 72 #[.func (.func 66) #[] #[.pointer (some ⟨p, 0, none⟩)], .pointer (some ⟨bs, 0, none⟩)] w (Num w (sumN (fun i => (at_ l i).out[who]?.getD 0) m)) := by
  have HB := Lib.hid hB; clear hB
  have Hm := Lib.hid hm; clear hm
  have HF := Lib.hid hF; clear hF
  have hbsl : bs < w.heap.size := World.block_lt_of_cell? w _ hs
  have Hp := Lib.hid hp; clear hp
  obtain ⟨G, HG⟩ : ∃ G, Hid ((fun i => (at_ l i).out[who]?.getD 0) = G) := ⟨_, rfl⟩
  rw [HG.out]
  have hGb : Hid (∀ k, k < m → -1125899906842624 ≤ G k ∧ G k ≤ 1125899906842624) := by
    rw [← HG.out]
    intro k hk
    have := (HF.out k (by have := Hm.out; omega)).2.2.2.2.2 who (by have := Hm.out; omega)
    show -1125899906842624 ≤ (at_ l k).out[who]?.getD 0 ∧ (at_ l k).out[who]?.getD 0 ≤ 1125899906842624
    omega
  go_enter Try.func72, Try.ntmps72
  go_wp2_with fail
  clear hs
  go_loopw [3, 8] (fun t i wr => ∃ (k : Nat) (T : Int), k ≤ m ∧ i = .int .i64 k ∧ t = .int .i64 T ∧ Hid (T = sumN G k) ∧ Hid (Below w.heap.size w wr)) (fun _ i _ => m - (intOf i).toNat)
  case atStart => exact ⟨0, 0, Nat.zero_le _, rfl, rfl, show _ = _ by rfl, Below.refl _ _⟩
  case round =>
    obtain ⟨k, T, hk, rfl, rfl, HT, Hb⟩ := hrel
    have hbm : m ≤ 9223372036854775807 := by omega
    by_cases hlt : k < m
    · obtain ⟨b, off, A, C, rfl, hbw, c0, c1, c2, hN⟩ := HB.out.at (k := k) (by have := Hm.out; omega)
      have hfb := sumN_bound hGb.out k (by omega)
      rw [← HT.out] at hfb
      have hgk := hGb.out k hlt
      have hT0 : -(1125899906842624 * 16) ≤ T := by omega
      have hT1 : T ≤ 1125899906842624 * 16 := by omega
      clear hfb
      have hff := HF.out k (by have := Hm.out; omega)
      rw [← Hm.out] at hff
      obtain ⟨r, Hr⟩ : ∃ z, Hid (at_ l k = z) := ⟨_, rfl⟩
      rw [Hr.out] at c0 c1 c2 hN hff
      rw [hff.1] at c2 hN
      have Hru : Hid (0 ≤ r.inc ∧ r.inc ≤ 1099511627776 ∧ 0 ≤ r.use ∧ r.use ≤ 1099511627776) := ⟨hff.2.1, hff.2.2.1, hff.2.2.2.1, hff.2.2.2.2.1⟩
      have Hx : Hid (r.out[who]?.getD 0 = G k) := by rw [← HG.out, ← Hr.out]; exact rfl
      obtain ⟨y, Hy⟩ : ∃ z, Hid (G k = z) := ⟨_, rfl⟩
      rw [Hy.out] at hgk Hx
      obtain ⟨hy0, hy1⟩ := hgk
      have HS : Hid (sumN G (k + 1) = T + y) := by rw [HT.out, ← Hy.out]; exact rfl
      have Hout := Lib.hid hff.1.symm; clear hff
      have HN := Lib.hid hN; clear hN
      have d0 := cell_later Hb.out c0
      have d1 := cell_later Hb.out c1
      have d2 := cell_later Hb.out c2
      clear c0 c1 c2
      have hbr : b < wr.heap.size := by have := Hb.out.size; omega
      have k0 : (0 : Int) ≤ (k : Int) := by omega
      have k1 : (k : Int) < (m : Int) := by omega
      go_wp2_with fail
      have HA := held_next Hb.out (below_box wr (.cells #[.int .i64 r.inc, .int .i64 r.use, .slice A m C] 59))
      refine (given_calls r.inc r.use A m C r.out Hout.out who hw p _ (HN.out.later HA) (cell_later HA Hp.out)).mono ?_
      rintro e w2 ⟨rfl, hb⟩
      rw [Hx.out]
      have Hb2 := Lib.hid (held_next HA hb)
      clear HA hb d0 d1 d2
      go_wp2_with fail
      go_roundw
      case rel => exact ⟨k + 1, T + y, by omega, by go_num, rfl, HS.out.symm, Hb2.out⟩
      case measure => simp [intOf]; omega
    · have hkm : k = m := by omega
      have HT2 : Hid (sumN G m = T) := by rw [← hkm]; exact HT.out.symm
      have Hkm := Lib.hid hkm; clear hkm
      go_wp2
      go_ret
      exact ⟨by rw [HT2.out]; rfl, Hb.out⟩
end Go.Proofs.Ytfpadcfahfanoaa
