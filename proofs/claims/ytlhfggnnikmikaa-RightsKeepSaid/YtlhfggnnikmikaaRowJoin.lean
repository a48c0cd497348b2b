/- Join: two rows joined, number by number. No law is proved here. -/
import Derived.Test.YtlhfggnnikmikaaRowIter
import Derived.Lib.MinMax
import Derived.Laws.MakeOwn
import Derived.Maps.AppendAt
import Derived.Deep.RegionHeld3
import Derived.Deep.DeepCutAuto
namespace Go.Proofs.Ytlhfggnnikmikaa
open Go.RowKit Go.Shelf

attribute [local go_sem] Oper.semAt_some

set_option maxRecDepth 100000 in
set_option maxHeartbeats 1000000 in
theorem join_own (a : Option Addr) (n c : Nat) (b : Option Addr) (d : Nat) (i u j v : Int) (la lb : List Int) (hn : n = la.length) (hm : n = lb.length) (w : World) (hA : Nums w (.slice a n c) la) (hB : Nums w (.slice b n d) lb)
    (hle : n ≤ 1000000) : Calls Try.prog 43 #[rowV i u (.slice a n c), rowV j v (.slice b n d)] w (JoinedO w n (max i j) (max u v) (joinL la lb)) := by
  have hbig : n ≤ 9223372036854775807 := by omega
  have hmk : ∀ w : World, (Instr.makeSlice 47 (.int .i64 0) (.int .i64 (n : Int))).run Try.prog w = .ok (.slice (some ⟨w.heap.size, 0, none⟩) 0 n) (w.alloc (.cells (madeCells #[.int .i64 0] n) 2)) := by
    intro w
    obtain ⟨i0, hi, hz0, hz1, hz2⟩ := info_parts info_int64
    have := run_make (P := Try.prog) w 47 2 i0 (.int .i64 0) Try.underlying47 hi hz0 .i64 .i64 0 (n : Int) (by omega) (by omega) (by rw [hz2]; omega) (by omega)
    simpa [hz1, show (Value.int .i64 0).cells = #[.int .i64 0] from rfl] using this
  have HA := Lib.hid hA; clear hA
  have HB := Lib.hid hB; clear hB
  have Hn := Lib.hid hn; clear hn
  have Hm := Lib.hid hm; clear hm
  have HWA := Lib.hid (((Whole.made w 49 #[.int .i64 i, .int .i64 u, .slice a n c]).alloc (.cells #[.int .i64 j, .int .i64 v, .slice b n d] 49)).alloc (.cells #[.int .i64 0, .int .i64 0, .slice none 0 0] 49))
  have HWB := Lib.hid ((Whole.made2 w (.cells #[.int .i64 i, .int .i64 u, .slice a n c] 49) 49 #[.int .i64 j, .int .i64 v, .slice b n d]).alloc (.cells #[.int .i64 0, .int .i64 0, .slice none 0 0] 49))
  have HWC := Lib.hid (Whole.madeAt ((w.alloc (.cells #[.int .i64 i, .int .i64 u, .slice a n c] 49)).alloc (.cells #[.int .i64 j, .int .i64 v, .slice b n d] 49)) 49 #[.int .i64 0, .int .i64 0, .slice none 0 0] (w.heap.size + 1 + 1) (by simp))
  have Hb3 := Lib.hid ((below_two w (.cells #[.int .i64 i, .int .i64 u, .slice a n c] 49) (.cells #[.int .i64 j, .int .i64 v, .slice b n d] 49)).alloc (by simp; omega) (.cells #[.int .i64 0, .int .i64 0, .slice none 0 0] 49))
  have hs3 : (((w.alloc (.cells #[.int .i64 i, .int .i64 u, .slice a n c] 49)).alloc (.cells #[.int .i64 j, .int .i64 v, .slice b n d] 49)).alloc (.cells #[.int .i64 0, .int .i64 0, .slice none 0 0] 49)).heap.size = w.heap.size + 1 + 1 + 1 := by simp
  refine (callsIn_wide (n := 9)).1 ?_
  refine callsIn_of_wp_marks Try.func43 rfl trivial ?_ rfl
  refine wpIn_wide.2 ?_
  simp only [Try.ntmps43, List.size_toArray, List.length_cons, List.length_nil, Nat.reduceAdd, Nat.reduceSub, Array.replicate_succ, Array.replicate_zero, List.push_toArray, List.append_toArray, List.nil_append, List.cons_append]
  go_upto_region 2 with fail
  generalize ((w.alloc (.cells #[.int .i64 i, .int .i64 u, .slice a n c] 49)).alloc (.cells #[.int .i64 j, .int .i64 v, .slice b n d] 49)).alloc (.cells #[.int .i64 0, .int .i64 0, .slice none 0 0] 49) = w3 at HWA HWB HWC Hb3 hs3 ⊢
  have hlt3 : w.heap.size + 1 + 1 < w3.heap.size := by omega
  have Hs3 := Lib.hid hs3; clear hs3
  obtain ⟨z0, z1, z2⟩ := row_cells HWC.out
  have y0 := HWC.out.free 0
  have y1 := HWC.out.free 1
  have y2 := HWC.out.free 2
  have hn2 : w.heap.size + 1 + 1 ≤ w3.heap.size := by omega
  have KP : Hid (∀ w', Below (w.heap.size + 1 + 1) w3 w' → (
     (w'.cell? ⟨w.heap.size, 0, none⟩ = some (.int .i64 i) ∧ w'.cell? ⟨w.heap.size, 1, none⟩ = some (.int .i64 u) ∧ w'.cell? ⟨w.heap.size, 2, none⟩ = some (.slice a n c)) ∧
     (w'.cell? ⟨w.heap.size + 1, 0, none⟩ = some (.int .i64 j) ∧ w'.cell? ⟨w.heap.size + 1, 1, none⟩ = some (.int .i64 v) ∧ w'.cell? ⟨w.heap.size + 1, 2, none⟩ = some (.slice b n d)))) :=
    fun w' h => ⟨row_cells (HWA.out.later h (by omega)), row_cells (HWB.out.later h (by omega))⟩
  go_cut [28] from 15 to 29 (fun s28 wx => s28 = .slice (some ⟨w3.heap.size, 0, none⟩) 0 n ∧ Hid (Whole wx (w.heap.size + 1 + 1) 49 #[.int .i64 (max i j), .int .i64 (max u v), .slice (some ⟨w3.heap.size, 0, none⟩) 0 n]) ∧
    Hid (wx.ownsRow w.heap.size 2 1 (.slice (some ⟨w3.heap.size, 0, none⟩) 0 n) 0 []) ∧ Hid (Below (w.heap.size + 1 + 1) w3 wx))
  case first =>
    go_region_held3 (fun w' =>
       (w'.cell? ⟨w.heap.size, 0, none⟩ = some (.int .i64 i) ∧ w'.cell? ⟨w.heap.size, 1, none⟩ = some (.int .i64 u) ∧ w'.cell? ⟨w.heap.size, 2, none⟩ = some (.slice a n c)) ∧
       (w'.cell? ⟨w.heap.size + 1, 0, none⟩ = some (.int .i64 j) ∧ w'.cell? ⟨w.heap.size + 1, 1, none⟩ = some (.int .i64 v) ∧ w'.cell? ⟨w.heap.size + 1, 2, none⟩ = some (.slice b n d)))
      (first | exact KP.out _ (Below.refl _ _).drew | exact KP.out _ ((Below.refl _ _).drew.alloc hn2 _) | exact KP.out _ ((Below.refl _ _).alloc hn2 _).drew | exact KP.out _ (below_made hn2 (Nat.le_refl _) (Nat.le_refl _) (Nat.le_refl _) _ _ _ _))
      (first | fail)
    all_goals go_wp2_with fail
    all_goals go_meet
    all_goals exact ⟨rfl, (made_facts HWC.out (by have := Hb3.out.size; omega) _ _ _ _ (by unfold maxLen; omega) rfl).1, (made_facts HWC.out (by have := Hb3.out.size; omega) _ _ _ _ (by unfold maxLen; omega) rfl).2, below_made hn2 (Nat.le_refl _) (Nat.le_refl _) (Nat.le_refl _) _ _ _ _⟩
  case rest =>
    obtain ⟨rfl, HW, HO, Hb⟩ := hcut
    clear z0 z1 z2 y0 y1 y2 KP
    have Hbw := Lib.hid (Hb3.out.trans (Hb.out.mono (by omega)))
    have Hsc := Lib.hid Hb.out.size
    have hsc : w.heap.size + 1 + 1 < wc.heap.size := by have := Hb.out.size; omega
    obtain ⟨a0, a1, a2⟩ := row_cells (HWA.out.later Hb.out (by omega))
    obtain ⟨b0, b1, b2⟩ := row_cells (HWB.out.later Hb.out (by omega))
    have hA5 := HA.out.later Hbw.out
    clear a0 a1 b0 b1 hA5
    go_wp2_with (go_at_call 53; refine (callsIn_wide.1 (pairs_in Fence.wide 9 trivial rfl _ _ _ _ _ _ _)).mono ?_; rintro e w' ⟨rfl, rfl⟩)
    refine (wpIn_wide (n := 9)).1 ?_
    have bA := Boxed.new wc 47 (.slice a n c)
    have bB := Boxed.new (wc.alloc (.cells #[.slice a n c] 47)) 47 (.slice b n d)
    rw [World.size_alloc] at bB
    have hB0 : Below w.heap.size w ((wc.alloc (.cells #[.slice a n c] 47)).alloc (.cells #[.slice b n d] 47)) := (Hbw.out.alloc Hbw.out.size _).alloc (by have := Hbw.out.size; simp; omega) _
    obtain ⟨i0, hi, hz0, hz1, hz2⟩ := info_parts info_int64
    refine wpIn_rangeFunc_ownG (F := Fence.wide) (n := 9) rfl (by decide) (gf := 56) (lb := #[.pointer (some ⟨wc.heap.size, 0, none⟩), .pointer (some ⟨wc.heap.size + 1, 0, none⟩)]) rfl trivial (enters_of Try.func56 (by kernel_rfl) rfl)
      (pairs_stops Fence.wide 8 trivial rfl (by decide) wc.heap.size (wc.heap.size + 1) w a b n c d la lb Hn.out Hm.out HA.out HB.out _ hB0 (bA.alloc _) bB) kept_trans (kept_put (by have := Hbw.out.size; simp; omega) (by simp)) (Below.refl _ _) (fun _ => rfl)
      (fun pre W => ((∃ sv, Whole W (w.heap.size + 1 + 1) 49 #[.int .i64 (max i j), .int .i64 (max u v), sv] ∧ W.ownsRow w.heap.size 2 1 sv pre.length ((tops pre).map (Value.int .i64))) ∧ Boxed W (wc.heap.size + 1) 47 (.slice b n d)) ∧ Below w.heap.size w W)
      (fun _ _ _ => False)
      (OwnFrom.and (Own.from (fun s A B row hs hg hr => ⟨by obtain ⟨⟨sv, h1, h2⟩, _⟩ := hs; exact ⟨sv, whole_kept h1 hg hr, own_kept h2 hg hr⟩, box_kept hs.2 hg hr⟩) _) (ownFrom_below (Nat.le_refl _) (by have := Hbw.out.size; simp; omega)))
      (fun _ _ _ _ _ hs _ _ => hs)
      ⟨⟨⟨_, (HW.out.alloc _).alloc _, (HO.out.alloc _).alloc _⟩, bB⟩, hB0⟩
      ?a1 ?assign ?body ?done ?stop
    case assign =>
      intro l x W K hK
      gi_wp2
      exact hK
    case body =>
      rintro l pre x W ⟨⟨⟨sv, hw, hrow⟩, hbx⟩, hB⟩ hlt
      have c2 : W.cell? ⟨w.heap.size + 1 + 1, 2, none⟩ = some sv := hw.cell 2
      have hlw : w.heap.size + 1 + 1 < W.heap.size := hw.lt
      have hBs := hB.size
      have hlm : pre.length + 1 ≤ maxLen := by unfold maxLen; omega
      gi_wp2_with (gi_at_builtin; refine wpListIn_append_own _ rfl _ _ 47 rfl w.heap.size 2 i0 (.int .i64 0) 1 8 Try.underlying47 hi hz0 hz1 hz2 rfl (by decide) _ _ _ rfl (hrow.alloc _) ⟨W.heap.size, 0, none⟩ 1 1 [.int .i64 (max x.1 x.2)] rfl rfl (cell_one_new _ _ _) (by simp [Value.oneCell']) (by omega) (by omega) (by simp; omega) ?_; intro v' w1 hown' hgrow _; obtain ⟨g', cap', rfl⟩ := ownsRow_succ hown'; obtain ⟨hv1, hv2, hr2, hk2, hb2, hx2⟩ := row_push hw hbx (by decide) (by decide) (by omega) hrow hBs (by omega) hown' hgrow; have hc1 : w1.cell? ⟨w.heap.size + 1 + 1, 2, none⟩ = some sv := hv1.cell 2; have hf1 := hv1.free 2)
      exact ⟨hk2.from _, hb2, ⟨⟨⟨_, hv2, by rw [tops_snoc, List.map_append, List.length_append]; exact hr2⟩, hx2⟩, hB.trans hb2.1⟩⟩
    case done =>
      rintro D ys W hD rfl ⟨⟨⟨sv, hw, hrow⟩, hbx⟩, hB⟩ hK
      have hzl : (la.zip lb).length = n := by rw [List.length_zip, ← Hn.out, ← Hm.out, Nat.min_self]
      rw [hzl] at hrow
      obtain ⟨A, C, rfl, _⟩ := nums_of_own hrow (by rw [tops_length, hzl]) hbig
      have c0 : W.cell? ⟨w.heap.size + 1 + 1, 0, none⟩ = some (.int .i64 (max i j)) := hw.cell 0
      have c1 : W.cell? ⟨w.heap.size + 1 + 1, 1, none⟩ = some (.int .i64 (max u v)) := hw.cell 1
      have c2 : W.cell? ⟨w.heap.size + 1 + 1, 2, none⟩ = some (.slice A n C) := hw.cell 2
      have f0 := hw.free 0
      have f1 := hw.free 1
      have f2 := hw.free 2
      obtain ⟨hK2, hw2, hr2, hb2⟩ := row_left hw (by decide) hrow hK hB (by omega) (Nat.le_refl _) (by have := Hbw.out.size; simp at hD; omega)
      have HK2 := Lib.hid hK2
      have HW2 := Lib.hid hw2
      have HR2 := Lib.hid hr2
      have HB2 := Lib.hid hb2
      have Hz := Lib.hid hzl
      clear hK2 hw2 hr2 hb2 hrow hzl
      go_wp2_with fail
      refine ⟨by simp, .inl ⟨_, _, rfl, run_takeDeferred HK2.out, ?_⟩⟩
      have e0 := HW2.out.cell 0
      have e1 := HW2.out.cell 1
      have e2 := HW2.out.cell 2
      refine ⟨.tuple #[rowV (max i j) (max u v) (.slice A n C), .bool true], ?_, A, C, rfl, HR2.out, HB2.out⟩
      simp [results, Try.f43, go_sem, e0, e1, e2]
    case stop =>
      rintro D cd pre W _ _ h _
      exact h.elim

theorem join_loop (a : Option Addr) (n c : Nat) (b : Option Addr) (d : Nat) (i u j v : Int) (la lb : List Int) (hn : n = la.length) (hm : n = lb.length) (w : World) (hA : Nums w (.slice a n c) la) (hB : Nums w (.slice b n d) lb)
    (hle : n ≤ 1000000) : Calls Try.prog 43 #[rowV i u (.slice a n c), rowV j v (.slice b n d)] w (Joined w n (max i j) (max u v) (joinL la lb)) :=
  (join_own a n c b d i u j v la lb hn hm w hA hB hle).mono fun _ _ h => h.joined (by omega)

set_option maxHeartbeats 1000000 in
theorem join_no (a : Option Addr) (n c : Nat) (b : Option Addr) (m d : Nat) (i u j v : Int) (w : World) (hne : n ≠ m) :
    Calls Try.prog 43 #[rowV i u (.slice a n c), rowV j v (.slice b m d)] w (Apart w) := by
  have h1' : ((n : Int) != (m : Int)) = true := by simp; omega
  go_enter Try.func43, Try.ntmps43
  go_wp2
  exact bodyPost_ret (v := .tuple #[rowV 0 0 (.slice none 0 0), .bool false]) (by simp [results, Try.results43, go_sem]) rfl ⟨rfl, (below_two w _ _).alloc (by simp; omega) _⟩
end Go.Proofs.Ytlhfggnnikmikaa
