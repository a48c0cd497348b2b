/- Package frame: Scan. No law is proved here. -/
import Derived.Test.YtfooplicnjjipaaDoorFramePut
import Derived.Test.YtfooplicnjjipaaDoorFrameWords
import Derived.Test.YtfooplicnjjipaaDoorGotos
namespace Go.Proofs.YtfooplicnjjipaaDoor
open Go.RowKit
attribute [local go_sem ↓] run_fine

set_option maxRecDepth 100000 in
set_option maxHeartbeats 4000000 in
theorem fScan_calls (a : Option Addr) (n c : Nat) (zs : List Int) (l : List (List Int)) (r : List Int) (w : World) (hS : SB w ⟨a, n, c⟩ zs) (hz : zs.length ≤ 1000000) (hsc : FrameMath.Scans zs l r) (hT : Tab w) :
    Calls Tryd.prog 7 #[.slice a n c] w (ScannedS w l) := by
  have HS := Lib.hid hS
  have HT := Lib.hid hT; clear hT
  have Hz := Lib.hid hz; clear hz
  have Hsc := Lib.hid hsc; clear hsc
  have hn : n = zs.length := hS.1
  have hn6 : n ≤ 1000000 := by rw [hn]; exact Hz.out
  have Hn := Lib.hid hn
  clear hS hn
  have Hfl : Hid (∀ i, (FrameMath.frames (l.take i)).length ≤ n) := fun i => by
    have h := FrameMath.frames_take_le l (i := min i l.length) (j := l.length) (Nat.min_le_right _ _)
    rw [← List.take_take, List.take_length] at h
    have h2 := congrArg List.length Hsc.out.1
    rw [List.length_append, ← Hn.out] at h2
    omega
  have Hll : Hid (l.length ≤ n) := by
    show l.length ≤ n
    have h2 := congrArg List.length Hsc.out.1
    rw [List.length_append, ← Hn.out] at h2
    have : ∀ m : List (List Int), m.length ≤ (FrameMath.frames m).length := fun m => by
      induction m with
      | nil => exact Nat.le_refl _
      | cons p m ih => rw [FrameMath.frames_cons, List.length_append, List.length_cons, FrameMath.frm_length]; have := FrameMath.sizeN_pos p.length; omega
    have := this l
    omega
  go_enter Tryd.func7, Tryd.ntmps7
  go_wp2_with fail
  refine wp_scope_rounds 0 1 (fun b wr => ∃ (i q : Nat) (lv u4 u5 u6 u7 u8 u9 u10 u11 u12 u13 u14 u15 u16 u17 u18 u19 u20 u21 u22 u23 u24 u25 : Value), b = { tmps := #[.slice a n c, undef, lv, .int .i64 q, u4, u5, u6, u7, u8, u9, u10, u11, u12, u13, u14, u15, u16, u17, u18, u19, u20, u21, u22, u23, u24, u25], defers := [] } ∧ i ≤ l.length ∧ q = (FrameMath.frames (l.take i)).length ∧ OwnSls w.heap.size wr lv (l.take i) ∧ Below w.heap.size w wr)
    (fun b _ => n - (intOf (b.tmps.getD 3 undef)).toNat) rfl rfl (by decide) ⟨0, 0, _, _, _, _, _, _, _, _, _, _, _, _, _, _, _, _, _, _, _, _, _, _, _, rfl, Nat.zero_le _, rfl, ownSls_nil _ _, Below.refl _ _⟩ ?_
  intro Ja HJa b wr hJ
  obtain ⟨i, q, lv, u4, u5, u6, u7, u8, u9, u10, u11, u12, u13, u14, u15, u16, u17, u18, u19, u20, u21, u22, u23, u24, u25, rfl, hi, hq, hO, hb⟩ := hJ
  have Hq := Lib.hid hq
  have HO := Lib.hid hO
  have Hb := Lib.hid hb
  clear hq hO hb
  have hqn : q ≤ n := by rw [Hq.out]; exact Hfl.out i
  have hrest : zs.drop q = FrameMath.frames (l.drop i) ++ r := by
    have e : zs = FrameMath.frames (l.take i) ++ (FrameMath.frames (l.drop i) ++ r) := by rw [← List.append_assoc, ← FrameMath.frames_append, List.take_append_drop]; exact Hsc.out.1
    rw [e, Hq.out, List.drop_left]
  obtain ⟨v0, hsl0, hbv0, a0, c0, rfl, hnc0⟩ := piece_any (a := a) (c := c) (zs := zs) Hn.out hqn HS.out.2.1
  obtain ⟨m, Hm⟩ : ∃ z, Hid (n - q = z) := ⟨_, rfl⟩
  have hml : m = (zs.drop q).length := by rw [List.length_drop, ← Hn.out]; exact Hm.out.symm
  rw [Hm.out] at hsl0 hbv0 hnc0
  have HB0 : Hid (SB wr ⟨a0, m, c0⟩ (zs.drop q)) := ⟨hml, hnc0, hbv0 wr (HS.out.later Hb.out).2.2⟩
  have hzd : (zs.drop q).length ≤ 1000000 := by rw [← hml]; have := Hm.out; omega
  clear hbv0 hml
  have q0 : (0 : Int) ≤ (q : Int) := by omega
  have q1 : (q : Int) ≤ (n : Int) := by omega
  have hnb : n ≤ 9223372036854775807 := by omega
  rcases ftake_calls a0 m c0 (zs.drop q) wr HB0.out hzd (HT.out.later Hb.out) with ⟨p, y, hpy, hcall⟩ | ⟨hno, hcall⟩
  · have Hcall := Lib.hid hcall
    clear hcall hzd
    have hil : i < l.length := by
      refine Nat.lt_of_not_le fun hge => ?_
      rw [List.drop_eq_nil_of_le hge, FrameMath.frames_nil, List.nil_append] at hrest
      exact Hsc.out.2 p _ (hrest.symm.trans hpy)
    have e2 : l.drop i = l[i] :: l.drop (i + 1) := List.drop_eq_getElem_cons hil
    have hpi : p = l[i] := by
      rw [e2, FrameMath.frames_cons, List.append_assoc] at hrest
      exact (FrameMath.frm_prefix (hpy.symm.trans hrest)).1
    have HL1 : Hid (l.take (i + 1) = l.take i ++ [p]) := by show l.take (i + 1) = _; rw [List.take_succ_eq_append_getElem hil, hpi]
    obtain ⟨E, HE⟩ : ∃ z, Hid (q + FrameMath.sizeN p.length = z) := ⟨_, rfl⟩
    have HE2 : Hid (E = (FrameMath.frames (l.take (i + 1))).length) := by
      show E = _
      rw [HL1.out, FrameMath.frames_append, List.length_append, FrameMath.frames_cons, FrameMath.frames_nil, List.append_nil, FrameMath.frm_length, ← Hq.out]
      exact HE.out.symm
    have hEn : E ≤ n := by rw [HE2.out]; exact Hfl.out (i + 1)
    obtain ⟨F, HF⟩ : ∃ z, Hid (FrameMath.sizeN p.length = z) := ⟨_, rfl⟩
    have hF5 : 5 ≤ F := by rw [← HF.out]; have := FrameMath.sizeN_ge p.length; omega
    have hqE : q + F = E := by rw [← HF.out]; exact HE.out
    have hsum : IntKind.i64.wrap ((q : Int) + (F : Int)) = (E : Int) := by rw [IntWalk.i64_in _ (by omega)]; omega
    have HqE := Lib.hid hqE
    have hll : (l.take i).length + 1 ≤ 1000000 := by rw [List.length_take]; have := Hll.out; omega
    have Hll2 := Lib.hid hll
    clear hll hpi e2 hpy hrest hqE
    go_wp2_with fail
    refine Hcall.out.mono ?_
    rintro e w1 ⟨⟨a5, n5, c5⟩, rfl, hS5, ho5, hb5⟩
    rw [HF.out]
    have HS5 := Lib.hid hS5
    have HO1 := Lib.hid (HO.out.later hb5)
    have Hb1 := Lib.hid (held_next Hb.out hb5)
    have hbx := below_box w1 (.cells #[.slice a5 n5 c5] 22)
    have hof : ∀ g, lv.ownBlock = some g → Off g ⟨a5, n5, c5⟩ p := fun g hg => by
      obtain ⟨f, h1, _⟩ := HO.out
      exact ho5 g (h1.lt g hg).2
    have hbase : w.heap.size ≤ (w1.alloc (.cells #[.slice a5 n5 c5] 22)).heap.size := by have h1 := Hb1.out.size; simp; omega
    obtain ⟨v8, w8, hrun8, hO8, hb8⟩ := own_push (HO1.out.later hbx) hbase (HS5.out.later hbx) hof (q := w1.heap.size) ((Whole.made w1 22 #[.slice a5 n5 c5]).cell 0) Hll2.out
    obtain ⟨hf8, hv8, hw8⟩ := fine_of hrun8
    rw [← HL1.out] at hO8
    have HO8 := Lib.hid hO8
    have Hb8 : Hid (Below w.heap.size w w8) := (held_next Hb1.out hbx).trans hb8
    clear hS5 ho5 hb5 hbx hof hbase hrun8 hO8 hb8
    go_wp2_with fail
    go_step3
    have h0 := HqE.out
    refine Or.inl ⟨rfl, ⟨i + 1, E, v8, _, _, _, _, _, _, _, _, _, _, _, _, _, _, _, _, _, _, _, _, _, _, rfl, hil, HE2.out, HO8.out, Hb8.out⟩, ?_⟩
    simp [intOf]
    omega
  · have Hcall := Lib.hid hcall
    clear hcall hzd
    have hil : i = l.length := by
      refine Nat.le_antisymm hi (Nat.le_of_not_lt fun hlt => ?_)
      have e2 : l.drop i = l[i] :: l.drop (i + 1) := List.drop_eq_getElem_cons hlt
      rw [e2, FrameMath.frames_cons, List.append_assoc] at hrest
      exact hno _ _ hrest
    rw [hil, List.take_length] at Hq HO
    clear hil hrest hno
    go_wp2_with fail
    refine Hcall.out.mono ?_
    rintro e w1 ⟨rfl, hb1⟩
    have HO1 := Lib.hid (HO.out.later hb1)
    have Hb1 := Lib.hid (held_next Hb.out hb1)
    obtain ⟨A, C, rfl, hC, hSl⟩ := HO1.out.sls (by have := Hll.out; omega)
    have HC := Lib.hid hC
    have HSl := Lib.hid hSl
    clear hb1 hC hSl
    obtain ⟨L, HL⟩ : ∃ z, Hid (l.length = z) := ⟨_, rfl⟩
    go_wp2_with fail
    go_step3
    refine Or.inr ⟨rfl, HJa.out _ _ ?_⟩
    go_wp2_with fail
    rw [jumps_ret]
    go_ret2
    exact ⟨A, C, by rw [Hq.out]; rfl, HC.out, HSl.out, Hb1.out⟩
end Go.Proofs.YtfooplicnjjipaaDoor
