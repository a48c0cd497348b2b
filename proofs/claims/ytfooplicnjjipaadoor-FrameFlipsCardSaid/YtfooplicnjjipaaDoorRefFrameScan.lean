/- The document's own, layer 8: Scan. No law is proved here. -/
import Derived.Test.YtfooplicnjjipaaDoorRefFramePut
import Derived.Test.YtfooplicnjjipaaDoorSls
import Derived.Test.YtfooplicnjjipaaDoorPackRefText
import Derived.Deep.DeepCutAuto
import Derived.Deep.QuietTactic
import Derived.BigQuiet
namespace Go.Proofs.YtfooplicnjjipaaDoor
open Go.RowKit
attribute [local go_sem ↓] run_fine

/-- what is scanned -/
def Scanned (w : World) (l : List (List Int)) (e : Ending) (w' : World) : Prop := ∃ v, e = .returned (.tuple #[v, .int .i64 ((FrameMath.frames l).length : Nat)]) ∧ OwnSls w.heap.size w' v l ∧ Below w.heap.size w w'
set_option maxRecDepth 100000 in
set_option maxHeartbeats 16000000 in
theorem refscan_calls (a : Option Addr) (n c : Nat) (zs : List Int) (l : List (List Int)) (r : List Int) (w : World) (hS : SB w ⟨a, n, c⟩ zs) (hz : zs.length ≤ 1000000) (hsc : FrameMath.Scans zs l r) :
    Calls Tryd.prog 8 #[.slice a n c] w (Scanned w l) := by
  have HS := Lib.hid hS
  have Hz := Lib.hid hz; clear hz
  have Hsc := Lib.hid hsc; clear hsc
  have hn : n = zs.length := hS.1
  have hn6 : n ≤ 1000000 := by rw [hn]; exact Hz.out
  have Hn := Lib.hid hn
  clear hS hn
  have Hfl : Hid (∀ i, (FrameMath.frames (l.take i)).length ≤ n) := fun i => by
    have h := FrameMath.frames_take_le l (i := min i l.length) (j := l.length) (Nat.min_le_right _ _)
    rw [← List.take_take, List.take_length] at h
    have h2 := congrArg List.length Hsc.out.1
    rw [List.length_append, ← Hn.out] at h2
    omega
  have Hll : Hid (l.length ≤ n) := by
    show l.length ≤ n
    have h2 := congrArg List.length Hsc.out.1
    rw [List.length_append, ← Hn.out] at h2
    have : ∀ m : List (List Int), m.length ≤ (FrameMath.frames m).length := fun m => by
      induction m with
      | nil => exact Nat.le_refl _
      | cons p m ih => rw [FrameMath.frames_cons, List.length_append, List.length_cons, FrameMath.frm_length]; have := FrameMath.sizeN_pos p.length; omega
    have := this l
    omega
  have hcvb := fun (w : World) (s : ByteArray) => Lib.run_convert_string_bytes (P := Tryd.prog) w 9 22 5 s Tryd.underlying9 Tryd.underlying22 Tryd.underlying5
  have Hcvb := Lib.hid hcvb
  clear hcvb
  go_enter Tryd.func8, Tryd.ntmps8
  go_wp2_with fail
  go_loopg [4, 5] l.length (fun g s4 s5 wr => ∃ (i q : Nat) (lv : Value), i + g = l.length ∧ s4 = lv ∧ s5 = .int .i64 q ∧ Hid (q = (FrameMath.frames (l.take i)).length) ∧ Hid (OwnSls w.heap.size wr lv (l.take i)) ∧ Hid (Below w.heap.size w wr))
  case atStart => exact ⟨0, 0, _, by omega, rfl, rfl, rfl, ownSls_nil _ _, Below.refl _ _⟩
  case round =>
    obtain ⟨i, q, lv, hg, hlv, rfl, Hq, HO, Hb⟩ := hrel
    have hlv' := hlv.symm
    subst hlv'
    clear hlv
    have hqn : q ≤ n := by rw [Hq.out]; exact Hfl.out i
    have hrest : zs.drop q = FrameMath.frames (l.drop i) ++ r := by
      have e : zs = FrameMath.frames (l.take i) ++ (FrameMath.frames (l.drop i) ++ r) := by rw [← List.append_assoc, ← FrameMath.frames_append, List.take_append_drop]; exact Hsc.out.1
      rw [e, Hq.out, List.drop_left]
    obtain ⟨v0, hsl0, hbv0, a0, c0, rfl, hnc0⟩ := piece_any (a := a) (c := c) (zs := zs) Hn.out hqn HS.out.2.1
    have HB0 : Hid (Bytes wr (.slice a0 (n - q) c0) (zs.drop q)) := hbv0 wr (HS.out.later Hb.out).2.2
    obtain ⟨m, Hm⟩ : ∃ z, Hid (n - q = z) := ⟨_, rfl⟩
    rw [Hm.out] at hsl0 HB0 hnc0
    have hml : m = (zs.drop q).length := by rw [List.length_drop, ← Hn.out]; exact Hm.out.symm
    have Hml := Lib.hid hml
    have hsub : IntKind.i64.wrap ((n : Int) - (q : Int)) = (m : Int) := by rw [IntWalk.i64_in _ (by omega)]; have := Hm.out; omega
    have q0 : (0 : Int) ≤ (q : Int) := by omega
    have q1 : (q : Int) ≤ (n : Int) := by omega
    have hnb : n ≤ 9223372036854775807 := by omega
    clear hbv0 hml
    -- what a text at the head is: its words, and what its frame is
    have hyes : ∀ (x : Nat) (rr : List Int), PackMath.Begins (zs.drop q) x rr → x ≤ rr.length → (rr.take x).length = x ∧ (∀ c ∈ rr.take x, 0 ≤ c ∧ c < 256) ∧ (FrameMath.txt (rr.take x) ++ rr.drop x = zs.drop q) := by
      intro x rr hx hle
      have hl : (rr.take x).length = x := by rw [List.length_take]; omega
      refine ⟨hl, fun c hc => ?_, ?_⟩
      · refine HB0.out.2.1 c ?_
        rw [hx.2]
        exact List.mem_append.2 (.inr (List.mem_of_mem_take hc))
      · unfold FrameMath.txt
        rw [hl, List.append_assoc, List.take_append_drop]
        exact hx.2.symm
    have Hyes := Lib.hid hyes
    clear hyes
    by_cases hno : NoText (zs.drop q)
    · have hil : i = l.length := by
        refine Nat.le_antisymm (by omega) (Nat.le_of_not_lt fun hlt => ?_)
        have e2 : l.drop i = l[i] :: l.drop (i + 1) := List.drop_eq_getElem_cons hlt
        rw [e2, FrameMath.frames_cons] at hrest
        have hb : PackMath.Begins (zs.drop q) (l[i]).length (l[i] ++ (FrameMath.four (CrcMath.sum (FrameMath.txt l[i])) ++ (FrameMath.frames (l.drop (i + 1)) ++ r))) := by
          refine ⟨?_, by rw [hrest]; simp [FrameMath.frm, FrameMath.txt]⟩
          have h3 := congrArg List.length hrest
          rw [List.length_append, List.length_append, FrameMath.frm_length, ← Hml.out] at h3
          have := FrameMath.sizeN_ge (l[i]).length
          have := Hm.out
          omega
        rcases hno with hno | ⟨x, rr, h1, h2⟩
        · exact hno _ _ hb.1 hb.2
        · obtain ⟨rfl, rfl⟩ := h1.unique hb
          rw [List.length_append] at h2
          omega
      have H0 := Lib.hid (refttext_no a0 m c0 (zs.drop q) wr HB0.out Hml.out hnc0 hno)
      clear hno hrest
      rw [hil, List.take_length] at Hq HO
      have Hil := Lib.hid hil
      clear hil
      go_wp2_with fail
      refine H0.out.mono ?_
      rintro e w1 ⟨rfl, hb⟩
      have HO1 := Lib.hid (HO.out.later hb)
      have Hb1 := Lib.hid (held_next Hb.out hb)
      clear hb
      go_wp2_with fail
      go_ret2
      exact ⟨_, by rw [Hq.out]; rfl, HO1.out, Hb1.out⟩
    · obtain ⟨x, rr, hx, hxr⟩ : ∃ x rr, PackMath.Begins (zs.drop q) x rr ∧ x ≤ rr.length := by
        rcases PackMath.begins_or (zs.drop q) with ⟨x, rr, hx⟩ | hx
        · refine ⟨x, rr, hx, Nat.le_of_not_lt fun h => hno (Or.inr ⟨x, rr, hx, h⟩)⟩
        · exact absurd (Or.inl hx) hno
      obtain ⟨hpl, hpb, hpt⟩ := Hyes.out x rr hx hxr
      obtain ⟨vr, hc0, _⟩ := refttext_yes a0 m c0 (zs.drop q) rr x wr HB0.out Hml.out hnc0 hx hxr
      have H0 := Lib.hid hc0
      obtain ⟨p, Hp⟩ : ∃ z, Hid (rr.take x = z) := ⟨_, rfl⟩
      rw [Hp.out] at hpl hpb hpt H0
      have Hpt := Lib.hid hpt
      have Hpb := Lib.hid hpb
      have hp6 : p.length ≤ 1000000 := by
        have h3 := congrArg List.length hpt
        unfold FrameMath.txt at h3
        rw [List.length_append, List.length_append, ← Hml.out] at h3
        have := Hm.out
        omega
      have Hp6 := Lib.hid hp6
      obtain ⟨st, Hst⟩ : ∃ z, Hid (strOfNums p = z) := ⟨_, rfl⟩
      rw [Hst.out] at H0
      clear hc0 hpl hpb hpt hno hx hxr hp6
      go_wp2_with fail
      refine H0.out.mono ?_
      rintro e w1 ⟨rfl, hb⟩
      have HO1 := Lib.hid (HO.out.later hb)
      have Hb1 := Lib.hid (held_next Hb.out hb)
      clear hb H0
      have hcv := Hcvb.out w1 st
      have hST : SB (Lib.bytesWorld w1 5 st) ⟨some ⟨w1.heap.size, 0, none⟩, st.size, grownCap w1 st.size 0 5⟩ p := by rw [← Hst.out]; exact SB.text w1 Hpb.out Hp6.out
      have HST := Lib.hid hST
      have Hb2 := Lib.hid (below_text w1 5 st)
      clear hST
      go_wp2_with fail
      have hcall := refframe_calls ⟨none, 0, 0⟩ ⟨some ⟨w1.heap.size, 0, none⟩, st.size, grownCap w1 st.size 0 5⟩ [] p _ (SB.nil _) HST.out (by simp) Hp6.out
      rw [List.nil_append] at hcall
      refine hcall.mono ?_
      clear hcall
      rintro e w3 ⟨v3, rfl, hb3, hF3⟩
      obtain ⟨⟨a5, n5, c5⟩, rfl, hS5, _⟩ := SB.fresh_off hF3
      have HS5 := Lib.hid hS5
      have Hb13 : Hid (Below w1.heap.size w1 w3) := held_next Hb2.out hb3
      have HO3 := Lib.hid (HO1.out.later Hb13.out)
      have Hb3 := Lib.hid (held_next Hb1.out Hb13.out)
      have hn5 : n5 = FrameMath.sizeN p.length := by have h : n5 = _ := hS5.1; rw [h, FrameMath.frm_length]
      have Hn5 := Lib.hid hn5
      have hn5b : n5 ≤ 1000020 := by rw [hn5]; unfold FrameMath.sizeN; have := PackMath.num_len_64 p.length (by have := Hp6.out; omega); have := Hp6.out; omega
      clear hb3 hF3 hS5 hcv hn5 HST
      by_cases hfit : n5 ≤ m
      · -- the frame fits
        obtain ⟨E, HE⟩ : ∃ z, Hid (q + n5 = z) := ⟨_, rfl⟩
        have hE : q + n5 ≤ n := by have := Hm.out; omega
        obtain ⟨⟨a6, n6, c6⟩, hsl6, hS6, _⟩ := SB.between HS.out (lo := q) (hi := E) (by have := HE.out; omega) (by have := HE.out; show E ≤ n; omega)
        have HS6 := Lib.hid hS6
        have hsl : ∀ w, (Instr.slice 22 (.slice a n c) (some (.int .i64 (q : Int))) (some (.int .i64 (E : Int))) none).run Tryd.prog w = .ok (.slice a6 n6 c6) w := hsl6
        have hsum : IntKind.i64.wrap ((q : Int) + (n5 : Int)) = (E : Int) := by rw [IntWalk.i64_in _ (by omega)]; have := HE.out; omega
        have hpc : (zs.take E).drop q = (zs.drop q).take n5 := by rw [← HE.out, List.drop_take, Nat.add_sub_cancel_left]
        rw [hpc] at HS6
        have hcv5 : ∀ n, (convert 22 9 (.slice a5 n5 c5)).run Tryd.prog (w3.drewN n) = .ok (.string (strOfNums (FrameMath.frm p))) (w3.drewN n) := fun n => tstr_any (w := w3.drewN n) HS5.out.2.2
        have hcv6 : ∀ n, (convert 22 9 (.slice a6 n6 c6)).run Tryd.prog (w3.drewN n) = .ok (.string (strOfNums ((zs.drop q).take n5))) (w3.drewN n) := fun n => tstr_any (w := w3.drewN n) (HS6.out.later Hb3.out).2.2
        have hle : ¬ ((m : Int) < (n5 : Int)) := by omega
        obtain ⟨s5, Hs5⟩ : ∃ z, Hid (strOfNums (FrameMath.frm p) = z) := ⟨_, rfl⟩
        rw [Hs5.out] at hcv5
        obtain ⟨s6, Hs6⟩ : ∃ z, Hid (strOfNums ((zs.drop q).take n5) = z) := ⟨_, rfl⟩
        rw [Hs6.out] at hcv6
        clear hsl6 hS6 hpc hE
        by_cases heq : s5 = s6
        · -- a whole frame
          have hpre : (zs.drop q).take n5 = FrameMath.frm p := by
            refine strOf_inj (fun c hc => ?_) (FrameMath.frm_bytes Hpb.out) (Hs6.out.trans (heq.symm.trans Hs5.out.symm))
            exact HB0.out.2.1 c (List.mem_of_mem_take hc)
          have hdr : zs.drop q = FrameMath.frm p ++ (zs.drop q).drop n5 := by rw [← hpre, List.take_append_drop]
          have hil : i < l.length := by
            refine Nat.lt_of_not_le fun hge => ?_
            rw [List.drop_eq_nil_of_le hge, FrameMath.frames_nil, List.nil_append] at hrest
            exact Hsc.out.2 p _ (hrest.symm.trans hdr)
          have e2 : l.drop i = l[i] :: l.drop (i + 1) := List.drop_eq_getElem_cons hil
          have hpi : p = l[i] := by
            rw [e2, FrameMath.frames_cons, List.append_assoc] at hrest
            exact (FrameMath.frm_prefix (hdr.symm.trans hrest)).1
          have HL1 : Hid (l.take (i + 1) = l.take i ++ [p]) := by show l.take (i + 1) = _; rw [List.take_succ_eq_append_getElem hil, hpi]
          have HE2 : Hid (E = (FrameMath.frames (l.take (i + 1))).length) := by
            show E = _
            rw [HL1.out, FrameMath.frames_append, List.length_append, FrameMath.frames_cons, FrameMath.frames_nil, List.append_nil, FrameMath.frm_length, ← Hn5.out, ← Hq.out]
            exact HE.out.symm
          have hll : (l.take i).length + 1 ≤ 1000000 := by rw [List.length_take]; have := Hll.out; omega
          have Hll2 := Lib.hid hll
          have hss := str_same heq
          subst heq
          have hneq : (s5.toList != s5.toList) = false := by simp
          clear hpre hdr e2 hpi hll hrest
          go_upto_region 7 with fail
          go_cut [44] from 25 to 44 (fun s44 wx => s44 = .bool false ∧ Hid (Below w3.heap.size w3 wx))
          case first =>
            go_quiet (fail)
            go_wp2_with fail
            go_meet
            exact ⟨by first | (simp; done) | (simp; omega), below_drewN (Below.refl _ _) _⟩
          case rest =>
            obtain ⟨rfl, Hbc⟩ := hcut
            have hcv := Hcvb.out wc st
            have hST : SB (Lib.bytesWorld wc 5 st) ⟨some ⟨wc.heap.size, 0, none⟩, st.size, grownCap wc st.size 0 5⟩ p := by rw [← Hst.out]; exact SB.text wc Hpb.out Hp6.out
            have hbt := below_text wc 5 st
            have hO7 := (HO3.out.later Hbc.out).later hbt
            have hof : ∀ g, lv.ownBlock = some g → Off g (⟨some ⟨wc.heap.size, 0, none⟩, st.size, grownCap wc st.size 0 5⟩ : Sl) p := fun g hg => Or.inr fun e => by
              obtain ⟨f, h1, _⟩ := HO3.out.later Hbc.out
              have := (h1.lt g hg).2
              simp at e
              omega
            have hbx := below_box (Lib.bytesWorld wc 5 st) (.cells #[slV ⟨some ⟨wc.heap.size, 0, none⟩, st.size, grownCap wc st.size 0 5⟩] 22)
            have hbase : w.heap.size ≤ ((Lib.bytesWorld wc 5 st).alloc (.cells #[slV ⟨some ⟨wc.heap.size, 0, none⟩, st.size, grownCap wc st.size 0 5⟩] 22)).heap.size := by
              have h1 := Hb3.out.size
              have h2 := Hbc.out.size
              have h3 := hbt.size
              simp
              omega
            obtain ⟨v8, w8, hrun8, hO8, hb8⟩ := own_push (hO7.later hbx) hbase (hST.later hbx) hof (q := (Lib.bytesWorld wc 5 st).heap.size) ((Whole.made _ 22 #[slV ⟨some ⟨wc.heap.size, 0, none⟩, st.size, grownCap wc st.size 0 5⟩]).cell 0) Hll2.out
            obtain ⟨hf8, hv8, hw8⟩ := fine_of hrun8
            rw [← HL1.out] at hO8
            have HO8 := Lib.hid hO8
            have Hb8 : Hid (Below w.heap.size w w8) := ((held_next Hb3.out (held_next Hbc.out (held_next hbt hbx))).trans hb8)
            clear hST hbt hO7 hof hbx hbase hrun8 hO8 hb8
            go_wp2_with fail
            go_roundg (l.length - (i + 1))
            case measure => omega
            case rel => exact ⟨i + 1, E, v8, by omega, rfl, rfl, HE2.out, HO8.out, Hb8.out⟩
        · -- not a frame: the end
          have hil : i = l.length := by
            refine Nat.le_antisymm (by omega) (Nat.le_of_not_lt fun hlt => ?_)
            have e2 : l.drop i = l[i] :: l.drop (i + 1) := List.drop_eq_getElem_cons hlt
            rw [e2, FrameMath.frames_cons, List.append_assoc] at hrest
            have h1 := Hpt.out.trans hrest
            have hpi : p = l[i] := by
              unfold FrameMath.frm FrameMath.txt at h1
              simp only [List.append_assoc] at h1
              obtain ⟨h2, h3⟩ := PackMath.num_prefix _ _ _ _ h1
              exact (List.append_inj h3 h2).1
            refine heq (Hs5.out.symm.trans (Eq.trans ?_ Hs6.out))
            rw [hrest, ← hpi, Hn5.out, ← FrameMath.frm_length, List.take_left]
          have hss := str_ne heq
          rw [hil, List.take_length] at Hq HO3
          have Hil := Lib.hid hil
          clear hil hrest heq
          go_upto_region 7 with fail
          go_cut [44] from 25 to 44 (fun s44 wx => s44 = .bool true ∧ Hid (Below w3.heap.size w3 wx))
          case first =>
            go_quiet (fail)
            go_wp2_with fail
            go_meet
            exact ⟨by first | (simp; done) | (simp; omega), below_drewN (Below.refl _ _) _⟩
          case rest =>
            obtain ⟨rfl, Hbc⟩ := hcut
            go_wp2_with fail
            go_ret2
            exact ⟨_, by rw [Hq.out]; rfl, HO3.out.later Hbc.out, held_next Hb3.out Hbc.out⟩
      · -- too long: the end
        have hil : i = l.length := by
          refine Nat.le_antisymm (by omega) (Nat.le_of_not_lt fun hlt => ?_)
          have e2 : l.drop i = l[i] :: l.drop (i + 1) := List.drop_eq_getElem_cons hlt
          rw [e2, FrameMath.frames_cons, List.append_assoc] at hrest
          have h1 := Hpt.out.trans hrest
          have hpi : p = l[i] := by
            unfold FrameMath.frm FrameMath.txt at h1
            simp only [List.append_assoc] at h1
            obtain ⟨h2, h3⟩ := PackMath.num_prefix _ _ _ _ h1
            exact (List.append_inj h3 h2).1
          have h4 := congrArg List.length hrest
          rw [← Hml.out, List.length_append, FrameMath.frm_length, ← hpi, ← Hn5.out] at h4
          omega
        have hle : (m : Int) < (n5 : Int) := by omega
        rw [hil, List.take_length] at Hq HO3
        have Hil := Lib.hid hil
        clear hil hrest
        go_upto_region 7 with fail
        go_cut [44] from 25 to 44 (fun s44 wx => s44 = .bool true ∧ Hid (Below w3.heap.size w3 wx))
        case first =>
          go_quiet (fail)
          go_wp2_with fail
          go_meet
          exact ⟨by first | (simp; done) | (simp; omega), below_drewN (Below.refl _ _) _⟩
        case rest =>
          obtain ⟨rfl, Hbc⟩ := hcut
          go_wp2_with fail
          go_ret2
          exact ⟨_, by rw [Hq.out]; rfl, HO3.out.later Hbc.out, held_next Hb3.out Hbc.out⟩
end Go.Proofs.YtfooplicnjjipaaDoor
