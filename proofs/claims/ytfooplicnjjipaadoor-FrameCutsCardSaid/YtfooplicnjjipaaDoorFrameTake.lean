/- Package frame: take: the frame at the head of bytes, or none. No law is proved here. -/
import Derived.Test.YtfooplicnjjipaaDoorFrameSumOf
import Derived.Test.YtfooplicnjjipaaDoorPackText
import Derived.Test.YtfooplicnjjipaaDoorSlCut
import Derived.Deep.RegionHeld3
import Derived.BigRegion
namespace Go.Proofs.YtfooplicnjjipaaDoor
open Go.RowKit

/-- four bytes at the head of bytes, cut and taken as an array -/
theorem SB.four_at {W : World} {s : Sl} {zs : List Int} (h : SB W s zs) (h4 : 4 ≤ s.n) :
    ∃ (b off c' : Nat) (d0 d1 d2 d3 : Int), (∀ w, (Instr.slice 22 (slV s) none (some (.int .i64 4)) none).run Tryd.prog w = .ok (.slice (some ⟨b, off, none⟩) 4 c') w) ∧ zs.take 4 = [d0, d1, d2, d3] ∧
      ∀ W', Below W.heap.size W W' → W'.cell? ⟨b, off, none⟩ = some (.int .u8 d0) ∧ W'.cell? ⟨b, off + 1, none⟩ = some (.int .u8 d1) ∧ W'.cell? ⟨b, off + 2, none⟩ = some (.int .u8 d2) ∧ W'.cell? ⟨b, off + 3, none⟩ = some (.int .u8 d3) := by
  obtain ⟨⟨a', n', c'⟩, hrun, hS, _⟩ := SB.upto h (hi := 4) h4
  have hl : (zs.take 4).length = 4 := by rw [List.length_take]; have := h.1; omega
  obtain ⟨d0, d1, d2, d3, hd⟩ : ∃ d0 d1 d2 d3, zs.take 4 = [d0, d1, d2, d3] := by
    match hzs : zs.take 4, hl with
    | [d0, d1, d2, d3], _ => exact ⟨d0, d1, d2, d3, rfl⟩
  rw [hd] at hS
  obtain ⟨hn, _, _, _, ⟨_, _, _, _, h0⟩ | ⟨b, off, cap, hv, hc⟩⟩ := hS
  · simp at h0
  · simp only [Value.slice.injEq] at hv
    obtain ⟨rfl, rfl, rfl⟩ := hv
    refine ⟨b, off, c', d0, d1, d2, d3, hrun, hd, fun W' hb => ⟨cell_later hb (hc 0 (by simp)), cell_later hb (hc 1 (by simp)), cell_later hb (hc 2 (by simp)), cell_later hb (hc 3 (by simp))⟩⟩
theorem run_eq_four (w : World) (a0 a1 a2 a3 b0 b1 b2 b3 : Int) :
    (Op.equalIn 10000 40 (.agg #[.int .u8 a0, .int .u8 a1, .int .u8 a2, .int .u8 a3]) (.agg #[.int .u8 b0, .int .u8 b1, .int .u8 b2, .int .u8 b3])).run Tryd.prog w = .ok (decide ([a0, a1, a2, a3] = [b0, b1, b2, b3])) w := by
  have hu5 := Tryd.underlying5
  have ha5 := Tryd.isAgg5
  have hz5 := Tryd.sizeOf5
  rw [show (10000 : Nat) = 9999 + 1 from rfl, Op.equalIn]
  simp only [Sem.run_bind, run_underlying Tryd.underlying40, Result.andThen_ok]
  simp only [Std.Legacy.Range.forIn_eq_forIn_range', Std.Legacy.Range.size, Nat.sub_zero, Nat.add_sub_cancel, Nat.div_one, List.range'_succ, List.range'_zero, List.forIn_cons, List.forIn_nil]
  go_simp
  by_cases h0 : a0 = b0 <;> by_cases h1 : a1 = b1 <;> by_cases h2 : a2 = b2 <;> by_cases h3 : a3 = b3 <;> simp [h0, h1, h2, h3]
theorem run_neq_four (w : World) (a0 a1 a2 a3 b0 b1 b2 b3 : Int) :
    (binOp .neq 40 (.agg #[.int .u8 a0, .int .u8 a1, .int .u8 a2, .int .u8 a3]) (.agg #[.int .u8 b0, .int .u8 b1, .int .u8 b2, .int .u8 b3])).run Tryd.prog w = .ok (.bool (!(decide ([a0, a1, a2, a3] = [b0, b1, b2, b3])))) w := by
  have h := run_eq_four w a0 a1 a2 a3 b0 b1 b2 b3
  have h2 : (Op.equal 40 (.agg #[.int .u8 a0, .int .u8 a1, .int .u8 a2, .int .u8 a3]) (.agg #[.int .u8 b0, .int .u8 b1, .int .u8 b2, .int .u8 b3])).run Tryd.prog w = _ := h
  simp only [binOp]
  simp [h2]

/-- a frame was there -/
def TakenS (w : World) (p : List Int) (e : Ending) (w' : World) : Prop := ∃ s : Sl, e = .returned (.tuple #[slV s, .int .i64 (FrameMath.sizeN p.length : Nat), .bool true]) ∧ SB w' s p ∧ (∀ g, g < w.heap.size → Off g s p) ∧ Below w.heap.size w w'
/-- none was there -/
def NoneS (w : World) (e : Ending) (w' : World) : Prop := e = .returned (.tuple #[.slice none 0 0, .int .i64 0, .bool false]) ∧ Below w.heap.size w w'
/-- no text, no frame -/
theorem notext_none {zs : List Int} (hz : zs.length ≤ 1000000) (h : NoText zs) (p x : List Int) : zs ≠ FrameMath.frm p ++ x := by
  intro e
  have hb : PackMath.Begins zs p.length (p ++ (FrameMath.four (CrcMath.sum (FrameMath.txt p)) ++ x)) := by
    refine ⟨?_, by rw [e]; simp [FrameMath.frm, FrameMath.txt]⟩
    have h3 := congrArg List.length e
    rw [List.length_append, FrameMath.frm_length] at h3
    have := FrameMath.sizeN_ge p.length
    omega
  rcases h with h | ⟨y, rr, h1, h2⟩
  · exact h _ _ hb.1 hb.2
  · obtain ⟨rfl, rfl⟩ := h1.unique hb
    rw [List.length_append] at h2
    omega
/-- which frame it is -/
theorem head_frame {q r p x : List Int} (h : FrameMath.txt q ++ r = FrameMath.frm p ++ x) : q = p ∧ r = FrameMath.four (CrcMath.sum (FrameMath.txt p)) ++ x := by
  unfold FrameMath.frm at h
  have h1 := h
  unfold FrameMath.txt at h1
  simp only [List.append_assoc] at h1
  obtain ⟨h2, h3⟩ := PackMath.num_prefix _ _ _ _ h1
  obtain ⟨rfl, h4⟩ := List.append_inj h3 h2
  exact ⟨rfl, h4⟩
/-- as four bytes -/
theorem four_list (s : Nat) : FrameMath.four s = [((s % 256 : Nat) : Int), ((s / 256 % 256 : Nat) : Int), ((s / 65536 % 256 : Nat) : Int), ((s / 16777216 % 256 : Nat) : Int)] := by
  simp [FrameMath.four, Nat.div_div_eq_div_mul]
set_option maxRecDepth 100000 in
set_option maxHeartbeats 4000000 in
theorem ftake_calls (a : Option Addr) (n c : Nat) (zs : List Int) (w : World) (hS : SB w ⟨a, n, c⟩ zs) (hz : zs.length ≤ 1000000) (hT : Tab w) :
    (∃ p x, zs = FrameMath.frm p ++ x ∧ Calls Tryd.prog 13 #[.slice a n c] w (TakenS w p)) ∨ ((∀ p x, zs ≠ FrameMath.frm p ++ x) ∧ Calls Tryd.prog 13 #[.slice a n c] w (NoneS w)) := by
  have HS := Lib.hid hS; clear hS
  have HT := Lib.hid hT; clear hT
  have Hz := Lib.hid hz; clear hz
  have Hn : Hid (n = zs.length) := HS.out.1
  by_cases hno : NoText zs
  · refine Or.inr ⟨notext_none Hz.out hno, ?_⟩
    have H0 := Lib.hid (ttext_no a n c zs w HS.out.2.2 Hn.out HS.out.2.1 hno)
    clear hno
    go_enter Tryd.func13, Tryd.ntmps13
    go_wp2_with fail
    refine H0.out.mono ?_
    rintro e w1 ⟨rfl, rfl⟩
    go_wp2_with fail
    go_ret3
    exact ⟨rfl, Below.refl _ _⟩
  · obtain ⟨x, rr, hx, hxr⟩ : ∃ x rr, PackMath.Begins zs x rr ∧ x ≤ rr.length := by
      rcases PackMath.begins_or zs with ⟨x, rr, hx⟩ | hx
      · exact ⟨x, rr, hx, Nat.le_of_not_lt fun h => hno (Or.inr ⟨x, rr, hx, h⟩)⟩
      · exact absurd (Or.inl hx) hno
    obtain ⟨v, hc0, hv0, a', rfl⟩ := ttext_yes a n c zs rr x w HS.out.2.2 Hn.out HS.out.2.1 hx hxr
    have H0 := Lib.hid hc0
    have hpl : (rr.take x).length = x := by rw [List.length_take]; omega
    have hpt : zs = FrameMath.txt (rr.take x) ++ rr.drop x := by
      unfold FrameMath.txt
      rw [hpl, List.append_assoc, List.take_append_drop]
      exact hx.2
    have hpb : ∀ c ∈ rr.take x, 0 ≤ c ∧ c < 256 := fun c hc => by
      refine HS.out.2.2.2.1 c ?_
      rw [hx.2]
      exact List.mem_append.2 (.inr (List.mem_of_mem_take hc))
    have hrl : (rr.drop x).length = rr.length - x := List.length_drop
    obtain ⟨p, Hp⟩ : ∃ z, Hid (rr.take x = z) := ⟨_, rfl⟩
    obtain ⟨r, Hr⟩ : ∃ z, Hid (rr.drop x = z) := ⟨_, rfl⟩
    obtain ⟨L, HL⟩ : ∃ z, Hid (rr.length - x = z) := ⟨_, rfl⟩
    rw [Hp.out] at hpl hpb H0 hpt
    rw [Hr.out] at hpt hv0 hrl
    rw [HL.out] at hv0 hrl H0
    have Hpt := Lib.hid hpt
    have Hpb := Lib.hid hpb
    have HSr : Hid (SB w ⟨a', L, L⟩ r) := ⟨hrl.symm, Nat.le_refl _, hv0⟩
    have hnl : n = (FrameMath.txt p).length + L := by rw [Hn.out, hpt, List.length_append, hrl]
    have hp6 : p.length ≤ 1000000 := by
      have h3 := congrArg List.length hpt
      unfold FrameMath.txt at h3
      rw [List.length_append, List.length_append] at h3
      have := Hz.out
      omega
    have Hp6 := Lib.hid hp6
    obtain ⟨m, Hm⟩ : ∃ z, Hid ((FrameMath.txt p).length = z) := ⟨_, rfl⟩
    rw [Hm.out] at hnl
    have Hnl := Lib.hid hnl
    clear hnl
    have hn6 : n ≤ 1000000 := by rw [Hn.out]; exact Hz.out
    obtain ⟨st, Hst⟩ : ∃ z, Hid (strOfNums p = z) := ⟨_, rfl⟩
    rw [Hst.out] at H0
    clear hc0 hv0 hpl hpb hpt hno hx hxr hp6 hrl
    by_cases h4 : L < 4
    · -- too few bytes
      refine Or.inr ⟨fun q y e => ?_, ?_⟩
      · obtain ⟨rfl, h2⟩ := head_frame (Hpt.out.symm.trans e)
        have h3 := congrArg List.length h2
        rw [List.length_append] at h3
        have h5 := HSr.out.1
        simp only at h5
        simp [FrameMath.four] at h3
        omega
      have h4i : (L : Int) < 4 := by omega
      go_enter Tryd.func13, Tryd.ntmps13
      go_wp2_with fail
      refine H0.out.mono ?_
      rintro e w1 ⟨rfl, k, rfl⟩
      go_wp2_with fail
      go_ret3
      exact ⟨rfl, below_drewN (Below.refl _ _) _⟩
    · obtain ⟨b, off, c', d0, d1, d2, d3, hsl, hd, hcell⟩ := SB.four_at HSr.out (Nat.le_of_not_lt h4)
      have h4i : ¬ ((L : Int) < 4) := by omega
      obtain ⟨⟨a2, n2, c2⟩, hsl2, hS2, _⟩ := SB.upto HS.out (hi := m) (by show m ≤ n; have := Hnl.out; omega)
      have ht : zs.take m = FrameMath.txt p := by rw [Hpt.out, ← Hm.out, List.take_left]
      rw [ht] at hS2
      have HS2 := Lib.hid hS2
      have hsl2' : ∀ w, (Instr.slice 22 (.slice a n c) none (some (.int .i64 (m : Int))) none).run Tryd.prog w = .ok (.slice a2 n2 c2) w := hsl2
      have hsl' : ∀ w, (Instr.slice 22 (.slice a' L L) none (some (.int .i64 4)) none).run Tryd.prog w = .ok (.slice (some ⟨b, off, none⟩) 4 c') w := hsl
      have hat : ∀ w, (Instr.arrayAt 40 (.slice (some ⟨b, off, none⟩) 4 c')).run Tryd.prog w = .ok (.pointer (some ⟨b, off, none⟩)) w := fun w => run_arrayAt w 40 _ 4 _ 4 c' Tryd.underlying40 (Nat.le_refl _)
      have hsub : IntKind.i64.wrap ((n : Int) - (L : Int)) = (m : Int) := by have := Hnl.out; rw [IntWalk.i64_in _ (by omega)]; omega
      obtain ⟨S, HSS⟩ : ∃ z, Hid (CrcMath.sum (FrameMath.txt p) = z) := ⟨_, rfl⟩
      have hneq : ∀ w, (binOp .neq 40 (fourV S) (.agg #[.int .u8 d0, .int .u8 d1, .int .u8 d2, .int .u8 d3])).run Tryd.prog w = .ok (.bool (!(decide (FrameMath.four S = [d0, d1, d2, d3])))) w := fun w => by
        rw [four_list]
        exact run_neq_four w _ _ _ _ _ _ _ _
      have hguard : ∀ (x y : Operand) (w : World), (eqGuard .neq 40 x y (fourV S) (.agg #[.int .u8 d0, .int .u8 d1, .int .u8 d2, .int .u8 d3])).run Tryd.prog w = .ok () w := fun x y w => by
        unfold fourV
        exact run_eqGuard_agg (P := Tryd.prog) w .neq 40 x y _ _ (by kernel_rfl)
      have hadd : IntKind.i64.wrap ((m : Int) + 4) = (m : Int) + 4 := by rw [IntWalk.i64_in _ (by have := Hnl.out; omega)]
      have KP : Hid (∀ W', Below w.heap.size w W' → Below w.heap.size w W' ∧ (W'.cell? ⟨b, off, none⟩ = some (.int .u8 d0) ∧ W'.cell? ⟨b, off + 1, none⟩ = some (.int .u8 d1) ∧ W'.cell? ⟨b, off + 2, none⟩ = some (.int .u8 d2) ∧ W'.cell? ⟨b, off + 3, none⟩ = some (.int .u8 d3))) := fun W' hb => ⟨hb, hcell W' hb⟩
      have O1 : Hid (∀ W', Below w.heap.size w W' → Calls Tryd.prog 17 #[.slice a2 n2 c2] W' (fun e w'' => e = .returned (fourV S) ∧ Below W'.heap.size W' w'')) := fun W' hb => by
        rw [← HSS.out]
        exact sumof_calls _ _ W' (HS2.out.later hb).2.2 (HT.out.later hb)
      clear hsl hsl2 hS2 hcell
      by_cases heq : FrameMath.four S = [d0, d1, d2, d3]
      · -- a frame
        refine Or.inl ⟨p, r.drop 4, ?_, ?_⟩
        · rw [Hpt.out]
          unfold FrameMath.frm
          rw [HSS.out, heq, ← hd, List.append_assoc, List.take_append_drop]
        have hdec : decide (FrameMath.four S = [d0, d1, d2, d3]) = true := by simp [heq]
        rw [hdec] at hneq
        have hcvb := fun (w : World) (s : ByteArray) => Lib.run_convert_string_bytes (P := Tryd.prog) w 9 22 5 s Tryd.underlying9 Tryd.underlying22 Tryd.underlying5
        have Hcvb := Lib.hid hcvb
        have Hd := Lib.hid hd
        clear hdec heq hd hcvb
        go_enter Tryd.func13, Tryd.ntmps13
        go_wp2_with fail
        refine H0.out.mono ?_
        rintro e w1 ⟨rfl, k, hk⟩
        have Hbk : Hid (Below w.heap.size w w1) := by rw [hk]; exact below_drewN (Below.refl _ _) _
        clear hk
        go_wp2_with fail
        go_region_held3 (fun w' => Below w.heap.size w w' ∧ (w'.cell? ⟨b, off, none⟩ = some (.int .u8 d0) ∧ w'.cell? ⟨b, off + 1, none⟩ = some (.int .u8 d1) ∧ w'.cell? ⟨b, off + 2, none⟩ = some (.int .u8 d2) ∧ w'.cell? ⟨b, off + 3, none⟩ = some (.int .u8 d3))) (first | exact KP.out _ Hbk.out.drew | (refine KP.out _ ?_; assumption)) (first | (go_at_call 17; have hcur := (‹Below w.heap.size w _ ∧ _›).1; have hcall := O1.out _ hcur; (with_reducible refine hcall.mono ?_); rintro e wn ⟨rfl, hb⟩; have hS := held_next hcur hb; clear hb hcall hcur))
        all_goals
          have hcv := Hcvb.out wn st
          have hST : SB (Lib.bytesWorld wn 5 st) ⟨some ⟨wn.heap.size, 0, none⟩, st.size, grownCap wn st.size 0 5⟩ p := by rw [← Hst.out]; exact SB.text wn Hpb.out Hp6.out
          have HST := Lib.hid hST
          have Hb1 := Lib.hid hS
          have Hbt := Lib.hid (below_text wn 5 st)
          clear hST hS
          go_wp2_with fail
          go_ret3
          refine ⟨⟨some ⟨wn.heap.size, 0, none⟩, st.size, grownCap wn st.size 0 5⟩, ?_, HST.out, fun g hg => Or.inr fun e => ?_, held_next Hb1.out Hbt.out⟩
          · have e : FrameMath.sizeN p.length = m + 4 := by rw [← FrameMath.frm_length]; unfold FrameMath.frm; rw [List.length_append, Hm.out]; rfl
            rw [e]
            simp
          · have := Hb1.out.size
            simp at e
            omega
      · -- another sum
        refine Or.inr ⟨fun q y e => heq ?_, ?_⟩
        · obtain ⟨rfl, h2⟩ := head_frame (Hpt.out.symm.trans e)
          rw [HSS.out] at h2
          rw [← hd, h2, four_list]
          rfl
        have hdec : decide (FrameMath.four S = [d0, d1, d2, d3]) = false := by simp [heq]
        rw [hdec] at hneq
        clear hdec heq hd
        go_enter Tryd.func13, Tryd.ntmps13
        go_wp2_with fail
        refine H0.out.mono ?_
        rintro e w1 ⟨rfl, k, hk⟩
        have Hbk : Hid (Below w.heap.size w w1) := by rw [hk]; exact below_drewN (Below.refl _ _) _
        clear hk
        go_wp2_with fail
        go_region_held3 (fun w' => Below w.heap.size w w' ∧ (w'.cell? ⟨b, off, none⟩ = some (.int .u8 d0) ∧ w'.cell? ⟨b, off + 1, none⟩ = some (.int .u8 d1) ∧ w'.cell? ⟨b, off + 2, none⟩ = some (.int .u8 d2) ∧ w'.cell? ⟨b, off + 3, none⟩ = some (.int .u8 d3))) (first | exact KP.out _ Hbk.out.drew | (refine KP.out _ ?_; assumption)) (first | (go_at_call 17; have hcur := (‹Below w.heap.size w _ ∧ _›).1; have hcall := O1.out _ hcur; (with_reducible refine hcall.mono ?_); rintro e wn ⟨rfl, hb⟩; have hS := held_next hcur hb; clear hb hcall hcur))
        all_goals
          have Hb1 := Lib.hid hS
          clear hS
          go_wp2_with fail
          go_ret3
          exact ⟨rfl, Hb1.out⟩
end Go.Proofs.YtfooplicnjjipaaDoor
