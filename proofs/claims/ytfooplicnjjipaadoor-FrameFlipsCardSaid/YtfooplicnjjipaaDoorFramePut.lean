/- Package frame: Put, Size. No law is proved here. -/
import Derived.Test.YtfooplicnjjipaaDoorFrameTake
import Derived.Test.YtfooplicnjjipaaDoorRefFramePut
import Derived.Test.YtfooplicnjjipaaDoorPackPutText
import Derived.Test.YtfooplicnjjipaaDoorConcat
namespace Go.Proofs.YtfooplicnjjipaaDoor
open Go.RowKit

set_option maxRecDepth 100000 in
set_option maxHeartbeats 4000000 in
theorem fSize_calls (x : Int) (w : World) (hx : x ≤ 1000000000) : Calls Tryd.prog 11 #[.int .i64 x] w (fun e w' => e = .returned (.int .i64 (sizeV x : Nat)) ∧ Below w.heap.size w w') := by
  obtain ⟨m, hm⟩ : ∃ m : Nat, x.toNat = m := ⟨_, rfl⟩
  have hm9 : m ≤ 1000000000 := by omega
  have Hc := Lib.hid (put_calls none 0 0 [] m (by omega) w (bytes_nil _ _ _ (fun _ => rfl)) rfl (Nat.le_refl _) (by omega))
  have Hv : Hid (sizeV x = (PackMath.num m).length + m + 4) := by show sizeV x = _; unfold sizeV FrameMath.sizeN; rw [hm]
  rw [Hv.out]
  have hl := PackMath.num_len_64 m (by omega)
  obtain ⟨L, HL⟩ : ∃ z, Hid ((PackMath.num m).length = z) := ⟨_, rfl⟩
  rw [HL.out] at hl ⊢
  have hwu : IntKind.u64.wrap (m : Int) = (m : Int) := by rw [IntKind.wrap_u64]; omega
  have hs1 : IntKind.i64.wrap ((L : Int) + (m : Int)) = (L : Int) + (m : Int) := IntWalk.i64_in _ (by omega)
  have hs2 : IntKind.i64.wrap ((L : Int) + (m : Int) + 4) = (L : Int) + (m : Int) + 4 := IntWalk.i64_in _ (by omega)
  by_cases h0 : x < 0
  · obtain rfl : m = 0 := by omega
    clear hm hm9
    go_enter Tryd.func11, Tryd.ntmps11
    go_wp2_with fail
    refine Hc.out.mono ?_
    rintro e w1 ⟨v1, rfl, hb1, hF1⟩
    rw [List.nil_append] at hF1
    obtain ⟨⟨a3, n3, c3⟩, rfl, hS3, _⟩ := SB.fresh_off hF1
    obtain rfl : n3 = L := hS3.1.trans HL.out
    have Hb1 := Lib.hid hb1
    clear hb1 hF1 hS3
    go_wp2_with fail
    go_ret
    exact ⟨by simp, Hb1.out⟩
  · obtain rfl : x = (m : Int) := by omega
    clear hm
    go_enter Tryd.func11, Tryd.ntmps11
    go_wp2_with fail
    refine Hc.out.mono ?_
    rintro e w1 ⟨v1, rfl, hb1, hF1⟩
    rw [List.nil_append] at hF1
    obtain ⟨⟨a3, n3, c3⟩, rfl, hS3, _⟩ := SB.fresh_off hF1
    obtain rfl : n3 = L := hS3.1.trans HL.out
    have Hb1 := Lib.hid hb1
    clear hb1 hF1 hS3
    go_wp2_with fail
    go_ret
    exact ⟨by simp, Hb1.out⟩

/-- four bytes in a block of their own -/
theorem four_block {W : World} {g : Nat} {T : TypeId} {s : Nat} (h : Whole W g T #[.int .u8 ((s % 256 : Nat) : Int), .int .u8 ((s / 256 % 256 : Nat) : Int), .int .u8 ((s / 65536 % 256 : Nat) : Int), .int .u8 ((s / 16777216 % 256 : Nat) : Int)]) :
    SB W ⟨some ⟨g, 0, none⟩, 4, 4⟩ (FrameMath.four s) := by
  refine ⟨rfl, Nat.le_refl _, by simp [FrameMath.four], FrameMath.four_bytes s, Or.inr ⟨g, 0, 4, rfl, fun j hj => ?_⟩⟩
  have hj4 : j < 4 := hj
  rw [Nat.zero_add, h.cell j, four_list]
  match j, hj4 with
  | 0, _ => rfl
  | 1, _ => rfl
  | 2, _ => rfl
  | 3, _ => rfl
set_option maxRecDepth 100000 in
set_option maxHeartbeats 4000000 in
theorem fPut_calls (s p : Sl) (zs ps : List Int) (w : World) (hS : SB w s zs) (hP : SB w p ps) (hz : zs.length ≤ 1000000) (hp : ps.length ≤ 1000000) (hT : Tab w) :
    Calls Tryd.prog 10 #[slV s, slV p] w (Made w (zs ++ FrameMath.frm ps)) := by
  obtain ⟨a1, n1, c1⟩ := s
  obtain ⟨a2, n2, c2⟩ := p
  have HS := Lib.hid hS; clear hS
  have HP := Lib.hid hP; clear hP
  have HT := Lib.hid hT; clear hT
  have Hz := Lib.hid hz; clear hz
  have Hp := Lib.hid hp; clear hp
  have hcv : (convert 22 9 (.slice a2 n2 c2)).run Tryd.prog w = .ok (.string (strOfNums ps)) w := tstr_any HP.out.2.2
  obtain ⟨st, Hst⟩ : ∃ z, Hid (strOfNums ps = z) := ⟨_, rfl⟩
  rw [Hst.out] at hcv
  have Htx : Hid (textBytes st = FrameMath.txt ps) := by rw [← Hst.out]; exact text_of HP.out.2.2.2.1
  have hsz : st.size ≤ 70368744177000 := by rw [← Hst.out, strOfNums_size]; have := Hp.out; omega
  have Hc := Lib.hid (text_calls none 0 0 [] st w (bytes_nil _ _ _ (fun _ => rfl)) rfl (Nat.le_refl _) (by omega) hsz)
  have Htl : Hid ((FrameMath.txt ps).length ≤ 1000010) := by
    show (FrameMath.txt ps).length ≤ _
    unfold FrameMath.txt
    rw [List.length_append]
    have := PackMath.num_len_64 ps.length (by have := Hp.out; omega)
    have := Hp.out
    omega
  clear hsz
  show Calls Tryd.prog 10 #[.slice a1 n1 c1, .slice a2 n2 c2] w _
  go_enter Tryd.func10, Tryd.ntmps10
  go_wp2_with fail
  refine Hc.out.mono ?_
  rintro e w1 ⟨v1, rfl, hb1, hF1⟩
  rw [Htx.out, List.nil_append] at hF1
  obtain ⟨⟨a3, n3, c3⟩, rfl, hS3, _⟩ := SB.fresh_off hF1
  have HS3 := Lib.hid hS3
  have Hb1 := Lib.hid hb1
  clear hb1 hF1 hS3 hcv
  obtain ⟨S, HSS⟩ : ∃ z, Hid (CrcMath.sum (FrameMath.txt ps) = z) := ⟨_, rfl⟩
  go_wp2_with fail
  refine (sumof_calls (.slice a3 n3 c3) (FrameMath.txt ps) w1 HS3.out.2.2 (HT.out.later Hb1.out)).mono ?_
  rw [HSS.out]
  unfold fourV
  rintro e w2 ⟨rfl, hb2⟩
  have Hb12 := Lib.hid hb2
  have Hb2 := Lib.hid (held_next Hb1.out hb2)
  clear hb2
  go_wp2_with fail
  have HW := Lib.hid (Whole.made w2 40 #[.int .u8 ((S % 256 : Nat) : Int), .int .u8 ((S / 256 % 256 : Nat) : Int), .int .u8 ((S / 65536 % 256 : Nat) : Int), .int .u8 ((S / 16777216 % 256 : Nat) : Int)])
  have hbt := below_two w2 (.cells #[.int .u8 ((S % 256 : Nat) : Int), .int .u8 ((S / 256 % 256 : Nat) : Int), .int .u8 ((S / 65536 % 256 : Nat) : Int), .int .u8 ((S / 16777216 % 256 : Nat) : Int)] 40) (.cells #[.slice a1 n1 c1, .slice a3 n3 c3, .slice (some ⟨w2.heap.size, 0, none⟩) 4 4] 22)
  have HG := Whole.made2 w2 (.cells #[.int .u8 ((S % 256 : Nat) : Int), .int .u8 ((S / 256 % 256 : Nat) : Int), .int .u8 ((S / 65536 % 256 : Nat) : Int), .int .u8 ((S / 16777216 % 256 : Nat) : Int)] 40) 22 #[.slice a1 n1 c1, .slice a3 n3 c3, .slice (some ⟨w2.heap.size, 0, none⟩) 4 4]
  have h4 := four_block (HW.out.alloc (.cells #[.slice a1 n1 c1, .slice a3 n3 c3, .slice (some ⟨w2.heap.size, 0, none⟩) 4 4] 22))
  have hS1 := HS.out.later (held_next Hb2.out hbt)
  have hS2 := HS3.out.later (held_next Hb12.out hbt)
  have hR : RowsB ((w2.alloc (.cells #[.int .u8 ((S % 256 : Nat) : Int), .int .u8 ((S / 256 % 256 : Nat) : Int), .int .u8 ((S / 65536 % 256 : Nat) : Int), .int .u8 ((S / 16777216 % 256 : Nat) : Int)] 40)).alloc (.cells #[.slice a1 n1 c1, .slice a3 n3 c3, .slice (some ⟨w2.heap.size, 0, none⟩) 4 4] 22)) (w2.heap.size + 1) 3 (fun k => if k = 0 then ⟨a1, n1, c1⟩ else if k = 1 then ⟨a3, n3, c3⟩ else ⟨some ⟨w2.heap.size, 0, none⟩, 4, 4⟩) (fun k => if k = 0 then zs else if k = 1 then FrameMath.txt ps else FrameMath.four S) := by
    intro k hk
    match k, hk with
    | 0, _ => exact ⟨HG.cell 0, hS1⟩
    | 1, _ => exact ⟨HG.cell 1, hS2⟩
    | 2, _ => exact ⟨HG.cell 2, h4⟩
  have e : catN (fun k => if k = 0 then zs else if k = 1 then FrameMath.txt ps else FrameMath.four S) 3 = zs ++ FrameMath.frm ps := by
    unfold FrameMath.frm
    rw [HSS.out]
    simp [catN]
  have hl : (zs ++ FrameMath.frm ps).length ≤ 140737488355000 := by
    unfold FrameMath.frm
    rw [List.length_append, List.length_append]
    have := Hz.out
    have := Htl.out
    simp [FrameMath.four]
    omega
  have hc := concat_calls (w2.heap.size + 1) 3 _ _ _ hR (by decide) (by rw [e]; exact hl)
  rw [e] at hc
  refine hc.mono ?_
  have Hl : Hid ((zs ++ FrameMath.frm ps).length ≤ 9223372036854775807) := by show _ ≤ _; omega
  clear hc hR HG h4 hS1 hS2 e hl
  rintro e w3 ⟨v3, rfl, hO, hb⟩
  have HO := Lib.hid (hO.mono (B' := w.heap.size) (by have := Hb2.out.size; simp; omega))
  have Hb := Lib.hid (held_next (held_next Hb2.out hbt) hb)
  clear hO hb hbt
  go_wp2_with fail
  go_ret
  refine ⟨v3, rfl, Hb.out, HO.out.1, fun hv => ?_, HO.out.2⟩
  obtain ⟨A, C, hv2, _, _⟩ := HO.out.form Hl.out
  rw [hv] at hv2
  simp only [Value.slice.injEq] at hv2
  have h3 := hv2.2.1
  rw [List.length_append, FrameMath.frm_length] at h3
  have := FrameMath.sizeN_pos ps.length
  omega
end Go.Proofs.YtfooplicnjjipaaDoor
