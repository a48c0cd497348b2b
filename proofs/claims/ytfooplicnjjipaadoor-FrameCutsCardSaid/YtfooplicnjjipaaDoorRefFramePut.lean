/- The document's own, layer 8: Put, Size. No law is proved here. -/
import Derived.Test.YtfooplicnjjipaaDoorFrameMath
import Derived.Test.YtfooplicnjjipaaDoorCrcRef
import Derived.Test.YtfooplicnjjipaaDoorPackRefPutText
import Derived.Test.YtfooplicnjjipaaDoorSlOwn
import Derived.IntWalk
import Derived.Deep.LoopGhost
import Derived.BigRegion
namespace Go.Proofs.YtfooplicnjjipaaDoor
open Go.RowKit
attribute [local go_sem ↓] run_fine

theorem text_of {p : List Int} (h : ∀ c ∈ p, 0 ≤ c ∧ c < 256) : textBytes (strOfNums p) = FrameMath.txt p := by
  unfold textBytes FrameMath.txt
  rw [nums_strOf h, strOfNums_size]
theorem four_succ (s i : Nat) (h : i < 4) : (FrameMath.four s).take (i + 1) = (FrameMath.four s).take i ++ [((s / 256 ^ i % 256 : Nat) : Int)] := by
  match i, h with
  | 0, _ => simp [FrameMath.four]
  | 1, _ => simp [FrameMath.four]
  | 2, _ => simp [FrameMath.four, Nat.div_div_eq_div_mul]
  | 3, _ => simp [FrameMath.four, Nat.div_div_eq_div_mul]
theorem fresh_of_own {B : Nat} {w : World} {v : Value} {zs : List Int} (h : Fresh B 5 w v zs) : ∃ s : Sl, v = slV s ∧ SB w s zs ∧ ∀ g, g < B → Off g s zs := SB.fresh_off h

set_option maxRecDepth 100000 in
set_option maxHeartbeats 8000000 in
theorem refframe_calls (s p : Sl) (zs ps : List Int) (w : World) (hS : SB w s zs) (hP : SB w p ps) (hz : zs.length ≤ 1000000) (hp : ps.length ≤ 1000000) :
    Calls Tryd.prog 15 #[slV s, slV p] w (Made w (zs ++ FrameMath.frm ps)) := by
  obtain ⟨a1, n1, c1⟩ := s
  obtain ⟨a2, n2, c2⟩ := p
  have HS := Lib.hid hS; clear hS
  have HP := Lib.hid hP; clear hP
  have Hz := Lib.hid hz; clear hz
  have Hp := Lib.hid hp; clear hp
  obtain ⟨i5, hi, hz0, hz1, hz2⟩ := info_parts info_u8
  have hcv : (convert 22 9 (.slice a2 n2 c2)).run Tryd.prog w = .ok (.string (strOfNums ps)) w := tstr_any HP.out.2.2
  obtain ⟨st, Hst⟩ : ∃ z, Hid (strOfNums ps = z) := ⟨_, rfl⟩
  rw [Hst.out] at hcv
  have Htx : Hid (textBytes st = FrameMath.txt ps) := by rw [← Hst.out]; exact text_of HP.out.2.2.2.1
  have hsz : st.size ≤ 70368744177000 := by rw [← Hst.out, strOfNums_size]; have := Hp.out; omega
  have Hc := Lib.hid (reftext_calls none 0 0 [] st w (bytes_nil _ _ _ (fun _ => rfl)) rfl (Nat.le_refl _) (by omega) hsz)
  have Htl : Hid ((FrameMath.txt ps).length ≤ 1000010) := by
    show (FrameMath.txt ps).length ≤ _
    unfold FrameMath.txt
    rw [List.length_append]
    have := PackMath.num_len_64 ps.length (by have := Hp.out; omega)
    have := Hp.out
    omega
  clear hsz
  show Calls Tryd.prog 15 #[.slice a1 n1 c1, .slice a2 n2 c2] w _
  go_enter Tryd.func15, Tryd.ntmps15
  go_wp2_with fail
  refine Hc.out.mono ?_
  rintro e w1 ⟨v1, rfl, hb1, hF1⟩
  rw [Htx.out, List.nil_append] at hF1
  obtain ⟨⟨a3, n3, c3⟩, rfl, hS3, _⟩ := SB.fresh_off hF1
  have HS3 := Lib.hid hS3
  have Hb1 := Lib.hid hb1
  clear hb1 hF1 hS3 hcv
  obtain ⟨S, HSS⟩ : ∃ z, Hid (CrcMath.sum (FrameMath.txt ps) = z) := ⟨_, rfl⟩
  have hS32 : S < 4294967296 := by rw [← HSS.out]; unfold CrcMath.sum; omega
  go_wp2_with fail
  refine (ref_calls (.slice a3 n3 c3) (FrameMath.txt ps) w1 HS3.out.2.2).mono ?_
  rw [HSS.out]
  rintro e w' ⟨rfl, rfl⟩
  have hbe : Below w1.heap.size w1 (w1.alloc (.cells #[] 5)) := below_box w1 _
  obtain ⟨v4, w4, hr4, F4, b4⟩ := run_append_bytes (fresh_empty w1) (by simp) ((HS.out.later (held_next Hb1.out hbe)).2.2) HS.out.1 HS.out.2.1 (by have := Hz.out; simp; omega) i5 hi hz0 hz1 hz2
  rw [List.nil_append] at F4
  have hb4 : Below w1.heap.size w1 w4 := hbe.trans b4
  obtain ⟨v5, w5, hr5, F5, b5⟩ := run_append_bytes F4 hb4.size ((HS3.out.later hb4).2.2) HS3.out.1 HS3.out.2.1 (by have := Hz.out; have := Htl.out; omega) i5 hi hz0 hz1 hz2
  have hb5 : Below w1.heap.size w1 w5 := hb4.trans b5
  obtain ⟨hf4, hv4, hw4⟩ := fine_of hr4
  obtain ⟨hf5, hv5, hw5⟩ := fine_of hr5
  have HF5 : Hid (Fresh w.heap.size 5 w5 v5 (zs ++ FrameMath.txt ps)) := F5.mono Hb1.out.size
  have Hb5 := Lib.hid (held_next Hb1.out hb5)
  clear hr4 hr5 F4 F5 b4 b5 hb4 hb5 hbe
  have Hi := Lib.hid hi; clear hi
  have Hz0 := Lib.hid hz0; clear hz0
  have Hz1 := Lib.hid hz1; clear hz1
  have Hz2 := Lib.hid hz2; clear hz2
  go_wp2_with fail
  go_loopg [6, 7, 8] 4 (fun g s6 s7 s8 wr => ∃ (i : Nat) (q : Nat) (lv : Value), i + g = 4 ∧ s8 = .int .i64 i ∧ s6 = .int .u32 q ∧ s7 = lv ∧ q < 4294967296 ∧ Hid (q = S / 256 ^ i) ∧ Hid (Fresh w.heap.size 5 wr lv (zs ++ FrameMath.txt ps ++ (FrameMath.four S).take i)) ∧ Hid (Below w.heap.size w wr))
  case atStart => exact ⟨0, S, v5, rfl, rfl, rfl, rfl, hS32, by show S = S / 256 ^ 0; simp, by rw [List.take_zero, List.append_nil]; exact HF5.out, Hb5.out⟩
  case round =>
    clear HF5 Hb5
    obtain ⟨i, q, lv, hg, rfl, rfl, hlv, hq, Hq, HF, Hb⟩ := hrel
    have hlv' := hlv.symm
    subst hlv'
    clear hlv
    by_cases hlt : i < 4
    · have hlen : (zs ++ FrameMath.txt ps ++ (FrameMath.four S).take i).length + 1 ≤ 140737488355328 := by
        rw [List.length_append, List.length_append, List.length_take]
        have := Hz.out
        have := Htl.out
        simp [FrameMath.four]
        omega
      have HL := Lib.hid hlen; clear hlen
      have hw1 : IntKind.u32.wrap ((q : Int) % 256) = (q : Int) % 256 := by rw [IntKind.wrap_u32]; omega
      have hw2 : IntKind.u8.wrap ((q : Int) % 256) = (q : Int) % 256 := by rw [IntKind.wrap_u8]; omega
      have hw3 : IntKind.u32.wrap ((q : Int) / 256) = (q : Int) / 256 := by rw [IntKind.wrap_u32]; omega
      go_wp2_with (at_builtin; refine wpList_append_byte rfl (.tmp 23) (.tmp 27) 22 rfl w.heap.size 5 i5 Tryd.underlying22 Hi.out Hz0.out Hz1.out Hz2.out _ _ rfl (Tail.alloc (Or.inr HF.out) _) ((q : Int) % 256) (by omega) ⟨wr.heap.size, 0, none⟩ 1 rfl (cell_new _ _ _ _ _ _ rfl) HL.out (by have := Hb.out.size; simp; omega) ?_; intro v' w' hF hB2; have HF2 := Lib.hid hF; have HB2 := Lib.hid hB2; clear hF hB2)
      go_roundg (4 - (i + 1))
      case measure => omega
      case rel =>
        refine ⟨i + 1, q / 256, v', by omega, by go_num, congrArg (Value.int IntKind.u32) (by omega), rfl, by omega, ?_, ?_, ?_⟩
        · show q / 256 = S / 256 ^ (i + 1)
          rw [Hq.out, Nat.div_div_eq_div_mul, Nat.pow_succ]
        · show Fresh _ _ _ _ _
          have := HF2.out
          rw [four_succ S i hlt, ← Hq.out, ← List.append_assoc]
          rw [show ((q % 256 : Nat) : Int) = (q : Int) % 256 by omega]
          exact this
        · exact Hb.out.trans (((Below.refl _ _).alloc Hb.out.size _).trans HB2.out)
    · obtain rfl : i = 4 := by omega
      have HE : Hid (zs ++ FrameMath.txt ps ++ (FrameMath.four S).take 4 = zs ++ FrameMath.frm ps) := by
        show _ = zs ++ FrameMath.frm ps
        unfold FrameMath.frm
        rw [HSS.out, List.append_assoc]
        rfl
      rw [HE.out] at HF
      go_wp2_with fail
      go_ret
      exact ⟨_, rfl, Hb.out, HF.out⟩

/-- a frame's size -/
def sizeV (x : Int) : Nat := FrameMath.sizeN x.toNat
set_option maxRecDepth 100000 in
set_option maxHeartbeats 2000000 in
theorem refsize_calls (x : Int) (w : World) (hx : x ≤ 1000000000) : Calls Tryd.prog 12 #[.int .i64 x] w (fun e w' => e = .returned (.int .i64 (sizeV x : Nat)) ∧ Below w.heap.size w w') := by
  obtain ⟨m, hm⟩ : ∃ m : Nat, x.toNat = m := ⟨_, rfl⟩
  have hm9 : m ≤ 1000000000 := by omega
  have Hc := Lib.hid (refput_calls none 0 0 [] m (by omega) w (bytes_nil _ _ _ (fun _ => rfl)) rfl (Nat.le_refl _) (by omega))
  have Hv : Hid (sizeV x = (PackMath.num m).length + m + 4) := by show sizeV x = _; unfold sizeV FrameMath.sizeN; rw [hm]
  rw [Hv.out]
  have hl := PackMath.num_len_64 m (by omega)
  obtain ⟨L, HL⟩ : ∃ z, Hid ((PackMath.num m).length = z) := ⟨_, rfl⟩
  rw [HL.out] at hl ⊢
  have hwu : IntKind.u64.wrap (m : Int) = (m : Int) := by rw [IntKind.wrap_u64]; omega
  have hs1 : IntKind.i64.wrap ((L : Int) + (m : Int)) = (L : Int) + (m : Int) := IntWalk.i64_in _ (by omega)
  have hs2 : IntKind.i64.wrap ((L : Int) + (m : Int) + 4) = (L : Int) + (m : Int) + 4 := IntWalk.i64_in _ (by omega)
  by_cases h0 : x < 0
  · obtain rfl : m = 0 := by omega
    clear hm hm9
    go_enter Tryd.func12, Tryd.ntmps12
    go_wp2_with fail
    refine Hc.out.mono ?_
    rintro e w1 ⟨v1, rfl, hb1, hF1⟩
    rw [List.nil_append] at hF1
    obtain ⟨⟨a3, n3, c3⟩, rfl, hS3, _⟩ := SB.fresh_off hF1
    obtain rfl : n3 = L := hS3.1.trans HL.out
    have Hb1 := Lib.hid hb1
    clear hb1 hF1 hS3
    go_wp2_with fail
    go_ret
    exact ⟨by simp, Hb1.out⟩
  · obtain rfl : x = (m : Int) := by omega
    clear hm
    go_enter Tryd.func12, Tryd.ntmps12
    go_wp2_with fail
    refine Hc.out.mono ?_
    rintro e w1 ⟨v1, rfl, hb1, hF1⟩
    rw [List.nil_append] at hF1
    obtain ⟨⟨a3, n3, c3⟩, rfl, hS3, _⟩ := SB.fresh_off hF1
    obtain rfl : n3 = L := hS3.1.trans HL.out
    have Hb1 := Lib.hid hb1
    clear hb1 hF1 hS3
    go_wp2_with fail
    go_ret
    exact ⟨by simp, Hb1.out⟩
end Go.Proofs.YtfooplicnjjipaaDoor
