/- The document's own Put of layer 2. No law is proved here. -/
import Derived.Test.YtfooplicnjjipaaDoorPackWords
namespace Go.Proofs.YtfooplicnjjipaaDoor
open Go.RowKit

set_option maxRecDepth 100000 in
set_option maxHeartbeats 400000 in
theorem refput_calls (a : Option Addr) (n c : Nat) (zs : List Int) (x : Nat) (hx : x < 18446744073709551616) (w : World) (hB : Bytes w (.slice a n c) zs) (hn : n = zs.length) (_hnc : n ≤ c) (h47 : n ≤ 140737488355000) :
    Calls Tryd.prog 20 #[.slice a n c, .int .u64 x] w (Made w (zs ++ PackMath.num x)) := by
  obtain ⟨i5, hi, hz0, hz1, hz2⟩ := info_parts info_u8
  have Hi := Lib.hid hi; clear hi
  have Hz0 := Lib.hid hz0; clear hz0
  have Hz1 := Lib.hid hz1; clear hz1
  have Hz2 := Lib.hid hz2; clear hz2
  have HB := Lib.hid hB; clear hB
  have Hn := Lib.hid hn; clear hn
  have Hx := Lib.hid (PackMath.num_len_64 x hx)
  have HX := Lib.hid hx; clear hx
  have HF0 := Lib.hid (fresh_empty w)
  have Hb0 := Lib.hid ((Below.refl w.heap.size w).alloc (Nat.le_refl _) (.cells #[] 5))
  go_enter Tryd.func20, Tryd.ntmps20
  go_wp2_with (at_builtin; refine wpList_append_more rfl (.tmp 7) (.tmp 8) 22 rfl w.heap.size 5 i5 Tryd.underlying22 Hi.out Hz0.out Hz1.out Hz2.out _ _ rfl HF0.out _ _ rfl (HB.out.later Hb0.out) (by have := Hn.out; simp; omega) (by simp) ?_; intro v1 w1 hF hB2; have HF1 := Lib.hid hF; have Hb1 := Lib.hid (Hb0.out.trans hB2); clear hF hB2)
  go_loopw [1, 5] (fun i v wr => ∃ (p : List Int) (r : Nat), i = .int .u64 r ∧ Hid (r < 18446744073709551616) ∧ Hid (PackMath.num x = p ++ PackMath.num r) ∧ Hid (Fresh w.heap.size 5 wr v (zs ++ p)) ∧ Hid (Below w.heap.size w wr)) (fun i _ _ => (intOf i).toNat)
  case atStart => exact ⟨[], x, rfl, HX, rfl, by have := HF1.out; rw [List.nil_append] at this; rw [List.append_nil]; exact this, Hb1.out⟩
  case round =>
    obtain ⟨p, r, rfl, Hr, Hp, HF, Hb⟩ := hrel
    have hlz := congrArg List.length Hp.out
    rw [List.length_append] at hlz
    have hlx := Hx.out
    have hlr := PackMath.num_pos r
    have hlen : (zs ++ p).length + 1 ≤ 140737488355328 := by rw [List.length_append, ← Hn.out]; omega
    have HL := Lib.hid hlen; clear hlen hlz hlx hlr
    have hw : IntKind.u64.wrap ((r : Int) / 128) = (r : Int) / 128 := by
      have := Hr.out
      rw [IntKind.wrap_u64]
      exact Int.emod_eq_of_lt (by omega) (by omega)
    by_cases hge : 128 ≤ r
    · have hq : ((r : Int) / 128 == 0) = false := beq_eq_false_iff_ne.2 (by omega)
      go_wp2_with (at_builtin; refine wpList_append_byte rfl (.tmp 21) (.tmp 24) 22 rfl w.heap.size 5 i5 Tryd.underlying22 Hi.out Hz0.out Hz1.out Hz2.out _ _ rfl (Tail.alloc (Or.inr HF.out) _) ((r : Int) % 128 + 128) (by omega) ⟨wr.heap.size, 0, none⟩ 1 rfl (cell_new _ _ _ _ _ _ rfl) HL.out (by have := Hb.out.size; simp; omega) ?_; intro v' w' hF hB2; have HF2 := Lib.hid hF; have HB2 := Lib.hid hB2; clear hF hB2)
      go_roundw
      case rel =>
        refine ⟨p ++ [((r % 128 + 128 : Nat) : Int)], r / 128, congrArg (Value.int IntKind.u64) (by omega), ?_, ?_, ?_, ?_⟩
        · show _ < _
          have := Hr.out
          omega
        · show _ = _
          rw [Hp.out, PackMath.num_ge hge]; simp
        · show Fresh _ _ _ _ _
          have := HF2.out
          rw [List.append_assoc] at this
          simpa using this
        · exact Hb.out.trans (((Below.refl _ _).alloc Hb.out.size _).trans HB2.out)
      case measure => simp [intOf]; omega
    · have hlt : r < 128 := by omega
      have hq : ((r : Int) / 128 == 0) = true := beq_iff_eq.2 (by omega)
      clear hge
      go_wp2_with (at_builtin; refine wpList_append_byte rfl (.tmp 17) (.tmp 19) 22 rfl w.heap.size 5 i5 Tryd.underlying22 Hi.out Hz0.out Hz1.out Hz2.out _ _ rfl (Tail.alloc (Or.inr HF.out) _) ((r : Int) % 128) (by omega) ⟨wr.heap.size, 0, none⟩ 1 rfl (cell_new _ _ _ _ _ _ rfl) HL.out (by have := Hb.out.size; simp; omega) ?_; intro v' w' hF hB2; have HF2 := Lib.hid hF; have HB2 := Lib.hid hB2; clear hF hB2)
      go_ret
      refine ⟨v', rfl, Hb.out.trans (((Below.refl _ _).alloc Hb.out.size _).trans HB2.out), ?_⟩
      rw [Hp.out, PackMath.num_lt hlt, ← List.append_assoc, show (r : Int) = (r : Int) % 128 by omega]
      exact HF2.out

end Go.Proofs.YtfooplicnjjipaaDoor
