/- Package pack: Put. No law is proved here. -/
import Derived.Test.YtfooplicnjjipaaDoorPackWords
namespace Go.Proofs.YtfooplicnjjipaaDoor
open Go.RowKit

set_option maxRecDepth 100000 in
set_option maxHeartbeats 400000 in
theorem put_calls (a : Option Addr) (n c : Nat) (zs : List Int) (x : Nat) (hx : x < 18446744073709551616) (w : World) (hB : Bytes w (.slice a n c) zs) (hn : n = zs.length) (hnc : n ≤ c) (h47 : n ≤ 140737488355000) :
    Calls Tryd.prog 19 #[.slice a n c, .int .u64 x] w (Made w (zs ++ PackMath.num x)) := by
  obtain ⟨i5, hi, hz0, hz1, hz2⟩ := info_parts info_u8
  have Hi := Lib.hid hi; clear hi
  have Hz0 := Lib.hid hz0; clear hz0
  have Hz1 := Lib.hid hz1; clear hz1
  have Hz2 := Lib.hid hz2; clear hz2
  have hbig := hB.1
  obtain ⟨a', hsl, hB'⟩ := piece_full hB hn hnc
  have HB := Lib.hid hB'; clear hB' hB
  rw [← hn] at hbig
  have Hn := Lib.hid hn; clear hn
  have Hx := Lib.hid (PackMath.num_len_64 x hx)
  have HX := Lib.hid hx; clear hx
  go_enter Tryd.func19, Tryd.ntmps19
  go_wp2_with fail
  clear hsl
  go_loopw [0, 1] (fun v i wr => ∃ (p : List Int) (r : Nat), i = .int .u64 r ∧ Hid (r < 18446744073709551616) ∧ Hid (PackMath.num x = p ++ PackMath.num r) ∧ Hid (Tail w.heap.size 5 wr v (zs ++ p)) ∧ Hid (Below w.heap.size w wr)) (fun _ i _ => (intOf i).toNat)
  case atStart => exact ⟨[], x, rfl, HX, rfl, by rw [List.append_nil]; exact Or.inl ⟨a', by rw [← Hn.out], HB.out⟩, Below.refl _ _⟩
  case round =>
    obtain ⟨p, r, rfl, Hr, Hp, HT, Hb⟩ := hrel
    by_cases hge : 128 ≤ r
    · have ho := or128 r
      have hge' : ¬ r < 128 := by omega
      have hlz := congrArg List.length Hp.out
      rw [List.length_append] at hlz
      have hlx := Hx.out
      have hlr := PackMath.num_pos r
      have hlen : (zs ++ p).length + 1 ≤ 140737488355328 := by rw [List.length_append, ← Hn.out]; omega
      have HL := Lib.hid hlen; clear hlen hlz hlx hlr
      go_wp2_with (at_builtin; refine wpList_append_byte rfl (.tmp 13) (.tmp 17) 22 rfl w.heap.size 5 i5 Tryd.underlying22 Hi.out Hz0.out Hz1.out Hz2.out _ _ rfl (HT.out.alloc _) ((r : Int) % 128 + 128) (by omega) ⟨wr.heap.size, 0, none⟩ 1 rfl (cell_new _ _ _ _ _ _ rfl) HL.out (by have := Hb.out.size; simp; omega) ?_; intro v' w' hF hB2; have HF := Lib.hid hF; have HB2 := Lib.hid hB2; clear hF hB2)
      go_roundw
      case rel =>
        refine ⟨p ++ [((r % 128 + 128 : Nat) : Int)], r / 128, congrArg (Value.int IntKind.u64) (by omega), ?_, ?_, ?_, ?_⟩
        · show _ < _
          have := Hr.out
          omega
        · show _ = _
          rw [Hp.out, PackMath.num_ge hge]; simp
        · have := HF.out
          rw [List.append_assoc] at this
          exact Or.inr (by simpa using this)
        · exact Hb.out.trans (((Below.refl _ _).alloc Hb.out.size _).trans HB2.out)
      case measure => simp [intOf]; omega
    · have hlt : r < 128 := by omega
      have hlz := congrArg List.length Hp.out
      rw [List.length_append] at hlz
      have hlx := Hx.out
      have hlr := PackMath.num_pos r
      have hlen : (zs ++ p).length + 1 ≤ 140737488355328 := by rw [List.length_append, ← Hn.out]; omega
      have HL := Lib.hid hlen; clear hlen hlz hlx hlr hge
      go_wp2_with (at_builtin; refine wpList_append_byte rfl (.tmp 21) (.tmp 24) 22 rfl w.heap.size 5 i5 Tryd.underlying22 Hi.out Hz0.out Hz1.out Hz2.out _ _ rfl (HT.out.alloc _) (r : Int) (by omega) ⟨wr.heap.size, 0, none⟩ 1 rfl (cell_new _ _ _ _ _ _ rfl) HL.out (by have := Hb.out.size; simp; omega) ?_; intro v' w' hF hB2; have HF := Lib.hid hF; have HB2 := Lib.hid hB2; clear hF hB2)
      go_ret
      refine ⟨v', rfl, Hb.out.trans (((Below.refl _ _).alloc Hb.out.size _).trans HB2.out), ?_⟩
      rw [Hp.out, PackMath.num_lt hlt, ← List.append_assoc]
      exact HF.out

end Go.Proofs.YtfooplicnjjipaaDoor
