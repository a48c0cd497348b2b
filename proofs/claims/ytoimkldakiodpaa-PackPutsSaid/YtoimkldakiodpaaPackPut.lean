/- The walks of Put and Text, and of the document's own: each answers what was there and a number's bytes behind it, in a row of its own; nothing that was there has turned. -/
import Derived.Test.YtoimkldakiodpaaBytes
import Derived.Test.YtoimkldakiodpaaPackMath
import Derived.WalkKit
import Derived.WalkSpells
import Derived.WalkLawsBesides
import Derived.Laws.BitsAllLaws
import Derived.Lib.Hide
namespace Go.Proofs.Ytoimkldakiodpaa
open Go.RowKit

theorem info_u8 : (Try.prog.info? 5).map (fun i => (i.zero, i.size, i.bytes)) = some (some (.int .u8 0), 1, 1) := by kernel_rfl
theorem elem_bytes : Try.prog.underlying 22 = some (.slice (Try.prog.elem 22)) := by kernel_rfl
theorem size_bytes (w : World) : (sizeOf (Try.prog.elem 22)).run Try.prog w = .ok 1 w := by kernel_rfl

/-- A slice without its spare room. -/
theorem piece_full {W : World} {a : Option Addr} {n c : Nat} {zs : List Int} (hB : Bytes W (.slice a n c) zs) (hn : n = zs.length) (hnc : n ≤ c) :
    ∃ a', (∀ w, (Instr.slice 22 (.slice a n c) none (some (.int .i64 (n : Int))) (some (.int .i64 (n : Int)))).run Try.prog w = .ok (.slice a' n n) w) ∧ Bytes W (.slice a' n n) zs := by
  refine ⟨if n = 0 then a else a.map (·.add 0), fun w => ?_, ?_⟩
  · rw [run_slice_hm w 22 a n c elem_bytes .i64 .i64 n n (by omega) (by omega) (by omega), size_bytes]
    simp [Result.andThen, sliced]
  · obtain ⟨h1, h2, ⟨a0, c0, h3, h4, rfl⟩ | ⟨b, off, c0, h3, h4⟩⟩ := hB
    · simp only [Value.slice.injEq] at h3
      obtain ⟨rfl, rfl, rfl⟩ := h3
      exact bytes_nil _ _ _ (fun h => rfl)
    · simp only [Value.slice.injEq] at h3
      obtain ⟨rfl, rfl, rfl⟩ := h3
      refine ⟨h1, h2, ?_⟩
      by_cases h0 : zs.length = 0
      · obtain rfl : zs = [] := List.eq_nil_of_length_eq_zero h0
        exact Or.inl ⟨_, 0, rfl, fun _ => rfl, rfl⟩
      · refine Or.inr ⟨b, off, zs.length, ?_, h4⟩
        simp [h0, Addr.add]

theorem or128 (r : Nat) : bits .or .u8 ((r : Int) % 256) 128 = ((r % 128 + 128 : Nat) : Int) := by
  rw [show (r : Int) % 256 = ((r % 256 : Nat) : Int) by omega]
  have e := u8_or_nat (r % 256) 128 (by omega) (by decide)
  rw [show ((128 : Nat) : Int) = 128 from rfl] at e
  rw [e]
  congr 1
  have h : ∀ y : Fin 256, y.val ||| 128 = y.val % 128 + 128 := by decide +kernel
  have := h ⟨r % 256, by omega⟩
  simp only at this
  rw [this]
  omega

/-- What comes back: these bytes, in a row of the call's own. -/
def Made (w : World) (zs : List Int) (e : Ending) (w' : World) : Prop := ∃ v, e = .returned v ∧ Below w.heap.size w w' ∧ Fresh w.heap.size 5 w' v zs

set_option maxRecDepth 100000 in
set_option maxHeartbeats 400000 in
theorem put_calls (a : Option Addr) (n c : Nat) (zs : List Int) (x : Nat) (hx : x < 18446744073709551616) (w : World) (hB : Bytes w (.slice a n c) zs) (hn : n = zs.length) (hnc : n ≤ c) (h47 : n ≤ 140737488355000) :
    Calls Try.prog 12 #[.slice a n c, .int .u64 x] w (Made w (zs ++ PackMath.num x)) := by
  obtain ⟨i5, hi, hz0, hz1, hz2⟩ := info_parts info_u8
  have Hi := Lib.hid hi; clear hi
  have Hz0 := Lib.hid hz0; clear hz0
  have Hz1 := Lib.hid hz1; clear hz1
  have Hz2 := Lib.hid hz2; clear hz2
  have hbig := hB.1
  obtain ⟨a', hsl, hB'⟩ := piece_full hB hn hnc
  have HB := Lib.hid hB'; clear hB' hB
  rw [← hn] at hbig
  have Hn := Lib.hid hn; clear hn
  have Hx := Lib.hid (PackMath.num_len_64 x hx)
  have HX := Lib.hid hx; clear hx
  go_enter Try.func12, Try.ntmps12
  go_wp2_with fail
  clear hsl
  go_loopw [0, 1] (fun v i wr => ∃ (p : List Int) (r : Nat), i = .int .u64 r ∧ Hid (r < 18446744073709551616) ∧ Hid (PackMath.num x = p ++ PackMath.num r) ∧ Hid (Tail w.heap.size 5 wr v (zs ++ p)) ∧ Hid (Below w.heap.size w wr)) (fun _ i _ => (intOf i).toNat)
  case atStart => exact ⟨[], x, rfl, HX, rfl, by rw [List.append_nil]; exact Or.inl ⟨a', by rw [← Hn.out], HB.out⟩, Below.refl _ _⟩
  case round =>
    obtain ⟨p, r, rfl, Hr, Hp, HT, Hb⟩ := hrel
    by_cases hge : 128 ≤ r
    · have ho := or128 r
      have hge' : ¬ r < 128 := by omega
      have hlz := congrArg List.length Hp.out
      rw [List.length_append] at hlz
      have hlx := Hx.out
      have hlr := PackMath.num_pos r
      have hlen : (zs ++ p).length + 1 ≤ 140737488355328 := by rw [List.length_append, ← Hn.out]; omega
      have HL := Lib.hid hlen; clear hlen hlz hlx hlr
      go_wp2_with (at_builtin; refine wpList_append_byte rfl (.tmp 13) (.tmp 17) 22 rfl w.heap.size 5 i5 Try.underlying22 Hi.out Hz0.out Hz1.out Hz2.out _ _ rfl (HT.out.alloc _) ((r : Int) % 128 + 128) (by omega) ⟨wr.heap.size, 0, none⟩ 1 rfl (cell_new _ _ _ _ _ _ rfl) HL.out (by have := Hb.out.size; simp; omega) ?_; intro v' w' hF hB2; have HF := Lib.hid hF; have HB2 := Lib.hid hB2; clear hF hB2)
      go_roundw
      case rel =>
        refine ⟨p ++ [((r % 128 + 128 : Nat) : Int)], r / 128, congrArg (Value.int IntKind.u64) (by omega), ?_, ?_, ?_, ?_⟩
        · show _ < _
          have := Hr.out
          omega
        · show _ = _
          rw [Hp.out, PackMath.num_ge hge]; simp
        · have := HF.out
          rw [List.append_assoc] at this
          exact Or.inr (by simpa using this)
        · exact Hb.out.trans (((Below.refl _ _).alloc Hb.out.size _).trans HB2.out)
      case measure => simp [intOf]; omega
    · have hlt : r < 128 := by omega
      have hlz := congrArg List.length Hp.out
      rw [List.length_append] at hlz
      have hlx := Hx.out
      have hlr := PackMath.num_pos r
      have hlen : (zs ++ p).length + 1 ≤ 140737488355328 := by rw [List.length_append, ← Hn.out]; omega
      have HL := Lib.hid hlen; clear hlen hlz hlx hlr hge
      go_wp2_with (at_builtin; refine wpList_append_byte rfl (.tmp 21) (.tmp 24) 22 rfl w.heap.size 5 i5 Try.underlying22 Hi.out Hz0.out Hz1.out Hz2.out _ _ rfl (HT.out.alloc _) (r : Int) (by omega) ⟨wr.heap.size, 0, none⟩ 1 rfl (cell_new _ _ _ _ _ _ rfl) HL.out (by have := Hb.out.size; simp; omega) ?_; intro v' w' hF hB2; have HF := Lib.hid hF; have HB2 := Lib.hid hB2; clear hF hB2)
      go_ret
      refine ⟨v', rfl, Hb.out.trans (((Below.refl _ _).alloc Hb.out.size _).trans HB2.out), ?_⟩
      rw [Hp.out, PackMath.num_lt hlt, ← List.append_assoc]
      exact HF.out

theorem fresh_empty (w : World) : Fresh w.heap.size 5 (w.alloc (.cells #[] 5)) (.slice (some ⟨w.heap.size, 0, none⟩) 0 0) [] :=
  ⟨World.ownsRow_made w #[] 0 (Nat.le_refl _) (by decide) rfl, by simp, fun _ h => by cases h⟩

set_option maxRecDepth 100000 in
set_option maxHeartbeats 400000 in
theorem refput_calls (a : Option Addr) (n c : Nat) (zs : List Int) (x : Nat) (hx : x < 18446744073709551616) (w : World) (hB : Bytes w (.slice a n c) zs) (hn : n = zs.length) (_hnc : n ≤ c) (h47 : n ≤ 140737488355000) :
    Calls Try.prog 14 #[.slice a n c, .int .u64 x] w (Made w (zs ++ PackMath.num x)) := by
  obtain ⟨i5, hi, hz0, hz1, hz2⟩ := info_parts info_u8
  have Hi := Lib.hid hi; clear hi
  have Hz0 := Lib.hid hz0; clear hz0
  have Hz1 := Lib.hid hz1; clear hz1
  have Hz2 := Lib.hid hz2; clear hz2
  have HB := Lib.hid hB; clear hB
  have Hn := Lib.hid hn; clear hn
  have Hx := Lib.hid (PackMath.num_len_64 x hx)
  have HX := Lib.hid hx; clear hx
  have HF0 := Lib.hid (fresh_empty w)
  have Hb0 := Lib.hid ((Below.refl w.heap.size w).alloc (Nat.le_refl _) (.cells #[] 5))
  go_enter Try.func14, Try.ntmps14
  go_wp2_with (at_builtin; refine wpList_append_more rfl (.tmp 7) (.tmp 8) 22 rfl w.heap.size 5 i5 Try.underlying22 Hi.out Hz0.out Hz1.out Hz2.out _ _ rfl HF0.out _ _ rfl (HB.out.later Hb0.out) (by have := Hn.out; simp; omega) (by simp) ?_; intro v1 w1 hF hB2; have HF1 := Lib.hid hF; have Hb1 := Lib.hid (Hb0.out.trans hB2); clear hF hB2)
  go_loopw [1, 5] (fun i v wr => ∃ (p : List Int) (r : Nat), i = .int .u64 r ∧ Hid (r < 18446744073709551616) ∧ Hid (PackMath.num x = p ++ PackMath.num r) ∧ Hid (Fresh w.heap.size 5 wr v (zs ++ p)) ∧ Hid (Below w.heap.size w wr)) (fun i _ _ => (intOf i).toNat)
  case atStart => exact ⟨[], x, rfl, HX, rfl, by have := HF1.out; rw [List.nil_append] at this; rw [List.append_nil]; exact this, Hb1.out⟩
  case round =>
    obtain ⟨p, r, rfl, Hr, Hp, HF, Hb⟩ := hrel
    have hlz := congrArg List.length Hp.out
    rw [List.length_append] at hlz
    have hlx := Hx.out
    have hlr := PackMath.num_pos r
    have hlen : (zs ++ p).length + 1 ≤ 140737488355328 := by rw [List.length_append, ← Hn.out]; omega
    have HL := Lib.hid hlen; clear hlen hlz hlx hlr
    have hw : IntKind.u64.wrap ((r : Int) / 128) = (r : Int) / 128 := by
      have := Hr.out
      rw [IntKind.wrap_u64]
      exact Int.emod_eq_of_lt (by omega) (by omega)
    by_cases hge : 128 ≤ r
    · have hq : ((r : Int) / 128 == 0) = false := beq_eq_false_iff_ne.2 (by omega)
      go_wp2_with (at_builtin; refine wpList_append_byte rfl (.tmp 21) (.tmp 24) 22 rfl w.heap.size 5 i5 Try.underlying22 Hi.out Hz0.out Hz1.out Hz2.out _ _ rfl (Tail.alloc (Or.inr HF.out) _) ((r : Int) % 128 + 128) (by omega) ⟨wr.heap.size, 0, none⟩ 1 rfl (cell_new _ _ _ _ _ _ rfl) HL.out (by have := Hb.out.size; simp; omega) ?_; intro v' w' hF hB2; have HF2 := Lib.hid hF; have HB2 := Lib.hid hB2; clear hF hB2)
      go_roundw
      case rel =>
        refine ⟨p ++ [((r % 128 + 128 : Nat) : Int)], r / 128, congrArg (Value.int IntKind.u64) (by omega), ?_, ?_, ?_, ?_⟩
        · show _ < _
          have := Hr.out
          omega
        · show _ = _
          rw [Hp.out, PackMath.num_ge hge]; simp
        · show Fresh _ _ _ _ _
          have := HF2.out
          rw [List.append_assoc] at this
          simpa using this
        · exact Hb.out.trans (((Below.refl _ _).alloc Hb.out.size _).trans HB2.out)
      case measure => simp [intOf]; omega
    · have hlt : r < 128 := by omega
      have hq : ((r : Int) / 128 == 0) = true := beq_iff_eq.2 (by omega)
      clear hge
      go_wp2_with (at_builtin; refine wpList_append_byte rfl (.tmp 17) (.tmp 19) 22 rfl w.heap.size 5 i5 Try.underlying22 Hi.out Hz0.out Hz1.out Hz2.out _ _ rfl (Tail.alloc (Or.inr HF.out) _) ((r : Int) % 128) (by omega) ⟨wr.heap.size, 0, none⟩ 1 rfl (cell_new _ _ _ _ _ _ rfl) HL.out (by have := Hb.out.size; simp; omega) ?_; intro v' w' hF hB2; have HF2 := Lib.hid hF; have HB2 := Lib.hid hB2; clear hF hB2)
      go_ret
      refine ⟨v', rfl, Hb.out.trans (((Below.refl _ _).alloc Hb.out.size _).trans HB2.out), ?_⟩
      rw [Hp.out, PackMath.num_lt hlt, ← List.append_assoc, show (r : Int) = (r : Int) % 128 by omega]
      exact HF2.out

/-- A text's bytes. -/
def textBytes (s : ByteArray) : List Int := PackMath.num s.size ++ nums s

theorem Fresh.args {B : Nat} {e : TypeId} {w : World} {v : Value} {zs : List Int} (h : Fresh B e w v zs) : ∃ a n c, v = .slice a n c ∧ n = zs.length ∧ n ≤ c := by
  obtain ⟨g, cap, rfl, _, _, h, _⟩ := h.form
  exact ⟨_, _, _, rfl, rfl, h⟩

set_option maxRecDepth 100000 in
set_option maxHeartbeats 400000 in
theorem text_calls (a : Option Addr) (n c : Nat) (zs : List Int) (s : ByteArray) (w : World) (hB : Bytes w (.slice a n c) zs) (hn : n = zs.length) (hnc : n ≤ c) (h47 : n ≤ 70368744177000) (hs : s.size ≤ 70368744177000) :
    Calls Try.prog 13 #[.slice a n c, .string s] w (Made w (zs ++ textBytes s)) := by
  obtain ⟨i5, hi, hz0, hz1, hz2⟩ := info_parts info_u8
  have Hi := Lib.hid hi; clear hi
  have Hz0 := Lib.hid hz0; clear hz0
  have Hz1 := Lib.hid hz1; clear hz1
  have Hz2 := Lib.hid hz2; clear hz2
  have Hc := Lib.hid (put_calls a n c zs s.size (by omega) w hB hn hnc (by omega)); clear hB
  have Hn := Lib.hid hn; clear hn
  have Hx := Lib.hid (PackMath.num_len_64 s.size (by omega))
  go_enter Try.func13, Try.ntmps13
  go_wp2_with fail
  refine Hc.out.mono ?_
  rintro e w1 ⟨v1, rfl, hb1, hF1⟩
  have HF1 := Lib.hid hF1; have Hb1 := Lib.hid hb1; clear hF1 hb1
  go_wp2_with (at_builtin; refine wpList_append_text rfl (.tmp 9) (.tmp 10) 22 9 rfl w.heap.size 5 i5 Try.underlying22 Try.underlying9 Hi.out Hz0.out Hz1.out Hz2.out _ _ rfl HF1.out s rfl (by have := Hx.out; have := Hn.out; rw [List.length_append]; omega) Hb1.out.size ?_; intro v' w' hF hB2; have HF2 := Lib.hid hF; have HB2 := Lib.hid hB2; clear hF hB2)
  go_ret
  exact ⟨v', rfl, Hb1.out.trans HB2.out, by have := HF2.out; rwa [List.append_assoc] at this⟩

set_option maxRecDepth 100000 in
set_option maxHeartbeats 400000 in
theorem reftext_calls (a : Option Addr) (n c : Nat) (zs : List Int) (s : ByteArray) (w : World) (hB : Bytes w (.slice a n c) zs) (hn : n = zs.length) (hnc : n ≤ c) (h47 : n ≤ 70368744177000) (hs : s.size ≤ 70368744177000) :
    Calls Try.prog 15 #[.slice a n c, .string s] w (Made w (zs ++ textBytes s)) := by
  obtain ⟨i5, hi, hz0, hz1, hz2⟩ := info_parts info_u8
  have Hi := Lib.hid hi; clear hi
  have Hz0 := Lib.hid hz0; clear hz0
  have Hz1 := Lib.hid hz1; clear hz1
  have Hz2 := Lib.hid hz2; clear hz2
  have Hc := Lib.hid (refput_calls a n c zs s.size (by omega) w hB hn hnc (by omega)); clear hB
  have Hn := Lib.hid hn; clear hn
  have Hx := Lib.hid (PackMath.num_len_64 s.size (by omega))
  have hcv := fun w => Lib.run_convert_string_bytes (P := Try.prog) w 9 22 5 s Try.underlying9 Try.underlying22 Try.underlying5
  go_enter Try.func15, Try.ntmps15
  go_wp2_with fail
  refine Hc.out.mono ?_
  rintro e w1 ⟨v1, rfl, hb1, hF1⟩
  have HF1 := Lib.hid hF1; have Hb1 := Lib.hid hb1; clear hF1 hb1
  have Hb2 := Lib.hid (Hb1.out.trans ((below_text w1 5 s).mono Hb1.out.size))
  have HF2 := Lib.hid (HF1.out.later (below_text w1 5 s))
  have HB2 := Lib.hid (bytes_of_text w1 5 s (by omega))
  go_wp2_with (at_builtin; refine wpList_append_more rfl (.tmp 9) (.tmp 11) 22 rfl w.heap.size 5 i5 Try.underlying22 Hi.out Hz0.out Hz1.out Hz2.out _ _ rfl HF2.out _ _ rfl HB2.out (by have := Hx.out; have := Hn.out; rw [List.length_append, nums_length]; omega) Hb2.out.size ?_; intro v' w' hF hB2; have HF3 := Lib.hid hF; have HB3 := Lib.hid hB2; clear hF hB2)
  go_ret
  exact ⟨v', rfl, Hb2.out.trans HB3.out, by have := HF3.out; rwa [List.append_assoc] at this⟩
end Go.Proofs.Ytoimkldakiodpaa
