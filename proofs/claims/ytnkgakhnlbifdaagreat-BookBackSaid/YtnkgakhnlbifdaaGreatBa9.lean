/- Parts, as far as BookBackCards reaches them, of: PackWords, PackTakeWords, PackRefPut, PackRefTake, BytesRun, PaintWords, RefMailSome, RefBookCount, PaintTakeMath. No law is proved here. -/
import Derived.Test.YtnkgakhnlbifdaaGreatBa8
import Derived.Test.YtnkgakhnlbifdaaGreatBa4
import Derived.WalkKit
import Derived.WalkSpells
import Derived.WalkLawsBesides
import Derived.Laws.BitsAllLaws
import Derived.Lib.Hide
import Derived.Deep.QuietTactic
import Derived.BigQuiet
import Derived.Deep.RegionHeld3
import Derived.Test.YtnkgakhnlbifdaaGreatBa1
import Derived.LoopTactic
import Derived.Test.YtnkgakhnlbifdaaGreatBa7
import Derived.IntWalk
namespace Go.Proofs.YtnkgakhnlbifdaaGreat
open Go.RowKit
theorem info_u8 : (Tryz.prog.info? 5).map (fun i => (i.zero, i.size, i.bytes)) = some (some (.int .u8 0), 1, 1) := by kernel_rfl
theorem elem_bytes : Tryz.prog.underlying 24 = some (.slice (Tryz.prog.elem 24)) := by kernel_rfl
theorem size_bytes (w : World) : (sizeOf (Tryz.prog.elem 24)).run Tryz.prog w = .ok 1 w := by kernel_rfl
theorem piece_full {W : World} {a : Option Addr} {n c : Nat} {zs : List Int} (hB : Bytes W (.slice a n c) zs) (hn : n = zs.length) (hnc : n ≤ c) :
 ∃ a', (∀ w, (Instr.slice 24 (.slice a n c) none (some (.int .i64 (n : Int))) (some (.int .i64 (n : Int)))).run Tryz.prog w = .ok (.slice a' n n) w) ∧ Bytes W (.slice a' n n) zs := by
 refine ⟨if n = 0 then a else a.map (·.add 0), fun w => ?_, ?_⟩
 · rw [run_slice_hm w 24 a n c elem_bytes .i64 .i64 n n (by omega) (by omega) (by omega), size_bytes]
   simp [Result.andThen, sliced]
 · obtain ⟨h1, h2, ⟨a0, c0, h3, h4, rfl⟩ | ⟨b, off, c0, h3, h4⟩⟩ := hB
   · simp only [Value.slice.injEq] at h3
     obtain ⟨rfl, rfl, rfl⟩ := h3
     exact bytes_nil _ _ _ (fun h => rfl)
   · simp only [Value.slice.injEq] at h3
     obtain ⟨rfl, rfl, rfl⟩ := h3
     refine ⟨h1, h2, ?_⟩
     by_cases h0 : zs.length = 0
     · obtain rfl : zs = [] := List.eq_nil_of_length_eq_zero h0
       exact Or.inl ⟨_, 0, rfl, fun _ => rfl, rfl⟩
     · refine Or.inr ⟨b, off, zs.length, ?_, h4⟩
       simp [h0, Addr.add]
theorem or128 (r : Nat) : bits .or .u8 ((r : Int) % 256) 128 = ((r % 128 + 128 : Nat) : Int) := by
 rw [show (r : Int) % 256 = ((r % 256 : Nat) : Int) by omega]
 have e := u8_or_nat (r % 256) 128 (by omega) (by decide)
 rw [show ((128 : Nat) : Int) = 128 from rfl] at e
 rw [e]
 congr 1
 have h : ∀ y : Fin 256, y.val ||| 128 = y.val % 128 + 128 := by decide +kernel
 have := h ⟨r % 256, by omega⟩
 simp only at this
 rw [this]
 omega
def Made (w : World) (zs : List Int) (e : Ending) (w' : World) : Prop := ∃ v, e = .returned v ∧ Below w.heap.size w w' ∧ Fresh w.heap.size 5 w' v zs
theorem fresh_empty (w : World) : Fresh w.heap.size 5 (w.alloc (.cells #[] 5)) (.slice (some ⟨w.heap.size, 0, none⟩) 0 0) [] :=
 ⟨World.ownsRow_made w #[] 0 (Nat.le_refl _) (by decide) rfl, by simp, fun _ h => by cases h⟩
theorem Fresh.args {B : Nat} {e : TypeId} {w : World} {v : Value} {zs : List Int} (h : Fresh B e w v zs) : ∃ a n c, v = .slice a n c ∧ n = zs.length ∧ n ≤ c := by
 obtain ⟨g, cap, rfl, _, _, h, _⟩ := h.form
 exact ⟨_, _, _, rfl, rfl, h⟩
end Go.Proofs.YtnkgakhnlbifdaaGreat
namespace Go.Proofs.YtnkgakhnlbifdaaGreat
open Go.RowKit
theorem bytes_cap {W : World} {a : Option Addr} {n c : Nat} {zs : List Int} (hB : Bytes W (.slice a n c) zs) : Bytes W (.slice a n n) zs := by
 obtain ⟨h1, h2, ⟨a0, c0, h3, h4, rfl⟩ | ⟨b, off, c0, h3, h4⟩⟩ := hB
 · simp only [Value.slice.injEq] at h3
   obtain ⟨rfl, rfl, rfl⟩ := h3
   exact bytes_nil _ _ _ (fun _ => rfl)
 · simp only [Value.slice.injEq] at h3
   obtain ⟨rfl, rfl, rfl⟩ := h3
   exact ⟨h1, h2, Or.inr ⟨b, off, zs.length, rfl, h4⟩⟩
theorem piece_after {a : Option Addr} {n c lo : Nat} {zs : List Int} (hn : n = zs.length) (h1 : lo ≤ n) (h3 : n ≤ c) :
 ∃ v, (∀ w, (Instr.slice 24 (.slice a n c) (some (.int .i64 (lo : Int))) (some (.int .i64 (n : Int))) (some (.int .i64 (n : Int)))).run Tryz.prog w = .ok v w) ∧ (∀ W', Bytes W' (.slice a n c) zs → Bytes W' v (zs.drop lo)) ∧ ∃ a', v = .slice a' (n - lo) (n - lo) := by
 have hrun : ∀ w, (Instr.slice 24 (.slice a n c) (some (.int .i64 (lo : Int))) (some (.int .i64 (n : Int))) (some (.int .i64 (n : Int)))).run Tryz.prog w = .ok (sliced a lo n n 1) w := fun w => by
  rw [run_slice_lhm w 24 a n c elem_bytes .i64 .i64 .i64 lo n n (by omega) (by omega) (by omega) (by omega), size_bytes]
  simp [Result.andThen]
 refine ⟨_, hrun, fun W' hB' => ?_, _, rfl⟩
 have := bytes_sliced (bytes_cap hB') hn h1 (Nat.le_refl n) (Nat.le_refl n)
 rwa [hn, List.take_length, ← hn] at this
theorem or_shift (m k d : Nat) (hm : m < 128 ^ k) (h : m + 128 ^ k * d < 18446744073709551616) : bits .or .u64 (m : Int) (IntKind.u64.wrap ((d : Int) * 2 ^ (7 * k))) = ((m + 128 ^ k * d : Nat) : Int) := by
 have e : (d : Int) * 2 ^ (7 * k) = ((128 ^ k * d : Nat) : Int) := by
  rw [PackMath.pow7, Int.natCast_mul, Int.natCast_pow, Int.mul_comm]; rfl
 rw [e, IntKind.wrap_u64, Int.emod_eq_of_lt (by omega) (by omega), u64_or_nat _ _ (by omega) (by omega), PackMath.or_add m k d hm]
theorem getD_mid (p q : List Int) (y : Int) : (p ++ y :: q).getD p.length 0 = y := by
 simp [List.getD_eq_getElem?_getD]
def Going (zs rest : List Int) (x k m r : Nat) : Prop := ∃ p, p.length = k ∧ zs = p ++ PackMath.num r ++ rest ∧ x = m + 128 ^ k * r ∧ PackMath.Read p m ∧ (k = 0 ∨ 0 < r)
theorem Going.nine {zs rest : List Int} {x k m r : Nat} (h : Going zs rest x k m r) (hx : x < 18446744073709551616) (hk : k = 9) : r ≤ 1 := by
 obtain ⟨p, _, _, h3, _, _⟩ := h
 rw [hk, PackMath.pow9] at h3
 omega
theorem Going.more {zs rest : List Int} {x k m r : Nat} (h : Going zs rest x k m r) (hr : 128 ≤ r) :
 zs.getD k 0 = ((r % 128 + 128 : Nat) : Int) ∧ k + 1 < zs.length ∧ Going zs rest x (k + 1) (m + 128 ^ k * (r % 128)) (r / 128) := by
 obtain ⟨p, h1, h2, h3, h4, h5⟩ := h
 rw [PackMath.num_ge hr] at h2
 refine ⟨?_, ?_, p ++ [((r % 128 + 128 : Nat) : Int)], by simp [h1], by rw [h2]; simp, ?_, ?_, Or.inr (by omega)⟩
 · rw [h2, ← h1, List.append_assoc, List.cons_append, getD_mid]
 · have := PackMath.num_pos (r / 128)
   rw [h2]
   simp only [List.length_append, List.length_cons]
   omega
 · rw [h3, Nat.pow_succ, Nat.mul_assoc, Nat.add_assoc, ← Nat.mul_add]
   congr 2
   omega
 · rw [← h1]; exact h4.more (by omega)
theorem Going.last {zs rest : List Int} {x k m r : Nat} (h : Going zs rest x k m r) (hr : r < 128) :
 zs.getD k 0 = (r : Int) ∧ m < 128 ^ k ∧ x = m + 128 ^ k * r ∧ (PackMath.num x).length = k + 1 := by
 obtain ⟨p, h1, h2, h3, h4, h5⟩ := h
 refine ⟨?_, by rw [← h1]; exact h4.1, h3, ?_⟩
 · rw [h2, PackMath.num_lt hr, ← h1, List.append_assoc, List.singleton_append, getD_mid]
 · rw [h3, ← h1, h4.last hr (by rcases h5 with h5 | h5; · left; exact List.eq_nil_of_length_eq_zero (by omega)
                                · right; exact h5)]
   simp
theorem Going.fits {zs rest : List Int} {x k m r : Nat} (h : Going zs rest x k m r) : m + 128 ^ k * (r % 128) ≤ x := by
 obtain ⟨p, _, _, h3, _, _⟩ := h
 have : 128 ^ k * (r % 128) ≤ 128 ^ k * r := Nat.mul_le_mul_left _ (by omega)
 omega
theorem Going.low {zs rest : List Int} {x k m r : Nat} (h : Going zs rest x k m r) : m < 128 ^ k := by
 obtain ⟨p, h1, _, _, h4, _⟩ := h
 rw [← h1]; exact h4.1
theorem Going.zero {zs rest : List Int} {x k m r : Nat} (h : Going zs rest x k m r) : k = 0 ∨ 0 < r := h.choose_spec.2.2.2.2
def Vain (zs : List Int) (k m : Nat) : Prop := PackMath.Read (zs.take k) m ∧ k ≤ zs.length ∧ k ≤ 9
theorem Vain.at_ {zs : List Int} {k m : Nat} (h : Vain zs k m) (hb : PackMath.Bare zs) (hk : k < zs.length) (hs : ∀ c ∈ zs, 0 ≤ c ∧ c < 256) :
 ∃ c : Nat, zs.getD k 0 = (c : Int) ∧ c < 256 ∧ (c < 128 → (k = 9 ∧ 1 < c) ∨ (0 < k ∧ c = 0)) ∧ (k < 9 → 128 ≤ c → Vain zs (k + 1) (m + 128 ^ k * (c - 128))) := by
 have he : zs.getD k 0 = zs[k] := by simp [List.getD_eq_getElem?_getD, List.getElem?_eq_getElem hk]
 obtain ⟨h0, h1⟩ := hs zs[k] (List.getElem_mem hk)
 obtain ⟨c, hc⟩ := Int.eq_ofNat_of_zero_le h0
 have hlen : (zs.take k).length = k := by simp; omega
 have htk : zs.take (k + 1) = zs.take k ++ [(c : Int)] := by
  rw [List.take_succ_eq_append_getElem hk, hc]
 refine ⟨c, by rw [he, hc], by omega, fun hlt => ?_, fun hk9 hge => ?_⟩
 · by_cases h9 : k = 9 ∧ 1 < c
   · exact Or.inl h9
   · by_cases hk0 : 0 < k ∧ c = 0
     · exact Or.inr hk0
     · exfalso
       have hl := h.1.lt64 (d := c) (by rw [hlen]; exact h.2.2) hlt (by rw [hlen]; omega)
       have hn := h.1.last (d := c) hlt (by
        rcases Nat.eq_zero_or_pos k with h' | h'
        · left; rw [h']; rfl
        · right; omega)
       refine hb _ (zs.drop (k + 1)) hl ?_
       rw [hn, ← htk, List.take_append_drop]
 · refine ⟨?_, by omega, by omega⟩
   have := h.1.more (d := c - 128) (by omega)
   rw [hlen] at this
   rw [htk]
   rwa [show c - 128 + 128 = c by omega] at this
theorem Vain.start (zs : List Int) : Vain zs 0 0 := ⟨PackMath.read_nil, Nat.zero_le _, Nat.zero_le _⟩
theorem Vain.fits {zs : List Int} {k m c : Nat} (h : Vain zs k m) (hk : k < 9) (hc : c < 128) : m < 128 ^ k ∧ m + 128 ^ k * c < 18446744073709551616 := by
 have hlen : (zs.take k).length = k := by have := h.2.1; simp; omega
 have hm := h.1.1
 rw [hlen] at hm
 have hp := PackMath.pow_le9 (k := k) (by omega)
 have h2 : 128 ^ k * (c + 1) ≤ 128 ^ k * 128 := Nat.mul_le_mul_left _ (by omega)
 rw [Nat.mul_add] at h2
 exact ⟨hm, by omega⟩
end Go.Proofs.YtnkgakhnlbifdaaGreat
namespace Go.Proofs.YtnkgakhnlbifdaaGreat
open Go.RowKit
set_option maxRecDepth 100000 in
set_option maxHeartbeats 400000 in
theorem refput_calls (a : Option Addr) (n c : Nat) (zs : List Int) (x : Nat) (hx : x < 18446744073709551616) (w : World) (hB : Bytes w (.slice a n c) zs) (hn : n = zs.length) (_hnc : n ≤ c) (h47 : n ≤ 140737488355000) :
 Calls Tryz.prog 54 #[.slice a n c, .int .u64 x] w (Made w (zs ++ PackMath.num x)) := by
 obtain ⟨i5, hi, hz0, hz1, hz2⟩ := info_parts info_u8
 have Hi := Lib.hid hi; clear hi
 have Hz0 := Lib.hid hz0; clear hz0
 have Hz1 := Lib.hid hz1; clear hz1
 have Hz2 := Lib.hid hz2; clear hz2
 have HB := Lib.hid hB; clear hB
 have Hn := Lib.hid hn; clear hn
 have Hx := Lib.hid (PackMath.num_len_64 x hx)
 have HX := Lib.hid hx; clear hx
 have HF0 := Lib.hid (fresh_empty w)
 have Hb0 := Lib.hid ((Below.refl w.heap.size w).alloc (Nat.le_refl _) (.cells #[] 5))
 go_enter Tryz.func54, Tryz.ntmps54
 go_wp2_with (at_builtin; refine wpList_append_more rfl (.tmp 7) (.tmp 8) 24 rfl w.heap.size 5 i5 Tryz.underlying24 Hi.out Hz0.out Hz1.out Hz2.out _ _ rfl HF0.out _ _ rfl (HB.out.later Hb0.out) (by have := Hn.out; simp; omega) (by simp) ?_; intro v1 w1 hF hB2; have HF1 := Lib.hid hF; have Hb1 := Lib.hid (Hb0.out.trans hB2); clear hF hB2)
 go_loopw [1, 5] (fun i v wr => ∃ (p : List Int) (r : Nat), i = .int .u64 r ∧ Hid (r < 18446744073709551616) ∧ Hid (PackMath.num x = p ++ PackMath.num r) ∧ Hid (Fresh w.heap.size 5 wr v (zs ++ p)) ∧ Hid (Below w.heap.size w wr)) (fun i _ _ => (intOf i).toNat)
 case atStart => exact ⟨[], x, rfl, HX, rfl, by have := HF1.out; rw [List.nil_append] at this; rw [List.append_nil]; exact this, Hb1.out⟩
 case round =>
  obtain ⟨p, r, rfl, Hr, Hp, HF, Hb⟩ := hrel
  have hlz := congrArg List.length Hp.out
  rw [List.length_append] at hlz
  have hlx := Hx.out
  have hlr := PackMath.num_pos r
  have hlen : (zs ++ p).length + 1 ≤ 140737488355328 := by rw [List.length_append, ← Hn.out]; omega
  have HL := Lib.hid hlen; clear hlen hlz hlx hlr
  have hw : IntKind.u64.wrap ((r : Int) / 128) = (r : Int) / 128 := by
   have := Hr.out
   rw [IntKind.wrap_u64]
   exact Int.emod_eq_of_lt (by omega) (by omega)
  by_cases hge : 128 ≤ r
  · have hq : ((r : Int) / 128 == 0) = false := beq_eq_false_iff_ne.2 (by omega)
    go_wp2_with (at_builtin; refine wpList_append_byte rfl (.tmp 21) (.tmp 24) 24 rfl w.heap.size 5 i5 Tryz.underlying24 Hi.out Hz0.out Hz1.out Hz2.out _ _ rfl (Tail.alloc (Or.inr HF.out) _) ((r : Int) % 128 + 128) (by omega) ⟨wr.heap.size, 0, none⟩ 1 rfl (cell_new _ _ _ _ _ _ rfl) HL.out (by have := Hb.out.size; simp; omega) ?_; intro v' w' hF hB2; have HF2 := Lib.hid hF; have HB2 := Lib.hid hB2; clear hF hB2)
    go_roundw
    case rel =>
     refine ⟨p ++ [((r % 128 + 128 : Nat) : Int)], r / 128, congrArg (Value.int IntKind.u64) (by omega), ?_, ?_, ?_, ?_⟩
     · show _ < _
       have := Hr.out
       omega
     · show _ = _
       rw [Hp.out, PackMath.num_ge hge]; simp
     · show Fresh _ _ _ _ _
       have := HF2.out
       rw [List.append_assoc] at this
       simpa using this
     · exact Hb.out.trans (((Below.refl _ _).alloc Hb.out.size _).trans HB2.out)
    case measure => simp [intOf]; omega
  · have hlt : r < 128 := by omega
    have hq : ((r : Int) / 128 == 0) = true := beq_iff_eq.2 (by omega)
    clear hge
    go_wp2_with (at_builtin; refine wpList_append_byte rfl (.tmp 17) (.tmp 19) 24 rfl w.heap.size 5 i5 Tryz.underlying24 Hi.out Hz0.out Hz1.out Hz2.out _ _ rfl (Tail.alloc (Or.inr HF.out) _) ((r : Int) % 128) (by omega) ⟨wr.heap.size, 0, none⟩ 1 rfl (cell_new _ _ _ _ _ _ rfl) HL.out (by have := Hb.out.size; simp; omega) ?_; intro v' w' hF hB2; have HF2 := Lib.hid hF; have HB2 := Lib.hid hB2; clear hF hB2)
    go_ret
    refine ⟨v', rfl, Hb.out.trans (((Below.refl _ _).alloc Hb.out.size _).trans HB2.out), ?_⟩
    rw [Hp.out, PackMath.num_lt hlt, ← List.append_assoc, show (r : Int) = (r : Int) % 128 by omega]
    exact HF2.out
end Go.Proofs.YtnkgakhnlbifdaaGreat
namespace Go.Proofs.YtnkgakhnlbifdaaGreat
open Go.RowKit
theorem str_any {w : World} {v : Value} {zs : List Int} (hB : Bytes w v zs) : (convert 24 9 v).run Tryz.prog w = .ok (.string (strOfNums zs)) w :=
 run_string hB Tryz.underlying24 Tryz.underlying5 Tryz.underlying9
end Go.Proofs.YtnkgakhnlbifdaaGreat
namespace Go.Proofs.YtnkgakhnlbifdaaGreat
open Go.RowKit
theorem flat_bytes (l : List Int) : l.map (Value.int .u8) = flatCells 1 l.length (fun i _ => .int .u8 (l[i]?.getD 0)) := by
 apply List.ext_getElem?
 intro i
 by_cases hi : i < l.length
 · have := flat_at 1 l.length (fun i _ => Value.int .u8 (l[i]?.getD 0)) i 0 hi (by decide)
   rw [Nat.mul_one, Nat.add_zero] at this
   rw [this]
   simp [List.getElem?_eq_getElem hi]
 · rw [List.getElem?_eq_none (by simp; omega), List.getElem?_eq_none (by rw [flat_length]; omega)]
theorem elems_of_bytes {w : World} {a : Option Addr} {n c : Nat} {zs : List Int} (hB : Bytes w (.slice a n c) zs) (hn : n = zs.length) (hnc : n ≤ c) : Elems w (.slice a n c) 1 n (fun i _ => .int .u8 (zs[i]?.getD 0)) := by
 obtain ⟨h1, _, ⟨a0, c0, h3, h4, h5⟩ | ⟨b, off, c0, h3, h4⟩⟩ := hB
 · simp only [Value.slice.injEq] at h3
   obtain ⟨rfl, h, rfl⟩ := h3
   exact ⟨by omega, Or.inl ⟨_, _, by rw [h], h4, h⟩⟩
 · simp only [Value.slice.injEq] at h3
   obtain ⟨rfl, h, rfl⟩ := h3
   refine ⟨by omega, Or.inr ⟨b, off, _, rfl, hnc, fun i j hi hj => ?_⟩⟩
   obtain rfl : j = 0 := by omega
   rw [Nat.mul_one, Nat.add_zero, h4 i (by omega)]
   simp [List.getD_eq_getElem?_getD]
end Go.Proofs.YtnkgakhnlbifdaaGreat
namespace Go.Proofs.YtnkgakhnlbifdaaGreat
open Go.RowKit
theorem elem_nums : Tryz.prog.underlying 33 = some (.slice (Tryz.prog.elem 33)) := by kernel_rfl
theorem size_nums (w : World) : (sizeOf (Tryz.prog.elem 33)).run Tryz.prog w = .ok 1 w := by kernel_rfl
def TookB (w : World) (x : Option (List Rw × List Int)) (e : Ending) (w' : World) : Prop :=
 (∃ l rest A C B D, x = some (l, rest) ∧ e = .returned (.tuple #[.slice A l.length C, .slice B rest.length D, .bool true]) ∧ Books w' (.slice A l.length C) l ∧ Bytes w' (.slice B rest.length D) rest ∧ rest.length ≤ D ∧ Below w.heap.size w w') ∨
 (x = none ∧ e = .returned (.tuple #[.slice none 0 0, .slice none 0 0, .bool false]) ∧ Below w.heap.size w w')
def TookBF (w : World) (x : Option (List Rw × List Int)) (e : Ending) (w' : World) : Prop :=
 (∃ l rest A C B D, x = some (l, rest) ∧ e = .returned (.tuple #[.slice A l.length C, .slice B rest.length D, .bool true]) ∧ BooksFar w.heap.size w' (.slice A l.length C) l ∧ Bytes w' (.slice B rest.length D) rest ∧ rest.length ≤ D ∧ Below w.heap.size w w') ∨
 (x = none ∧ e = .returned (.tuple #[.slice none 0 0, .slice none 0 0, .bool false]) ∧ Below w.heap.size w w')
theorem TookBF.took {w : World} {x : Option (List Rw × List Int)} {e : Ending} {w' : World} (h : TookBF w x e w') : TookB w x e w' := by
 rcases h with ⟨l, rest, A, C, B, D, h1, h2, h3, h4⟩ | h
 · exact Or.inl ⟨l, rest, A, C, B, D, h1, h2, h3.1, h4⟩
 · exact Or.inr h
set_option maxRecDepth 100000 in
theorem nums_push {w : World} {base : Nat} {v : Value} {P : List Int} {k : Nat} (x : Int) (hk : P.length = k) (hown : w.ownsRow base 2 1 v k (P.map (Value.int .i64))) (hb : base ≤ w.heap.size) (h : k ≤ 1000000) :
 ∃ v' w', (Builtin.append_ #[33, 33] 33 #[v, .slice (some ⟨w.heap.size, 0, none⟩) 1 1]).run Tryz.prog (w.alloc (.cells #[.int .i64 x] 2)) = .ok v' w' ∧
   w'.ownsRow base 2 1 v' (k + 1) ((P ++ [x]).map (Value.int .i64)) ∧ Below base w w' ∧ Grew (w.alloc (.cells #[.int .i64 x] 2)) w' v v' := by
 subst hk
 obtain ⟨i0, hi, hz0, hz1, hz2⟩ := info_parts info_int64
 have hb1 : Below w.heap.size w (w.alloc (.cells #[.int .i64 x] 2)) := below_box w _
 have e : P.map (Value.int .i64) = flatCells 1 P.length (fun i _ => .int .i64 ((P ++ [x])[i]?.getD 0)) := by
  rw [flat_one]
  unfold flatCells
  rw [List.flatMap_def, List.flatMap_def]
  congr 1
  apply List.map_congr_left
  intro i hi
  have := List.mem_range.1 hi
  simp [List.getElem?_append_left this]
 obtain ⟨v', w', hrun, q1, q2, q3⟩ := run_append_elems (P := Tryz.prog) (w := w.alloc (.cells #[.int .i64 x] 2)) 33 33 base 2 i0 _ 1 8 Tryz.underlying33 hi hz0 hz1 hz2 rfl (by decide)
  v P.length (fun i _ => .int .i64 ((P ++ [x])[i]?.getD 0)) (by rw [← e]; exact own_later hown hb1) (some ⟨w.heap.size, 0, none⟩) 1 1 (fun _ _ => .int .i64 x) (one_num (Whole.made w _ _)) (fun _ _ _ _ => rfl) (by unfold maxLen; omega) (by omega) (by have := hb1.size; omega)
 refine ⟨v', w', hrun, ?_, (hb1.mono hb).trans q2, q3⟩
 rw [flat_push (k := P.length) (f := fun i _ => .int .i64 ((P ++ [x])[i]?.getD 0)) (g := fun _ _ => .int .i64 x) (by simp)] at q1
 rw [flat_one, List.length_append, List.length_singleton]
 exact q1
theorem three {w : World} {base : Nat} {v : Value} {P : List Int} {k : Nat} (hown : w.ownsRow base 2 1 v k (P.map (Value.int .i64))) (hk : P.length = k) (h2 : 2 ≤ k) :
 ∃ g cap, v = .slice (some ⟨g, 0, none⟩) k cap ∧ base ≤ g ∧ g < w.heap.size ∧ k ≤ cap ∧ w.cell? ⟨g, 0, none⟩ = some (.int .i64 (P[0]?.getD 0)) ∧ w.cell? ⟨g, 1, none⟩ = some (.int .i64 (P[1]?.getD 0)) ∧ NumsAt w g 2 (P.drop 2) := by
 have hl := hown.1
 rcases hown.2 with ⟨_, h0⟩ | ⟨g, cap, cur, rfl, hg, hh, hn, hm, h5, h6⟩
 · omega
 · have hc : ∀ j, j < k → w.cell? ⟨g, j, none⟩ = some (.int .i64 (P[j]?.getD 0)) := by
    intro j hj
    rw [Whole.cell (w := w) (g := g) (t := 2) (cs := cur) hh]
    have : (cur.toList.take (k * 1))[j]? = (P.map (Value.int .i64))[j]? := by rw [h6]
    rw [List.getElem?_take_of_lt (by omega), Array.getElem?_toList] at this
    rw [this]
    simp [List.getElem?_eq_getElem (show j < P.length by omega)]
   refine ⟨g, cap, rfl, hg, (Array.getElem?_eq_some_iff.1 hh).1, hn, hc 0 (by omega), hc 1 (by omega), (Array.getElem?_eq_some_iff.1 hh).1, by rw [List.length_drop]; unfold maxLen at hm; omega, fun i hi => ?_⟩
   rw [List.length_drop] at hi
   rw [hc (2 + i) (by omega), List.getElem?_drop]
end Go.Proofs.YtnkgakhnlbifdaaGreat
namespace Go.Proofs.YtnkgakhnlbifdaaGreat
open Go.RowKit
def TookN (w : World) (x : Option (List Nat × List Int)) (e : Ending) (w' : World) : Prop :=
 (∃ ns rest A C B D, x = some (ns, rest) ∧ e = .returned (.tuple #[.slice A ns.length C, .slice B rest.length D, .bool true]) ∧ Nums w' (.slice A ns.length C) (ns.map fun v : Nat => (v : Int)) ∧ Bytes w' (.slice B rest.length D) rest ∧ rest.length ≤ D ∧ Below w.heap.size w w') ∨
 (x = none ∧ e = .returned (.tuple #[.slice none 0 0, .slice none 0 0, .bool false]) ∧ Below w.heap.size w w')
def TookNF (w : World) (x : Option (List Nat × List Int)) (e : Ending) (w' : World) : Prop :=
 (∃ ns rest A C B D, x = some (ns, rest) ∧ e = .returned (.tuple #[.slice A ns.length C, .slice B rest.length D, .bool true]) ∧ Nums w' (.slice A ns.length C) (ns.map fun v : Nat => (v : Int)) ∧ Bytes w' (.slice B rest.length D) rest ∧ rest.length ≤ D ∧ Below w.heap.size w w' ∧ ∀ ad, A = some ad → w.heap.size ≤ ad.block) ∨
 (x = none ∧ e = .returned (.tuple #[.slice none 0 0, .slice none 0 0, .bool false]) ∧ Below w.heap.size w w')
theorem TookNF.took {w w' : World} {x : Option (List Nat × List Int)} {e : Ending} (h : TookNF w x e w') : TookN w x e w' := by
 rcases h with ⟨ns, rest, A, C, B, D, h1, h2, h3, h4, h5, h6, _⟩ | h
 · exact Or.inl ⟨ns, rest, A, C, B, D, h1, h2, h3, h4, h5, h6⟩
 · exact Or.inr h
attribute [local go_sem ↓] run_fine
end Go.Proofs.YtnkgakhnlbifdaaGreat
namespace Go.Proofs.YtnkgakhnlbifdaaGreat
open Go.RowKit
theorem flat_count {N i k : Nat} {L : List Rw} {P : List Int} (hL : L.length = i) (hR : Rowed N L) (hP : P.length = k) (hi : i < N) (hk : k < N + 2) : ((flatR L ++ P).map u64n).length < N * (N + 2) := by
 rw [List.length_map, List.length_append, flatR_len hR, hL, hP]
 have := Nat.mul_le_mul_right (N + 2) (show i + 1 ≤ N by omega)
 rw [Nat.succ_mul] at this
 omega
theorem zs_flat {zs cur : List Int} {L : List Rw} {P : List Int} (h : zs = booksB L ++ (bytesN (P.map u64n) ++ cur)) : zs = bytesN ((flatR L ++ P).map u64n) ++ cur := by
 rw [h, List.map_append, bytesN_append, List.append_assoc]; rfl
theorem zs_more {zs cur rest : List Int} {L : List Rw} {P : List Int} {v : Nat} (h : zs = booksB L ++ (bytesN (P.map u64n) ++ cur)) (hb : PackMath.Begins cur v rest) : zs = booksB L ++ (bytesN ((P ++ [(v : Int)]).map u64n) ++ rest) := by
 rw [h, List.map_append, bytesN_append, List.map_singleton, bytesN_one, u64n_nat hb.1, hb.2, List.append_assoc]
theorem zs_row {zs cur : List Int} {L : List Rw} {P : List Int} (h : zs = booksB L ++ (bytesN (P.map u64n) ++ cur)) {r : Rw} (hr : rowN r = P) : zs = booksB (L ++ [r]) ++ cur := by
 rw [h, booksB_append, List.append_assoc]
 congr 2
 unfold booksB
 rw [flatR_one, hr]
theorem rowN_of {P : List Int} {N : Nat} (h : P.length = N + 2) : rowN ⟨P[0]?.getD 0, P[1]?.getD 0, P.drop 2⟩ = P := by
 match P, h with
 | x :: y :: r, _ => simp [rowN]
end Go.Proofs.YtnkgakhnlbifdaaGreat
