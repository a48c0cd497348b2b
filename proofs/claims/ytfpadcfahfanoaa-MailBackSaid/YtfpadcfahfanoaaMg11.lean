/- Merged texts: PackWords, PackTakeWords, PackPut. No law is proved here. -/
import Derived.Test.YtfpadcfahfanoaaMg10
import Derived.Test.YtfpadcfahfanoaaMg8
import Derived.WalkKit
import Derived.WalkSpells
import Derived.WalkLawsBesides
import Derived.Laws.BitsAllLaws
import Derived.Lib.Hide
import Derived.Deep.QuietTactic
import Derived.BigQuiet
/- Rows of bytes that a call makes: what comes back; a text's bytes. No function of the program in it. No law is proved here. -/
namespace Go.Proofs.Ytfpadcfahfanoaa
open Go.RowKit

theorem info_u8 : (Try.prog.info? 5).map (fun i => (i.zero, i.size, i.bytes)) = some (some (.int .u8 0), 1, 1) := by kernel_rfl
theorem elem_bytes : Try.prog.underlying 24 = some (.slice (Try.prog.elem 24)) := by kernel_rfl
theorem size_bytes (w : World) : (sizeOf (Try.prog.elem 24)).run Try.prog w = .ok 1 w := by kernel_rfl

/-- A slice without its spare room. -/
theorem piece_full {W : World} {a : Option Addr} {n c : Nat} {zs : List Int} (hB : Bytes W (.slice a n c) zs) (hn : n = zs.length) (hnc : n ≤ c) :
    ∃ a', (∀ w, (Instr.slice 24 (.slice a n c) none (some (.int .i64 (n : Int))) (some (.int .i64 (n : Int)))).run Try.prog w = .ok (.slice a' n n) w) ∧ Bytes W (.slice a' n n) zs := by
  refine ⟨if n = 0 then a else a.map (·.add 0), fun w => ?_, ?_⟩
  · rw [run_slice_hm w 24 a n c elem_bytes .i64 .i64 n n (by omega) (by omega) (by omega), size_bytes]
    simp [Result.andThen, sliced]
  · obtain ⟨h1, h2, ⟨a0, c0, h3, h4, rfl⟩ | ⟨b, off, c0, h3, h4⟩⟩ := hB
    · simp only [Value.slice.injEq] at h3
      obtain ⟨rfl, rfl, rfl⟩ := h3
      exact bytes_nil _ _ _ (fun h => rfl)
    · simp only [Value.slice.injEq] at h3
      obtain ⟨rfl, rfl, rfl⟩ := h3
      refine ⟨h1, h2, ?_⟩
      by_cases h0 : zs.length = 0
      · obtain rfl : zs = [] := List.eq_nil_of_length_eq_zero h0
        exact Or.inl ⟨_, 0, rfl, fun _ => rfl, rfl⟩
      · refine Or.inr ⟨b, off, zs.length, ?_, h4⟩
        simp [h0, Addr.add]

theorem or128 (r : Nat) : bits .or .u8 ((r : Int) % 256) 128 = ((r % 128 + 128 : Nat) : Int) := by
  rw [show (r : Int) % 256 = ((r % 256 : Nat) : Int) by omega]
  have e := u8_or_nat (r % 256) 128 (by omega) (by decide)
  rw [show ((128 : Nat) : Int) = 128 from rfl] at e
  rw [e]
  congr 1
  have h : ∀ y : Fin 256, y.val ||| 128 = y.val % 128 + 128 := by decide +kernel
  have := h ⟨r % 256, by omega⟩
  simp only at this
  rw [this]
  omega

/-- What comes back: these bytes, in a row of the call's own. -/
def Made (w : World) (zs : List Int) (e : Ending) (w' : World) : Prop := ∃ v, e = .returned v ∧ Below w.heap.size w w' ∧ Fresh w.heap.size 5 w' v zs

theorem fresh_empty (w : World) : Fresh w.heap.size 5 (w.alloc (.cells #[] 5)) (.slice (some ⟨w.heap.size, 0, none⟩) 0 0) [] :=
  ⟨World.ownsRow_made w #[] 0 (Nat.le_refl _) (by decide) rfl, by simp, fun _ h => by cases h⟩

/-- A text's bytes. -/
def textBytes (s : ByteArray) : List Int := PackMath.num s.size ++ nums s

theorem Fresh.args {B : Nat} {e : TypeId} {w : World} {v : Value} {zs : List Int} (h : Fresh B e w v zs) : ∃ a n c, v = .slice a n c ∧ n = zs.length ∧ n ≤ c := by
  obtain ⟨g, cap, rfl, _, _, h, _⟩ := h.form
  exact ⟨_, _, _, rfl, rfl, h⟩
theorem piece_upto {a : Option Addr} {n c hi : Nat} {zs : List Int} (hn : n = zs.length) (h2 : hi ≤ n) (h3 : n ≤ c) :
    ∃ v, (∀ w, (Instr.slice 24 (.slice a n c) none (some (.int .i64 (hi : Int))) none).run Try.prog w = .ok v w) ∧ (∀ W, Bytes W (.slice a n c) zs → Bytes W v (zs.take hi)) ∧ ∃ a' c', v = .slice a' hi c' ∧ hi ≤ c' := by
  refine ⟨sliced a 0 hi c 1, fun w => ?_, fun W hB => ?_, _, _, rfl, by omega⟩
  · rw [run_slice_h w 24 a n c elem_bytes .i64 hi (by omega) (by omega), size_bytes]
    simp [Result.andThen]
  · have := bytes_sliced hB hn (Nat.zero_le hi) h2 h3
    rwa [List.drop_zero] at this
theorem sliced_block {a : Option Addr} {lo hi c : Nat} {a' : Option Addr} {n c' : Nat} (h : sliced a lo hi c 1 = .slice a' n c') {b : Nat} (hb : a'.map (·.block) = some b) : a.map (·.block) = some b := by
  unfold sliced at h
  simp only [Value.slice.injEq] at h
  rw [← h.1] at hb
  cases a with
  | none => simp at hb
  | some x =>
    split at hb
    · exact hb
    · have e : ∀ k, (x.add k).block = x.block := fun k => by
        unfold Addr.add
        split <;> rfl
      simpa [e] using hb
end Go.Proofs.Ytfpadcfahfanoaa

/- What the walks of both Takes say of the bytes read so far. No function of the program in it. No law is proved here. -/
namespace Go.Proofs.Ytfpadcfahfanoaa
open Go.RowKit

theorem bytes_cap {W : World} {a : Option Addr} {n c : Nat} {zs : List Int} (hB : Bytes W (.slice a n c) zs) : Bytes W (.slice a n n) zs := by
  obtain ⟨h1, h2, ⟨a0, c0, h3, h4, rfl⟩ | ⟨b, off, c0, h3, h4⟩⟩ := hB
  · simp only [Value.slice.injEq] at h3
    obtain ⟨rfl, rfl, rfl⟩ := h3
    exact bytes_nil _ _ _ (fun _ => rfl)
  · simp only [Value.slice.injEq] at h3
    obtain ⟨rfl, rfl, rfl⟩ := h3
    exact ⟨h1, h2, Or.inr ⟨b, off, zs.length, rfl, h4⟩⟩

/-- a piece: from lo on, with no room behind -/
theorem piece_after {a : Option Addr} {n c lo : Nat} {zs : List Int} (hn : n = zs.length) (h1 : lo ≤ n) (h3 : n ≤ c) :
    ∃ v, (∀ w, (Instr.slice 24 (.slice a n c) (some (.int .i64 (lo : Int))) (some (.int .i64 (n : Int))) (some (.int .i64 (n : Int)))).run Try.prog w = .ok v w) ∧ (∀ W', Bytes W' (.slice a n c) zs → Bytes W' v (zs.drop lo)) ∧ ∃ a', v = .slice a' (n - lo) (n - lo) := by
  have hrun : ∀ w, (Instr.slice 24 (.slice a n c) (some (.int .i64 (lo : Int))) (some (.int .i64 (n : Int))) (some (.int .i64 (n : Int)))).run Try.prog w = .ok (sliced a lo n n 1) w := fun w => by
    rw [run_slice_lhm w 24 a n c elem_bytes .i64 .i64 .i64 lo n n (by omega) (by omega) (by omega) (by omega), size_bytes]
    simp [Result.andThen]
  refine ⟨_, hrun, fun W' hB' => ?_, _, rfl⟩
  have := bytes_sliced (bytes_cap hB') hn h1 (Nat.le_refl n) (Nat.le_refl n)
  rwa [hn, List.take_length, ← hn] at this

theorem or_shift (m k d : Nat) (hm : m < 128 ^ k) (h : m + 128 ^ k * d < 18446744073709551616) : bits .or .u64 (m : Int) (IntKind.u64.wrap ((d : Int) * 2 ^ (7 * k))) = ((m + 128 ^ k * d : Nat) : Int) := by
  have e : (d : Int) * 2 ^ (7 * k) = ((128 ^ k * d : Nat) : Int) := by
    rw [PackMath.pow7, Int.natCast_mul, Int.natCast_pow, Int.mul_comm]; rfl
  rw [e, IntKind.wrap_u64, Int.emod_eq_of_lt (by omega) (by omega), u64_or_nat _ _ (by omega) (by omega), PackMath.or_add m k d hm]

theorem getD_mid (p q : List Int) (y : Int) : (p ++ y :: q).getD p.length 0 = y := by
  simp [List.getD_eq_getElem?_getD]

/-- what the loop of Take has read -/
def Going (zs rest : List Int) (x k m r : Nat) : Prop := ∃ p, p.length = k ∧ zs = p ++ PackMath.num r ++ rest ∧ x = m + 128 ^ k * r ∧ PackMath.Read p m ∧ (k = 0 ∨ 0 < r)

theorem Going.nine {zs rest : List Int} {x k m r : Nat} (h : Going zs rest x k m r) (hx : x < 18446744073709551616) (hk : k = 9) : r ≤ 1 := by
  obtain ⟨p, _, _, h3, _, _⟩ := h
  rw [hk, PackMath.pow9] at h3
  omega
theorem Going.more {zs rest : List Int} {x k m r : Nat} (h : Going zs rest x k m r) (hr : 128 ≤ r) :
    zs.getD k 0 = ((r % 128 + 128 : Nat) : Int) ∧ k + 1 < zs.length ∧ Going zs rest x (k + 1) (m + 128 ^ k * (r % 128)) (r / 128) := by
  obtain ⟨p, h1, h2, h3, h4, h5⟩ := h
  rw [PackMath.num_ge hr] at h2
  refine ⟨?_, ?_, p ++ [((r % 128 + 128 : Nat) : Int)], by simp [h1], by rw [h2]; simp, ?_, ?_, Or.inr (by omega)⟩
  · rw [h2, ← h1, List.append_assoc, List.cons_append, getD_mid]
  · have := PackMath.num_pos (r / 128)
    rw [h2]
    simp only [List.length_append, List.length_cons]
    omega
  · rw [h3, Nat.pow_succ, Nat.mul_assoc, Nat.add_assoc, ← Nat.mul_add]
    congr 2
    omega
  · rw [← h1]; exact h4.more (by omega)
theorem Going.last {zs rest : List Int} {x k m r : Nat} (h : Going zs rest x k m r) (hr : r < 128) :
    zs.getD k 0 = (r : Int) ∧ m < 128 ^ k ∧ x = m + 128 ^ k * r ∧ (PackMath.num x).length = k + 1 := by
  obtain ⟨p, h1, h2, h3, h4, h5⟩ := h
  refine ⟨?_, by rw [← h1]; exact h4.1, h3, ?_⟩
  · rw [h2, PackMath.num_lt hr, ← h1, List.append_assoc, List.singleton_append, getD_mid]
  · rw [h3, ← h1, h4.last hr (by rcases h5 with h5 | h5; · left; exact List.eq_nil_of_length_eq_zero (by omega)
                                 · right; exact h5)]
    simp
theorem Going.fits {zs rest : List Int} {x k m r : Nat} (h : Going zs rest x k m r) : m + 128 ^ k * (r % 128) ≤ x := by
  obtain ⟨p, _, _, h3, _, _⟩ := h
  have : 128 ^ k * (r % 128) ≤ 128 ^ k * r := Nat.mul_le_mul_left _ (by omega)
  omega
theorem Going.low {zs rest : List Int} {x k m r : Nat} (h : Going zs rest x k m r) : m < 128 ^ k := by
  obtain ⟨p, h1, _, _, h4, _⟩ := h
  rw [← h1]; exact h4.1
theorem Going.zero {zs rest : List Int} {x k m r : Nat} (h : Going zs rest x k m r) : k = 0 ∨ 0 < r := h.choose_spec.2.2.2.2

/-- what the loop of Take has read where no number comes of it -/
def Vain (zs : List Int) (k m : Nat) : Prop := PackMath.Read (zs.take k) m ∧ k ≤ zs.length ∧ k ≤ 9

theorem Vain.at_ {zs : List Int} {k m : Nat} (h : Vain zs k m) (hb : PackMath.Bare zs) (hk : k < zs.length) (hs : ∀ c ∈ zs, 0 ≤ c ∧ c < 256) :
    ∃ c : Nat, zs.getD k 0 = (c : Int) ∧ c < 256 ∧ (c < 128 → (k = 9 ∧ 1 < c) ∨ (0 < k ∧ c = 0)) ∧ (k < 9 → 128 ≤ c → Vain zs (k + 1) (m + 128 ^ k * (c - 128))) := by
  have he : zs.getD k 0 = zs[k] := by simp [List.getD_eq_getElem?_getD, List.getElem?_eq_getElem hk]
  obtain ⟨h0, h1⟩ := hs zs[k] (List.getElem_mem hk)
  obtain ⟨c, hc⟩ := Int.eq_ofNat_of_zero_le h0
  have hlen : (zs.take k).length = k := by simp; omega
  have htk : zs.take (k + 1) = zs.take k ++ [(c : Int)] := by
    rw [List.take_succ_eq_append_getElem hk, hc]
  refine ⟨c, by rw [he, hc], by omega, fun hlt => ?_, fun hk9 hge => ?_⟩
  · by_cases h9 : k = 9 ∧ 1 < c
    · exact Or.inl h9
    · by_cases hk0 : 0 < k ∧ c = 0
      · exact Or.inr hk0
      · exfalso
        have hl := h.1.lt64 (d := c) (by rw [hlen]; exact h.2.2) hlt (by rw [hlen]; omega)
        have hn := h.1.last (d := c) hlt (by
          rcases Nat.eq_zero_or_pos k with h' | h'
          · left; rw [h']; rfl
          · right; omega)
        refine hb _ (zs.drop (k + 1)) hl ?_
        rw [hn, ← htk, List.take_append_drop]
  · refine ⟨?_, by omega, by omega⟩
    have := h.1.more (d := c - 128) (by omega)
    rw [hlen] at this
    rw [htk]
    rwa [show c - 128 + 128 = c by omega] at this
theorem Vain.start (zs : List Int) : Vain zs 0 0 := ⟨PackMath.read_nil, Nat.zero_le _, Nat.zero_le _⟩
theorem Vain.fits {zs : List Int} {k m c : Nat} (h : Vain zs k m) (hk : k < 9) (hc : c < 128) : m < 128 ^ k ∧ m + 128 ^ k * c < 18446744073709551616 := by
  have hlen : (zs.take k).length = k := by have := h.2.1; simp; omega
  have hm := h.1.1
  rw [hlen] at hm
  have hp := PackMath.pow_le9 (k := k) (by omega)
  have h2 : 128 ^ k * (c + 1) ≤ 128 ^ k * 128 := Nat.mul_le_mul_left _ (by omega)
  rw [Nat.mul_add] at h2
  exact ⟨hm, by omega⟩

theorem piece_head {W : World} {a : Option Addr} {n c hi : Nat} {zs : List Int} (hB : Bytes W (.slice a n c) zs) (hn : n = zs.length) (h2 : hi ≤ n) (h3 : n ≤ c) :
    ∃ v, (∀ w, (Instr.slice 24 (.slice a n c) none (some (.int .i64 (hi : Int))) none).run Try.prog w = .ok v w) ∧ Bytes W v (zs.take hi) := by
  refine ⟨sliced a 0 hi c 1, fun w => ?_, ?_⟩
  · rw [run_slice_h w 24 a n c elem_bytes .i64 hi (by omega) (by omega), size_bytes]
    simp [Result.andThen]
  · have := bytes_sliced hB hn (Nat.zero_le hi) h2 h3
    rwa [List.drop_zero] at this

/-- No text stands at the head. -/
def NoText (zs : List Int) : Prop := PackMath.Bare zs ∨ ∃ x r, PackMath.Begins zs x r ∧ r.length < x
end Go.Proofs.Ytfpadcfahfanoaa

/- Package pack: Put. No law is proved here. -/
namespace Go.Proofs.Ytfpadcfahfanoaa
open Go.RowKit

set_option maxRecDepth 100000 in
set_option maxHeartbeats 400000 in
theorem put_calls (a : Option Addr) (n c : Nat) (zs : List Int) (x : Nat) (hx : x < 18446744073709551616) (w : World) (hB : Bytes w (.slice a n c) zs) (hn : n = zs.length) (hnc : n ≤ c) (h47 : n ≤ 140737488355000) :
    Calls Try.prog 24 #[.slice a n c, .int .u64 x] w (Made w (zs ++ PackMath.num x)) := by
  obtain ⟨i5, hi, hz0, hz1, hz2⟩ := info_parts info_u8
  have Hi := Lib.hid hi; clear hi
  have Hz0 := Lib.hid hz0; clear hz0
  have Hz1 := Lib.hid hz1; clear hz1
  have Hz2 := Lib.hid hz2; clear hz2
  have hbig := hB.1
  obtain ⟨a', hsl, hB'⟩ := piece_full hB hn hnc
  have HB := Lib.hid hB'; clear hB' hB
  rw [← hn] at hbig
  have Hn := Lib.hid hn; clear hn
  have Hx := Lib.hid (PackMath.num_len_64 x hx)
  have HX := Lib.hid hx; clear hx
  go_enter Try.func24, Try.ntmps24
  go_wp2_with fail
  clear hsl
  go_loopw [0, 1] (fun v i wr => ∃ (p : List Int) (r : Nat), i = .int .u64 r ∧ Hid (r < 18446744073709551616) ∧ Hid (PackMath.num x = p ++ PackMath.num r) ∧ Hid (Tail w.heap.size 5 wr v (zs ++ p)) ∧ Hid (Below w.heap.size w wr)) (fun _ i _ => (intOf i).toNat)
  case atStart => exact ⟨[], x, rfl, HX, rfl, by rw [List.append_nil]; exact Or.inl ⟨a', by rw [← Hn.out], HB.out⟩, Below.refl _ _⟩
  case round =>
    obtain ⟨p, r, rfl, Hr, Hp, HT, Hb⟩ := hrel
    by_cases hge : 128 ≤ r
    · have ho := or128 r
      have hge' : ¬ r < 128 := by omega
      have hlz := congrArg List.length Hp.out
      rw [List.length_append] at hlz
      have hlx := Hx.out
      have hlr := PackMath.num_pos r
      have hlen : (zs ++ p).length + 1 ≤ 140737488355328 := by rw [List.length_append, ← Hn.out]; omega
      have HL := Lib.hid hlen; clear hlen hlz hlx hlr
      go_wp2_with (at_builtin; refine wpList_append_byte rfl (.tmp 13) (.tmp 17) 24 rfl w.heap.size 5 i5 Try.underlying24 Hi.out Hz0.out Hz1.out Hz2.out _ _ rfl (HT.out.alloc _) ((r : Int) % 128 + 128) (by omega) ⟨wr.heap.size, 0, none⟩ 1 rfl (cell_new _ _ _ _ _ _ rfl) HL.out (by have := Hb.out.size; simp; omega) ?_; intro v' w' hF hB2; have HF := Lib.hid hF; have HB2 := Lib.hid hB2; clear hF hB2)
      go_roundw
      case rel =>
        refine ⟨p ++ [((r % 128 + 128 : Nat) : Int)], r / 128, congrArg (Value.int IntKind.u64) (by omega), ?_, ?_, ?_, ?_⟩
        · show _ < _
          have := Hr.out
          omega
        · show _ = _
          rw [Hp.out, PackMath.num_ge hge]; simp
        · have := HF.out
          rw [List.append_assoc] at this
          exact Or.inr (by simpa using this)
        · exact Hb.out.trans (((Below.refl _ _).alloc Hb.out.size _).trans HB2.out)
      case measure => simp [intOf]; omega
    · have hlt : r < 128 := by omega
      have hlz := congrArg List.length Hp.out
      rw [List.length_append] at hlz
      have hlx := Hx.out
      have hlr := PackMath.num_pos r
      have hlen : (zs ++ p).length + 1 ≤ 140737488355328 := by rw [List.length_append, ← Hn.out]; omega
      have HL := Lib.hid hlen; clear hlen hlz hlx hlr hge
      go_wp2_with (at_builtin; refine wpList_append_byte rfl (.tmp 21) (.tmp 24) 24 rfl w.heap.size 5 i5 Try.underlying24 Hi.out Hz0.out Hz1.out Hz2.out _ _ rfl (HT.out.alloc _) (r : Int) (by omega) ⟨wr.heap.size, 0, none⟩ 1 rfl (cell_new _ _ _ _ _ _ rfl) HL.out (by have := Hb.out.size; simp; omega) ?_; intro v' w' hF hB2; have HF := Lib.hid hF; have HB2 := Lib.hid hB2; clear hF hB2)
      go_ret
      refine ⟨v', rfl, Hb.out.trans (((Below.refl _ _).alloc Hb.out.size _).trans HB2.out), ?_⟩
      rw [Hp.out, PackMath.num_lt hlt, ← List.append_assoc]
      exact HF.out

end Go.Proofs.Ytfpadcfahfanoaa
