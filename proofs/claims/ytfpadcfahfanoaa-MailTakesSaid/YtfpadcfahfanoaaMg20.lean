/- Merged texts: OwnBytes, BytesClone, RefPaintPut, RightsCfg. No law is proved here. -/
import Derived.Test.YtfpadcfahfanoaaMg13
import Derived.Test.YtfpadcfahfanoaaMg11
import Derived.WalkKit
import Derived.ProofKit
import Derived.OpenShut
import Derived.WalkSpells
import Derived.Laws.AppendOwn
import Derived.Laws.AppendOwnNone
import Derived.Laws.OwnMore
import Derived.Lib.Hide
import Derived.Deep.Draws
import Derived.Deep.Slices
import Derived.Deep.Fields
import Derived.ChangeSame
import Derived.RegionTactic
import Derived.Maps.AppendAt
import Derived.Lib.SmallJoins
import Derived.RangeFuncNested
import Derived.RangeFuncBound
import Derived.RangeFuncLeaves
import Derived.RangeFuncBox
import Derived.Laws.MakeOwn
import Derived.LoopTactic
import Derived.BigRegion
import Derived.Laws.Cover3
import Derived.Test.YtfpadcfahfanoaaMg8
import Derived.Test.YtfpadcfahfanoaaMg14
import Derived.Deep.LoopGhost
import Derived.Test.YtfpadcfahfanoaaMg0
import Derived.WalkLawsBesides
import Derived.IntWalk
import Derived.WalkSmall
import Derived.Deep.QuietTactic
import Derived.BigQuiet
import Derived.Deep.RegionHeld3
/- Bytes of the call's own, nil and all; one append more. No function of the program in it. No law is proved here. -/
namespace Go.Proofs.Ytfpadcfahfanoaa
open Go.RowKit

/-- bytes of the call's own, or none -/
def OwnB (base : Nat) (w : World) (v : Value) (zs : List Int) : Prop := w.ownsRow base 5 1 v zs.length (zs.map (Value.int .u8)) ∧ ∀ x ∈ zs, 0 ≤ x ∧ x < 256
theorem ownB_nil (base : Nat) (w : World) : OwnB base w (.slice none 0 0) [] := ⟨World.ownsRow_nil _ _ _ _, fun _ h => by cases h⟩
theorem OwnB.later {base : Nat} {w w' : World} {v : Value} {zs : List Int} (h : OwnB base w v zs) (hb : Below w.heap.size w w') : OwnB base w' v zs := ⟨own_later h.1 hb, h.2⟩
theorem Fresh.ownB {base : Nat} {w : World} {v : Value} {zs : List Int} (h : Fresh base 5 w v zs) : OwnB base w v zs := ⟨h.1, h.2.2⟩
theorem OwnB.form {base : Nat} {w : World} {v : Value} {zs : List Int} (h : OwnB base w v zs) (hl : zs.length ≤ 9223372036854775807) : ∃ A C, v = .slice A zs.length C ∧ zs.length ≤ C ∧ Bytes w (.slice A zs.length C) zs := by
  have h1 := h.1
  rcases h1.2 with ⟨rfl, h0⟩ | ⟨g, cap, cur, rfl, hg, hh, hn, hm, h5, h6⟩
  · obtain rfl : zs = [] := List.eq_nil_of_length_eq_zero h0
    exact ⟨none, 0, rfl, Nat.le_refl _, bytes_nil _ _ _ (fun _ => rfl)⟩
  · obtain ⟨_, _, _, _, _, _, hb⟩ := bytes_of_own h1 (by simp) hl h.2
    exact ⟨_, cap, rfl, hn, hb⟩
theorem own_flat (zs ys : List Int) : zs.map (Value.int .u8) = flatCells 1 zs.length (fun i _ => .int .u8 ((zs ++ ys)[i]?.getD 0)) := by
  rw [flat_bytes]
  unfold flatCells
  rw [List.flatMap_def, List.flatMap_def]
  congr 1
  apply List.map_congr_left
  intro i hi
  have := List.mem_range.1 hi
  simp [List.getElem?_append_left this]
set_option maxRecDepth 100000 in
/-- BYTES APPENDED, as it runs -/
theorem run_append_own {w : World} {base : Nat} {v : Value} {zs : List Int} (hF : OwnB base w v zs) (hbase : base ≤ w.heap.size) {a : Option Addr} {n c : Nat} {ys : List Int} (hB : Bytes w (.slice a n c) ys) (hn : n = ys.length) (hnc : n ≤ c)
    (hroom : zs.length + ys.length ≤ 140737488355300) :
    ∃ v' w', (Builtin.append_ #[24, 24] 24 #[v, .slice a n c]).run Try.prog w = .ok v' w' ∧ OwnB base w' v' (zs ++ ys) ∧ Below base w w' ∧ Grew w w' v v' := by
  obtain ⟨i5, hi, hz0, hz1, hz2⟩ := info_parts info_u8
  subst hn
  obtain ⟨v', w', hrun, q1, q2, q3⟩ := run_append_elems (P := Try.prog) (w := w) 24 24 base 5 i5 _ 1 1 Try.underlying24 hi hz0 hz1 hz2 rfl (by decide)
    v zs.length (fun i _ => .int .u8 ((zs ++ ys)[i]?.getD 0)) (by rw [← own_flat]; exact hF.1) a ys.length c (fun i _ => .int .u8 (ys[i]?.getD 0)) (elems_of_bytes hB rfl hnc) (fun _ _ _ _ => rfl) (by unfold maxLen; omega) (by omega) hbase
  refine ⟨v', w', hrun, ⟨?_, ?_⟩, q2, q3⟩
  · have e2 : flatCells 1 (zs.length + ys.length) (fun i j => if i < zs.length then (fun i (_ : Nat) => Value.int .u8 ((zs ++ ys)[i]?.getD 0)) i j else (fun i (_ : Nat) => Value.int .u8 (ys[i]?.getD 0)) (i - zs.length) j) = flatCells 1 (zs.length + ys.length) (fun i _ => Value.int .u8 ((zs ++ ys)[i]?.getD 0)) := by
      congr 1
      funext i j
      by_cases h : i < zs.length
      · simp [h]
      · simp [h, List.getElem?_append_right (show zs.length ≤ i by omega)]
    rw [e2] at q1
    rw [flat_bytes, List.length_append]
    exact q1
  · intro x hx
    rcases List.mem_append.1 hx with h | h
    · exact hF.2 x h
    · exact hB.2.1 x h
end Go.Proofs.Ytfpadcfahfanoaa

/- slices.Clone of bytes. No law is proved here. -/
namespace Go.Proofs.Ytfpadcfahfanoaa
open Go.RowKit

attribute [local go_sem ↓] run_fine
/-- these bytes, of the call's own -/
def ClonedB (w : World) (zs : List Int) (e : Ending) (w' : World) : Prop := ∃ v, e = .returned v ∧ OwnB w.heap.size w' v zs ∧ Below w.heap.size w w'
set_option maxRecDepth 100000 in
set_option maxHeartbeats 4000000 in
theorem cloneb_calls (a : Option Addr) (n c : Nat) (zs : List Int) (w : World) (hB : Bytes w (.slice a n c) zs) (hn : n = zs.length) (hnc : n ≤ c) (hroom : zs.length ≤ 140737488355000) :
    Calls Try.prog 45 #[.slice a n c] w (ClonedB w zs) := by
  cases a with
  | none =>
    have hz : zs = [] ∧ n = 0 ∧ c = 0 := by
      obtain ⟨_, _, ⟨a0, c0, h3, h4, h5⟩ | ⟨b, off, c0, h3, h4⟩⟩ := hB
      · simp only [Value.slice.injEq] at h3
        obtain ⟨rfl, h, rfl⟩ := h3
        exact ⟨h5, h, h4 rfl⟩
      · simp at h3
    obtain ⟨rfl, rfl, rfl⟩ := hz
    clear hB hn hnc hroom
    go_enter Try.func45, Try.ntmps45
    have heq : ∀ w : World, (binOp .eql 24 (.slice none 0 0) (.slice none 0 0)).run Try.prog w = .ok (.bool true) w := by
      intro w
      simp only [binOp]
      simp [run_equal_slice_nil w 24 5 none 0 0 Try.underlying24]
    go_wp2
    go_ret
    exact ⟨_, rfl, ownB_nil _ _, Below.refl _ _⟩
  | some ad =>
    have hb1 : Below w.heap.size w (w.alloc (.cells #[] 5)) := below_box w _
    obtain ⟨v1, w1, hrun1, q1, q2, _⟩ := run_append_own (w := w.alloc (.cells #[] 5)) (fresh_empty w).ownB hb1.size (hB.later hb1) hn hnc (by simp; omega)
    obtain ⟨hf1, hv1, hw1⟩ := fine_of hrun1
    rw [List.nil_append] at q1
    have Q1 := Lib.hid q1
    have Hb := Lib.hid (hb1.trans q2)
    clear hrun1 q1 q2 hb1 hB hn hnc hroom
    go_enter Try.func45, Try.ntmps45
    have heq : ∀ w : World, (binOp .eql 24 (.slice (some ad) n c) (.slice none 0 0)).run Try.prog w = .ok (.bool false) w := by
      intro w
      simp only [binOp]
      simp [run_equal_slice_nil w 24 5 (some ad) n c Try.underlying24]
    go_wp2
    go_ret
    exact ⟨v1, rfl, Q1.out, Hb.out⟩
end Go.Proofs.Ytfpadcfahfanoaa

/- The document's own Put of layer 6: books as bytes. No law is proved here. -/
namespace Go.Proofs.Ytfpadcfahfanoaa
open Go.RowKit

theorem take_flat {l : List Rw} {i : Nat} (h : i < l.length) : flatR (l.take (i + 1)) = flatR (l.take i) ++ rowN (at_ l i) := by rw [take_at h, flatR_append, flatR_one]
theorem flat_room {l : List Rw} {i : Nat} (h : i < l.length) : (flatR (l.take i)).length + 2 + (at_ l i).out.length ≤ (flatR l).length := by
  have h1 : flatR l = flatR (l.take (i + 1)) ++ flatR (l.drop (i + 1)) := by rw [← flatR_append, List.take_append_drop]
  rw [h1, take_flat h, List.length_append, List.length_append]
  simp [rowN]; omega
/-- the bytes of one number more -/
theorem bytes_more (zs : List Int) (P : List Int) (x : Int) : (zs ++ bytesN (P.map u64n)) ++ PackMath.num (u64n x) = zs ++ bytesN ((P ++ [x]).map u64n) := by
  rw [List.map_append, bytesN_append, List.map_singleton, bytesN_one, List.append_assoc]
theorem bytes_room (zs P : List Int) : (zs ++ bytesN (P.map u64n)).length ≤ zs.length + 10 * P.length := by
  have := bytesN_len (P := P.map u64n) (fun v hv => by
    obtain ⟨x, _, rfl⟩ := List.mem_map.1 hv
    exact u64n_lt x)
  rw [List.length_map] at this
  rw [List.length_append]; omega
theorem wrap_u64n (x : Int) : IntKind.u64.wrap x = ((u64n x : Nat) : Int) := by rw [IntKind.wrap_u64]; unfold u64n; omega

/-- numbers so far, behind these bytes -/
def Painted (w : World) (wr : World) (v : Value) (zs P : List Int) : Prop := Fresh w.heap.size 5 wr v (zs ++ bytesN (P.map u64n)) ∧ Below w.heap.size w wr

theorem refmore (w wr : World) (v : Value) (zs P : List Int) (x : Int) (h : Painted w wr v zs P) (hr : zs.length + 10 * P.length ≤ 140737488355000) :
    Calls Try.prog 47 #[v, .int .u64 ((u64n x : Nat) : Int)] wr (fun e w' => ∃ v', e = .returned v' ∧ Painted w w' v' zs (P ++ [x])) := by
  obtain ⟨h1, h2⟩ := h
  obtain ⟨a, n, c, rfl, hn, hnc⟩ := h1.args
  refine (refput_calls a n c _ (u64n x) (u64n_lt x) wr h1.bytes hn hnc (by have := bytes_room zs P; omega)).mono ?_
  rintro e w' ⟨v', rfl, hb, hf⟩
  exact ⟨v', rfl, by rw [← bytes_more]; exact hf.mono h2.size, h2.trans (hb.mono h2.size)⟩

set_option maxRecDepth 100000 in
set_option maxHeartbeats 8000000 in
theorem refpaint_calls (a : Option Addr) (n c : Nat) (zs : List Int) (b : Option Addr) (m d : Nat) (l : List Rw) (w : World) (hA : Bytes w (.slice a n c) zs) (hn : n = zs.length) (hm : m = l.length) (hB : Books w (.slice b m d) l)
    (hroom : zs.length + 10 * (flatR l).length ≤ 140737488355000) :
    Calls Try.prog 28 #[.slice a n c, .slice b m d] w (Made w (zs ++ booksB l)) := by
  have HA := Lib.hid hA; clear hA
  have HB := Lib.hid hB; clear hB
  have Hm := Lib.hid hm; clear hm
  have Hn := Lib.hid hn; clear hn
  have Hroom := Lib.hid hroom; clear hroom
  have hbm : m ≤ 9223372036854775807 := by rw [Hm.out]; exact HB.out.big
  obtain ⟨i5, hi, hz0, hz1, hz2⟩ := info_parts info_u8
  have Hi := Lib.hid hi; clear hi
  have Hz0 := Lib.hid hz0; clear hz0
  have Hz1 := Lib.hid hz1; clear hz1
  have Hz2 := Lib.hid hz2; clear hz2
  have HF0 := Lib.hid (fresh_empty w)
  have Hb0 := Lib.hid (below_box w (.cells #[] 5))
  go_enter Try.func28, Try.ntmps28
  go_wp2_with (at_builtin; refine wpList_append_more rfl (.tmp 8) (.tmp 9) 24 rfl w.heap.size 5 i5 Try.underlying24 Hi.out Hz0.out Hz1.out Hz2.out _ _ rfl HF0.out _ _ rfl (HA.out.later Hb0.out) (by have := Hroom.out; simp; omega) (by simp) ?_; intro v1 w1 hF hB2; have HP1 : Hid (Painted w w1 v1 zs []) := ⟨by have := hF; rw [List.nil_append] at this; simpa [bytesN] using this, Hb0.out.trans hB2⟩; clear hF hB2)
  clear HF0 Hb0
  go_loopg [5, 6] m (fun g s5 s6 wr => ∃ (i : Nat), i + g = m ∧ s6 = .int .i64 i ∧ Hid (Painted w wr s5 zs (flatR (l.take i))))
  case atStart => exact ⟨0, by omega, rfl, HP1.out⟩
  case round =>
    clear HP1
    obtain ⟨i, hg, rfl, HP⟩ := hrel
    by_cases hlt : i < m
    · have hil : i < l.length := by have := Hm.out; omega
      have hgp : 0 < gk := by omega
      have HPb := Lib.hid HP.out.2
      obtain ⟨bb, off, A, C, rfl, hbw, c0, c1, c2, hN⟩ := HB.out.at (k := i) hil
      have hfr := flat_room hil
      obtain ⟨r, Hr⟩ : ∃ z, Hid (at_ l i = z) := ⟨_, rfl⟩
      rw [Hr.out] at c0 c1 c2 hN hfr
      obtain ⟨q, Hq⟩ : ∃ z, Hid (z = r.out.length) := ⟨_, rfl⟩
      rw [← Hq.out] at c2 hN hfr
      obtain ⟨x, Hx⟩ : ∃ z, Hid (r.inc = z) := ⟨_, rfl⟩
      obtain ⟨y, Hy⟩ : ∃ z, Hid (r.use = z) := ⟨_, rfl⟩
      rw [Hx.out] at c0
      rw [Hy.out] at c1
      obtain ⟨P, HPP⟩ : ∃ z, Hid (flatR (l.take i) = z) := ⟨_, rfl⟩
      rw [HPP.out] at HP hfr
      have Hfr : Hid (P.length + 2 + q ≤ (flatR l).length) := hfr
      have HC0 := Lib.hid c0
      have HC1 := Lib.hid c1
      have HC2 := Lib.hid c2
      have HN := Lib.hid hN
      have hqb : q ≤ 9223372036854775807 := by rw [Hq.out]; exact hN.1
      clear c0 c1 c2 hN hfr
      have k0 : (0 : Int) ≤ (i : Int) := by omega
      have k1 : (i : Int) < (m : Int) := by omega
      have e0 := cell_later HPb.out HC0.out
      have hw1 := wrap_u64n x
      go_wp2_with fail
      refine (refmore w wr _ zs P x HP.out (by have := Hroom.out; have := Hfr.out; omega)).mono ?_
      rintro e w2 ⟨v2, rfl, hp⟩
      have HP2 := Lib.hid hp; clear hp
      clear e0 hw1
      have e1 := cell_later HP2.out.2 HC1.out
      have hw1 := wrap_u64n y
      go_wp2_with fail
      refine (refmore w w2 _ zs (P ++ [x]) y HP2.out (by have := Hroom.out; have := Hfr.out; simp; omega)).mono ?_
      rintro e w3 ⟨v3, rfl, hp⟩
      have HP3 : Hid (Painted w w3 v3 zs (P ++ [x, y] ++ r.out.take 0)) := by
        show Painted w w3 v3 zs (P ++ [x, y] ++ r.out.take 0)
        rw [List.append_assoc] at hp; simpa using hp
      clear hp e1 hw1
      go_wp2_with fail
      go_loopg [5, 7] q (fun g s5 s7 wr => ∃ (k : Nat), k + g = q ∧ s7 = .int .i64 k ∧ Hid (Painted w wr s5 zs (P ++ [x, y] ++ r.out.take k)))
      case atStart => exact ⟨0, by omega, rfl, HP3.out⟩
      case round =>
        clear HP3 HP2 HP HPb
        obtain ⟨k, hgk, rfl, HPk⟩ := hrel
        have e2 := cell_later HPk.out.2 HC2.out
        by_cases hkq : k < q
        · obtain ⟨b4, o4, rfl, hb4, g4⟩ := HN.out.at (i := k) (by rw [← Hq.out]; exact hkq)
          obtain ⟨z, Hz⟩ : ∃ z, Hid (r.out[k]?.getD 0 = z) := ⟨_, rfl⟩
          rw [Hz.out] at g4
          have g5 := cell_later HPk.out.2 g4
          clear g4
          have j0 : (0 : Int) ≤ (k : Int) := by omega
          have j1 : (k : Int) < (q : Int) := by omega
          have hw1 := wrap_u64n z
          have HT : Hid (P ++ [x, y] ++ r.out.take k ++ [z] = P ++ [x, y] ++ r.out.take (k + 1)) := by
            show P ++ [x, y] ++ r.out.take k ++ [z] = P ++ [x, y] ++ r.out.take (k + 1)
            rw [List.take_succ_eq_append_getElem (by rw [← Hq.out]; exact hkq), ← Hz.out, List.getElem?_eq_getElem (by rw [← Hq.out]; exact hkq)]
            simp
          go_wp2_with fail
          refine (refmore w _ _ zs _ z HPk.out (by have := Hroom.out; have := Hfr.out; have := Hq.out; simp; omega)).mono ?_
          rintro e w4 ⟨v4, rfl, hp⟩
          rw [HT.out] at hp
          have HP4 := Lib.hid hp; clear hp
          go_wp2_with fail
          go_roundg (q - (k + 1))
          case measure => omega
          case rel => exact ⟨k + 1, by omega, by go_num, HP4.out⟩
        · have hkq' : k = q := by omega
          have HE : Hid (P ++ [x, y] ++ r.out.take k = flatR (l.take (i + 1))) := by
            show P ++ [x, y] ++ r.out.take k = flatR (l.take (i + 1))
            rw [take_flat hil, HPP.out, Hr.out, hkq', Hq.out, List.take_length, ← Hx.out, ← Hy.out]
            simp [rowN]
          rw [HE.out] at HPk
          have Hkq := Lib.hid hkq'; clear hkq'
          go_wp2_with fail
          go_roundg (m - (i + 1))
          case measure => omega
          case rel => exact ⟨i + 1, by omega, by go_num, HPk.out⟩
    · have him : i = m := by omega
      have HE : Hid (flatR (l.take i) = flatR l) := by rw [him, Hm.out, List.take_length]; exact rfl
      rw [HE.out] at HP
      obtain ⟨hf, hb⟩ := HP.out
      obtain ⟨aa, nn, cc, rfl, _, _⟩ := hf.args
      have HF := Lib.hid hf
      have HBl := Lib.hid hb
      clear hf hb
      have Him := Lib.hid him; clear him
      go_wp2_with fail
      go_ret
      exact ⟨_, rfl, HBl.out, HF.out⟩
end Go.Proofs.Ytfpadcfahfanoaa

/- Package rights, walked: within, May. No law is proved here. -/
namespace Go.Proofs.Ytfpadcfahfanoaa
open Go.RowKit

theorem within_int (v lo hi : Int) (w : World) : Calls Try.prog 33 #[.int .i64 v, .int .i64 lo, .int .i64 hi] w (fun e w' => e = .returned (.bool (withinB v lo hi)) ∧ w = w') := by
  by_cases h1 : lo ≤ v
  · by_cases h2 : v ≤ hi
    · rw [withinB_yes ⟨h1, h2⟩]
      go_enter Try.func33, Try.ntmps33
      go_wp2
      go_ret
      exact ⟨by simp, rfl⟩
    · rw [withinB_no (fun h => h2 h.2)]
      go_enter Try.func33, Try.ntmps33
      go_wp2
      go_ret
      exact ⟨by simp, rfl⟩
  · rw [withinB_no (fun h => h1 h.1)]
    go_enter Try.func33, Try.ntmps33
    go_wp2
    go_ret
    exact ⟨by simp, rfl⟩
theorem within_int64 (v lo hi : Int) (w : World) : Calls Try.prog 34 #[.int .i64 v, .int .i64 lo, .int .i64 hi] w (fun e w' => e = .returned (.bool (withinB v lo hi)) ∧ w = w') := by
  by_cases h1 : lo ≤ v
  · by_cases h2 : v ≤ hi
    · rw [withinB_yes ⟨h1, h2⟩]
      go_enter Try.func34, Try.ntmps34
      go_wp2
      go_ret
      exact ⟨by simp, rfl⟩
    · rw [withinB_no (fun h => h2 h.2)]
      go_enter Try.func34, Try.ntmps34
      go_wp2
      go_ret
      exact ⟨by simp, rfl⟩
  · rw [withinB_no (fun h => h1 h.1)]
    go_enter Try.func34, Try.ntmps34
    go_wp2
    go_ret
    exact ⟨by simp, rfl⟩
set_option maxRecDepth 100000 in
set_option maxHeartbeats 4000000 in
theorem rMay_calls (c : Cf) (w : World) : Calls Try.prog 15 #[cfV c] w (Says w (cfB c)) := by
  obtain ⟨n, q, r, p, k, c⟩ := c
  obtain ⟨b, Hbb⟩ : ∃ b, Hid (cfB ⟨n, q, r, p, k, c⟩ = b) := ⟨_, rfl⟩
  rw [Hbb.out]
  go_enter Try.func15, Try.ntmps15
  go_wp2_with fail
  refine (within_int n 1 16 _).mono ?_
  rintro e w' ⟨rfl, rfl⟩
  by_cases h0 : 1 ≤ n ∧ n ≤ 16
  rotate_left 1
  · rw [withinB_no h0]
    obtain rfl : b = false := Hbb.out.symm.trans (cfB_no fun h => by
      unfold cfOk at h
      simp only at h
      omega)
    go_wp2_with fail
    go_ret
    exact ⟨by simp, below_box _ _⟩
  rw [withinB_yes h0]
  go_wp2_with fail
  refine (within_int q 1 8 _).mono ?_
  rintro e w' ⟨rfl, rfl⟩
  by_cases h1 : 1 ≤ q ∧ q ≤ 8
  rotate_left 1
  · rw [withinB_no h1]
    obtain rfl : b = false := Hbb.out.symm.trans (cfB_no fun h => by
      unfold cfOk at h
      simp only at h
      omega)
    go_wp2_with fail
    go_ret
    exact ⟨by simp, below_box _ _⟩
  rw [withinB_yes h1]
  go_wp2_with fail
  refine (within_int r 0 8 _).mono ?_
  rintro e w' ⟨rfl, rfl⟩
  by_cases h2 : 0 ≤ r ∧ r ≤ 8
  rotate_left 1
  · rw [withinB_no h2]
    obtain rfl : b = false := Hbb.out.symm.trans (cfB_no fun h => by
      unfold cfOk at h
      simp only at h
      omega)
    go_wp2_with fail
    go_ret
    exact ⟨by simp, below_box _ _⟩
  rw [withinB_yes h2]
  go_wp2_with fail
  refine (within_int p 1 16 _).mono ?_
  rintro e w' ⟨rfl, rfl⟩
  by_cases h3 : 1 ≤ p ∧ p ≤ 16
  rotate_left 1
  · rw [withinB_no h3]
    obtain rfl : b = false := Hbb.out.symm.trans (cfB_no fun h => by
      unfold cfOk at h
      simp only at h
      omega)
    go_wp2_with fail
    go_ret
    exact ⟨by simp, below_box _ _⟩
  rw [withinB_yes h3]
  go_wp2_with fail
  refine (within_int64 k 0 1099511627776 _).mono ?_
  rintro e w' ⟨rfl, rfl⟩
  by_cases h4 : 0 ≤ k ∧ k ≤ 1099511627776
  rotate_left 1
  · rw [withinB_no h4]
    obtain rfl : b = false := Hbb.out.symm.trans (cfB_no fun h => by
      unfold cfOk at h
      simp only at h
      have h12 := Int.mul_nonneg (show 0 ≤ n by omega) (show 0 ≤ c by omega)
      have h13 := Int.mul_le_mul_of_nonneg_right (show 1 ≤ n by omega) (show 0 ≤ c by omega)
      omega)
    go_wp2_with fail
    go_ret
    exact ⟨by simp, below_box _ _⟩
  rw [withinB_yes h4]
  go_wp2_with fail
  refine (within_int64 c 0 1099511627776 _).mono ?_
  rintro e w' ⟨rfl, rfl⟩
  by_cases h5 : 0 ≤ c ∧ c ≤ 1099511627776
  rotate_left 1
  · rw [withinB_no h5]
    obtain rfl : b = false := Hbb.out.symm.trans (cfB_no fun h => by
      unfold cfOk at h
      simp only at h
      have h12 := Int.mul_nonneg (show 0 ≤ n by omega) (show 0 ≤ c by omega)
      have h13 := Int.mul_le_mul_of_nonneg_right (show 1 ≤ n by omega) (show 0 ≤ c by omega)
      omega)
    go_wp2_with fail
    go_ret
    exact ⟨by simp, below_box _ _⟩
  rw [withinB_yes h5]
  have h12 := Int.mul_nonneg (show 0 ≤ n by omega) (show 0 ≤ c by omega)
  have h13 := Int.mul_le_mul_of_nonneg_right (show n ≤ 16 by omega) (show 0 ≤ c by omega)
  have e1 : IntKind.i64.wrap (n * c) = n * c := IntWalk.i64_in _ (by omega)
  have e2 : IntKind.i64.wrap (k + n * c) = k + n * c := IntWalk.i64_in _ (by omega)
  by_cases hk : k + n * c ≤ 1099511627776
  · obtain rfl : b = true := Hbb.out.symm.trans (cfB_yes ⟨by show 1 ≤ n; omega, by show n ≤ 16; omega, by show 1 ≤ q; omega, by show q ≤ 8; omega, by show 0 ≤ r; omega, by show r ≤ 8; omega, by show 1 ≤ p; omega, by show p ≤ 16; omega, by show 0 ≤ k; omega, by show 0 ≤ c; omega, hk⟩)
    clear h12 h13
    go_wp2_with fail
    go_ret
    exact ⟨by simp, below_box _ _⟩
  · obtain rfl : b = false := Hbb.out.symm.trans (cfB_no fun h => hk h.2.2.2.2.2.2.2.2.2.2)
    clear h12 h13
    go_wp2_with fail
    go_ret
    exact ⟨by simp; omega, below_box _ _⟩
end Go.Proofs.Ytfpadcfahfanoaa
