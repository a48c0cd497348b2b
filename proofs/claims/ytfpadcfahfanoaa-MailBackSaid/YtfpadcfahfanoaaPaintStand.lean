/- Package paint, walked: Take, Put. No law is proved here. -/
import Derived.Test.YtfpadcfahfanoaaPaintTakeN
import Derived.Test.YtfpadcfahfanoaaMg20
import Derived.Test.YtfpadcfahfanoaaMg11
import Derived.Test.YtfpadcfahfanoaaMg24
import Derived.Test.YtfpadcfahfanoaaMg25
import Derived.WalkKit
import Derived.ProofKit
import Derived.OpenShut
import Derived.WalkSpells
import Derived.Laws.AppendOwn
import Derived.Laws.AppendOwnNone
import Derived.Laws.OwnMore
import Derived.Lib.Hide
import Derived.Deep.Draws
import Derived.Deep.Slices
import Derived.Deep.Fields
import Derived.ChangeSame
import Derived.RegionTactic
import Derived.Maps.AppendAt
import Derived.Lib.SmallJoins
import Derived.RangeFuncNested
import Derived.RangeFuncBound
import Derived.RangeFuncLeaves
import Derived.RangeFuncBox
import Derived.Laws.MakeOwn
import Derived.LoopTactic
import Derived.BigRegion
import Derived.Deep.LoopGhost
namespace Go.Proofs.Ytfpadcfahfanoaa
open Go.RowKit
attribute [local go_sem ↓] run_fine

set_option maxRecDepth 100000 in
set_option maxHeartbeats 8000000 in
theorem pTake_all (c : Cf) (a : Option Addr) (n d : Nat) (zs : List Int) (w : World) (hB : Bytes w (.slice a n d) zs) (hn : n = zs.length) (hnd : n ≤ d) :
    Calls Try.prog 37 #[cfV c, .slice a n d] w (TookBA w (.slice a n d) zs (takeB c zs)) := by
  have HW := Lib.hid (Whole.made w 23 (cfCells c))
  have Hb0 := Lib.hid (below_box w (.cells (cfCells c) 23))
  have HB := Lib.hid hB; clear hB
  have Hn := Lib.hid hn; clear hn
  obtain ⟨nn, q, r, p, kk, cc⟩ := c
  obtain ⟨res, Hres⟩ : ∃ z, Hid (takeB ⟨nn, q, r, p, kk, cc⟩ zs = z) := ⟨_, rfl⟩
  rw [Hres.out]
  obtain ⟨ok, Hok⟩ : ∃ z, Hid (cfB ⟨nn, q, r, p, kk, cc⟩ = z) := ⟨_, rfl⟩
  go_enter Try.func37, Try.ntmps37
  go_wp2_with fail
  refine (rMay_calls ⟨nn, q, r, p, kk, cc⟩ _).mono ?_
  rintro e w1 ⟨rfl, hb⟩
  rw [Hok.out]
  have Hb1 := Lib.hid (held_next Hb0.out hb)
  have HW1 := Lib.hid (HW.out.later hb HW.out.lt)
  clear hb
  cases ok with
  | false =>
    obtain rfl : res = none := Hres.out.symm.trans (takeB_cf fun h => by
      have := cfB_yes h
      rw [Hok.out] at this
      cases this)
    go_wp2_with fail
    go_ret3
    exact Or.inr ⟨rfl, by rfl, Hb1.out⟩
  | true =>
  have hok := cfB_ok Hok.out
  obtain ⟨N, hN⟩ : ∃ N : Nat, nn = (N : Int) := ⟨nn.toNat, by have := hok.1; simp only at this; omega⟩
  subst hN
  have h16 : N ≤ 16 := by have := hok.2.1; simp only at this; omega
  have hN1 : 1 ≤ N := by have := hok.1; simp only at this; omega
  clear hok
  obtain ⟨d0, d1', d2, d3, d4, d5⟩ := config_cells HW1.out
  simp only at d0 d1' d2 d3 d4 d5
  go_wp2_with fail
  refine (takeN_calls N hN1 h16 a n d zs w1 (HB.out.later Hb1.out) Hn.out hnd).mono ?_
  rintro e w2 h
  rcases h with ⟨L, cur, A, C, B, D, rfl, hL, hR, hs, hz, hBk, hBr, hD, hb⟩ | ⟨hno, rfl, hb⟩
  rotate_left 1
  · obtain rfl : res = none := Hres.out.symm.trans (hno _ rfl)
    have Hb2 := Lib.hid (held_next Hb1.out hb)
    clear hb d0 d1' d2 d3 d4 d5 hno
    go_wp2_with fail
    go_ret3
    exact Or.inr ⟨rfl, by rfl, Hb2.out⟩
  have HR : Hid (res = if rightOk ⟨N, q, r, p, kk, cc⟩ L then some (L, cur) else none) := Hres.out.symm.trans (takeB_end (n := N) rfl hL hR hs hz)
  have HBk := Lib.hid hBk
  have HL := Lib.hid hL
  have HBr := Lib.hid hBr
  have Hb2 := Lib.hid (held_next Hb1.out hb)
  have HW2 := Lib.hid (HW1.out.later hb HW1.out.lt)
  obtain ⟨m1, Hm1⟩ : ∃ z, Hid (z = cur.length) := ⟨_, rfl⟩
  rw [← Hm1.out] at hD HBr ⊢
  obtain ⟨okj, Hokj⟩ : ∃ z, Hid (rightB ⟨N, q, r, p, kk, cc⟩ L = z) := ⟨_, rfl⟩
  clear hb d0 d1' d2 d3 d4 d5 hL hR hs hz hBk hBr
  obtain ⟨d0, d1', d2, d3, d4, d5⟩ := config_cells HW2.out
  simp only at d0 d1' d2 d3 d4 d5
  go_wp2_with fail
  refine (rRight_calls ⟨N, q, r, p, kk, cc⟩ A N C L HL.out.symm _ HBk.out.1).mono ?_
  rintro e w5 ⟨rfl, hb⟩
  rw [Hokj.out]
  have Hb5 := Lib.hid (held_next Hb2.out hb)
  have HBk5 := Lib.hid (HBk.out.later hb)
  clear hb d0 d1' d2 d3 d4 d5
  cases okj with
  | false =>
    obtain rfl : res = none := HR.out.trans (if_neg fun h => by
      have := decide_eq_true h
      rw [show decide (rightOk ⟨N, q, r, p, kk, cc⟩ L) = false from Hokj.out] at this
      cases this)
    go_wp2_with fail
    go_ret3
    exact Or.inr ⟨rfl, by rfl, Hb5.out⟩
  | true =>
    obtain rfl : res = some (L, cur) := HR.out.trans (if_pos (rightB_ok Hokj.out))
    go_wp2_with fail
    go_ret3
    exact Or.inl ⟨L, cur, A, C, B, D, rfl, by rw [HL.out, ← Hm1.out]; rfl, by rw [HL.out]; exact HBk5.out.mono Hb1.out.size, by rw [← Hm1.out]; exact HBr.out, by rw [← Hm1.out]; exact hD, Hb5.out⟩
theorem pTake_calls (c : Cf) (a : Option Addr) (n d : Nat) (zs : List Int) (w : World) (hB : Bytes w (.slice a n d) zs) (hn : n = zs.length) (hnd : n ≤ d) :
    Calls Try.prog 37 #[cfV c, .slice a n d] w (TookB w (takeB c zs)) := (pTake_all c a n d zs w hB hn hnd).mono fun _ _ h => by
  rcases h with ⟨l, rest, A, C, B, D, h1, h2, h3, h4, h5, h6⟩ | h
  · exact Or.inl ⟨l, rest, A, C, B, D, h1, h2, h3.1, h4 _ (hB.later h6), h5, h6⟩
  · exact Or.inr h

/-- numbers so far, behind these bytes, of the call's own -/
def PaintedO (w : World) (wr : World) (v : Value) (zs P : List Int) : Prop := OwnB w.heap.size wr v (zs ++ bytesN (P.map u64n)) ∧ Below w.heap.size w wr

set_option maxRecDepth 100000 in
set_option maxHeartbeats 8000000 in
theorem pPut_own (a : Option Addr) (n c : Nat) (zs : List Int) (b : Option Addr) (m d : Nat) (l : List Rw) (w : World) (hA : Bytes w (.slice a n c) zs) (hn : n = zs.length) (hnc : n ≤ c) (hm : m = l.length) (hB : Books w (.slice b m d) l)
    (hroom : zs.length + 10 * (flatR l).length ≤ 140737488355000) :
    Calls Try.prog 26 #[.slice a n c, .slice b m d] w (fun e w' => ∃ A m C, e = .returned (.slice A m C) ∧ m = (zs ++ booksB l).length ∧ m ≤ C ∧ Bytes w' (.slice A m C) (zs ++ booksB l) ∧ Below w.heap.size w w' ∧ OwnB w.heap.size w' (.slice A m C) (zs ++ booksB l)) := by
  have HA := Lib.hid hA; clear hA
  have HB := Lib.hid hB; clear hB
  have Hm := Lib.hid hm; clear hm
  have Hn := Lib.hid hn; clear hn
  have Hroom := Lib.hid hroom; clear hroom
  have hbm : m ≤ 9223372036854775807 := by rw [Hm.out]; exact HB.out.big
  go_enter Try.func26, Try.ntmps26
  go_wp2_with fail
  refine (cloneb_calls a n c zs w HA.out Hn.out hnc (by have := Hroom.out; omega)).mono ?_
  rintro e w1 ⟨v1, rfl, ho, hb⟩
  have HP1 : Hid (PaintedO w w1 v1 zs (flatR (l.take 0))) := ⟨by simpa [bytesN, flatR] using ho, hb⟩
  clear ho hb
  go_wp2_with fail
  go_loopg [5, 14] m (fun g s5 s14 wr => ∃ (i : Nat) (lv : Value), i + g = m ∧ s14 = .int .i64 i ∧ s5 = lv ∧ Hid (PaintedO w wr lv zs (flatR (l.take i))))
  case atStart => exact ⟨0, _, by omega, rfl, rfl, HP1.out⟩
  case round =>
    clear HP1
    obtain ⟨i, lv, hg, rfl, hlv, HP⟩ := hrel
    have hlv' := hlv.symm
    subst hlv'
    clear hlv
    by_cases hlt : i < m
    · have hil : i < l.length := by have := Hm.out; omega
      have hgp : 0 < gk := by omega
      have HPb := Lib.hid HP.out.2
      obtain ⟨bb, off, A, C, rfl, hbw, c0, c1, c2, hN⟩ := HB.out.at (k := i) hil
      have hfr := flat_room hil
      obtain ⟨r, Hr⟩ : ∃ z, Hid (at_ l i = z) := ⟨_, rfl⟩
      rw [Hr.out] at c0 c1 c2 hN hfr
      obtain ⟨q, Hq⟩ : ∃ z, Hid (z = r.out.length) := ⟨_, rfl⟩
      rw [← Hq.out] at c2 hN hfr
      obtain ⟨x, Hx⟩ : ∃ z, Hid (r.inc = z) := ⟨_, rfl⟩
      obtain ⟨y, Hy⟩ : ∃ z, Hid (r.use = z) := ⟨_, rfl⟩
      rw [Hx.out] at c0
      rw [Hy.out] at c1
      obtain ⟨P, HPP⟩ : ∃ z, Hid (flatR (l.take i) = z) := ⟨_, rfl⟩
      rw [HPP.out] at HP hfr
      have Hfr : Hid (P.length + 2 + q ≤ (flatR l).length) := hfr
      have HN := Lib.hid (hN.later HPb.out)
      have e0 := cell_later HPb.out c0
      have e1 := cell_later HPb.out c1
      have e2 := cell_later HPb.out c2
      have hbr : bb < wr.heap.size := by have := HPb.out.size; omega
      clear c0 c1 c2 hN hfr
      have k0 : (0 : Int) ≤ (i : Int) := by omega
      have k1 : (i : Int) < (m : Int) := by omega
      have hnb := (numbers_calls x y A q C r.out Hq.out (wr.alloc (.cells #[.int .i64 x, .int .i64 y, .slice A q C] 59)) (HN.out.later (below_box wr _)) (by have := Hroom.out; have := Hfr.out; omega))
      have Hnb := Lib.hid hnb
      clear hnb
      go_wp2_with fail
      refine Hnb.out.mono ?_
      rintro e w2 ⟨A2, C2, rfl, hN2, hb2⟩
      obtain ⟨F, HF⟩ : ∃ z, Hid ([x, y] ++ r.out = z) := ⟨_, rfl⟩
      rw [HF.out] at hN2 ⊢
      obtain ⟨f, Hf⟩ : ∃ z, Hid (z = F.length) := ⟨_, rfl⟩
      rw [← Hf.out] at hN2 ⊢
      have Hff : Hid (P.length + f ≤ (flatR l).length) := by
        show P.length + f ≤ (flatR l).length
        have := Hfr.out
        rw [Hf.out, ← HF.out, List.length_append, ← Hq.out]
        simp; omega
      have hfb : f ≤ 9223372036854775807 := by have := Hff.out; have := Hroom.out; omega
      have HN2 : Hid (w2.ownsRow w.heap.size 2 1 (.slice A2 f C2) f (F.map (Value.int .i64))) := ⟨hN2.1, hN2.2.imp id fun ⟨g', cap, cur, e, hb', hh⟩ => ⟨g', cap, cur, e, by have := HPb.out.size; simp at hb'; omega, hh⟩⟩
      have hbb : Below wr.heap.size wr w2 := (below_box wr _).trans (hb2.mono (by simp))
      have HP2 : Hid (PaintedO w w2 lv zs P) := ⟨HP.out.1.later hbb, HP.out.2.trans (hbb.mono HP.out.2.size)⟩
      clear e0 e1 e2 hN2 hb2 hbb HPb Hnb hbr
      go_wp2_with fail
      go_loopg [5, 21] f (fun g s5 s21 wr => ∃ (k : Nat) (lw : Value), k + g = f ∧ s21 = .int .i64 k ∧ s5 = lw ∧ Hid (PaintedO w wr lw zs (P ++ F.take k)) ∧ Hid (wr.ownsRow w.heap.size 2 1 (.slice A2 f C2) f (F.map (Value.int .i64))))
      case atStart => exact ⟨0, _, by omega, rfl, rfl, by rw [List.take_zero, List.append_nil]; exact HP2.out, HN2.out⟩
      case round =>
        clear HP2 HP
        obtain ⟨k, lw, hgk, rfl, hlw, HPk, HNk⟩ := hrel
        have hlw' := hlw.symm
        subst hlw'
        clear hlw
        by_cases hkq : k < f
        · obtain ⟨A3, C3, hA3, hN3⟩ := nums_of_own HNk.out Hf.out hfb
          simp only [Value.slice.injEq, true_and] at hA3
          obtain ⟨rfl, rfl⟩ := hA3
          obtain ⟨b4, o4, rfl, hb4, g5⟩ := hN3.at (i := k) (by rw [← Hf.out]; exact hkq)
          obtain ⟨z, Hz⟩ : ∃ z, Hid (F[k]?.getD 0 = z) := ⟨_, rfl⟩
          rw [Hz.out] at g5
          clear hN3
          have j0 : (0 : Int) ≤ (k : Int) := by omega
          have j1 : (k : Int) < (f : Int) := by omega
          have hw1 := wrap_u64n z
          have HT : Hid (P ++ F.take k ++ [z] = P ++ F.take (k + 1)) := by
            show P ++ F.take k ++ [z] = P ++ F.take (k + 1)
            have hkF : k < F.length := by rw [← Hf.out]; exact hkq
            rw [List.take_succ_eq_append_getElem hkF, ← Hz.out, List.getElem?_eq_getElem hkF]
            simp
          go_wp2_with fail
          refine (put_calls none 0 0 [] (u64n z) (u64n_lt z) _ (bytes_nil _ _ _ (fun _ => rfl)) rfl (Nat.le_refl _) (by omega)).mono ?_
          rintro e w4 ⟨v4, rfl, hb4, hF4⟩
          rw [List.nil_append] at hF4
          obtain ⟨A4, n4, c4, rfl, hn4, hnc4⟩ := hF4.args
          obtain ⟨hO, hbO⟩ := HPk.out
          have hroom4 : (zs ++ bytesN ((P ++ F.take k).map u64n)).length + (PackMath.num (u64n z)).length ≤ 140737488355300 := by
            have h1 := bytes_room zs (P ++ F.take k)
            have h2 := PackMath.num_len_64 _ (u64n_lt z)
            have h3 := Hff.out
            have h4 := Hroom.out
            have h5 : (P ++ F.take k).length ≤ P.length + k := by simp; omega
            omega
          obtain ⟨v5, w5, hrun5, q1, q2, hG5⟩ := run_append_own (hO.later hb4) (by have := hb4.size; have := hbO.size; omega) hF4.bytes hn4 hnc4 hroom4
          obtain ⟨hf5, hv5, hw5⟩ := fine_of hrun5
          rw [bytes_more, HT.out] at q1
          have HP5 : Hid (PaintedO w w5 v5 zs (P ++ F.take (k + 1))) := ⟨q1, (held_next hbO hb4).trans q2⟩
          have HN5 : Hid (w5.ownsRow w.heap.size 2 1 (.slice (some ⟨b4, o4, none⟩) f C2) f (F.map (Value.int .i64))) := own_kept_apart (own_later HNk.out hb4) (hO.later hb4).1 (by decide) hG5.1
          clear hF4 hb4 hO hbO hroom4 hrun5 q1 q2 hG5 hn4 hnc4 g5 hw1
          go_wp2_with fail
          go_roundg (f - (k + 1))
          case measure => omega
          case rel => exact ⟨k + 1, _, by omega, by go_num, rfl, HP5.out, HN5.out⟩
        · have hkq' : k = f := by omega
          have HE : Hid (P ++ F.take k = flatR (l.take (i + 1))) := by
            show P ++ F.take k = flatR (l.take (i + 1))
            rw [take_flat hil, HPP.out, Hr.out, hkq', Hf.out, List.take_length, ← HF.out, ← Hx.out, ← Hy.out]
            simp [rowN]
          rw [HE.out] at HPk
          have Hkq := Lib.hid hkq'; clear hkq'
          go_wp2_with fail
          go_roundg (m - (i + 1))
          case measure => omega
          case rel => exact ⟨i + 1, _, by omega, by go_num, rfl, HPk.out⟩
    · have him : i = m := by omega
      have HE : Hid (flatR (l.take i) = flatR l) := by rw [him, Hm.out, List.take_length]; exact rfl
      rw [HE.out] at HP
      obtain ⟨hf, hb⟩ := HP.out
      have hlen : (zs ++ bytesN ((flatR l).map u64n)).length ≤ 9223372036854775807 := by
        have h1 := bytes_room zs (flatR l)
        have := Hroom.out
        omega
      obtain ⟨A9, C9, rfl, hC9, hB9⟩ := hf.form hlen
      have HB9 := Lib.hid hB9
      have HO9 := Lib.hid hf
      have HBl := Lib.hid hb
      have HC9 := Lib.hid hC9
      obtain ⟨m9, Hm9⟩ : ∃ z, Hid (z = (zs ++ bytesN ((flatR l).map u64n)).length) := ⟨_, rfl⟩
      rw [← Hm9.out] at HB9 HC9 HO9 ⊢
      have Him := Lib.hid him; clear him
      clear hf hb hB9 hC9 HP hlen
      go_wp2_with fail
      go_ret
      exact ⟨A9, m9, C9, rfl, Hm9.out, HC9.out, HB9.out, HBl.out, HO9.out⟩
theorem pPut_calls (a : Option Addr) (n c : Nat) (zs : List Int) (b : Option Addr) (m d : Nat) (l : List Rw) (w : World) (hA : Bytes w (.slice a n c) zs) (hn : n = zs.length) (hnc : n ≤ c) (hm : m = l.length) (hB : Books w (.slice b m d) l)
    (hroom : zs.length + 10 * (flatR l).length ≤ 140737488355000) :
    Calls Try.prog 26 #[.slice a n c, .slice b m d] w (PutB w (zs ++ booksB l)) := (pPut_own a n c zs b m d l w hA hn hnc hm hB hroom).mono fun _ _ ⟨A, m, C, h1, h2, h3, h4, h5, _⟩ => ⟨A, m, C, h1, h2, h3, h4, h5⟩
end Go.Proofs.Ytfpadcfahfanoaa
