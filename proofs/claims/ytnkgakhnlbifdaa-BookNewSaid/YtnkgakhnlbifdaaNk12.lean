/- Parts, as far as BookNewCards reaches them, of: PaintStand, BookRows, BookRead, BookTook, BookHeld. No law is proved here. -/
import Derived.Test.YtnkgakhnlbifdaaNk10
import Derived.Test.YtnkgakhnlbifdaaNk6
import Derived.Test.YtnkgakhnlbifdaaNk11
import Derived.WalkKit
import Derived.ProofKit
import Derived.OpenShut
import Derived.WalkSpells
import Derived.Laws.AppendOwn
import Derived.Laws.AppendOwnNone
import Derived.Laws.OwnMore
import Derived.Lib.Hide
import Derived.Deep.Draws
import Derived.Deep.Slices
import Derived.Deep.Fields
import Derived.ChangeSame
import Derived.RegionTactic
import Derived.Maps.AppendAt
import Derived.Lib.SmallJoins
import Derived.RangeFuncNested
import Derived.RangeFuncBound
import Derived.RangeFuncLeaves
import Derived.RangeFuncBox
import Derived.Laws.MakeOwn
import Derived.LoopTactic
import Derived.BigRegion
import Derived.Deep.LoopGhost
import Derived.Test.YtnkgakhnlbifdaaNk7
import Derived.Test.YtnkgakhnlbifdaaNk2
import Derived.Test.YtnkgakhnlbifdaaNk5
namespace Go.Proofs.Ytnkgakhnlbifdaa
open Go.RowKit
attribute [local go_sem ↓] run_fine
set_option maxRecDepth 100000 in
set_option maxHeartbeats 8000000 in
theorem pTake_all (c : Cf) (a : Option Addr) (n d : Nat) (zs : List Int) (w : World) (hB : Bytes w (.slice a n d) zs) (hn : n = zs.length) (hnd : n ≤ d) :
 Calls Try.prog 75 #[cfV c, .slice a n d] w (TookBA w (.slice a n d) zs (takeB c zs)) := by
 have HW := Lib.hid (Whole.made w 23 (cfCells c))
 have Hb0 := Lib.hid (below_box w (.cells (cfCells c) 23))
 have HB := Lib.hid hB; clear hB
 have Hn := Lib.hid hn; clear hn
 obtain ⟨nn, q, r, p, kk, cc⟩ := c
 obtain ⟨res, Hres⟩ : ∃ z, Hid (takeB ⟨nn, q, r, p, kk, cc⟩ zs = z) := ⟨_, rfl⟩
 rw [Hres.out]
 obtain ⟨ok, Hok⟩ : ∃ z, Hid (cfB ⟨nn, q, r, p, kk, cc⟩ = z) := ⟨_, rfl⟩
 go_enter Try.func75, Try.ntmps75
 go_wp2_with fail
 refine (rMay_calls ⟨nn, q, r, p, kk, cc⟩ _).mono ?_
 rintro e w1 ⟨rfl, hb⟩
 rw [Hok.out]
 have Hb1 := Lib.hid (held_next Hb0.out hb)
 have HW1 := Lib.hid (HW.out.later hb HW.out.lt)
 clear hb
 cases ok with
 | false =>
   obtain rfl : res = none := Hres.out.symm.trans (takeB_cf fun h => by
    have := cfB_yes h
    rw [Hok.out] at this
    cases this)
   go_wp2_with fail
   go_ret3
   exact Or.inr ⟨rfl, by rfl, Hb1.out⟩
 | true =>
 have hok := cfB_ok Hok.out
 obtain ⟨N, hN⟩ : ∃ N : Nat, nn = (N : Int) := ⟨nn.toNat, by have := hok.1; simp only at this; omega⟩
 subst hN
 have h16 : N ≤ 16 := by have := hok.2.1; simp only at this; omega
 have hN1 : 1 ≤ N := by have := hok.1; simp only at this; omega
 clear hok
 obtain ⟨d0, d1', d2, d3, d4, d5⟩ := config_cells HW1.out
 simp only at d0 d1' d2 d3 d4 d5
 go_wp2_with fail
 refine (takeN_calls N hN1 h16 a n d zs w1 (HB.out.later Hb1.out) Hn.out hnd).mono ?_
 rintro e w2 h
 rcases h with ⟨L, cur, A, C, B, D, rfl, hL, hR, hs, hz, hBk, hBr, hD, hb⟩ | ⟨hno, rfl, hb⟩
 rotate_left 1
 · obtain rfl : res = none := Hres.out.symm.trans (hno _ rfl)
   have Hb2 := Lib.hid (held_next Hb1.out hb)
   clear hb d0 d1' d2 d3 d4 d5 hno
   go_wp2_with fail
   go_ret3
   exact Or.inr ⟨rfl, by rfl, Hb2.out⟩
 have HR : Hid (res = if rightOk ⟨N, q, r, p, kk, cc⟩ L then some (L, cur) else none) := Hres.out.symm.trans (takeB_end (n := N) rfl hL hR hs hz)
 have HBk := Lib.hid hBk
 have HL := Lib.hid hL
 have HBr := Lib.hid hBr
 have Hb2 := Lib.hid (held_next Hb1.out hb)
 have HW2 := Lib.hid (HW1.out.later hb HW1.out.lt)
 obtain ⟨m1, Hm1⟩ : ∃ z, Hid (z = cur.length) := ⟨_, rfl⟩
 rw [← Hm1.out] at hD HBr ⊢
 obtain ⟨okj, Hokj⟩ : ∃ z, Hid (rightB ⟨N, q, r, p, kk, cc⟩ L = z) := ⟨_, rfl⟩
 clear hb d0 d1' d2 d3 d4 d5 hL hR hs hz hBk hBr
 obtain ⟨d0, d1', d2, d3, d4, d5⟩ := config_cells HW2.out
 simp only at d0 d1' d2 d3 d4 d5
 go_wp2_with fail
 refine (rRight_calls ⟨N, q, r, p, kk, cc⟩ A N C L HL.out.symm _ HBk.out.1).mono ?_
 rintro e w5 ⟨rfl, hb⟩
 rw [Hokj.out]
 have Hb5 := Lib.hid (held_next Hb2.out hb)
 have HBk5 := Lib.hid (HBk.out.later hb)
 clear hb d0 d1' d2 d3 d4 d5
 cases okj with
 | false =>
   obtain rfl : res = none := HR.out.trans (if_neg fun h => by
    have := decide_eq_true h
    rw [show decide (rightOk ⟨N, q, r, p, kk, cc⟩ L) = false from Hokj.out] at this
    cases this)
   go_wp2_with fail
   go_ret3
   exact Or.inr ⟨rfl, by rfl, Hb5.out⟩
 | true =>
   obtain rfl : res = some (L, cur) := HR.out.trans (if_pos (rightB_ok Hokj.out))
   go_wp2_with fail
   go_ret3
   exact Or.inl ⟨L, cur, A, C, B, D, rfl, by rw [HL.out, ← Hm1.out]; rfl, by rw [HL.out]; exact HBk5.out.mono Hb1.out.size, by rw [← Hm1.out]; exact HBr.out, by rw [← Hm1.out]; exact hD, Hb5.out⟩
def PaintedO (w : World) (wr : World) (v : Value) (zs P : List Int) : Prop := OwnB w.heap.size wr v (zs ++ bytesN (P.map u64n)) ∧ Below w.heap.size w wr
set_option maxRecDepth 100000 in
set_option maxHeartbeats 8000000 in
theorem pPut_own (a : Option Addr) (n c : Nat) (zs : List Int) (b : Option Addr) (m d : Nat) (l : List Rw) (w : World) (hA : Bytes w (.slice a n c) zs) (hn : n = zs.length) (hnc : n ≤ c) (hm : m = l.length) (hB : Books w (.slice b m d) l)
 (hroom : zs.length + 10 * (flatR l).length ≤ 140737488355000) :
 Calls Try.prog 29 #[.slice a n c, .slice b m d] w (fun e w' => ∃ A m C, e = .returned (.slice A m C) ∧ m = (zs ++ booksB l).length ∧ m ≤ C ∧ Bytes w' (.slice A m C) (zs ++ booksB l) ∧ Below w.heap.size w w' ∧ OwnB w.heap.size w' (.slice A m C) (zs ++ booksB l)) := by
 have HA := Lib.hid hA; clear hA
 have HB := Lib.hid hB; clear hB
 have Hm := Lib.hid hm; clear hm
 have Hn := Lib.hid hn; clear hn
 have Hroom := Lib.hid hroom; clear hroom
 have hbm : m ≤ 9223372036854775807 := by rw [Hm.out]; exact HB.out.big
 go_enter Try.func29, Try.ntmps29
 go_wp2_with fail
 refine (cloneb_calls a n c zs w HA.out Hn.out hnc (by have := Hroom.out; omega)).mono ?_
 rintro e w1 ⟨v1, rfl, ho, hb⟩
 have HP1 : Hid (PaintedO w w1 v1 zs (flatR (l.take 0))) := ⟨by simpa [bytesN, flatR] using ho, hb⟩
 clear ho hb
 go_wp2_with fail
 go_loopg [5, 14] m (fun g s5 s14 wr => ∃ (i : Nat) (lv : Value), i + g = m ∧ s14 = .int .i64 i ∧ s5 = lv ∧ Hid (PaintedO w wr lv zs (flatR (l.take i))))
 case atStart => exact ⟨0, _, by omega, rfl, rfl, HP1.out⟩
 case round =>
  clear HP1
  obtain ⟨i, lv, hg, rfl, hlv, HP⟩ := hrel
  have hlv' := hlv.symm
  subst hlv'
  clear hlv
  by_cases hlt : i < m
  · have hil : i < l.length := by have := Hm.out; omega
    have hgp : 0 < gk := by omega
    have HPb := Lib.hid HP.out.2
    obtain ⟨bb, off, A, C, rfl, hbw, c0, c1, c2, hN⟩ := HB.out.at (k := i) hil
    have hfr := flat_room hil
    obtain ⟨r, Hr⟩ : ∃ z, Hid (at_ l i = z) := ⟨_, rfl⟩
    rw [Hr.out] at c0 c1 c2 hN hfr
    obtain ⟨q, Hq⟩ : ∃ z, Hid (z = r.out.length) := ⟨_, rfl⟩
    rw [← Hq.out] at c2 hN hfr
    obtain ⟨x, Hx⟩ : ∃ z, Hid (r.inc = z) := ⟨_, rfl⟩
    obtain ⟨y, Hy⟩ : ∃ z, Hid (r.use = z) := ⟨_, rfl⟩
    rw [Hx.out] at c0
    rw [Hy.out] at c1
    obtain ⟨P, HPP⟩ : ∃ z, Hid (flatR (l.take i) = z) := ⟨_, rfl⟩
    rw [HPP.out] at HP hfr
    have Hfr : Hid (P.length + 2 + q ≤ (flatR l).length) := hfr
    have HN := Lib.hid (hN.later HPb.out)
    have e0 := cell_later HPb.out c0
    have e1 := cell_later HPb.out c1
    have e2 := cell_later HPb.out c2
    have hbr : bb < wr.heap.size := by have := HPb.out.size; omega
    clear c0 c1 c2 hN hfr
    have k0 : (0 : Int) ≤ (i : Int) := by omega
    have k1 : (i : Int) < (m : Int) := by omega
    have hnb := (numbers_calls x y A q C r.out Hq.out (wr.alloc (.cells #[.int .i64 x, .int .i64 y, .slice A q C] 83)) (HN.out.later (below_box wr _)) (by have := Hroom.out; have := Hfr.out; omega))
    have Hnb := Lib.hid hnb
    clear hnb
    go_wp2_with fail
    refine Hnb.out.mono ?_
    rintro e w2 ⟨A2, C2, rfl, hN2, hb2⟩
    obtain ⟨F, HF⟩ : ∃ z, Hid ([x, y] ++ r.out = z) := ⟨_, rfl⟩
    rw [HF.out] at hN2 ⊢
    obtain ⟨f, Hf⟩ : ∃ z, Hid (z = F.length) := ⟨_, rfl⟩
    rw [← Hf.out] at hN2 ⊢
    have Hff : Hid (P.length + f ≤ (flatR l).length) := by
     show P.length + f ≤ (flatR l).length
     have := Hfr.out
     rw [Hf.out, ← HF.out, List.length_append, ← Hq.out]
     simp; omega
    have hfb : f ≤ 9223372036854775807 := by have := Hff.out; have := Hroom.out; omega
    have HN2 : Hid (w2.ownsRow w.heap.size 2 1 (.slice A2 f C2) f (F.map (Value.int .i64))) := ⟨hN2.1, hN2.2.imp id fun ⟨g', cap, cur, e, hb', hh⟩ => ⟨g', cap, cur, e, by have := HPb.out.size; simp at hb'; omega, hh⟩⟩
    have hbb : Below wr.heap.size wr w2 := (below_box wr _).trans (hb2.mono (by simp))
    have HP2 : Hid (PaintedO w w2 lv zs P) := ⟨HP.out.1.later hbb, HP.out.2.trans (hbb.mono HP.out.2.size)⟩
    clear e0 e1 e2 hN2 hb2 hbb HPb Hnb hbr
    go_wp2_with fail
    go_loopg [5, 21] f (fun g s5 s21 wr => ∃ (k : Nat) (lw : Value), k + g = f ∧ s21 = .int .i64 k ∧ s5 = lw ∧ Hid (PaintedO w wr lw zs (P ++ F.take k)) ∧ Hid (wr.ownsRow w.heap.size 2 1 (.slice A2 f C2) f (F.map (Value.int .i64))))
    case atStart => exact ⟨0, _, by omega, rfl, rfl, by rw [List.take_zero, List.append_nil]; exact HP2.out, HN2.out⟩
    case round =>
     clear HP2 HP
     obtain ⟨k, lw, hgk, rfl, hlw, HPk, HNk⟩ := hrel
     have hlw' := hlw.symm
     subst hlw'
     clear hlw
     by_cases hkq : k < f
     · obtain ⟨A3, C3, hA3, hN3⟩ := nums_of_own HNk.out Hf.out hfb
       simp only [Value.slice.injEq, true_and] at hA3
       obtain ⟨rfl, rfl⟩ := hA3
       obtain ⟨b4, o4, rfl, hb4, g5⟩ := hN3.at (i := k) (by rw [← Hf.out]; exact hkq)
       obtain ⟨z, Hz⟩ : ∃ z, Hid (F[k]?.getD 0 = z) := ⟨_, rfl⟩
       rw [Hz.out] at g5
       clear hN3
       have j0 : (0 : Int) ≤ (k : Int) := by omega
       have j1 : (k : Int) < (f : Int) := by omega
       have hw1 := wrap_u64n z
       have HT : Hid (P ++ F.take k ++ [z] = P ++ F.take (k + 1)) := by
        show P ++ F.take k ++ [z] = P ++ F.take (k + 1)
        have hkF : k < F.length := by rw [← Hf.out]; exact hkq
        rw [List.take_succ_eq_append_getElem hkF, ← Hz.out, List.getElem?_eq_getElem hkF]
        simp
       go_wp2_with fail
       refine (put_calls none 0 0 [] (u64n z) (u64n_lt z) _ (bytes_nil _ _ _ (fun _ => rfl)) rfl (Nat.le_refl _) (by omega)).mono ?_
       rintro e w4 ⟨v4, rfl, hb4, hF4⟩
       rw [List.nil_append] at hF4
       obtain ⟨A4, n4, c4, rfl, hn4, hnc4⟩ := hF4.args
       obtain ⟨hO, hbO⟩ := HPk.out
       have hroom4 : (zs ++ bytesN ((P ++ F.take k).map u64n)).length + (PackMath.num (u64n z)).length ≤ 140737488355300 := by
        have h1 := bytes_room zs (P ++ F.take k)
        have h2 := PackMath.num_len_64 _ (u64n_lt z)
        have h3 := Hff.out
        have h4 := Hroom.out
        have h5 : (P ++ F.take k).length ≤ P.length + k := by simp; omega
        omega
       obtain ⟨v5, w5, hrun5, q1, q2, hG5⟩ := run_append_own (hO.later hb4) (by have := hb4.size; have := hbO.size; omega) hF4.bytes hn4 hnc4 hroom4
       obtain ⟨hf5, hv5, hw5⟩ := fine_of hrun5
       rw [bytes_more, HT.out] at q1
       have HP5 : Hid (PaintedO w w5 v5 zs (P ++ F.take (k + 1))) := ⟨q1, (held_next hbO hb4).trans q2⟩
       have HN5 : Hid (w5.ownsRow w.heap.size 2 1 (.slice (some ⟨b4, o4, none⟩) f C2) f (F.map (Value.int .i64))) := own_kept_apart (own_later HNk.out hb4) (hO.later hb4).1 (by decide) hG5.1
       clear hF4 hb4 hO hbO hroom4 hrun5 q1 q2 hG5 hn4 hnc4 g5 hw1
       go_wp2_with fail
       go_roundg (f - (k + 1))
       case measure => omega
       case rel => exact ⟨k + 1, _, by omega, by go_num, rfl, HP5.out, HN5.out⟩
     · have hkq' : k = f := by omega
       have HE : Hid (P ++ F.take k = flatR (l.take (i + 1))) := by
        show P ++ F.take k = flatR (l.take (i + 1))
        rw [take_flat hil, HPP.out, Hr.out, hkq', Hf.out, List.take_length, ← HF.out, ← Hx.out, ← Hy.out]
        simp [rowN]
       rw [HE.out] at HPk
       have Hkq := Lib.hid hkq'; clear hkq'
       go_wp2_with fail
       go_roundg (m - (i + 1))
       case measure => omega
       case rel => exact ⟨i + 1, _, by omega, by go_num, rfl, HPk.out⟩
  · have him : i = m := by omega
    have HE : Hid (flatR (l.take i) = flatR l) := by rw [him, Hm.out, List.take_length]; exact rfl
    rw [HE.out] at HP
    obtain ⟨hf, hb⟩ := HP.out
    have hlen : (zs ++ bytesN ((flatR l).map u64n)).length ≤ 9223372036854775807 := by
     have h1 := bytes_room zs (flatR l)
     have := Hroom.out
     omega
    obtain ⟨A9, C9, rfl, hC9, hB9⟩ := hf.form hlen
    have HB9 := Lib.hid hB9
    have HO9 := Lib.hid hf
    have HBl := Lib.hid hb
    have HC9 := Lib.hid hC9
    obtain ⟨m9, Hm9⟩ : ∃ z, Hid (z = (zs ++ bytesN ((flatR l).map u64n)).length) := ⟨_, rfl⟩
    rw [← Hm9.out] at HB9 HC9 HO9 ⊢
    have Him := Lib.hid him; clear him
    clear hf hb hB9 hC9 HP hlen
    go_wp2_with fail
    go_ret
    exact ⟨A9, m9, C9, rfl, Hm9.out, HC9.out, HB9.out, HBl.out, HO9.out⟩
end Go.Proofs.Ytnkgakhnlbifdaa
namespace Go.Proofs.Ytnkgakhnlbifdaa
open Go.RowKit
def ReadsR (w0 : World) (gr : Nat) (c : Cf) (z : List Int) (W : World) (e : Ending) (w' : World) : Prop :=
 ButG gr W w' ∧ (((rdB c (z, false)).2.2 = false ∧ (∃ A C, e = .returned (.slice A (rdB c (z, false)).1.length C) ∧ BooksFar W.heap.size w' (.slice A (rdB c (z, false)).1.length C) (rdB c (z, false)).1) ∧ Rd w0 gr (rdB c (z, false)).2.1 w') ∨ ((rdB c (z, false)).2.2 = true ∧ e = wrongE))
set_option maxRecDepth 100000 in
set_option maxHeartbeats 8000000 in
theorem krows_calls (w0 : World) (gr : Nat) (c : Cf) (z : List Int) (w : World) (h : Rd w0 gr z w) (hb0 : Below w0.heap.size w0 w) (_ : w0.heap.size ≤ gr) :
 Calls Try.prog 52 #[.pointer (some ⟨gr, 0, none⟩), cfV c] w (ReadsR w0 gr c z w) := by
 obtain ⟨v, hW, hv⟩ := h
 have hlt : gr < w.heap.size := hW.lt
 have HW := Lib.hid hW; clear hW
 obtain ⟨A, n, C, rfl, hn, hnC, hG⟩ := hv
 have Hn := Lib.hid hn; clear hn
 have HG := Lib.hid hG; clear hG
 have Hb0 := Lib.hid hb0; clear hb0
 have HC := Lib.hid (Whole.made w 23 (cfCells c))
 have Hb1 := Lib.hid (below_box w (.cells (cfCells c) 23))
 have HW1 := Lib.hid (HW.out.later Hb1.out hlt)
 obtain ⟨N, q, r, p, kk, cc⟩ := c
 go_enter Try.func52, Try.ntmps52
 go_wp2_with fail
 show Code.wp _ _ _ _ (w.alloc (.cells (cfCells ⟨N, q, r, p, kk, cc⟩) 23))
 obtain ⟨W1, hW1⟩ : ∃ z, w.alloc (.cells (cfCells ⟨N, q, r, p, kk, cc⟩) 23) = z := ⟨_, rfl⟩
 rw [hW1] at HC Hb1 HW1 ⊢
 clear hW1
 have hb01 : Below w0.heap.size w0 W1 := held_next Hb0.out Hb1.out
 have KP : Hid (∀ w', Below W1.heap.size W1 w' → Below W1.heap.size W1 w' ∧ w'.cell? ⟨gr, 0, none⟩ = some (.slice A n C) ∧ Whole w' w.heap.size 23 (cfCells ⟨N, q, r, p, kk, cc⟩)) :=
  fun w' h => ⟨h, (HW1.out.later h HW1.out.lt).cell 0, HC.out.later h HC.out.lt⟩
 have HC6 : Hid (∀ w', Whole w' w.heap.size 23 (cfCells ⟨N, q, r, p, kk, cc⟩) → w'.cell? ⟨w.heap.size, 0, none⟩ = some (.int .i64 N) ∧ w'.cell? ⟨w.heap.size, 1, none⟩ = some (.int .i64 q) ∧ w'.cell? ⟨w.heap.size, 2, none⟩ = some (.int .i64 r) ∧ w'.cell? ⟨w.heap.size, 3, none⟩ = some (.int .i64 p) ∧ w'.cell? ⟨w.heap.size, 4, none⟩ = some (.int .i64 kk) ∧ w'.cell? ⟨w.heap.size, 5, none⟩ = some (.int .i64 cc)) :=
  fun w' h => ⟨h.cell 0, h.cell 1, h.cell 2, h.cell 3, h.cell 4, h.cell 5⟩
 have KQ : Hid (∀ w', Below W1.heap.size W1 w' → Below W1.heap.size W1 w' ∧ w'.cell? ⟨gr, 0, none⟩ = some (.slice A n C) ∧ w'.cell? ⟨w.heap.size, 0, none⟩ = some (.int .i64 N) ∧ w'.cell? ⟨w.heap.size, 1, none⟩ = some (.int .i64 q) ∧ w'.cell? ⟨w.heap.size, 2, none⟩ = some (.int .i64 r) ∧ w'.cell? ⟨w.heap.size, 3, none⟩ = some (.int .i64 p) ∧ w'.cell? ⟨w.heap.size, 4, none⟩ = some (.int .i64 kk) ∧ w'.cell? ⟨w.heap.size, 5, none⟩ = some (.int .i64 cc)) :=
  fun w' h => ⟨h, (KP.out w' h).2.1, HC6.out w' (KP.out w' h).2.2⟩
 have hws : w.heap.size ≤ W1.heap.size := Hb1.out.size
 have hall : ∀ W, Below W1.heap.size W1 W → Calls Try.prog 75 #[cfV ⟨N, q, r, p, kk, cc⟩, .slice A n C] W (TookBA W (.slice A n C) z (takeB ⟨N, q, r, p, kk, cc⟩ z)) := fun W hW => pTake_all ⟨N, q, r, p, kk, cc⟩ A n C z W (HG.out W (held_next hb01 hW)) Hn.out hnC
 have Hall := Lib.hid hall; clear hall
 cases hres : takeB ⟨N, q, r, p, kk, cc⟩ z with
 | none =>
   have HB : Hid (rdB ⟨N, q, r, p, kk, cc⟩ (z, false) = ([], ([], true))) := rdB_no (b := false) hres
   have HT : Hid (∀ W, Below W1.heap.size W1 W → Calls Try.prog 75 #[cfV ⟨N, q, r, p, kk, cc⟩, .slice A n C] W (fun e w' => e = .returned (.tuple #[.slice none 0 0, .slice none 0 0, .bool false]) ∧ Below W.heap.size W w')) := fun W hW => (Hall.out W hW).mono fun e w' h => by
    rw [hres] at h
    rcases h with ⟨_, _, _, _, _, _, h, _⟩ | h
    · cases h
    · exact h.2
   clear hres Hall
   go_region_held3 (fun w' => Below W1.heap.size W1 w' ∧ w'.cell? ⟨gr, 0, none⟩ = some (.slice A n C) ∧ w'.cell? ⟨w.heap.size, 0, none⟩ = some (.int .i64 N) ∧ w'.cell? ⟨w.heap.size, 1, none⟩ = some (.int .i64 q) ∧ w'.cell? ⟨w.heap.size, 2, none⟩ = some (.int .i64 r) ∧ w'.cell? ⟨w.heap.size, 3, none⟩ = some (.int .i64 p) ∧ w'.cell? ⟨w.heap.size, 4, none⟩ = some (.int .i64 kk) ∧ w'.cell? ⟨w.heap.size, 5, none⟩ = some (.int .i64 cc))
    (first | exact KQ.out _ (Below.refl _ _).drew | exact KQ.out _ hS9)
    (first | (go_at_call 75; refine (HT.out _ (Below.refl _ _).drew).mono ?_; rintro ee w9 ⟨rfl, hb9⟩; have hS9 := (Below.refl W1.heap.size W1).drew.trans (hb9.mono (Nat.le_refl _))) | fail)
   have HB9 : Hid (ButG gr w w9) := ButG.of (held_next Hb1.out hS9)
   go_wp2_with fail
   refine (kbehind_no gr none 0 0 w9).mono ?_
   rintro e w5 ⟨rfl, rfl⟩
   go_wp2_with fail
   refine ⟨rfl, HB9.out, Or.inr ⟨?_, rfl⟩⟩
   rw [HB.out]
 | some pr =>
   obtain ⟨l, rest⟩ := pr
   have HB : Hid (rdB ⟨N, q, r, p, kk, cc⟩ (z, false) = (l, (rest, false))) := rdB_yes (b := false) hres
   have HT : Hid (∀ W, Below W1.heap.size W1 W → Calls Try.prog 75 #[cfV ⟨N, q, r, p, kk, cc⟩, .slice A n C] W (fun e w' => ∃ A' C' B' D', e = .returned (.tuple #[.slice A' l.length C', .slice B' rest.length D', .bool true]) ∧ BooksFar w.heap.size w' (.slice A' l.length C') l ∧ GoodB w0 (.slice B' rest.length D') rest ∧ Below W.heap.size W w')) := fun W hW => (Hall.out W hW).mono fun e w' h => by
    rw [hres] at h
    rcases h with ⟨l', rest', A', C', B', D', h1, h2, h3, h4, h5, h6⟩ | h
    · simp only [Option.some.injEq, Prod.mk.injEq] at h1
      obtain ⟨rfl, rfl⟩ := h1
      exact ⟨A', C', B', D', h2, h3.mono (Nat.le_trans hws hW.size), ⟨B', _, D', rfl, rfl, h5, fun W' hW' => h4 W' (HG.out W' hW')⟩, h6⟩
    · cases h.1
   clear hres Hall
   obtain ⟨ll, Hll⟩ : ∃ z, Hid (l.length = z) := ⟨_, rfl⟩
   obtain ⟨lr, Hlr⟩ : ∃ z, Hid (rest.length = z) := ⟨_, rfl⟩
   rw [Hll.out, Hlr.out] at HT
   go_region_held3 (fun w' => Below W1.heap.size W1 w' ∧ w'.cell? ⟨gr, 0, none⟩ = some (.slice A n C) ∧ w'.cell? ⟨w.heap.size, 0, none⟩ = some (.int .i64 N) ∧ w'.cell? ⟨w.heap.size, 1, none⟩ = some (.int .i64 q) ∧ w'.cell? ⟨w.heap.size, 2, none⟩ = some (.int .i64 r) ∧ w'.cell? ⟨w.heap.size, 3, none⟩ = some (.int .i64 p) ∧ w'.cell? ⟨w.heap.size, 4, none⟩ = some (.int .i64 kk) ∧ w'.cell? ⟨w.heap.size, 5, none⟩ = some (.int .i64 cc))
    (first | exact KQ.out _ (Below.refl _ _).drew | exact KQ.out _ hS9)
    (first | (go_at_call 75; refine (HT.out _ (Below.refl _ _).drew).mono ?_; rintro ee w9 ⟨A', C', B', D', rfl, hf9, hg9, hb9⟩; have hS9 := (Below.refl W1.heap.size W1).drew.trans (hb9.mono (Nat.le_refl _))) | fail)
   have hr9 := HW1.out.later hS9 HW1.out.lt
   have HR9 := Lib.hid hr9
   have HF9 := Lib.hid hf9
   have HG9 := Lib.hid hg9
   have HB9 : Hid (ButG gr w w9) := ButG.of (held_next Hb1.out hS9)
   clear hr9 hf9 hg9
   go_wp2_with fail
   refine (kbehind_yes gr _ B' lr D' w9 HR9.out).mono ?_
   rintro e w5 ⟨rfl, hw5⟩
   have HE : Hid (ButG gr w w5 ∧ BooksFar w.heap.size w5 (.slice A' ll C') l ∧ Rd w0 gr rest w5) := by
    show _ ∧ _
    rw [hw5]
    exact ⟨HB9.out.set 0 _, HF9.out.other (p := ⟨gr, 0, none⟩) hlt _, _, HR9.out.set 0 _, HG9.out⟩
   clear hw5
   go_wp2_with fail
   go_ret
   refine ⟨HE.out.1, Or.inl ⟨by rw [HB.out], ⟨A', C', ?_, ?_⟩, ?_⟩⟩
   · rw [HB.out, Hll.out]; rfl
   · rw [HB.out]; simp only; rw [Hll.out]; exact HE.out.2.1
   · rw [HB.out]; exact HE.out.2.2
end Go.Proofs.Ytnkgakhnlbifdaa
namespace Go.Proofs.Ytnkgakhnlbifdaa
open Go.RowKit
noncomputable def countedN (most : Int) (k : Nat) (zs : List Int) : Option (List Nat × List Int) :=
 match someN 1 zs with
 | none => none
 | some (ns, r) => if ((ns[0]?.getD 0 : Nat) : Int) ≤ most then someN (ns[0]?.getD 0 * k) r else none
def CountedN (most : Int) (k : Nat) (zs : List Int) (P : List Nat) (r : List Int) : Prop := ∃ a : Nat, (a : Int) ≤ most ∧ a ≤ 4611686018427387903 ∧ P.length = a * k ∧ (∀ v ∈ P, v ≤ 4611686018427387903) ∧ zs = bytesN (a :: P) ++ r
theorem countedN_yes {most : Int} {k : Nat} {zs r : List Int} {P : List Nat} (h : CountedN most k zs P r) : countedN most k zs = some (P, r) := by
 obtain ⟨a, h1, h2, h3, h4, h5⟩ := h
 have e1 : someN 1 zs = some ([a], bytesN P ++ r) := someN_yes ⟨rfl, fun v hv => by rw [List.mem_singleton.1 hv]; exact h2, by rw [h5, bytesN_cons, List.append_assoc, bytesN_one]⟩
 have e2 : someN (a * k) (bytesN P ++ r) = some (P, r) := someN_yes ⟨h3, h4, rfl⟩
 unfold countedN
 rw [e1]
 show (if ((a : Nat) : Int) ≤ most then someN (a * k) (bytesN P ++ r) else none) = _
 rw [if_pos h1, e2]
theorem CountedN.unique {most : Int} {k : Nat} {zs r r' : List Int} {P P' : List Nat} (h : CountedN most k zs P r) (h' : countedN most k zs = some (P', r')) : P' = P ∧ r' = r := by
 have e := (countedN_yes h).symm.trans h'
 cases e; exact ⟨rfl, rfl⟩
abbrev K (l : List Int) : List Nat := l.map u64n
def Z5 (x : Bk) : List Int := if x.au = au0 then [] else bytesN (K (tripN x.au ++ [oneI x.au.moved]))
def lastN' (x : Bk) : List Int := x.asks :: (notesN x.notes ++ [x.au.try_, x.au.ph])
def Z4 (x : Bk) : List Int := bytesN (K (lastN' x)) ++ Z5 x
def Z3 (x : Bk) : List Int := bytesN (K ((x.outs.length : Int) :: pairN x.outs)) ++ Z4 x
def Z2 (x : Bk) : List Int := bytesN (K ((x.line.length : Int) :: pairN x.line)) ++ Z3 x
def Z1 (x : Bk) : List Int := booksB x.rows ++ Z2 x
section
variable {c : Cf} {who : Int} {zs : List Int} {x : Bk} {N : Nat}
end
section
variable {c : Cf} {who : Int} {zs r1 r2 r3 r4 r5 : List Int} {x : Bk} {N k1 : Nat} {rows : List Rw} {ls os ts : List Nat}
end
end Go.Proofs.Ytnkgakhnlbifdaa
namespace Go.Proofs.Ytnkgakhnlbifdaa
open Go.RowKit
abbrev nilV : Value := .slice none 0 0
def KeptT (w : World) (c : Cf) (wk : World) : Prop :=
 Below w.heap.size w wk ∧ Whole wk w.heap.size 23 (cfCells c) ∧ Whole wk (w.heap.size + 1) 36 (bkCells bk0 nilV nilV nilV nilV nilV nilV nilV) ∧ Whole wk (w.heap.size + 1 + 1) 36 (bkCells bk0 nilV nilV nilV nilV nilV nilV nilV)
theorem KeptT.made (w : World) (c : Cf) : KeptT w c (((w.alloc (.cells (cfCells c) 23)).alloc (.cells (bkCells bk0 nilV nilV nilV nilV nilV nilV nilV) 36)).alloc (.cells (bkCells bk0 nilV nilV nilV nilV nilV nilV nilV) 36)) :=
 ⟨(below_two w _ _).alloc (by simp; omega) _, ((Whole.made w _ _).alloc _).alloc _, (Whole.made2 w _ _ _).alloc _, Whole.madeAt _ _ _ _ (by simp)⟩
theorem KeptT.later {w : World} {c : Cf} {wk wl : World} (h : KeptT w c wk) (hb : Below wk.heap.size wk wl) : KeptT w c wl := ⟨held_next h.1 hb, h.2.1.later hb h.2.1.lt, h.2.2.1.later hb h.2.2.1.lt, h.2.2.2.later hb h.2.2.2.lt⟩
abbrev bl00 : Bl := ⟨none, 0, 0, none, 0, 0, none, 0, 0, none, 0, 0, ⟨none, 0, 0, none, 0, 0, none, 0, 0⟩⟩
theorem Bytes.butG {G : Nat} {w0 wr : World} {B : Option Addr} {n D : Nat} {zs : List Int} {x : Bk} {lv ov nv tv uv iv : Value} {a1 : Option Addr} {m1 c1 : Nat} (h : Bytes w0 (.slice B n D) zs) (k : ButG G w0 wr)
 (hX : Whole w0 G 36 (bkCells x (.slice a1 m1 c1) lv ov nv tv uv iv)) (hl : ∀ v, v = lv ∨ v = ov ∨ v = nv ∨ v = tv ∨ v = uv ∨ v = iv → ∃ p m c, v = .slice p m c) : Bytes wr (.slice B n D) zs := by
 obtain ⟨h1, h2, h3⟩ := h
 refine ⟨h1, h2, ?_⟩
 rcases h3 with ⟨a, cap, e, h4, h5⟩ | ⟨b, off, cap, e, hc⟩
 · exact Or.inl ⟨a, cap, e, h4, h5⟩
 · refine Or.inr ⟨b, off, cap, e, fun j hj => k.cell_of (hc j hj) fun e2 => ?_⟩
   have h6 := hc j hj
   simp only at e2
   subst e2
   rw [hX.cell] at h6
   have h7 : off + j < 12 := by
    have := (Array.getElem?_eq_some_iff.1 h6).1
    simpa using this
   obtain ⟨p1, m1, q1, rfl⟩ := hl lv (Or.inl rfl)
   obtain ⟨p2, m2, q2, rfl⟩ := hl ov (Or.inr (Or.inl rfl))
   obtain ⟨p3, m3, q3, rfl⟩ := hl nv (Or.inr (Or.inr (Or.inl rfl)))
   obtain ⟨p4, m4, q4, rfl⟩ := hl tv (Or.inr (Or.inr (Or.inr (Or.inl rfl))))
   obtain ⟨p5, m5, q5, rfl⟩ := hl uv (Or.inr (Or.inr (Or.inr (Or.inr (Or.inl rfl)))))
   obtain ⟨p6, m6, q6, rfl⟩ := hl iv (Or.inr (Or.inr (Or.inr (Or.inr (Or.inr rfl)))))
   generalize off + j = t at h6 h7
   match t, h7 with
   | 0, _ => cases h6
   | 1, _ => cases h6
   | 2, _ => cases h6
   | 3, _ => cases h6
   | 4, _ => cases h6
   | 5, _ => cases h6
   | 6, _ => cases h6
   | 7, _ => cases h6
   | 8, _ => cases h6
   | 9, _ => cases h6
   | 10, _ => cases h6
   | 11, _ => cases h6
def FarK (g : Nat) (p : Bl) : Prop :=
 (∀ ad, p.a2 = some ad → ad.block ≠ g) ∧ (∀ ad, p.a3 = some ad → ad.block ≠ g) ∧ (∀ ad, p.a4 = some ad → ad.block ≠ g) ∧ (∀ ad, p.al.a1 = some ad → ad.block ≠ g) ∧ (∀ ad, p.al.a2 = some ad → ad.block ≠ g) ∧ (∀ ad, p.al.a3 = some ad → ad.block ≠ g)
theorem bk12_elems' {wx : World} {g sz n c m : Nat} {A : Option Addr} {f : Nat → Nat → Value} {x : Bk} {rv lv ov nv tv uv iv : Value} (h : Elems wx (.slice A n c) sz m f) (hn : n = m) (hg : ∀ ad, A = some ad → ad.block ≠ g) : Elems (bk12 wx g x rv lv ov nv tv uv iv) (.slice A n c) sz m f := by
 subst hn
 exact bk12_elems h hg
theorem bk12_far {B : Nat} {wx : World} {g : Nat} {v : Value} {l : List Rw} {x : Bk} {rv lv ov nv tv uv iv : Value} (h : BooksFar B wx v l) (hg : g < B) : BooksFar B (bk12 wx g x rv lv ov nv tv uv iv) v l :=
 (((((((((((h.other (p := ⟨g, 0, none⟩) hg _).other (p := ⟨g, 1, none⟩) hg _).other (p := ⟨g, 2, none⟩) hg _).other (p := ⟨g, 3, none⟩) hg _).other (p := ⟨g, 4, none⟩) hg _).other (p := ⟨g, 5, none⟩) hg _).other (p := ⟨g, 6, none⟩) hg _).other (p := ⟨g, 7, none⟩) hg _).other (p := ⟨g, 8, none⟩) hg _).other (p := ⟨g, 9, none⟩) hg _).other (p := ⟨g, 10, none⟩) hg _).other (p := ⟨g, 11, none⟩) hg _
theorem bk12_in {B g : Nat} {wk : World} {x y : Bk} {p : Bl} {rv lv ov nv tv uv iv : Value} (h : BkIn wk p y) (hf : BooksFar B wk (.slice p.a1 p.m1 p.c1) y.rows) (hg : g < B) (hF : FarK g p) : BkIn (bk12 wk g x rv lv ov nv tv uv iv) p y := by
 obtain ⟨⟨m1, _⟩, ⟨m2, h2⟩, ⟨m3, h3⟩, ⟨m4, h4⟩, ⟨m5, h5⟩, ⟨m6, h6⟩, m7, h7⟩ := h
 obtain ⟨f2, f3, f4, f5, f6, f7⟩ := hF
 exact ⟨⟨m1, (bk12_far hf hg).1⟩, ⟨m2, bk12_elems' h2 m2 f2⟩, ⟨m3, bk12_elems' h3 m3 f3⟩, ⟨m4, bk12_elems' h4 m4 f4⟩, ⟨m5, bk12_elems' h5 m5 f5⟩, ⟨m6, bk12_elems' h6 m6 f6⟩, m7, bk12_elems' h7 m7 f7⟩
end Go.Proofs.Ytnkgakhnlbifdaa
namespace Go.Proofs.Ytnkgakhnlbifdaa
open Go.RowKit
def BkHeld (B : Nat) (w : World) (p : Bl) (x : Bk) : Prop := ∀ W : World, w.heap.size ≤ W.heap.size → (∀ g, B ≤ g → g < w.heap.size → W.heap[g]? = w.heap[g]?) → BkIn W p x
theorem BkHeld.inn {B : Nat} {w : World} {p : Bl} {x : Bk} (h : BkHeld B w p x) : BkIn w p x := h w (Nat.le_refl _) fun _ _ _ => rfl
def TookKH (w : World) (x : Option Bk) (e : Ending) (w' : World) : Prop := ∃ p : Bl, e = .returned (.tuple #[bkAt (x.getD bk0) p, .bool x.isSome]) ∧ BkHeld w.heap.size w' p (x.getD bk0) ∧ Below w.heap.size w w'
theorem elems_held {B : Nat} {w W : World} {A : Option Addr} {n c sz m : Nat} {f : Nat → Nat → Value} (h : Elems w (.slice A n c) sz m f) (hA : ∀ ad, A = some ad → B ≤ ad.block) (hW : ∀ g, B ≤ g → g < w.heap.size → W.heap[g]? = w.heap[g]?) : Elems W (.slice A n c) sz m f := by
 obtain ⟨h1, h2⟩ := h
 refine ⟨h1, ?_⟩
 rcases h2 with h2 | ⟨b, off, cap, hv, hn, hc⟩
 · exact Or.inl h2
 · refine Or.inr ⟨b, off, cap, hv, hn, fun i j hi hj => ?_⟩
   have h3 := hc i j hi hj
   simp only [Value.slice.injEq] at hv
   have hb : B ≤ b := hA ⟨b, off, none⟩ hv.1
   have hl : b < w.heap.size := World.block_lt_of_cell? w _ h3
   exact (World.cell?_of_block (w := w) (w' := W) (a := ⟨b, off + (i * sz + j), none⟩) (hW b hb hl)).trans h3
theorem bk_held {B : Nat} {w : World} {p : Bl} {x : Bk} (h : BkIn w p x) (hf : BooksFar B w (.slice p.a1 p.m1 p.c1) x.rows) (h2 : ∀ ad, p.a2 = some ad → B ≤ ad.block) (h3 : ∀ ad, p.a3 = some ad → B ≤ ad.block) (h4 : ∀ ad, p.a4 = some ad → B ≤ ad.block)
 (h5 : ∀ ad, p.al.a1 = some ad → B ≤ ad.block) (h6 : ∀ ad, p.al.a2 = some ad → B ≤ ad.block) (h7 : ∀ ad, p.al.a3 = some ad → B ≤ ad.block) : BkHeld B w p x := fun W hs hW =>
 ⟨⟨h.1.1, hf.2 W hs hW⟩, ⟨h.2.1.1, elems_held h.2.1.2 h2 hW⟩, ⟨h.2.2.1.1, elems_held h.2.2.1.2 h3 hW⟩, ⟨h.2.2.2.1.1, elems_held h.2.2.2.1.2 h4 hW⟩, ⟨h.2.2.2.2.1.1, elems_held h.2.2.2.2.1.2 h5 hW⟩, ⟨h.2.2.2.2.2.1.1, elems_held h.2.2.2.2.2.1.2 h6 hW⟩, h.2.2.2.2.2.2.1, elems_held h.2.2.2.2.2.2.2 h7 hW⟩
end Go.Proofs.Ytnkgakhnlbifdaa
