/- Parts, as far as BookBackCards reaches them, of: RefBookTake, BookPutMath, PaintPutMath, RefPaintPut, RefMailNums, MailMore. No law is proved here. -/
import Derived.Test.YtnkgakhnlbifdaaGreatBa8
import Derived.Test.YtnkgakhnlbifdaaGreatBa9
import Derived.Test.YtnkgakhnlbifdaaGreatBa10
import Derived.Test.YtnkgakhnlbifdaaGreatBa14
import Derived.Test.YtnkgakhnlbifdaaGreatBa5
import Derived.Test.YtnkgakhnlbifdaaGreatBa4
import Derived.Deep.LoopGhost
namespace Go.Proofs.YtnkgakhnlbifdaaGreat
open Go.RowKit
theorem pairN_take {l : List Rq} {k : Nat} {y : Rq} (h : k < l.length) (hy : rqAt l k = y) : pairN (l.take (k + 1)) = pairN (l.take k) ++ [y.t, y.m] := by
 rw [List.take_succ_eq_append_getElem h]
 unfold rqAt at hy
 rw [List.getElem?_eq_getElem h] at hy
 have h8 : l[k] = y := hy
 rw [h8]
 unfold pairN
 rw [List.flatMap_append, List.flatMap_singleton]
theorem notesN_take {l : List Nt} {k : Nat} {y : Nt} (h : k < l.length) (hy : ntAt l k = y) : notesN (l.take (k + 1)) = notesN (l.take k) ++ noteN y := by
 rw [List.take_succ_eq_append_getElem h]
 unfold ntAt at hy
 rw [List.getElem?_eq_getElem h] at hy
 have h8 : l[k] = y := hy
 rw [h8]
 unfold notesN
 rw [List.flatMap_append, List.flatMap_singleton]
def tripK (a : Au) (k : Nat) : List Int := (List.range k).flatMap fun i => [oneI (a.told[i]?.getD false), a.use[i]?.getD 0, a.inc[i]?.getD 0]
theorem tripK_succ (a : Au) (k : Nat) : tripK a (k + 1) = tripK a k ++ [oneI (a.told[k]?.getD false), a.use[k]?.getD 0, a.inc[k]?.getD 0] := by
 unfold tripK
 rw [List.range_succ, List.flatMap_append, List.flatMap_singleton]
theorem tripK_len (a : Au) (k : Nat) : (tripK a k).length = 3 * k := trip_len _ _ fun _ => rfl
theorem rest_none (x : Bk) (h : x.au = au0) : restN x = ((((((x.line.length : Int) :: pairN x.line) ++ [(x.outs.length : Int)]) ++ pairN x.outs) ++ [x.asks]) ++ notesN x.notes) ++ [x.au.try_, x.au.ph] := by
 unfold restN auN
 rw [if_pos h]
 simp
theorem rest_some (x : Bk) (h : x.au ≠ au0) : restN x = (((((((x.line.length : Int) :: pairN x.line) ++ [(x.outs.length : Int)]) ++ pairN x.outs) ++ [x.asks]) ++ notesN x.notes) ++ [x.au.try_, x.au.ph] ++ tripK x.au x.au.told.length) ++ [oneI x.au.moved] := by
 unfold restN auN tripK tripN
 rw [if_neg h]
 simp
theorem rest_pos (x : Bk) : 0 < (restN x).length := by
 unfold restN
 simp
end Go.Proofs.YtnkgakhnlbifdaaGreat
namespace Go.Proofs.YtnkgakhnlbifdaaGreat
open Go.RowKit
theorem take_flat {l : List Rw} {i : Nat} (h : i < l.length) : flatR (l.take (i + 1)) = flatR (l.take i) ++ rowN (at_ l i) := by rw [take_at h, flatR_append, flatR_one]
theorem flat_room {l : List Rw} {i : Nat} (h : i < l.length) : (flatR (l.take i)).length + 2 + (at_ l i).out.length ≤ (flatR l).length := by
 have h1 : flatR l = flatR (l.take (i + 1)) ++ flatR (l.drop (i + 1)) := by rw [← flatR_append, List.take_append_drop]
 rw [h1, take_flat h, List.length_append, List.length_append]
 simp [rowN]; omega
theorem bytes_more (zs : List Int) (P : List Int) (x : Int) : (zs ++ bytesN (P.map u64n)) ++ PackMath.num (u64n x) = zs ++ bytesN ((P ++ [x]).map u64n) := by
 rw [List.map_append, bytesN_append, List.map_singleton, bytesN_one, List.append_assoc]
theorem bytes_room (zs P : List Int) : (zs ++ bytesN (P.map u64n)).length ≤ zs.length + 10 * P.length := by
 have := bytesN_len (P := P.map u64n) (fun v hv => by
  obtain ⟨x, _, rfl⟩ := List.mem_map.1 hv
  exact u64n_lt x)
 rw [List.length_map] at this
 rw [List.length_append]; omega
theorem wrap_u64n (x : Int) : IntKind.u64.wrap x = ((u64n x : Nat) : Int) := by rw [IntKind.wrap_u64]; unfold u64n; omega
end Go.Proofs.YtnkgakhnlbifdaaGreat
namespace Go.Proofs.YtnkgakhnlbifdaaGreat
open Go.RowKit
def Painted (w : World) (wr : World) (v : Value) (zs P : List Int) : Prop := Fresh w.heap.size 5 wr v (zs ++ bytesN (P.map u64n)) ∧ Below w.heap.size w wr
theorem refmore (w wr : World) (v : Value) (zs P : List Int) (x : Int) (h : Painted w wr v zs P) (hr : zs.length + 10 * P.length ≤ 140737488355000) :
 Calls Tryz.prog 54 #[v, .int .u64 ((u64n x : Nat) : Int)] wr (fun e w' => ∃ v', e = .returned v' ∧ Painted w w' v' zs (P ++ [x])) := by
 obtain ⟨h1, h2⟩ := h
 obtain ⟨a, n, c, rfl, hn, hnc⟩ := h1.args
 refine (refput_calls a n c _ (u64n x) (u64n_lt x) wr h1.bytes hn hnc (by have := bytes_room zs P; omega)).mono ?_
 rintro e w' ⟨v', rfl, hb, hf⟩
 exact ⟨v', rfl, by rw [← bytes_more]; exact hf.mono h2.size, h2.trans (hb.mono h2.size)⟩
set_option maxRecDepth 100000 in
set_option maxHeartbeats 8000000 in
theorem refpaint_calls (a : Option Addr) (n c : Nat) (zs : List Int) (b : Option Addr) (m d : Nat) (l : List Rw) (w : World) (hA : Bytes w (.slice a n c) zs) (hn : n = zs.length) (hm : m = l.length) (hB : Books w (.slice b m d) l)
 (hroom : zs.length + 10 * (flatR l).length ≤ 140737488355000) :
 Calls Tryz.prog 40 #[.slice a n c, .slice b m d] w (Made w (zs ++ booksB l)) := by
 have HA := Lib.hid hA; clear hA
 have HB := Lib.hid hB; clear hB
 have Hm := Lib.hid hm; clear hm
 have Hn := Lib.hid hn; clear hn
 have Hroom := Lib.hid hroom; clear hroom
 have hbm : m ≤ 9223372036854775807 := by rw [Hm.out]; exact HB.out.big
 obtain ⟨i5, hi, hz0, hz1, hz2⟩ := info_parts info_u8
 have Hi := Lib.hid hi; clear hi
 have Hz0 := Lib.hid hz0; clear hz0
 have Hz1 := Lib.hid hz1; clear hz1
 have Hz2 := Lib.hid hz2; clear hz2
 have HF0 := Lib.hid (fresh_empty w)
 have Hb0 := Lib.hid (below_box w (.cells #[] 5))
 go_enter Tryz.func40, Tryz.ntmps40
 go_wp2_with (at_builtin; refine wpList_append_more rfl (.tmp 8) (.tmp 9) 24 rfl w.heap.size 5 i5 Tryz.underlying24 Hi.out Hz0.out Hz1.out Hz2.out _ _ rfl HF0.out _ _ rfl (HA.out.later Hb0.out) (by have := Hroom.out; simp; omega) (by simp) ?_; intro v1 w1 hF hB2; have HP1 : Hid (Painted w w1 v1 zs []) := ⟨by have := hF; rw [List.nil_append] at this; simpa [bytesN] using this, Hb0.out.trans hB2⟩; clear hF hB2)
 clear HF0 Hb0
 go_loopg [5, 6] m (fun g s5 s6 wr => ∃ (i : Nat), i + g = m ∧ s6 = .int .i64 i ∧ Hid (Painted w wr s5 zs (flatR (l.take i))))
 case atStart => exact ⟨0, by omega, rfl, HP1.out⟩
 case round =>
  clear HP1
  obtain ⟨i, hg, rfl, HP⟩ := hrel
  by_cases hlt : i < m
  · have hil : i < l.length := by have := Hm.out; omega
    have hgp : 0 < gk := by omega
    have HPb := Lib.hid HP.out.2
    obtain ⟨bb, off, A, C, rfl, hbw, c0, c1, c2, hN⟩ := HB.out.at (k := i) hil
    have hfr := flat_room hil
    obtain ⟨r, Hr⟩ : ∃ z, Hid (at_ l i = z) := ⟨_, rfl⟩
    rw [Hr.out] at c0 c1 c2 hN hfr
    obtain ⟨q, Hq⟩ : ∃ z, Hid (z = r.out.length) := ⟨_, rfl⟩
    rw [← Hq.out] at c2 hN hfr
    obtain ⟨x, Hx⟩ : ∃ z, Hid (r.inc = z) := ⟨_, rfl⟩
    obtain ⟨y, Hy⟩ : ∃ z, Hid (r.use = z) := ⟨_, rfl⟩
    rw [Hx.out] at c0
    rw [Hy.out] at c1
    obtain ⟨P, HPP⟩ : ∃ z, Hid (flatR (l.take i) = z) := ⟨_, rfl⟩
    rw [HPP.out] at HP hfr
    have Hfr : Hid (P.length + 2 + q ≤ (flatR l).length) := hfr
    have HC0 := Lib.hid c0
    have HC1 := Lib.hid c1
    have HC2 := Lib.hid c2
    have HN := Lib.hid hN
    have hqb : q ≤ 9223372036854775807 := by rw [Hq.out]; exact hN.1
    clear c0 c1 c2 hN hfr
    have k0 : (0 : Int) ≤ (i : Int) := by omega
    have k1 : (i : Int) < (m : Int) := by omega
    have e0 := cell_later HPb.out HC0.out
    have hw1 := wrap_u64n x
    go_wp2_with fail
    refine (refmore w wr _ zs P x HP.out (by have := Hroom.out; have := Hfr.out; omega)).mono ?_
    rintro e w2 ⟨v2, rfl, hp⟩
    have HP2 := Lib.hid hp; clear hp
    clear e0 hw1
    have e1 := cell_later HP2.out.2 HC1.out
    have hw1 := wrap_u64n y
    go_wp2_with fail
    refine (refmore w w2 _ zs (P ++ [x]) y HP2.out (by have := Hroom.out; have := Hfr.out; simp; omega)).mono ?_
    rintro e w3 ⟨v3, rfl, hp⟩
    have HP3 : Hid (Painted w w3 v3 zs (P ++ [x, y] ++ r.out.take 0)) := by
     show Painted w w3 v3 zs (P ++ [x, y] ++ r.out.take 0)
     rw [List.append_assoc] at hp; simpa using hp
    clear hp e1 hw1
    go_wp2_with fail
    go_loopg [5, 7] q (fun g s5 s7 wr => ∃ (k : Nat), k + g = q ∧ s7 = .int .i64 k ∧ Hid (Painted w wr s5 zs (P ++ [x, y] ++ r.out.take k)))
    case atStart => exact ⟨0, by omega, rfl, HP3.out⟩
    case round =>
     clear HP3 HP2 HP HPb
     obtain ⟨k, hgk, rfl, HPk⟩ := hrel
     have e2 := cell_later HPk.out.2 HC2.out
     by_cases hkq : k < q
     · obtain ⟨b4, o4, rfl, hb4, g4⟩ := HN.out.at (i := k) (by rw [← Hq.out]; exact hkq)
       obtain ⟨z, Hz⟩ : ∃ z, Hid (r.out[k]?.getD 0 = z) := ⟨_, rfl⟩
       rw [Hz.out] at g4
       have g5 := cell_later HPk.out.2 g4
       clear g4
       have j0 : (0 : Int) ≤ (k : Int) := by omega
       have j1 : (k : Int) < (q : Int) := by omega
       have hw1 := wrap_u64n z
       have HT : Hid (P ++ [x, y] ++ r.out.take k ++ [z] = P ++ [x, y] ++ r.out.take (k + 1)) := by
        show P ++ [x, y] ++ r.out.take k ++ [z] = P ++ [x, y] ++ r.out.take (k + 1)
        rw [List.take_succ_eq_append_getElem (by rw [← Hq.out]; exact hkq), ← Hz.out, List.getElem?_eq_getElem (by rw [← Hq.out]; exact hkq)]
        simp
       go_wp2_with fail
       refine (refmore w _ _ zs _ z HPk.out (by have := Hroom.out; have := Hfr.out; have := Hq.out; simp; omega)).mono ?_
       rintro e w4 ⟨v4, rfl, hp⟩
       rw [HT.out] at hp
       have HP4 := Lib.hid hp; clear hp
       go_wp2_with fail
       go_roundg (q - (k + 1))
       case measure => omega
       case rel => exact ⟨k + 1, by omega, by go_num, HP4.out⟩
     · have hkq' : k = q := by omega
       have HE : Hid (P ++ [x, y] ++ r.out.take k = flatR (l.take (i + 1))) := by
        show P ++ [x, y] ++ r.out.take k = flatR (l.take (i + 1))
        rw [take_flat hil, HPP.out, Hr.out, hkq', Hq.out, List.take_length, ← Hx.out, ← Hy.out]
        simp [rowN]
       rw [HE.out] at HPk
       have Hkq := Lib.hid hkq'; clear hkq'
       go_wp2_with fail
       go_roundg (m - (i + 1))
       case measure => omega
       case rel => exact ⟨i + 1, by omega, by go_num, HPk.out⟩
  · have him : i = m := by omega
    have HE : Hid (flatR (l.take i) = flatR l) := by rw [him, Hm.out, List.take_length]; exact rfl
    rw [HE.out] at HP
    obtain ⟨hf, hb⟩ := HP.out
    obtain ⟨aa, nn, cc, rfl, _, _⟩ := hf.args
    have HF := Lib.hid hf
    have HBl := Lib.hid hb
    clear hf hb
    have Him := Lib.hid him; clear him
    go_wp2_with fail
    go_ret
    exact ⟨_, rfl, HBl.out, HF.out⟩
end Go.Proofs.YtnkgakhnlbifdaaGreat
namespace Go.Proofs.YtnkgakhnlbifdaaGreat
open Go.RowKit
def PaintedAt (w wr : World) (v v0 : Value) (zs P : List Int) : Prop := (P = [] ∧ v = v0 ∧ Below w.heap.size w wr) ∨ (P ≠ [] ∧ Painted w wr v zs P)
theorem PaintedAt.below {w wr : World} {v v0 : Value} {zs P : List Int} (h : PaintedAt w wr v v0 zs P) : Below w.heap.size w wr := h.elim (fun h => h.2.2) (fun h => h.2.2)
theorem refmore_at (w wr : World) (v : Value) (a : Option Addr) (n c : Nat) (zs P : List Int) (x : Int) (hA : Bytes w (.slice a n c) zs) (hn : n = zs.length) (hnc : n ≤ c) (h : PaintedAt w wr v (.slice a n c) zs P) (hr : zs.length + 10 * P.length ≤ 140737488355000) :
 Calls Tryz.prog 54 #[v, .int .u64 ((u64n x : Nat) : Int)] wr (fun e w' => ∃ v', e = .returned v' ∧ Painted w w' v' zs (P ++ [x])) := by
 rcases h with ⟨rfl, rfl, hb⟩ | ⟨_, h⟩
 · refine (refput_calls a n c zs (u64n x) (u64n_lt x) wr (hA.later hb) hn hnc (by omega)).mono ?_
   rintro e w' ⟨v', rfl, hb2, hf⟩
   refine ⟨v', rfl, ?_, held_next hb hb2⟩
   show Fresh w.heap.size 5 w' v' (zs ++ bytesN (([] ++ [x]).map u64n))
   rw [List.nil_append, List.map_singleton, bytesN_one]
   exact hf.mono hb.size
 · exact refmore w wr v zs P x h hr
set_option maxRecDepth 100000 in
set_option maxHeartbeats 4000000 in
theorem refnumbers_calls (a : Option Addr) (n c : Nat) (zs : List Int) (b : Option Addr) (m d : Nat) (P : List Int) (hm : m = P.length) (h0 : 0 < m) (hn : n = zs.length) (hnc : n ≤ c) (hroom : zs.length + 10 * P.length ≤ 140737488355000) (w : World)
 (hA : Bytes w (.slice a n c) zs) (hN : Nums w (.slice b m d) P) :
 Calls Tryz.prog 39 #[.slice a n c, .slice b m d] w (Made w (zs ++ bytesN (P.map u64n))) := by
 have hbm : m ≤ 9223372036854775807 := by rw [hm]; exact hN.1
 have HA := Lib.hid hA; clear hA
 have HN := Lib.hid hN; clear hN
 have Hm := Lib.hid hm; clear hm
 have Hn := Lib.hid hn; clear hn
 have Hroom := Lib.hid hroom; clear hroom
 go_enter Tryz.func39, Tryz.ntmps39
 go_wp2_with fail
 go_loopw [0, 5] (fun s0 s5 wr => ∃ (k : Nat), k ≤ m ∧ s5 = .int .i64 (k : Int) ∧ Hid (PaintedAt w wr s0 (.slice a n c) zs (P.take k))) (fun _ s5 _ => m - (intOf s5).toNat)
 case atStart => exact ⟨0, Nat.zero_le _, rfl, Or.inl ⟨by simp, rfl, Below.refl _ _⟩⟩
 case round =>
  obtain ⟨k, hk, rfl, HP⟩ := hrel
  by_cases hkm : k < m
  · obtain ⟨bb, ob, rfl, hbb, g4⟩ := HN.out.at (i := k) (by have := Hm.out; omega)
    obtain ⟨z, Hz⟩ : ∃ z, Hid (P[k]?.getD 0 = z) := ⟨_, rfl⟩
    rw [Hz.out] at g4
    have g5 := cell_later HP.out.below g4
    clear g4
    have j0 : (0 : Int) ≤ (k : Int) := by omega
    have j1 : (k : Int) < (m : Int) := by omega
    have hw1 := wrap_u64n z
    have HT : Hid (P.take k ++ [z] = P.take (k + 1)) := by
     show _ = _
     rw [List.take_succ_eq_append_getElem (by rw [← Hm.out]; exact hkm), ← Hz.out, List.getElem?_eq_getElem (by rw [← Hm.out]; exact hkm)]
     rfl
    go_wp2_with fail
    refine (refmore_at w _ _ a n c zs (P.take k) z HA.out Hn.out hnc HP.out (by have := Hroom.out; rw [List.length_take]; omega)).mono ?_
    rintro e w4 ⟨v4, rfl, hp⟩
    rw [HT.out] at hp
    have hne : P.take (k + 1) ≠ [] := fun e => by rw [← HT.out] at e; simp at e
    have HP4 : Hid (PaintedAt w w4 v4 (.slice a n c) zs (P.take (k + 1))) := Or.inr ⟨hne, hp⟩
    clear hp hne
    go_wp2_with fail
    go_roundw
    case rel => exact ⟨k + 1, by omega, by go_num, HP4.out⟩
    case measure => simp [intOf]; omega
  · obtain rfl : k = m := by omega
    rcases HP.out with ⟨he, _⟩ | ⟨_, hp⟩
    · exfalso
      have := congrArg List.length he
      rw [List.length_take, ← Hm.out] at this
      simp at this
      omega
    · rw [Hm.out, List.take_length] at hp
      have Hp := Lib.hid hp
      clear hp
      go_wp2_with fail
      go_ret
      exact ⟨_, rfl, Hp.out.2, Hp.out.1⟩
end Go.Proofs.YtnkgakhnlbifdaaGreat
namespace Go.Proofs.YtnkgakhnlbifdaaGreat
open Go.RowKit
theorem nums_made {w : World} {g : Nat} {l : List Int} (h : Whole w g 2 (l.map (Value.int .i64)).toArray) (hl : l.length ≤ 1000) : Nums w (.slice (some ⟨g, 0, none⟩) l.length l.length) l := by
 refine ⟨by omega, Or.inr ⟨g, 0, l.length, rfl, Nat.le_refl _, fun i j hi hj => ?_⟩⟩
 obtain rfl : j = 0 := by omega
 rw [h.cell]
 simp [List.getElem?_eq_getElem hi]
theorem refnumbers_more (w wr : World) (v : Value) (P Q : List Int) (b : Option Addr) (m d : Nat) (hm : m = Q.length) (h0 : 0 < m) (h : Painted w wr v [] P) (hN : Nums wr (.slice b m d) Q) (hroom : 10 * (P.length + Q.length) ≤ 140737488355000) :
 Calls Tryz.prog 39 #[v, .slice b m d] wr (fun e w' => ∃ v', e = .returned v' ∧ Painted w w' v' [] (P ++ Q) ∧ Below wr.heap.size wr w') := by
 obtain ⟨h1, h2⟩ := h
 obtain ⟨a, n, c, rfl, hn, hnc⟩ := h1.args
 have hr := bytes_room [] P
 refine (refnumbers_calls a n c _ b m d Q hm h0 hn hnc (by simp only [List.length_nil] at hr; omega) wr h1.bytes hN).mono ?_
 rintro e w' ⟨v', rfl, hb, hf⟩
 refine ⟨v', rfl, ⟨?_, held_next h2 hb⟩, hb⟩
 show Fresh w.heap.size 5 w' v' ([] ++ bytesN ((P ++ Q).map u64n))
 rw [List.map_append, bytesN_append, ← List.append_assoc]
 exact hf.mono h2.size
theorem refpaint_more (w wr : World) (v : Value) (P : List Int) (b : Option Addr) (m d : Nat) (l : List Rw) (hm : m = l.length) (h : Painted w wr v [] P) (hB : Books wr (.slice b m d) l) (hroom : 10 * (P.length + (flatR l).length) ≤ 140737488355000) :
 Calls Tryz.prog 40 #[v, .slice b m d] wr (fun e w' => ∃ v', e = .returned v' ∧ Painted w w' v' [] (P ++ flatR l) ∧ Below wr.heap.size wr w') := by
 obtain ⟨h1, h2⟩ := h
 obtain ⟨a, n, c, rfl, hn, hnc⟩ := h1.args
 have hr := bytes_room [] P
 refine (refpaint_calls a n c _ b m d l wr h1.bytes hn hm hB (by simp only [List.length_nil] at hr; omega)).mono ?_
 rintro e w' ⟨v', rfl, hb, hf⟩
 refine ⟨v', rfl, ⟨?_, held_next h2 hb⟩, hb⟩
 show Fresh w.heap.size 5 w' v' ([] ++ bytesN ((P ++ flatR l).map u64n))
 rw [List.map_append, bytesN_append, ← List.append_assoc]
 exact hf.mono h2.size
end Go.Proofs.YtnkgakhnlbifdaaGreat
