/- Merged texts: RefMailNums, MailMore, RefMailPut. No law is proved here. -/
import Derived.Test.YtfpadcfahfanoaaMg20
import Derived.Test.YtfpadcfahfanoaaMg9
import Derived.Test.YtfpadcfahfanoaaMg28
import Derived.Deep.RegionHeld3
/- The document's own, layer 16: numbers as bytes, behind others. No law is proved here. -/
namespace Go.Proofs.Ytfpadcfahfanoaa
open Go.RowKit

/-- numbers so far, or none yet -/
def PaintedAt (w wr : World) (v v0 : Value) (zs P : List Int) : Prop := (P = [] ∧ v = v0 ∧ Below w.heap.size w wr) ∨ (P ≠ [] ∧ Painted w wr v zs P)
theorem PaintedAt.below {w wr : World} {v v0 : Value} {zs P : List Int} (h : PaintedAt w wr v v0 zs P) : Below w.heap.size w wr := h.elim (fun h => h.2.2) (fun h => h.2.2)
theorem refmore_at (w wr : World) (v : Value) (a : Option Addr) (n c : Nat) (zs P : List Int) (x : Int) (hA : Bytes w (.slice a n c) zs) (hn : n = zs.length) (hnc : n ≤ c) (h : PaintedAt w wr v (.slice a n c) zs P) (hr : zs.length + 10 * P.length ≤ 140737488355000) :
    Calls Try.prog 47 #[v, .int .u64 ((u64n x : Nat) : Int)] wr (fun e w' => ∃ v', e = .returned v' ∧ Painted w w' v' zs (P ++ [x])) := by
  rcases h with ⟨rfl, rfl, hb⟩ | ⟨_, h⟩
  · refine (refput_calls a n c zs (u64n x) (u64n_lt x) wr (hA.later hb) hn hnc (by omega)).mono ?_
    rintro e w' ⟨v', rfl, hb2, hf⟩
    refine ⟨v', rfl, ?_, held_next hb hb2⟩
    show Fresh w.heap.size 5 w' v' (zs ++ bytesN (([] ++ [x]).map u64n))
    rw [List.nil_append, List.map_singleton, bytesN_one]
    exact hf.mono hb.size
  · exact refmore w wr v zs P x h hr
set_option maxRecDepth 100000 in
set_option maxHeartbeats 4000000 in
theorem refnumbers_calls (a : Option Addr) (n c : Nat) (zs : List Int) (b : Option Addr) (m d : Nat) (P : List Int) (hm : m = P.length) (h0 : 0 < m) (hn : n = zs.length) (hnc : n ≤ c) (hroom : zs.length + 10 * P.length ≤ 140737488355000) (w : World)
    (hA : Bytes w (.slice a n c) zs) (hN : Nums w (.slice b m d) P) :
    Calls Try.prog 27 #[.slice a n c, .slice b m d] w (Made w (zs ++ bytesN (P.map u64n))) := by
  have hbm : m ≤ 9223372036854775807 := by rw [hm]; exact hN.1
  have HA := Lib.hid hA; clear hA
  have HN := Lib.hid hN; clear hN
  have Hm := Lib.hid hm; clear hm
  have Hn := Lib.hid hn; clear hn
  have Hroom := Lib.hid hroom; clear hroom
  go_enter Try.func27, Try.ntmps27
  go_wp2_with fail
  go_loopw [0, 5] (fun s0 s5 wr => ∃ (k : Nat), k ≤ m ∧ s5 = .int .i64 (k : Int) ∧ Hid (PaintedAt w wr s0 (.slice a n c) zs (P.take k))) (fun _ s5 _ => m - (intOf s5).toNat)
  case atStart => exact ⟨0, Nat.zero_le _, rfl, Or.inl ⟨by simp, rfl, Below.refl _ _⟩⟩
  case round =>
    obtain ⟨k, hk, rfl, HP⟩ := hrel
    by_cases hkm : k < m
    · obtain ⟨bb, ob, rfl, hbb, g4⟩ := HN.out.at (i := k) (by have := Hm.out; omega)
      obtain ⟨z, Hz⟩ : ∃ z, Hid (P[k]?.getD 0 = z) := ⟨_, rfl⟩
      rw [Hz.out] at g4
      have g5 := cell_later HP.out.below g4
      clear g4
      have j0 : (0 : Int) ≤ (k : Int) := by omega
      have j1 : (k : Int) < (m : Int) := by omega
      have hw1 := wrap_u64n z
      have HT : Hid (P.take k ++ [z] = P.take (k + 1)) := by
        show _ = _
        rw [List.take_succ_eq_append_getElem (by rw [← Hm.out]; exact hkm), ← Hz.out, List.getElem?_eq_getElem (by rw [← Hm.out]; exact hkm)]
        rfl
      go_wp2_with fail
      refine (refmore_at w _ _ a n c zs (P.take k) z HA.out Hn.out hnc HP.out (by have := Hroom.out; rw [List.length_take]; omega)).mono ?_
      rintro e w4 ⟨v4, rfl, hp⟩
      rw [HT.out] at hp
      have hne : P.take (k + 1) ≠ [] := fun e => by rw [← HT.out] at e; simp at e
      have HP4 : Hid (PaintedAt w w4 v4 (.slice a n c) zs (P.take (k + 1))) := Or.inr ⟨hne, hp⟩
      clear hp hne
      go_wp2_with fail
      go_roundw
      case rel => exact ⟨k + 1, by omega, by go_num, HP4.out⟩
      case measure => simp [intOf]; omega
    · obtain rfl : k = m := by omega
      rcases HP.out with ⟨he, _⟩ | ⟨_, hp⟩
      · exfalso
        have := congrArg List.length he
        rw [List.length_take, ← Hm.out] at this
        simp at this
        omega
      · rw [Hm.out, List.take_length] at hp
        have Hp := Lib.hid hp
        clear hp
        go_wp2_with fail
        go_ret
        exact ⟨_, rfl, Hp.out.2, Hp.out.1⟩
end Go.Proofs.Ytfpadcfahfanoaa

/- The document's own, layers 16 and 17: numbers, and books, behind bytes that were put so. No law is proved here. -/
namespace Go.Proofs.Ytfpadcfahfanoaa
open Go.RowKit

/-- numbers in a block of their own -/
theorem nums_made {w : World} {g : Nat} {l : List Int} (h : Whole w g 2 (l.map (Value.int .i64)).toArray) (hl : l.length ≤ 1000) : Nums w (.slice (some ⟨g, 0, none⟩) l.length l.length) l := by
  refine ⟨by omega, Or.inr ⟨g, 0, l.length, rfl, Nat.le_refl _, fun i j hi hj => ?_⟩⟩
  obtain rfl : j = 0 := by omega
  rw [h.cell]
  simp [List.getElem?_eq_getElem hi]
theorem refnumbers_more (w wr : World) (v : Value) (P Q : List Int) (b : Option Addr) (m d : Nat) (hm : m = Q.length) (h0 : 0 < m) (h : Painted w wr v [] P) (hN : Nums wr (.slice b m d) Q) (hroom : 10 * (P.length + Q.length) ≤ 140737488355000) :
    Calls Try.prog 27 #[v, .slice b m d] wr (fun e w' => ∃ v', e = .returned v' ∧ Painted w w' v' [] (P ++ Q) ∧ Below wr.heap.size wr w') := by
  obtain ⟨h1, h2⟩ := h
  obtain ⟨a, n, c, rfl, hn, hnc⟩ := h1.args
  have hr := bytes_room [] P
  refine (refnumbers_calls a n c _ b m d Q hm h0 hn hnc (by simp only [List.length_nil] at hr; omega) wr h1.bytes hN).mono ?_
  rintro e w' ⟨v', rfl, hb, hf⟩
  refine ⟨v', rfl, ⟨?_, held_next h2 hb⟩, hb⟩
  show Fresh w.heap.size 5 w' v' ([] ++ bytesN ((P ++ Q).map u64n))
  rw [List.map_append, bytesN_append, ← List.append_assoc]
  exact hf.mono h2.size
theorem refpaint_more (w wr : World) (v : Value) (P : List Int) (b : Option Addr) (m d : Nat) (l : List Rw) (hm : m = l.length) (h : Painted w wr v [] P) (hB : Books wr (.slice b m d) l) (hroom : 10 * (P.length + (flatR l).length) ≤ 140737488355000) :
    Calls Try.prog 28 #[v, .slice b m d] wr (fun e w' => ∃ v', e = .returned v' ∧ Painted w w' v' [] (P ++ flatR l) ∧ Below wr.heap.size wr w') := by
  obtain ⟨h1, h2⟩ := h
  obtain ⟨a, n, c, rfl, hn, hnc⟩ := h1.args
  have hr := bytes_room [] P
  refine (refpaint_calls a n c _ b m d l wr h1.bytes hn hm hB (by simp only [List.length_nil] at hr; omega)).mono ?_
  rintro e w' ⟨v', rfl, hb, hf⟩
  refine ⟨v', rfl, ⟨?_, held_next h2 hb⟩, hb⟩
  show Fresh w.heap.size 5 w' v' ([] ++ bytesN ((P ++ flatR l).map u64n))
  rw [List.map_append, bytesN_append, ← List.append_assoc]
  exact hf.mono h2.size
end Go.Proofs.Ytfpadcfahfanoaa

/- The document's own, layer 16: a message as bytes. No law is proved here. -/
namespace Go.Proofs.Ytfpadcfahfanoaa
open Go.RowKit

set_option maxRecDepth 100000 in
set_option maxHeartbeats 8000000 in
theorem refmput_calls (x : Ml) (a1 : Option Addr) (m1 c1 : Nat) (a2 : Option Addr) (m2 c2 : Nat) (w : World) (hM : MailIn w a1 m1 c1 a2 m2 c2 x) (hroom : 10 * (allN x).length ≤ 140737488350000) :
    Calls Try.prog 12 #[mlV x (.slice a1 m1 c1) (.slice a2 m2 c2)] w (Made w (mailBytes x)) := by
  obtain ⟨hm1, hB, hm2, hE⟩ := hM
  have hbig2 : m2 ≤ 9223372036854775807 := by rw [hm2]; exact hE.1
  have HB := Lib.hid hB; clear hB
  have HE := Lib.hid hE; clear hE
  have Hm1 := Lib.hid hm1; clear hm1
  have Hm2 := Lib.hid hm2; clear hm2
  have hr : (headN x).length + ((flatR x.rows).length + (tailN x).length) ≤ 14073748835000 := by
    unfold allN at hroom
    rw [List.length_append, List.length_append] at hroom
    omega
  rw [tailN_len, show (headN x).length = 3 from rfl] at hr
  have Hr := Lib.hid hr; clear hr hroom
  have HX := Lib.hid (Whole.made w 35 (mlCells x (.slice a1 m1 c1) (.slice a2 m2 c2)))
  have Hb0 := Lib.hid (below_box w (.cells (mlCells x (.slice a1 m1 c1) (.slice a2 m2 c2)) 35))
  obtain ⟨zs, Hzs⟩ : ∃ z, Hid (mailBytes x = z) := ⟨_, rfl⟩
  rw [Hzs.out]
  obtain ⟨fr, tg, clk, rows, t, a, v, asks, try_, ph, echo⟩ := x
  have HH := Lib.hid (nums_made (l := [fr, tg, clk]) (Whole.made2 w (.cells (mlCells ⟨fr, tg, clk, rows, t, a, v, asks, try_, ph, echo⟩ (.slice a1 m1 c1) (.slice a2 m2 c2)) 35) 2 #[.int .i64 fr, .int .i64 tg, .int .i64 clk]) (by show 3 ≤ 1000; decide))
  have Hb1 := Lib.hid (below_two w (.cells (mlCells ⟨fr, tg, clk, rows, t, a, v, asks, try_, ph, echo⟩ (.slice a1 m1 c1) (.slice a2 m2 c2)) 35) (.cells #[.int .i64 fr, .int .i64 tg, .int .i64 clk] 2))
  have HX1 := Lib.hid (HX.out.alloc (.cells #[.int .i64 fr, .int .i64 tg, .int .i64 clk] 2))
  obtain ⟨⟨M0, M1, M2, M3⟩, ⟨M4, M5, M6, M7⟩, M8, M9, M10⟩ := ml_cells' HX.out
  simp only at M0 M1 M2 M3 M4 M5 M6 M7 M8 M9 M10
  go_enter Try.func12, Try.ntmps12
  go_wp2_with fail
  refine (refnumbers_calls none 0 0 [] (some ⟨w.heap.size + 1, 0, none⟩) 3 3 [fr, tg, clk] rfl (by decide) rfl (Nat.le_refl _) (by show 0 + 10 * 3 ≤ 140737488355000; decide) _ (bytes_nil _ _ _ (fun _ => rfl)) HH.out).mono ?_
  rintro e w1 ⟨v1, rfl, hb, hf⟩
  have HP1 : Hid (Painted w w1 v1 [] [fr, tg, clk]) := ⟨hf.mono Hb1.out.size, held_next Hb1.out hb⟩
  have HXa := Lib.hid (HX1.out.later hb HX1.out.lt)
  clear hb hf M0 M1 M2 M3 M4 M5 M6 M7 M8 M9 M10
  obtain ⟨⟨M0, M1, M2, M3⟩, ⟨M4, M5, M6, M7⟩, M8, M9, M10⟩ := ml_cells' HXa.out
  simp only at M0 M1 M2 M3 M4 M5 M6 M7 M8 M9 M10
  go_wp2_with fail
  refine (refpaint_more w w1 v1 [fr, tg, clk] a1 m1 c1 rows Hm1.out HP1.out (HB.out.later HP1.out.2) (by have h := Hr.out; show 10 * (3 + (flatR rows).length) ≤ _; omega)).mono ?_
  rintro e w2 ⟨v2, rfl, hp, hb⟩
  have HP2 := Lib.hid hp
  have HXb := Lib.hid (HXa.out.later hb HXa.out.lt)
  clear hp hb M0 M1 M2 M3 M4 M5 M6 M7 M8 M9 M10
  obtain ⟨⟨M0, M1, M2, M3⟩, ⟨M4, M5, M6, M7⟩, M8, M9, M10⟩ := ml_cells' HXb.out
  simp only at M0 M1 M2 M3 M4 M5 M6 M7 M8 M9 M10
  have HT := Lib.hid (nums_made (l := [t, a, v, asks, try_, ph]) (Whole.made w2 2 #[.int .i64 t, .int .i64 a, .int .i64 v, .int .i64 asks, .int .i64 try_, .int .i64 ph]) (by show 6 ≤ 1000; decide))
  have Hbt := Lib.hid (below_box w2 (.cells #[.int .i64 t, .int .i64 a, .int .i64 v, .int .i64 asks, .int .i64 try_, .int .i64 ph] 2))
  have HP2t : Hid (Painted w (w2.alloc (.cells #[.int .i64 t, .int .i64 a, .int .i64 v, .int .i64 asks, .int .i64 try_, .int .i64 ph] 2)) v2 [] ([fr, tg, clk] ++ flatR rows)) := ⟨HP2.out.1.later Hbt.out, held_next HP2.out.2 Hbt.out⟩
  go_wp2_with fail
  refine (refnumbers_more w _ v2 ([fr, tg, clk] ++ flatR rows) [t, a, v, asks, try_, ph] (some ⟨w2.heap.size, 0, none⟩) 6 6 rfl (by decide) HP2t.out HT.out (by have h := Hr.out; rw [List.length_append]; show 10 * (3 + (flatR rows).length + 6) ≤ _; omega)).mono ?_
  rintro e w3 ⟨v3, rfl, hp, hb⟩
  have HXc := Lib.hid (HXb.out.later (held_next Hbt.out hb) HXb.out.lt)
  have HP3 : Hid (Painted w w3 v3 [] ([fr, tg, clk] ++ flatR rows ++ [t, a, v, asks, try_, ph] ++ echoN (echo.take 0))) := by
    show Painted _ _ _ _ _
    rw [List.take_zero, show echoN [] = [] from rfl, List.append_nil]; exact hp
  obtain ⟨P, HPP⟩ : ∃ z, Hid ([fr, tg, clk] ++ flatR rows ++ [t, a, v, asks, try_, ph] = z) := ⟨_, rfl⟩
  rw [HPP.out] at HP3
  have hPl : P.length = 9 + (flatR rows).length := by rw [← HPP.out, List.length_append, List.length_append]; show 3 + (flatR rows).length + 6 = _; omega
  have HPl := Lib.hid hPl
  have hlim : 10 * (P.length + 2 * m2) ≤ 140737488350000 := by have h := Hr.out; have h2 : m2 = echo.length := Hm2.out; rw [hPl, h2]; have h3 : 3 + ((flatR rows).length + (6 + 2 * echo.length)) ≤ 14073748835000 := h; omega
  have Hlim := Lib.hid hlim
  clear hp hb hPl hlim M0 M1 M2 M3 M4 M5 M6 M7 M8 M9 M10
  go_wp2_with fail
  go_loopw [3, 4] (fun s3 s4 wr => ∃ (k : Nat) (sv : Value), k ≤ m2 ∧ s4 = .int .i64 (k : Int) ∧ s3 = sv ∧ Hid (Painted w wr sv [] (P ++ echoN (echo.take k))) ∧ Hid (Whole wr w.heap.size 35 (mlCells ⟨fr, tg, clk, rows, t, a, v, asks, try_, ph, echo⟩ (.slice a1 m1 c1) (.slice a2 m2 c2)))) (fun _ s4 _ => m2 - (intOf s4).toNat)
  case atStart => exact ⟨0, _, Nat.zero_le _, rfl, rfl, HP3.out, HXc.out⟩
  case round =>
    obtain ⟨k, sv, hk, rfl, hsv, HP, HXk⟩ := hrel
    have hsv' := hsv.symm
    clear hsv
    subst hsv'
    obtain ⟨⟨M0, M1, M2, M3⟩, ⟨M4, M5, M6, M7⟩, M8, M9, M10⟩ := ml_cells' HXk.out
    simp only at M0 M1 M2 M3 M4 M5 M6 M7 M8 M9 M10
    by_cases hkm : k < m2
    · obtain ⟨b, off, rfl, g0, g1⟩ := HE.out.at (i := k) (by have h : m2 = echo.length := Hm2.out; omega)
      obtain ⟨y, Hy⟩ : ∃ z, Hid (lkAt echo k = z) := ⟨_, rfl⟩
      obtain ⟨yt, yp⟩ := y
      rw [Hy.out] at g0 g1
      simp only at g0 g1
      have j0 : (0 : Int) ≤ (k : Int) := by omega
      have j1 : (k : Int) < (m2 : Int) := by omega
      have hkl : k < echo.length := by have h : m2 = echo.length := Hm2.out; omega
      have HK : Hid (P ++ echoN (echo.take k) ++ [yt, yp] = P ++ echoN (echo.take (k + 1))) := by
        show _ = _
        have h := Hy.out
        unfold lkAt at h
        rw [List.getElem?_eq_getElem hkl] at h
        have h' : echo[k] = (yt, yp) := h
        rw [List.take_succ_eq_append_getElem hkl, h', List.append_assoc]
        congr 1
        unfold echoN
        rw [List.flatMap_append]; rfl
      have hel : (P ++ echoN (echo.take k)).length = P.length + 2 * k := by rw [List.length_append, echoN_len, List.length_take]; omega
      have Hel := Lib.hid hel
      have KP : Hid (∀ w', Below wr.heap.size wr w' → Below wr.heap.size wr w' ∧ w'.cell? ⟨w.heap.size, 10, none⟩ = some (.slice (some ⟨b, off, none⟩) m2 c2) ∧ w'.cell? ⟨b, off + k * 2, none⟩ = some (.int .i64 yt) ∧ w'.cell? ⟨b, off + k * 2 + 1, none⟩ = some (.int .i64 yp)) :=
        fun w' h => ⟨h, (HXk.out.later h HXk.out.lt).cell 10, cell_later (held_next HP.out.2 h) g0, cell_later (held_next HP.out.2 h) g1⟩
      have OM : Hid (∀ W g, Below wr.heap.size wr W → Whole W g 2 #[.int .i64 yt, .int .i64 yp] → Calls Try.prog 27 #[sv, .slice (some ⟨g, 0, none⟩) 2 2] W (fun e w' => ∃ v', e = .returned v' ∧ Painted w w' v' [] (P ++ echoN (echo.take (k + 1))) ∧ Below W.heap.size W w')) := by
        intro W g hW hg
        rw [← HK.out]
        exact refnumbers_more w W sv _ [yt, yp] (some ⟨g, 0, none⟩) 2 2 rfl (by decide) ⟨HP.out.1.later hW, held_next HP.out.2 hW⟩ (nums_made (l := [yt, yp]) hg (by show 2 ≤ 1000; decide)) (by rw [Hel.out]; have := Hlim.out; show 10 * (P.length + 2 * k + 2) ≤ _; omega)
      have Hbx := Lib.hid (below_box wr (.cells #[.int .i64 yt, .int .i64 yp] 2))
      have HWx := Lib.hid (Whole.made wr 2 #[.int .i64 yt, .int .i64 yp])
      clear g0 g1 hel hkl M0 M1 M2 M3 M4 M5 M6 M7 M8 M9
      go_wp2_with fail
      go_region_held3 (fun w' => Below wr.heap.size wr w' ∧ w'.cell? ⟨w.heap.size, 10, none⟩ = some (.slice (some ⟨b, off, none⟩) m2 c2) ∧ w'.cell? ⟨b, off + k * 2, none⟩ = some (.int .i64 yt) ∧ w'.cell? ⟨b, off + k * 2 + 1, none⟩ = some (.int .i64 yp))
        (first | exact KP.out _ (Below.refl _ _).drew | exact KP.out _ Hbx.out | exact KP.out _ Hbx.out.drew | exact KP.out _ hS9)
        (first | (go_at_call 27; refine (OM.out _ _ Hbx.out.drew HWx.out.drew).mono ?_; rintro ee w9 ⟨v9, rfl, hp9, hb9⟩; have hS9 := Hbx.out.drew.trans (hb9.mono Hbx.out.size)) | fail)
      have HP9 := Lib.hid hp9
      have HX9 := Lib.hid (HXk.out.later hS9 HXk.out.lt)
      go_wp2_with fail
      go_roundw
      case rel => exact ⟨k + 1, _, by omega, by go_num, rfl, HP9.out, HX9.out⟩
      case measure => simp [intOf]; omega
    · obtain rfl : k = m2 := by omega
      have hz : P ++ echoN (echo.take k) = allN ⟨fr, tg, clk, rows, t, a, v, asks, try_, ph, echo⟩ := by
        have h : k = echo.length := Hm2.out
        rw [h, List.take_length, ← HPP.out]
        unfold allN tailN
        simp only [headN, List.append_assoc]
      have Hp : Hid (Fresh w.heap.size 5 wr sv zs) := by
        have h := HP.out.1
        rw [hz, List.nil_append] at h
        rw [← Hzs.out]; exact h
      clear hz
      go_wp2_with fail
      go_ret
      exact ⟨_, rfl, HP.out.2, Hp.out⟩
end Go.Proofs.Ytfpadcfahfanoaa
