/- Package claim, walked: a message is heard. No law is proved here. -/
import Derived.Test.YtbpmonbehibgdaaClaimMail
import Derived.Test.YtbpmonbehibgdaaClaimMath
import Derived.Test.YtbpmonbehibgdaaClaimOwn
import Derived.Test.YtbpmonbehibgdaaMg6
import Derived.Test.YtbpmonbehibgdaaOwnSet
import Derived.Laws.Cover3
import Derived.Deep.RegionHeld3
import Derived.BigRegion
namespace Go.Proofs.Ytbpmonbehibgdaa
open Go.RowKit

/-- the first j cells of a note written over element i of a row that begins a block -/
def setsNt (w : World) (b i : Nat) (x : Nt) : Nat → World
  | 0 => w
  | j + 1 => (setsNt w b i x j).setCell ⟨b, i * 7 + j, none⟩ (ntc x j)
def partNt (l : List Nt) (i : Nat) (x : Nt) (j p q : Nat) : Value := if p = i ∧ q < j then ntc x q else ntc (ntAt l p) q
theorem part_nt_step (l : List Nt) (i : Nat) (x : Nt) (j p q : Nat) : partNt l i x (j + 1) p q = if p = i ∧ q = j then ntc x j else partNt l i x j p q := by
  unfold partNt
  by_cases hp : p = i
  · by_cases hq : q = j
    · rw [if_pos ⟨hp, by omega⟩, if_pos ⟨hp, hq⟩, hq]
    · rw [if_neg (c := p = i ∧ q = j) (fun h => hq h.2)]
      by_cases hl : q < j
      · rw [if_pos ⟨hp, by omega⟩, if_pos ⟨hp, hl⟩]
      · rw [if_neg (fun h => by omega), if_neg (fun h => hl h.2)]
  · rw [if_neg (fun h => hp h.1), if_neg (fun h => hp h.1), if_neg (fun h => hp h.1)]
theorem part_nt_all (l : List Nt) (i : Nat) (x : Nt) (hi : i < l.length) : ∀ p q, p < l.length → q < 7 → partNt l i x 7 p q = ntc (ntAt (l.set i x) p) q := fun p q hp hq => by
  unfold partNt ntAt
  by_cases h : p = i
  · subst h; rw [if_pos ⟨rfl, hq⟩, List.getElem?_set_self hi]; rfl
  · rw [if_neg (fun h2 => h h2.1), List.getElem?_set_ne (fun h2 => h h2.symm)]
/-- A NOTE WRITTEN OVER ANOTHER ONE in a row of the call's own -/
theorem own_nt_set {w : World} {base : Nat} {v : Value} {l : List Nt} (h : OwnNt w base v l) {i : Nat} (hi : i < l.length) (x : Nt) :
    ∃ b cap, v = .slice (some ⟨b, 0, none⟩) l.length cap ∧ base ≤ b ∧ b < w.heap.size ∧ (∀ o, w.frozen? ⟨b, o, none⟩ = false) ∧ NtIn w b (i * 7) (ntAt l i) ∧ OwnNt (setsNt w b i x 7) base v (l.set i x) := by
  have h0 : w.ownsRow base 47 7 v l.length (flatCells 7 l.length (partNt l i x 0)) := by
    have e : flatCells 7 l.length (partNt l i x 0) = flatCells 7 l.length fun i j => ntc (ntAt l i) j := by
      congr 1
      funext p q
      unfold partNt
      rw [if_neg (fun h => by omega)]
    rw [e]; exact h
  obtain ⟨b, cap, hv, hb, hl, hf, hc, h1⟩ := own_set (f' := partNt l i x 1) (x := ntc x 0) h0 hi (j := 0) (by decide) (fun p q _ _ => part_nt_step l i x 0 p q)
  have step : ∀ j, j ≤ 7 → (setsNt w b i x j).ownsRow base 47 7 v l.length (flatCells 7 l.length (partNt l i x j)) := by
    intro j
    induction j with
    | zero => intro _; exact h0
    | succ j ih =>
      intro hj
      obtain ⟨b2, cap2, hv2, _, _, _, _, h2⟩ := own_set (f' := partNt l i x (j + 1)) (x := ntc x j) (ih (by omega)) hi (j := j) (by omega) (fun p q _ _ => part_nt_step l i x j p q)
      rw [hv] at hv2
      simp only [Value.slice.injEq, Option.some.injEq, Addr.mk.injEq] at hv2
      obtain ⟨⟨rfl, _⟩, _⟩ := hv2
      exact h2
  refine ⟨b, cap, hv, hb, hl, hf, ?_, ?_⟩
  · have hq : ∀ q, q < 7 → w.cell? ⟨b, i * 7 + q, none⟩ = some (ntc (ntAt l i) q) := fun q hq => by
      rw [hc i q hi hq]
      unfold partNt
      rw [if_neg (fun h => by omega)]
    exact ⟨by simpa [ntc] using hq 0 (by decide), by simpa [ntc] using hq 1 (by decide), by simpa [ntc] using hq 2 (by decide), by simpa [ntc] using hq 3 (by decide), by simpa [ntc] using hq 4 (by decide), by simpa [ntc] using hq 5 (by decide), by simpa [ntc] using hq 6 (by decide)⟩
  · have h7 := step 7 (Nat.le_refl _)
    have e : flatCells 7 l.length (partNt l i x 7) = flatCells 7 l.length fun p q => ntc (ntAt (l.set i x) p) q := by
      apply List.ext_getElem?
      intro n
      by_cases hn : n < l.length * 7
      · have e := Nat.div_add_mod n 7
        rw [Nat.mul_comm] at e
        have hp : n / 7 < l.length := Nat.div_lt_of_lt_mul (by rw [Nat.mul_comm]; exact hn)
        have hq := Nat.mod_lt n (show 0 < 7 by decide)
        rw [← e, flat_at 7 l.length _ _ _ hp hq, flat_at 7 l.length _ _ _ hp hq, part_nt_all l i x hi _ _ hp hq]
      · rw [List.getElem?_eq_none (by rw [flat_length]; omega), List.getElem?_eq_none (by rw [flat_length]; omega)]
    show World.ownsRow _ _ _ _ _ _ _
    rw [List.length_set, ← e]
    exact h7
theorem sets_seven (w : World) (b i : Nat) (x : Nt) : setsNt w b i x 7 = (((((((w.setCell ⟨b, i * 7, none⟩ (.int .i64 x.clk)).setCell ⟨b, i * 7 + 1, none⟩ (.int .i64 x.t)).setCell ⟨b, i * 7 + 2, none⟩ (.int .i64 x.a)).setCell ⟨b, i * 7 + 3, none⟩ (.int .i64 x.m)).setCell ⟨b, i * 7 + 4, none⟩ (.int .i64 x.asks)).setCell ⟨b, i * 7 + 5, none⟩ (.int .i64 x.try_)).setCell ⟨b, i * 7 + 6, none⟩ (.int .i64 x.ph)) := by
  simp [setsNt, ntc]
theorem sets_below {w0 w : World} {b i : Nat} {x : Nt} {B : Nat} (h : Below B w0 w) (hb : B ≤ b) : ∀ j, Below B w0 (setsNt w b i x j)
  | 0 => h
  | j + 1 => (sets_below h hb j).setCell (p := ⟨b, i * 7 + j, none⟩) hb _
section
attribute [local go_sem ↓] run_fine
/-- notes of the call's own -/
def ClonedNt (w : World) (l : List Nt) (e : Ending) (w' : World) : Prop := ∃ A C, e = .returned (.slice A l.length C) ∧ OwnNt w' w.heap.size (.slice A l.length C) l ∧ Below w.heap.size w w'
set_option maxRecDepth 100000 in
set_option maxHeartbeats 4000000 in
theorem clonent_calls (a : Option Addr) (m cp : Nat) (l : List Nt) (hm : m = l.length) (hpos : 0 < m) (hs : m ≤ 1000) (w : World) (hB : Notes w (.slice a m cp) l) : Calls Try.prog 21 #[.slice a m cp] w (ClonedNt w l) := by
  obtain ⟨b, off, rfl, _⟩ := hB.at (i := 0) (by omega)
  have hb1 : Below w.heap.size w (w.alloc (.cells #[] 47)) := below_box w _
  obtain ⟨v1, w1, hrun1, q1, q2, _⟩ := run_append_nt (ownNt_nil w) (hB.later hb1) hm (by simp; omega) hb1.size
  rw [List.nil_append] at q1
  obtain ⟨A1, C1, rfl, _⟩ := OwnNt.notes q1 (by omega)
  obtain ⟨hf1, hv1, hw1⟩ := fine_of hrun1
  have Q1 := Lib.hid q1
  have Hb := Lib.hid (hb1.trans q2)
  clear hrun1 q1 q2 hb1 hB hm
  go_enter Try.func21, Try.ntmps21
  have heq : ∀ w : World, (binOp .eql 24 (.slice (some ⟨b, off, none⟩) m cp) (.slice none 0 0)).run Try.prog w = .ok (.bool false) w := by
    intro w
    simp only [binOp]
    simp [run_equal_slice_nil w 24 47 (some ⟨b, off, none⟩) m cp Try.underlying24]
  go_wp2
  go_ret
  exact ⟨A1, C1, by rfl, Q1.out, Hb.out⟩
end
set_option maxRecDepth 100000 in
set_option maxHeartbeats 8000000 in
theorem cHear_calls (c : Cf) (who : Int) (a0 : Option Addr) (m cp : Nat) (l : List Nt) (x : Ml) (a1 : Option Addr) (m1 c1 : Nat) (a2 : Option Addr) (m2 c2 : Nat) (hm : m = l.length) (hs : m ≤ 1000) (w : World) (hB : Notes w (.slice a0 m cp) l) (hM : MailIn w a1 m1 c1 a2 m2 c2 x) :
    Calls Try.prog 8 #[cfV c, .int .i64 who, .slice a0 m cp, mlV x (.slice a1 m1 c1) (.slice a2 m2 c2)] w (GaveNt w (hearN c who l x)) := by
  have HC1 := Lib.hid (fun w hw => cMay_calls c who a0 m cp l hm hs w hw)
  have HC2 := Lib.hid (fun w hw => cMayMail_calls c x a1 m1 c1 a2 m2 c2 w hw)
  have HC3 := Lib.hid (fun hp w hw => clonent_calls a0 m cp l hm hp hs w hw)
  have HC4 := Lib.hid (fun w => said_calls x a1 m1 c1 a2 m2 c2 w)
  have HK : Hid (KeptM w w.heap.size c x (.slice a1 m1 c1) (.slice a2 m2 c2) ((w.alloc (.cells (cfCells c) 23)).alloc (.cells (mlCells x (.slice a1 m1 c1) (.slice a2 m2 c2)) 34))) :=
    ⟨below_two w _ _, (Whole.made w _ _).alloc _, Whole.made2 w _ _ _⟩
  have HB := Lib.hid hB; clear hB
  have HM := Lib.hid hM; clear hM
  have Hm := Lib.hid hm; clear hm
  obtain ⟨res, Hres⟩ : ∃ z, Hid (hearN c who l x = z) := ⟨_, rfl⟩
  have no : ¬ (notesOk c who l ∧ mailOk c x ∧ x.to = who) → res = ([], 1) := fun h => Hres.out.symm.trans (if_neg h)
  have yes : notesOk c who l → mailOk c x → x.to = who → res = (heardL l x, 0) := fun h1 h2 h3 => Hres.out.symm.trans (if_pos ⟨h1, h2, h3⟩)
  have No := Lib.hid no; clear no
  have Yes := Lib.hid yes; clear yes
  rw [Hres.out]
  clear Hres
  obtain ⟨ok, Hok⟩ : ∃ z, Hid (notesB c who l = z) := ⟨_, rfl⟩
  obtain ⟨ok2, Hok2⟩ : ∃ z, Hid (mailB c x = z) := ⟨_, rfl⟩
  obtain ⟨n, q, r, p, kk, cc⟩ := c
  obtain ⟨fr, tg, clk, rows, t, a, v, asks, try_, ph, echo⟩ := x
  have HC5 : Hid (∀ w, Calls Try.prog 22 #[mlV ⟨fr, tg, clk, rows, t, a, v, asks, try_, ph, echo⟩ (.slice a1 m1 c1) (.slice a2 m2 c2)] w (fun e w' => e = .returned (ntV ⟨clk, t, a, v, asks, try_, ph⟩) ∧ Below w.heap.size w w')) := HC4.out
  clear HC4
  go_enter Try.func8, Try.ntmps8
  go_wp2_with fail
  refine (HC1.out _ (HB.out.later HK.out.1)).mono ?_
  rintro e w1 ⟨rfl, hb⟩
  rw [Hok.out]
  have HK1 := Lib.hid (HK.out.later hb)
  clear hb HK
  cases ok with
  | false =>
    obtain rfl := No.out fun h => (of_decide_eq_false Hok.out) h.1
    go_wp2_with fail
    go_ret2
    exact ⟨none, 0, by rfl, Notes.nil _ _ _ (fun _ => rfl), HK1.out.1⟩
  | true =>
  obtain ⟨d0, d1, d2, d3, d4, d5⟩ := config_cells HK1.out.2.1
  obtain ⟨e0, e1, e2, e3, e4, e5, e6, e7, e8, e9, e10⟩ := ml_cells HK1.out.2.2
  simp only at d0 d1 d2 d3 d4 d5 e0 e1 e2 e3 e4 e5 e6 e7 e8 e9 e10
  go_wp2_with fail
  refine (HC2.out _ (HM.out.later HK1.out.1)).mono ?_
  rintro e w2 ⟨rfl, hb⟩
  rw [Hok2.out]
  have HK2 := Lib.hid (HK1.out.later hb)
  clear hb HK1 d0 d1 d2 d3 d4 d5 e0 e1 e2 e3 e4 e5 e6 e7 e8 e9 e10
  obtain ⟨e0, e1, e2, e3, e4, e5, e6, e7, e8, e9, e10⟩ := ml_cells HK2.out.2.2
  simp only at e0 e1 e2 e3 e4 e5 e6 e7 e8 e9 e10
  cases ok2 with
  | false =>
    obtain rfl := No.out fun h => (of_decide_eq_false Hok2.out) h.2.1
    go_wp2_with fail
    go_ret2
    exact ⟨none, 0, by rfl, Notes.nil _ _ _ (fun _ => rfl), HK2.out.1⟩
  | true =>
  by_cases htw : tg = who
  rotate_left 1
  · obtain rfl := No.out fun h => htw h.2.2
    have htw' : (tg != who) = true := bne_iff_ne.2 htw
    clear htw
    go_wp2_with fail
    go_ret2
    exact ⟨none, 0, by rfl, Notes.nil _ _ _ (fun _ => rfl), HK2.out.1⟩
  have Hno := Lib.hid (of_decide_eq_true Hok.out)
  have Hmo := Lib.hid (of_decide_eq_true Hok2.out)
  have hres := Yes.out Hno.out Hmo.out htw
  have Hr := Lib.hid hres
  subst htw
  clear No Yes hres
  have hlen : (l.length : Int) = n := Hno.out.2.2.1
  have hfr : 0 ≤ fr ∧ fr < n := Hmo.out.2.1
  have hlt : fr.toNat < l.length := by omega
  have hm0 : 0 < m := by have := Hm.out; omega
  have hf1 : fr < (m : Int) := by have := Hm.out; omega
  have hf0 : 0 ≤ fr := hfr.1
  have Hlt := Lib.hid hlt
  clear hlen hfr hlt
  go_wp2_with fail
  refine (HC3.out hm0 _ (HB.out.later HK2.out.1)).mono ?_
  rintro e w3 ⟨A, C, rfl, hO, hb⟩
  have HK3 := Lib.hid (HK2.out.later hb)
  clear hb e0 e1 e2 e3 e4 e5 e6 e7 e8 e9 e10
  have HO := Lib.hid hO
  obtain ⟨b, cap, hv, hbb, hbl, hfz, hc, hO2⟩ := own_nt_set hO Hlt.out ⟨clk, t, a, v, asks, try_, ph⟩
  simp only [Value.slice.injEq] at hv
  obtain ⟨rfl, _, rfl⟩ := hv
  rw [← Hm.out]
  obtain ⟨y, Hy⟩ : ∃ z, Hid (ntAt l fr.toNat = z) := ⟨_, rfl⟩
  rw [Hy.out] at hc
  have hc0 := hc.1
  have hbh : w.heap.size + 1 < b := Nat.lt_of_lt_of_le HK2.out.2.2.lt hbb
  have HO2 := Lib.hid hO2
  have Hfz := Lib.hid hfz
  clear hO hO2 hc hfz
  obtain ⟨e0, e1, e2, e3, e4, e5, e6, e7, e8, e9, e10⟩ := ml_cells HK3.out.2.2
  simp only at e0 e1 e2 e3 e4 e5 e6 e7 e8 e9 e10
  have hb2 : w.heap.size + 1 + 1 ≤ b := hbh
  by_cases hck : y.clk < clk
  · have hh : heardL l ⟨fr, tg, clk, rows, t, a, v, asks, try_, ph, echo⟩ = l.set fr.toNat ⟨clk, t, a, v, asks, try_, ph⟩ := if_pos (show (ntAt l fr.toNat).clk < clk by rw [Hy.out]; exact hck)
    obtain rfl : res = (l.set fr.toNat ⟨clk, t, a, v, asks, try_, ph⟩, 0) := Hr.out.trans (by rw [hh])
    clear hh
    go_wp2_with fail
    go_region
    go_wp2_with fail
    have KP : Hid (∀ w', Below (w.heap.size + 1 + 1) w3 w' → (w'.cell? ⟨w.heap.size + 1, 0, none⟩ = some (.int .i64 fr) ∧ w'.cell? ⟨w.heap.size + 1, 1, none⟩ = some (.int .i64 tg) ∧ w'.cell? ⟨w.heap.size + 1, 2, none⟩ = some (.int .i64 clk) ∧ w'.cell? ⟨w.heap.size + 1, 3, none⟩ = some (.slice a1 m1 c1) ∧ w'.cell? ⟨w.heap.size + 1, 4, none⟩ = some (.int .i64 t) ∧ w'.cell? ⟨w.heap.size + 1, 5, none⟩ = some (.int .i64 a) ∧ w'.cell? ⟨w.heap.size + 1, 6, none⟩ = some (.int .i64 v) ∧ w'.cell? ⟨w.heap.size + 1, 7, none⟩ = some (.int .i64 asks) ∧ w'.cell? ⟨w.heap.size + 1, 8, none⟩ = some (.int .i64 try_) ∧ w'.cell? ⟨w.heap.size + 1, 9, none⟩ = some (.int .i64 ph) ∧ w'.cell? ⟨w.heap.size + 1, 10, none⟩ = some (.slice a2 m2 c2))) := fun w' h => ml_cells (HK3.out.2.2.later h (Nat.lt_succ_self _))
    have HbD : Hid (Below (w.heap.size + 1 + 1) w3 w3.drew.drew) := (Below.refl _ _).drew.drew
    go_region_held3 (fun w' => w'.cell? ⟨w.heap.size + 1, 0, none⟩ = some (.int .i64 fr) ∧ w'.cell? ⟨w.heap.size + 1, 1, none⟩ = some (.int .i64 tg) ∧ w'.cell? ⟨w.heap.size + 1, 2, none⟩ = some (.int .i64 clk) ∧ w'.cell? ⟨w.heap.size + 1, 3, none⟩ = some (.slice a1 m1 c1) ∧ w'.cell? ⟨w.heap.size + 1, 4, none⟩ = some (.int .i64 t) ∧ w'.cell? ⟨w.heap.size + 1, 5, none⟩ = some (.int .i64 a) ∧ w'.cell? ⟨w.heap.size + 1, 6, none⟩ = some (.int .i64 v) ∧ w'.cell? ⟨w.heap.size + 1, 7, none⟩ = some (.int .i64 asks) ∧ w'.cell? ⟨w.heap.size + 1, 8, none⟩ = some (.int .i64 try_) ∧ w'.cell? ⟨w.heap.size + 1, 9, none⟩ = some (.int .i64 ph) ∧ w'.cell? ⟨w.heap.size + 1, 10, none⟩ = some (.slice a2 m2 c2))
      (first | (with_reducible exact KP.out _ HbS.out) | (with_reducible exact KP.out _ Hb5.out) | (with_reducible exact KP.out _ HbD.out))
      (first | (go_at_call 22; refine (HC5.out _).mono ?_; rintro e w5 ⟨rfl, hb0⟩; have hb : Below w3.heap.size w3 w5 := ((Below.refl _ _).drew.drew).trans hb0; have HO5 := Lib.hid (ownNt_later HO.out hb); have HK5 := Lib.hid (HK3.out.later hb); have Hb5 := Lib.hid (hb.mono (show w.heap.size + 1 + 1 ≤ w3.heap.size by omega)); obtain ⟨b9, cap9, hv9, _, hl9, hfz9, hc9, hO9⟩ := own_nt_set HO5.out Hlt.out ⟨clk, t, a, v, asks, try_, ph⟩; simp only [Value.slice.injEq, Option.some.injEq, Addr.mk.injEq] at hv9; obtain ⟨⟨rfl, _⟩, _, rfl⟩ := hv9; have hS7 := sets_below (i := fr.toNat) (x := ⟨clk, t, a, v, asks, try_, ph⟩) Hb5.out hb2 7; rw [sets_seven] at hS7 hO9; simp only at hS7 hO9; have HbS := Lib.hid hS7; have HO6 := Lib.hid hO9; have hw7 := sets_below (i := fr.toNat) (x := ⟨clk, t, a, v, asks, try_, ph⟩) HK5.out.1 (show w.heap.size ≤ b by omega) 7; rw [sets_seven] at hw7; simp only at hw7; have Hw7 := Lib.hid hw7; clear hS7 hw7; have y0 := hfz9 (fr.toNat * 7); have y1 := hfz9 (fr.toNat * 7 + 1); have y2 := hfz9 (fr.toNat * 7 + 2); have y3 := hfz9 (fr.toNat * 7 + 3); have y4 := hfz9 (fr.toNat * 7 + 4); have y5 := hfz9 (fr.toNat * 7 + 5); have y6 := hfz9 (fr.toNat * 7 + 6); obtain ⟨g0, g1, g2, g3, g4, g5, g6⟩ := hc9; clear hb0 hb hO9))
    all_goals (obtain ⟨A9, C9, hv9, hn9⟩ := OwnNt.notes HO6.out (by rw [List.length_set]; have := Hm.out; omega); simp only [Value.slice.injEq] at hv9; obtain ⟨rfl, _, rfl⟩ := hv9; have Hn9 := Lib.hid hn9; clear hn9)
    all_goals go_wp2_with fail
    all_goals go_ret2
    all_goals exact ⟨some ⟨b, 0, none⟩, _, by rw [List.length_set, ← Hm.out]; rfl, Hn9.out, Hw7.out⟩
  · have hh : heardL l ⟨fr, tg, clk, rows, t, a, v, asks, try_, ph, echo⟩ = l := if_neg (show ¬ (ntAt l fr.toNat).clk < clk by rw [Hy.out]; exact hck)
    obtain rfl : res = (l, 0) := Hr.out.trans (by rw [hh])
    clear hh
    obtain ⟨A9, C9, hv9, hn9⟩ := OwnNt.notes HO.out (by have := Hm.out; omega)
    simp only [Value.slice.injEq] at hv9
    obtain ⟨rfl, _, rfl⟩ := hv9
    have Hn9 := Lib.hid hn9
    clear hn9
    go_wp2_with fail
    go_region
    go_wp2_with fail
    go_ret2
    exact ⟨some ⟨b, 0, none⟩, _, by rw [← Hm.out]; rfl, Hn9.out, (HK3.out.1).drew⟩
end Go.Proofs.Ytbpmonbehibgdaa
