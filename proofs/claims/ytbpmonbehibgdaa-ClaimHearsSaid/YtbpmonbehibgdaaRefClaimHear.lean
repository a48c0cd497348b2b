/- The document's own, layer 14: a message is heard. No law is proved here. -/
import Derived.Test.YtbpmonbehibgdaaRefClaimMay
import Derived.Test.YtbpmonbehibgdaaRefClaimMail
import Derived.Test.YtbpmonbehibgdaaClaimOwn
import Derived.Test.YtbpmonbehibgdaaMg6
import Derived.Deep.RegionHeld3
import Derived.WalkSmall
namespace Go.Proofs.Ytbpmonbehibgdaa
open Go.RowKit

theorem heard_at {l : List Nt} {x : Ml} (h0 : 0 ≤ x.fr) (h1 : x.fr < (l.length : Int)) (k : Nat) : ntAt (heardL l x) k = if (k : Int) = x.fr ∧ (ntAt l k).clk < x.clk then noteOf x else ntAt l k := by
  unfold heardL
  by_cases hk : (k : Int) = x.fr
  · have e : x.fr.toNat = k := by omega
    rw [e]
    by_cases hc : (ntAt l k).clk < x.clk
    · rw [if_pos hc, if_pos ⟨hk, hc⟩]
      unfold ntAt
      rw [List.getElem?_set_self (by omega)]; rfl
    · rw [if_neg hc, if_neg (fun h => hc h.2)]
  · rw [show (if (k : Int) = x.fr ∧ (ntAt l k).clk < x.clk then noteOf x else ntAt l k) = ntAt l k from if_neg (fun h => hk h.1)]
    split
    · unfold ntAt
      rw [List.getElem?_set_ne (by omega)]
    · rfl
/-- the two boxes lie below what an append to a later row turns -/
theorem KeptM.below {w : World} {g B : Nat} {c : Cf} {x : Ml} {rv ev : Value} {wx wy : World} (h : KeptM w g c x rv ev wx) (hb : Below B wx wy) (hB : w.heap.size ≤ B) (hg : g + 1 < B) : KeptM w g c x rv ev wy :=
  ⟨h.1.trans (hb.mono hB), h.2.1.later hb (by omega), h.2.2.later hb hg⟩
attribute [local go_sem ↓] run_fine
set_option maxRecDepth 100000 in
set_option maxHeartbeats 8000000 in
theorem refhear_calls (c : Cf) (who : Int) (a0 : Option Addr) (m cp : Nat) (l : List Nt) (x : Ml) (a1 : Option Addr) (m1 c1 : Nat) (a2 : Option Addr) (m2 c2 : Nat) (hm : m = l.length) (w : World) (hB : Notes w (.slice a0 m cp) l) (hM : MailIn w a1 m1 c1 a2 m2 c2 x) :
    Calls Try.prog 9 #[cfV c, .int .i64 who, .slice a0 m cp, mlV x (.slice a1 m1 c1) (.slice a2 m2 c2)] w (GaveNt w (hearN c who l x)) := by
  have hbig : m ≤ 9223372036854775807 := by rw [hm]; exact hB.big
  have HK : Hid (KeptM w w.heap.size c x (.slice a1 m1 c1) (.slice a2 m2 c2) ((w.alloc (.cells (cfCells c) 23)).alloc (.cells (mlCells x (.slice a1 m1 c1) (.slice a2 m2 c2)) 34))) :=
    ⟨below_two w _ _, (Whole.made w _ _).alloc _, Whole.made2 w _ _ _⟩
  have HB := Lib.hid hB; clear hB
  have HM := Lib.hid hM; clear hM
  have Hm := Lib.hid hm; clear hm
  obtain ⟨n, q, r, p, kk, cc⟩ := c
  obtain ⟨fr, tg, clk, rows, t, a, v, asks, try_, ph, echo⟩ := x
  obtain ⟨res, Hres⟩ : ∃ z, Hid (hearN ⟨n, q, r, p, kk, cc⟩ who l ⟨fr, tg, clk, rows, t, a, v, asks, try_, ph, echo⟩ = z) := ⟨_, rfl⟩
  have no : ¬ (notesOk ⟨n, q, r, p, kk, cc⟩ who l ∧ mailOk ⟨n, q, r, p, kk, cc⟩ ⟨fr, tg, clk, rows, t, a, v, asks, try_, ph, echo⟩ ∧ tg = who) → res = ([], 1) := fun h => Hres.out.symm.trans (if_neg h)
  have No := Lib.hid no; clear no
  rw [Hres.out]
  obtain ⟨ok, Hok⟩ : ∃ z, Hid (notesB ⟨n, q, r, p, kk, cc⟩ who l = z) := ⟨_, rfl⟩
  obtain ⟨ok2, Hok2⟩ : ∃ z, Hid (mailB ⟨n, q, r, p, kk, cc⟩ ⟨fr, tg, clk, rows, t, a, v, asks, try_, ph, echo⟩ = z) := ⟨_, rfl⟩
  go_enter Try.func9, Try.ntmps9
  go_wp2_with fail
  refine (refclaimmay_calls ⟨n, q, r, p, kk, cc⟩ who a0 m cp l Hm.out _ (HB.out.later HK.out.1)).mono ?_
  rintro e w1 ⟨rfl, hb⟩
  rw [Hok.out]
  have HK1 := Lib.hid (HK.out.later hb)
  clear hb HK
  cases ok with
  | false =>
    obtain rfl := No.out fun h => by
      have h9 : notesB ⟨n, q, r, p, kk, cc⟩ who l = true := decide_eq_true h.1
      rw [Hok.out] at h9
      cases h9
    go_wp2_with fail
    go_ret2
    exact ⟨none, 0, by rfl, Notes.nil _ _ _ (fun _ => rfl), HK1.out.1⟩
  | true =>
  obtain ⟨d0, d1, d2, d3, d4, d5⟩ := config_cells HK1.out.2.1
  obtain ⟨e0, e1, e2, e3, e4, e5, e6, e7, e8, e9, e10⟩ := ml_cells HK1.out.2.2
  simp only at d0 d1 d2 d3 d4 d5 e0 e1 e2 e3 e4 e5 e6 e7 e8 e9 e10
  go_wp2_with fail
  refine (refmaymail_calls ⟨n, q, r, p, kk, cc⟩ ⟨fr, tg, clk, rows, t, a, v, asks, try_, ph, echo⟩ a1 m1 c1 a2 m2 c2 _ (HM.out.later HK1.out.1)).mono ?_
  rintro e w2 ⟨rfl, hb⟩
  rw [Hok2.out]
  have HK2 := Lib.hid (HK1.out.later hb)
  clear hb HK1 d0 d1 d2 d3 d4 d5 e0 e1 e2 e3 e4 e5 e6 e7 e8 e9 e10
  cases ok2 with
  | false =>
    obtain rfl := No.out fun h => by
      have h9 : mailB ⟨n, q, r, p, kk, cc⟩ ⟨fr, tg, clk, rows, t, a, v, asks, try_, ph, echo⟩ = true := decide_eq_true h.2.1
      rw [Hok2.out] at h9
      cases h9
    go_wp2_with fail
    go_ret2
    exact ⟨none, 0, by rfl, Notes.nil _ _ _ (fun _ => rfl), HK2.out.1⟩
  | true =>
  obtain ⟨e0, e1, e2, e3, e4, e5, e6, e7, e8, e9, e10⟩ := ml_cells HK2.out.2.2
  simp only at e0 e1 e2 e3 e4 e5 e6 e7 e8 e9 e10
  by_cases htw : tg = who
  · have hno : notesOk ⟨n, q, r, p, kk, cc⟩ who l := of_decide_eq_true Hok.out
    have hmo : mailOk ⟨n, q, r, p, kk, cc⟩ ⟨fr, tg, clk, rows, t, a, v, asks, try_, ph, echo⟩ := of_decide_eq_true Hok2.out
    have hr : res = (heardL l ⟨fr, tg, clk, rows, t, a, v, asks, try_, ph, echo⟩, 0) := Hres.out.symm.trans (if_pos ⟨hno, hmo, htw⟩)
    have hfr : 0 ≤ fr ∧ fr < n := hmo.2.1
    have hln : (l.length : Int) = n := hno.2.2.1
    have hn16 : n ≤ 16 := hno.1.2.1
    have hm16 : m ≤ 16 := by have := Hm.out; omega
    have hat := heard_at (l := l) (x := ⟨fr, tg, clk, rows, t, a, v, asks, try_, ph, echo⟩) hfr.1 (by rw [hln]; exact hfr.2)
    have HAT := Lib.hid hat
    have hhl : (heardL l ⟨fr, tg, clk, rows, t, a, v, asks, try_, ph, echo⟩).length = m := by rw [heard_length, Hm.out]
    have Hhl := Lib.hid hhl
    subst htw hr
    have Hf := Lib.hid hfr
    clear hno hmo hfr hln hn16 hat hhl
    go_wp2_with fail
    clear e0 e1 e2 e3 e4 e5 e6 e7 e8 e9 e10
    go_loopw [10, 11] (fun s10 s11 wr => ∃ (k : Nat) (tv : Value), k ≤ m ∧ s10 = tv ∧ s11 = .int .i64 k ∧ Hid (OwnNt wr (w.heap.size + 2) tv ((heardL l ⟨fr, tg, clk, rows, t, a, v, asks, try_, ph, echo⟩).take k)) ∧ Hid (KeptM w w.heap.size ⟨n, q, r, p, kk, cc⟩ ⟨fr, tg, clk, rows, t, a, v, asks, try_, ph, echo⟩ (.slice a1 m1 c1) (.slice a2 m2 c2) wr)) (fun _ s11 _ => m - (intOf s11).toNat)
    case atStart => exact ⟨0, _, Nat.zero_le _, rfl, rfl, by rw [List.take_zero]; exact World.ownsRow_nil _ _ _ _, HK2.out⟩
    case round =>
      obtain ⟨k, tv, hk, htv, rfl, HO, HKr⟩ := hrel
      have htv' := htv.symm
      subst htv'
      clear htv
      obtain ⟨e0, e1, e2, e3, e4, e5, e6, e7, e8, e9, e10⟩ := ml_cells HKr.out.2.2
      simp only at e0 e1 e2 e3 e4 e5 e6 e7 e8 e9 e10
      by_cases hlt : k < m
      · obtain ⟨b, off, rfl, hN⟩ := (HB.out.later HKr.out.1).at (i := k) (by have := Hm.out; omega)
        obtain ⟨y, Hy⟩ : ∃ z, Hid (ntAt l k = z) := ⟨_, rfl⟩
        rw [Hy.out] at hN
        have HN := Lib.hid hN; clear hN e0 e1 e2 e3 e4 e5 e6 e7 e8 e9 e10
        have hat := HAT.out k
        rw [Hy.out] at hat
        have k0 : (0 : Int) ≤ (k : Int) := by omega
        have k1 : (k : Int) < (m : Int) := by omega
        by_cases hg : (k : Int) = fr
        · by_cases hc : y.clk < clk
          · have Hat : Hid (ntAt (heardL l ⟨fr, tg, clk, rows, t, a, v, asks, try_, ph, echo⟩) k = ⟨clk, t, a, v, asks, try_, ph⟩) := hat.trans (if_pos ⟨hg, hc⟩)
            have s1 : ((k : Int) == fr) = true := beq_iff_eq.2 hg
            have s2 : decide (y.clk < clk) = true := decide_eq_true hc
            clear hat hg hc
            have KP : Hid (∀ w', Below wr.heap.size wr w' → (fun w' => Below wr.heap.size wr w' ∧ (w'.cell? ⟨w.heap.size + 1, 0, none⟩ = some (.int .i64 fr) ∧ w'.cell? ⟨w.heap.size + 1, 2, none⟩ = some (.int .i64 clk)) ∧ (w'.cell? ⟨b, off + k * 7, none⟩ = some (.int .i64 y.clk) ∧ w'.cell? ⟨b, off + k * 7 + 1, none⟩ = some (.int .i64 y.t) ∧ w'.cell? ⟨b, off + k * 7 + 2, none⟩ = some (.int .i64 y.a) ∧ w'.cell? ⟨b, off + k * 7 + 3, none⟩ = some (.int .i64 y.m) ∧ w'.cell? ⟨b, off + k * 7 + 4, none⟩ = some (.int .i64 y.asks) ∧ w'.cell? ⟨b, off + k * 7 + 5, none⟩ = some (.int .i64 y.try_) ∧ w'.cell? ⟨b, off + k * 7 + 6, none⟩ = some (.int .i64 y.ph))) w') :=
              fun w' h => ⟨h, ⟨(ml_cells ((HKr.out.later h).2.2)).1, (ml_cells ((HKr.out.later h).2.2)).2.2.1⟩, HN.out.later h⟩
            go_wp2_with fail
            refine wp_region_held_drew (S := (fun w' => Below wr.heap.size wr w' ∧ (w'.cell? ⟨w.heap.size + 1, 0, none⟩ = some (.int .i64 fr) ∧ w'.cell? ⟨w.heap.size + 1, 2, none⟩ = some (.int .i64 clk)) ∧ (w'.cell? ⟨b, off + k * 7, none⟩ = some (.int .i64 y.clk) ∧ w'.cell? ⟨b, off + k * 7 + 1, none⟩ = some (.int .i64 y.t) ∧ w'.cell? ⟨b, off + k * 7 + 2, none⟩ = some (.int .i64 y.a) ∧ w'.cell? ⟨b, off + k * 7 + 3, none⟩ = some (.int .i64 y.m) ∧ w'.cell? ⟨b, off + k * 7 + 4, none⟩ = some (.int .i64 y.asks) ∧ w'.cell? ⟨b, off + k * 7 + 5, none⟩ = some (.int .i64 y.try_) ∧ w'.cell? ⟨b, off + k * 7 + 6, none⟩ = some (.int .i64 y.ph)))) (by kernel_rfl) (KP.out _ (Below.refl _ _).drew) (fun hHeld => ?_)
            refine wpAnyH_take (i := 0) (oi := ⟨some 35, _, _, _, _, _⟩) (v := ?_) rfl (by kernel_rfl) (by kernel_rfl) (by kernel_rfl) (fun _ _ _ h => h) (Or.inl ⟨by rfl, ?_⟩) (by assumption) ?_
            rotate_left 1
            · intro w hSw
              try dsimp only at hSw
              go_simp
              try with_reducible rfl
            simp only [Act.put, List.setIfInBounds_toArray, List.set_cons_zero, List.set_cons_succ]
            refine wpAnyH_take (i := 1) (oi := ⟨some 36, _, _, _, _, _⟩) (v := ?_) rfl (by kernel_rfl) (by kernel_rfl) (by kernel_rfl) (fun _ _ _ h => h) (Or.inl ⟨by rfl, ?_⟩) (by assumption) ?_
            rotate_left 1
            · intro w hSw
              try dsimp only at hSw
              go_simp
              try with_reducible rfl
            simp only [Act.put, List.setIfInBounds_toArray, List.set_cons_zero, List.set_cons_succ]
            refine wpAnyH_take (i := 2) (oi := ⟨some 37, _, _, _, _, _⟩) (v := ?_) rfl (by kernel_rfl) (by kernel_rfl) (by kernel_rfl) (fun _ _ _ h => h) (Or.inl ⟨by rfl, ?_⟩) (by assumption) ?_
            rotate_left 1
            · intro w hSw
              try dsimp only at hSw
              go_simp
              try with_reducible rfl
            simp only [Act.put, List.setIfInBounds_toArray, List.set_cons_zero, List.set_cons_succ]
            refine wpAnyH_take (i := 3) (oi := ⟨some 38, _, _, _, _, _⟩) (v := ?_) rfl (by kernel_rfl) (by kernel_rfl) (by kernel_rfl) (fun _ _ _ h => h) (Or.inl ⟨by rfl, ?_⟩) (by assumption) ?_
            rotate_left 1
            · intro w hSw
              try dsimp only at hSw
              go_simp
              try simp only [s1, s2]
              try with_reducible rfl
            simp only [Act.put, List.setIfInBounds_toArray, List.set_cons_zero, List.set_cons_succ]
            refine wpAnyH_take (i := 4) (oi := ⟨some 39, _, _, _, _, _⟩) (v := ?_) rfl (by kernel_rfl) (by kernel_rfl) (by kernel_rfl) (fun _ _ _ h => h) (Or.inl ⟨by rfl, ?_⟩) (by assumption) ?_
            rotate_left 1
            · intro w hSw
              try dsimp only at hSw
              go_simp
              try simp only [s1, s2]
              try with_reducible rfl
            simp only [Act.put, List.setIfInBounds_toArray, List.set_cons_zero, List.set_cons_succ]
            refine wpAnyH_take (i := 5) (oi := ⟨some 40, _, _, _, _, _⟩) (v := ?_) rfl (by kernel_rfl) (by kernel_rfl) (by kernel_rfl) (fun _ _ _ h => h) (Or.inl ⟨by rfl, ?_⟩) (by assumption) ?_
            rotate_left 1
            · intro w hSw
              try dsimp only at hSw
              go_simp
              try with_reducible rfl
            simp only [Act.put, List.setIfInBounds_toArray, List.set_cons_zero, List.set_cons_succ]
            refine wpAnyH_take (i := 6) (oi := ⟨some 41, _, _, _, _, _⟩) (v := ?_) rfl (by kernel_rfl) (by kernel_rfl) (by kernel_rfl) (fun _ _ _ h => h) (Or.inl ⟨by rfl, ?_⟩) (by assumption) ?_
            rotate_left 1
            · intro w hSw
              try dsimp only at hSw
              go_simp
              try with_reducible rfl
            simp only [Act.put, List.setIfInBounds_toArray, List.set_cons_zero, List.set_cons_succ]
            refine wpAnyH_take (i := 7) (oi := ⟨some 42, _, _, _, _, _⟩) (v := ?_) rfl (by kernel_rfl) (by kernel_rfl) (by kernel_rfl) (fun _ _ _ h => h) (Or.inl ⟨by rfl, ?_⟩) (by assumption) ?_
            rotate_left 1
            · intro w hSw
              try dsimp only at hSw
              go_simp
              try with_reducible rfl
            simp only [Act.put, List.setIfInBounds_toArray, List.set_cons_zero, List.set_cons_succ]
            refine wpAnyH_take (i := 8) (oi := ⟨some 43, _, _, _, _, _⟩) (v := ?_) rfl (by kernel_rfl) (by kernel_rfl) (by kernel_rfl) (fun _ _ _ h => h) (Or.inl ⟨by rfl, ?_⟩) (by assumption) ?_
            rotate_left 1
            · intro w hSw
              try dsimp only at hSw
              go_simp
              try with_reducible rfl
            simp only [Act.put, List.setIfInBounds_toArray, List.set_cons_zero, List.set_cons_succ]
            refine wpAnyH_take (i := 9) (oi := ⟨some 44, _, _, _, _, _⟩) (v := ?_) rfl (by kernel_rfl) (by kernel_rfl) (by kernel_rfl) (fun _ _ _ h => h) (Or.inl ⟨by rfl, ?_⟩) (by assumption) ?_
            rotate_left 1
            · intro w hSw
              try dsimp only at hSw
              go_simp
              try with_reducible rfl
            simp only [Act.put, List.setIfInBounds_toArray, List.set_cons_zero, List.set_cons_succ]
            refine wpAnyH_take (i := 10) (oi := ⟨some 45, _, _, _, _, _⟩) (v := ?_) rfl (by kernel_rfl) (by kernel_rfl) (by kernel_rfl) (fun _ _ _ h => h) (Or.inl ⟨by rfl, ?_⟩) (by assumption) ?_
            rotate_left 1
            · intro w hSw
              try dsimp only at hSw
              go_simp
              try with_reducible rfl
            simp only [Act.put, List.setIfInBounds_toArray, List.set_cons_zero, List.set_cons_succ]
            refine wpAnyH_take (i := 11) (oi := ⟨some 46, _, _, _, _, _⟩) (v := ?_) rfl (by kernel_rfl) (by kernel_rfl) (by kernel_rfl) (fun _ _ _ h => h) (Or.inl ⟨by rfl, ?_⟩) (by assumption) ?_
            rotate_left 1
            · intro w hSw
              try dsimp only at hSw
              go_simp
              try with_reducible rfl
            simp only [Act.put, List.setIfInBounds_toArray, List.set_cons_zero, List.set_cons_succ]
            refine wpAnyH_take (i := 12) (oi := ⟨some 47, _, _, _, _, _⟩) (v := ?_) rfl (by kernel_rfl) (by kernel_rfl) (by kernel_rfl) (fun _ _ _ h => h) (Or.inl ⟨by rfl, ?_⟩) (by assumption) ?_
            rotate_left 1
            · intro w hSw
              try dsimp only at hSw
              go_simp
              try simp only [s1, s2]
              try with_reducible rfl
            simp only [Act.put, List.setIfInBounds_toArray, List.set_cons_zero, List.set_cons_succ]
            refine wpAnyH_take (i := 13) (oi := ⟨some 48, _, _, _, _, _⟩) (v := ?_) rfl (by kernel_rfl) (by kernel_rfl) (by kernel_rfl) (fun _ _ _ h => h) (Or.inl ⟨by rfl, ?_⟩) (by assumption) ?_
            rotate_left 1
            · intro w hSw
              try dsimp only at hSw
              go_simp
              try simp only [s1, s2]
              try with_reducible rfl
            simp only [Act.put, List.setIfInBounds_toArray, List.set_cons_zero, List.set_cons_succ]
            refine wpAnyH_done (by kernel_rfl) ?_ _
            have HK2 := Lib.hid (HKr.out.later hHeld.1)
            have HN2 := Lib.hid (HN.out.later hHeld.1)
            have HO2 := Lib.hid (ownNt_later HO.out hHeld.1)
            clear hHeld KP s1 s2
            generalize wr.drew = w2 at HK2 HN2 HO2 ⊢
            have hb3 := below_box w2 (.cells (ntCells ⟨clk, t, a, v, asks, try_, ph⟩) 47)
            have hsz := HK2.out.2.2.lt
            obtain ⟨v9, w9, hrun, q9, b9, _⟩ := run_append_nt (ownNt_later HO2.out hb3) (one_nt (Whole.made w2 47 (ntCells ⟨clk, t, a, v, asks, try_, ph⟩))) rfl (by rw [List.length_take, List.length_singleton]; have := Hhl.out; omega) (by have := hb3.size; omega)
            obtain ⟨hf, hv, hw⟩ := fine_of hrun
            have HK9 := Lib.hid ((HK2.out.later hb3).below b9 (by omega) (by omega))
            have HO9 : Hid (OwnNt w9 (w.heap.size + 2) v9 ((heardL l ⟨fr, tg, clk, rows, t, a, v, asks, try_, ph, echo⟩).take (k + 1))) := by
              have e9 : (heardL l ⟨fr, tg, clk, rows, t, a, v, asks, try_, ph, echo⟩)[k]? = some ⟨clk, t, a, v, asks, try_, ph⟩ := by
                have h9 := Hat.out
                unfold ntAt at h9
                rw [List.getElem?_eq_getElem (by have := Hhl.out; omega)] at h9 ⊢
                exact congrArg some h9
              rw [List.take_add_one, e9]; exact q9
            clear hrun q9 b9 hb3 hsz
            obtain ⟨e0, e1, e2, e3, e4, e5, e6, e7, e8, e9, e10⟩ := ml_cells HK2.out.2.2
            simp only at e0 e1 e2 e3 e4 e5 e6 e7 e8 e9 e10
            go_wp2_with fail
            go_roundw
            case rel => exact ⟨k + 1, v9, by omega, rfl, by go_num, HO9.out, HK9.out⟩
            case measure => simp [intOf]; omega
          · have Hat : Hid (ntAt (heardL l ⟨fr, tg, clk, rows, t, a, v, asks, try_, ph, echo⟩) k = y) := hat.trans (if_neg fun h => hc h.2)
            have s1 : ((k : Int) == fr) = true := beq_iff_eq.2 hg
            have s2 : decide (y.clk < clk) = false := decide_eq_false hc
            clear hat hg hc
            have KP : Hid (∀ w', Below wr.heap.size wr w' → (fun w' => Below wr.heap.size wr w' ∧ (w'.cell? ⟨w.heap.size + 1, 0, none⟩ = some (.int .i64 fr) ∧ w'.cell? ⟨w.heap.size + 1, 2, none⟩ = some (.int .i64 clk)) ∧ (w'.cell? ⟨b, off + k * 7, none⟩ = some (.int .i64 y.clk) ∧ w'.cell? ⟨b, off + k * 7 + 1, none⟩ = some (.int .i64 y.t) ∧ w'.cell? ⟨b, off + k * 7 + 2, none⟩ = some (.int .i64 y.a) ∧ w'.cell? ⟨b, off + k * 7 + 3, none⟩ = some (.int .i64 y.m) ∧ w'.cell? ⟨b, off + k * 7 + 4, none⟩ = some (.int .i64 y.asks) ∧ w'.cell? ⟨b, off + k * 7 + 5, none⟩ = some (.int .i64 y.try_) ∧ w'.cell? ⟨b, off + k * 7 + 6, none⟩ = some (.int .i64 y.ph))) w') :=
              fun w' h => ⟨h, ⟨(ml_cells ((HKr.out.later h).2.2)).1, (ml_cells ((HKr.out.later h).2.2)).2.2.1⟩, HN.out.later h⟩
            go_wp2_with fail
            refine wp_region_held_drew (S := (fun w' => Below wr.heap.size wr w' ∧ (w'.cell? ⟨w.heap.size + 1, 0, none⟩ = some (.int .i64 fr) ∧ w'.cell? ⟨w.heap.size + 1, 2, none⟩ = some (.int .i64 clk)) ∧ (w'.cell? ⟨b, off + k * 7, none⟩ = some (.int .i64 y.clk) ∧ w'.cell? ⟨b, off + k * 7 + 1, none⟩ = some (.int .i64 y.t) ∧ w'.cell? ⟨b, off + k * 7 + 2, none⟩ = some (.int .i64 y.a) ∧ w'.cell? ⟨b, off + k * 7 + 3, none⟩ = some (.int .i64 y.m) ∧ w'.cell? ⟨b, off + k * 7 + 4, none⟩ = some (.int .i64 y.asks) ∧ w'.cell? ⟨b, off + k * 7 + 5, none⟩ = some (.int .i64 y.try_) ∧ w'.cell? ⟨b, off + k * 7 + 6, none⟩ = some (.int .i64 y.ph)))) (by kernel_rfl) (KP.out _ (Below.refl _ _).drew) (fun hHeld => ?_)
            refine wpAnyH_take (i := 0) (oi := ⟨some 35, _, _, _, _, _⟩) (v := ?_) rfl (by kernel_rfl) (by kernel_rfl) (by kernel_rfl) (fun _ _ _ h => h) (Or.inl ⟨by rfl, ?_⟩) (by assumption) ?_
            rotate_left 1
            · intro w hSw
              try dsimp only at hSw
              go_simp
              try with_reducible rfl
            simp only [Act.put, List.setIfInBounds_toArray, List.set_cons_zero, List.set_cons_succ]
            refine wpAnyH_take (i := 1) (oi := ⟨some 36, _, _, _, _, _⟩) (v := ?_) rfl (by kernel_rfl) (by kernel_rfl) (by kernel_rfl) (fun _ _ _ h => h) (Or.inl ⟨by rfl, ?_⟩) (by assumption) ?_
            rotate_left 1
            · intro w hSw
              try dsimp only at hSw
              go_simp
              try with_reducible rfl
            simp only [Act.put, List.setIfInBounds_toArray, List.set_cons_zero, List.set_cons_succ]
            refine wpAnyH_take (i := 2) (oi := ⟨some 37, _, _, _, _, _⟩) (v := ?_) rfl (by kernel_rfl) (by kernel_rfl) (by kernel_rfl) (fun _ _ _ h => h) (Or.inl ⟨by rfl, ?_⟩) (by assumption) ?_
            rotate_left 1
            · intro w hSw
              try dsimp only at hSw
              go_simp
              try with_reducible rfl
            simp only [Act.put, List.setIfInBounds_toArray, List.set_cons_zero, List.set_cons_succ]
            refine wpAnyH_take (i := 3) (oi := ⟨some 38, _, _, _, _, _⟩) (v := ?_) rfl (by kernel_rfl) (by kernel_rfl) (by kernel_rfl) (fun _ _ _ h => h) (Or.inl ⟨by rfl, ?_⟩) (by assumption) ?_
            rotate_left 1
            · intro w hSw
              try dsimp only at hSw
              go_simp
              try simp only [s1, s2]
              try with_reducible rfl
            simp only [Act.put, List.setIfInBounds_toArray, List.set_cons_zero, List.set_cons_succ]
            refine wpAnyH_take (i := 4) (oi := ⟨some 39, _, _, _, _, _⟩) (v := ?_) rfl (by kernel_rfl) (by kernel_rfl) (by kernel_rfl) (fun _ _ _ h => h) (Or.inl ⟨by rfl, ?_⟩) (by assumption) ?_
            rotate_left 1
            · intro w hSw
              try dsimp only at hSw
              go_simp
              try simp only [s1, s2]
              try with_reducible rfl
            simp only [Act.put, List.setIfInBounds_toArray, List.set_cons_zero, List.set_cons_succ]
            refine wpAnyH_take (i := 5) (oi := ⟨some 40, _, _, _, _, _⟩) (v := ?_) rfl (by kernel_rfl) (by kernel_rfl) (by kernel_rfl) (fun _ _ _ h => h) (Or.inl ⟨by rfl, ?_⟩) (by assumption) ?_
            rotate_left 1
            · intro w hSw
              try dsimp only at hSw
              go_simp
              try with_reducible rfl
            simp only [Act.put, List.setIfInBounds_toArray, List.set_cons_zero, List.set_cons_succ]
            refine wpAnyH_take (i := 6) (oi := ⟨some 41, _, _, _, _, _⟩) (v := ?_) rfl (by kernel_rfl) (by kernel_rfl) (by kernel_rfl) (fun _ _ _ h => h) (Or.inl ⟨by rfl, ?_⟩) (by assumption) ?_
            rotate_left 1
            · intro w hSw
              try dsimp only at hSw
              go_simp
              try with_reducible rfl
            simp only [Act.put, List.setIfInBounds_toArray, List.set_cons_zero, List.set_cons_succ]
            refine wpAnyH_take (i := 7) (oi := ⟨some 42, _, _, _, _, _⟩) (v := ?_) rfl (by kernel_rfl) (by kernel_rfl) (by kernel_rfl) (fun _ _ _ h => h) (Or.inl ⟨by rfl, ?_⟩) (by assumption) ?_
            rotate_left 1
            · intro w hSw
              try dsimp only at hSw
              go_simp
              try with_reducible rfl
            simp only [Act.put, List.setIfInBounds_toArray, List.set_cons_zero, List.set_cons_succ]
            refine wpAnyH_take (i := 8) (oi := ⟨some 43, _, _, _, _, _⟩) (v := ?_) rfl (by kernel_rfl) (by kernel_rfl) (by kernel_rfl) (fun _ _ _ h => h) (Or.inl ⟨by rfl, ?_⟩) (by assumption) ?_
            rotate_left 1
            · intro w hSw
              try dsimp only at hSw
              go_simp
              try with_reducible rfl
            simp only [Act.put, List.setIfInBounds_toArray, List.set_cons_zero, List.set_cons_succ]
            refine wpAnyH_take (i := 9) (oi := ⟨some 44, _, _, _, _, _⟩) (v := ?_) rfl (by kernel_rfl) (by kernel_rfl) (by kernel_rfl) (fun _ _ _ h => h) (Or.inl ⟨by rfl, ?_⟩) (by assumption) ?_
            rotate_left 1
            · intro w hSw
              try dsimp only at hSw
              go_simp
              try with_reducible rfl
            simp only [Act.put, List.setIfInBounds_toArray, List.set_cons_zero, List.set_cons_succ]
            refine wpAnyH_take (i := 10) (oi := ⟨some 45, _, _, _, _, _⟩) (v := ?_) rfl (by kernel_rfl) (by kernel_rfl) (by kernel_rfl) (fun _ _ _ h => h) (Or.inl ⟨by rfl, ?_⟩) (by assumption) ?_
            rotate_left 1
            · intro w hSw
              try dsimp only at hSw
              go_simp
              try with_reducible rfl
            simp only [Act.put, List.setIfInBounds_toArray, List.set_cons_zero, List.set_cons_succ]
            refine wpAnyH_take (i := 11) (oi := ⟨some 46, _, _, _, _, _⟩) (v := ?_) rfl (by kernel_rfl) (by kernel_rfl) (by kernel_rfl) (fun _ _ _ h => h) (Or.inl ⟨by rfl, ?_⟩) (by assumption) ?_
            rotate_left 1
            · intro w hSw
              try dsimp only at hSw
              go_simp
              try with_reducible rfl
            simp only [Act.put, List.setIfInBounds_toArray, List.set_cons_zero, List.set_cons_succ]
            refine wpAnyH_take (i := 12) (oi := ⟨some 47, _, _, _, _, _⟩) (v := ?_) rfl (by kernel_rfl) (by kernel_rfl) (by kernel_rfl) (fun _ _ _ h => h) (Or.inl ⟨by rfl, ?_⟩) (by assumption) ?_
            rotate_left 1
            · intro w hSw
              try dsimp only at hSw
              go_simp
              try simp only [s1, s2]
              try with_reducible rfl
            simp only [Act.put, List.setIfInBounds_toArray, List.set_cons_zero, List.set_cons_succ]
            refine wpAnyH_take (i := 13) (oi := ⟨some 48, _, _, _, _, _⟩) (v := ?_) rfl (by kernel_rfl) (by kernel_rfl) (by kernel_rfl) (fun _ _ _ h => h) (Or.inl ⟨by rfl, ?_⟩) (by assumption) ?_
            rotate_left 1
            · intro w hSw
              try dsimp only at hSw
              go_simp
              try simp only [s1, s2]
              try with_reducible rfl
            simp only [Act.put, List.setIfInBounds_toArray, List.set_cons_zero, List.set_cons_succ]
            refine wpAnyH_done (by kernel_rfl) ?_ _
            have HK2 := Lib.hid (HKr.out.later hHeld.1)
            have HN2 := Lib.hid (HN.out.later hHeld.1)
            have HO2 := Lib.hid (ownNt_later HO.out hHeld.1)
            clear hHeld KP s1 s2
            generalize wr.drew = w2 at HK2 HN2 HO2 ⊢
            have hb3 := below_box w2 (.cells (ntCells y) 47)
            have hsz := HK2.out.2.2.lt
            obtain ⟨v9, w9, hrun, q9, b9, _⟩ := run_append_nt (ownNt_later HO2.out hb3) (one_nt (Whole.made w2 47 (ntCells y))) rfl (by rw [List.length_take, List.length_singleton]; have := Hhl.out; omega) (by have := hb3.size; omega)
            obtain ⟨hf, hv, hw⟩ := fine_of hrun
            have HK9 := Lib.hid ((HK2.out.later hb3).below b9 (by omega) (by omega))
            have HO9 : Hid (OwnNt w9 (w.heap.size + 2) v9 ((heardL l ⟨fr, tg, clk, rows, t, a, v, asks, try_, ph, echo⟩).take (k + 1))) := by
              have e9 : (heardL l ⟨fr, tg, clk, rows, t, a, v, asks, try_, ph, echo⟩)[k]? = some y := by
                have h9 := Hat.out
                unfold ntAt at h9
                rw [List.getElem?_eq_getElem (by have := Hhl.out; omega)] at h9 ⊢
                exact congrArg some h9
              rw [List.take_add_one, e9]; exact q9
            clear hrun q9 b9 hb3 hsz
            obtain ⟨e0, e1, e2, e3, e4, e5, e6⟩ := HN2.out
            go_wp2_with fail
            go_roundw
            case rel => exact ⟨k + 1, v9, by omega, rfl, by go_num, HO9.out, HK9.out⟩
            case measure => simp [intOf]; omega
        · have Hat : Hid (ntAt (heardL l ⟨fr, tg, clk, rows, t, a, v, asks, try_, ph, echo⟩) k = y) := hat.trans (if_neg fun h => hg h.1)
          have s1 : ((k : Int) == fr) = false := beq_eq_false_iff_ne.2 hg
          have s2 : True := trivial
          clear hat hg
          have KP : Hid (∀ w', Below wr.heap.size wr w' → (fun w' => Below wr.heap.size wr w' ∧ (w'.cell? ⟨w.heap.size + 1, 0, none⟩ = some (.int .i64 fr) ∧ w'.cell? ⟨w.heap.size + 1, 2, none⟩ = some (.int .i64 clk)) ∧ (w'.cell? ⟨b, off + k * 7, none⟩ = some (.int .i64 y.clk) ∧ w'.cell? ⟨b, off + k * 7 + 1, none⟩ = some (.int .i64 y.t) ∧ w'.cell? ⟨b, off + k * 7 + 2, none⟩ = some (.int .i64 y.a) ∧ w'.cell? ⟨b, off + k * 7 + 3, none⟩ = some (.int .i64 y.m) ∧ w'.cell? ⟨b, off + k * 7 + 4, none⟩ = some (.int .i64 y.asks) ∧ w'.cell? ⟨b, off + k * 7 + 5, none⟩ = some (.int .i64 y.try_) ∧ w'.cell? ⟨b, off + k * 7 + 6, none⟩ = some (.int .i64 y.ph))) w') :=
            fun w' h => ⟨h, ⟨(ml_cells ((HKr.out.later h).2.2)).1, (ml_cells ((HKr.out.later h).2.2)).2.2.1⟩, HN.out.later h⟩
          go_wp2_with fail
          refine wp_region_held_drew (S := (fun w' => Below wr.heap.size wr w' ∧ (w'.cell? ⟨w.heap.size + 1, 0, none⟩ = some (.int .i64 fr) ∧ w'.cell? ⟨w.heap.size + 1, 2, none⟩ = some (.int .i64 clk)) ∧ (w'.cell? ⟨b, off + k * 7, none⟩ = some (.int .i64 y.clk) ∧ w'.cell? ⟨b, off + k * 7 + 1, none⟩ = some (.int .i64 y.t) ∧ w'.cell? ⟨b, off + k * 7 + 2, none⟩ = some (.int .i64 y.a) ∧ w'.cell? ⟨b, off + k * 7 + 3, none⟩ = some (.int .i64 y.m) ∧ w'.cell? ⟨b, off + k * 7 + 4, none⟩ = some (.int .i64 y.asks) ∧ w'.cell? ⟨b, off + k * 7 + 5, none⟩ = some (.int .i64 y.try_) ∧ w'.cell? ⟨b, off + k * 7 + 6, none⟩ = some (.int .i64 y.ph)))) (by kernel_rfl) (KP.out _ (Below.refl _ _).drew) (fun hHeld => ?_)
          refine wpAnyH_take (i := 0) (oi := ⟨some 35, _, _, _, _, _⟩) (v := ?_) rfl (by kernel_rfl) (by kernel_rfl) (by kernel_rfl) (fun _ _ _ h => h) (Or.inl ⟨by rfl, ?_⟩) (by assumption) ?_
          rotate_left 1
          · intro w hSw
            try dsimp only at hSw
            go_simp
            try with_reducible rfl
          simp only [Act.put, List.setIfInBounds_toArray, List.set_cons_zero, List.set_cons_succ]
          refine wpAnyH_take (i := 1) (oi := ⟨some 36, _, _, _, _, _⟩) (v := ?_) rfl (by kernel_rfl) (by kernel_rfl) (by kernel_rfl) (fun _ _ _ h => h) (Or.inl ⟨by rfl, ?_⟩) (by assumption) ?_
          rotate_left 1
          · intro w hSw
            try dsimp only at hSw
            go_simp
            try with_reducible rfl
          simp only [Act.put, List.setIfInBounds_toArray, List.set_cons_zero, List.set_cons_succ]
          refine wpAnyH_take (i := 2) (oi := ⟨some 37, _, _, _, _, _⟩) (v := ?_) rfl (by kernel_rfl) (by kernel_rfl) (by kernel_rfl) (fun _ _ _ h => h) (Or.inl ⟨by rfl, ?_⟩) (by assumption) ?_
          rotate_left 1
          · intro w hSw
            try dsimp only at hSw
            go_simp
            try with_reducible rfl
          simp only [Act.put, List.setIfInBounds_toArray, List.set_cons_zero, List.set_cons_succ]
          refine wpAnyH_take (i := 3) (oi := ⟨some 38, _, _, _, _, _⟩) (v := ?_) rfl (by kernel_rfl) (by kernel_rfl) (by kernel_rfl) (fun _ _ _ h => h) (Or.inl ⟨by rfl, ?_⟩) (by assumption) ?_
          rotate_left 1
          · intro w hSw
            try dsimp only at hSw
            go_simp
            try simp only [s1, s2]
            try with_reducible rfl
          simp only [Act.put, List.setIfInBounds_toArray, List.set_cons_zero, List.set_cons_succ]
          refine wpAnyH_take (i := 4) (oi := ⟨some 39, _, _, _, _, _⟩) (v := ?_) rfl (by kernel_rfl) (by kernel_rfl) (by kernel_rfl) (fun _ _ _ h => h) (Or.inl ⟨by rfl, ?_⟩) (by assumption) ?_
          rotate_left 1
          · intro w hSw
            try dsimp only at hSw
            go_simp
            try simp only [s1, s2]
            try with_reducible rfl
          simp only [Act.put, List.setIfInBounds_toArray, List.set_cons_zero, List.set_cons_succ]
          refine wpAnyH_take (i := 5) (oi := ⟨some 40, _, _, _, _, _⟩) (v := undef) rfl (by kernel_rfl) (by kernel_rfl) (by kernel_rfl) (fun _ _ _ h => h) (Or.inr ⟨by rfl, rfl⟩) (by assumption) ?_
          simp only [Act.put, List.setIfInBounds_toArray, List.set_cons_zero, List.set_cons_succ]
          refine wpAnyH_take (i := 6) (oi := ⟨some 41, _, _, _, _, _⟩) (v := undef) rfl (by kernel_rfl) (by kernel_rfl) (by kernel_rfl) (fun _ _ _ h => h) (Or.inr ⟨by rfl, rfl⟩) (by assumption) ?_
          simp only [Act.put, List.setIfInBounds_toArray, List.set_cons_zero, List.set_cons_succ]
          refine wpAnyH_take (i := 7) (oi := ⟨some 42, _, _, _, _, _⟩) (v := undef) rfl (by kernel_rfl) (by kernel_rfl) (by kernel_rfl) (fun _ _ _ h => h) (Or.inr ⟨by rfl, rfl⟩) (by assumption) ?_
          simp only [Act.put, List.setIfInBounds_toArray, List.set_cons_zero, List.set_cons_succ]
          refine wpAnyH_take (i := 8) (oi := ⟨some 43, _, _, _, _, _⟩) (v := undef) rfl (by kernel_rfl) (by kernel_rfl) (by kernel_rfl) (fun _ _ _ h => h) (Or.inr ⟨by rfl, rfl⟩) (by assumption) ?_
          simp only [Act.put, List.setIfInBounds_toArray, List.set_cons_zero, List.set_cons_succ]
          refine wpAnyH_take (i := 9) (oi := ⟨some 44, _, _, _, _, _⟩) (v := undef) rfl (by kernel_rfl) (by kernel_rfl) (by kernel_rfl) (fun _ _ _ h => h) (Or.inr ⟨by rfl, rfl⟩) (by assumption) ?_
          simp only [Act.put, List.setIfInBounds_toArray, List.set_cons_zero, List.set_cons_succ]
          refine wpAnyH_take (i := 10) (oi := ⟨some 45, _, _, _, _, _⟩) (v := undef) rfl (by kernel_rfl) (by kernel_rfl) (by kernel_rfl) (fun _ _ _ h => h) (Or.inr ⟨by rfl, rfl⟩) (by assumption) ?_
          simp only [Act.put, List.setIfInBounds_toArray, List.set_cons_zero, List.set_cons_succ]
          refine wpAnyH_take (i := 11) (oi := ⟨some 46, _, _, _, _, _⟩) (v := undef) rfl (by kernel_rfl) (by kernel_rfl) (by kernel_rfl) (fun _ _ _ h => h) (Or.inr ⟨by rfl, rfl⟩) (by assumption) ?_
          simp only [Act.put, List.setIfInBounds_toArray, List.set_cons_zero, List.set_cons_succ]
          refine wpAnyH_take (i := 12) (oi := ⟨some 47, _, _, _, _, _⟩) (v := undef) rfl (by kernel_rfl) (by kernel_rfl) (by kernel_rfl) (fun _ _ _ h => h) (Or.inr ⟨by rfl, rfl⟩) (by assumption) ?_
          simp only [Act.put, List.setIfInBounds_toArray, List.set_cons_zero, List.set_cons_succ]
          refine wpAnyH_take (i := 13) (oi := ⟨some 48, _, _, _, _, _⟩) (v := ?_) rfl (by kernel_rfl) (by kernel_rfl) (by kernel_rfl) (fun _ _ _ h => h) (Or.inl ⟨by rfl, ?_⟩) (by assumption) ?_
          rotate_left 1
          · intro w hSw
            try dsimp only at hSw
            go_simp
            try simp only [s1, s2]
            try with_reducible rfl
          simp only [Act.put, List.setIfInBounds_toArray, List.set_cons_zero, List.set_cons_succ]
          refine wpAnyH_done (by kernel_rfl) ?_ _
          have HK2 := Lib.hid (HKr.out.later hHeld.1)
          have HN2 := Lib.hid (HN.out.later hHeld.1)
          have HO2 := Lib.hid (ownNt_later HO.out hHeld.1)
          clear hHeld KP s1 s2
          generalize wr.drew = w2 at HK2 HN2 HO2 ⊢
          have hb3 := below_box w2 (.cells (ntCells y) 47)
          have hsz := HK2.out.2.2.lt
          obtain ⟨v9, w9, hrun, q9, b9, _⟩ := run_append_nt (ownNt_later HO2.out hb3) (one_nt (Whole.made w2 47 (ntCells y))) rfl (by rw [List.length_take, List.length_singleton]; have := Hhl.out; omega) (by have := hb3.size; omega)
          obtain ⟨hf, hv, hw⟩ := fine_of hrun
          have HK9 := Lib.hid ((HK2.out.later hb3).below b9 (by omega) (by omega))
          have HO9 : Hid (OwnNt w9 (w.heap.size + 2) v9 ((heardL l ⟨fr, tg, clk, rows, t, a, v, asks, try_, ph, echo⟩).take (k + 1))) := by
            have e9 : (heardL l ⟨fr, tg, clk, rows, t, a, v, asks, try_, ph, echo⟩)[k]? = some y := by
              have h9 := Hat.out
              unfold ntAt at h9
              rw [List.getElem?_eq_getElem (by have := Hhl.out; omega)] at h9 ⊢
              exact congrArg some h9
            rw [List.take_add_one, e9]; exact q9
          clear hrun q9 b9 hb3 hsz
          obtain ⟨e0, e1, e2, e3, e4, e5, e6⟩ := HN2.out
          go_wp2_with fail
          go_roundw
          case rel => exact ⟨k + 1, v9, by omega, rfl, by go_num, HO9.out, HK9.out⟩
          case measure => simp [intOf]; omega
      · have hkm : k = m := by omega
        have hall : (heardL l ⟨fr, tg, clk, rows, t, a, v, asks, try_, ph, echo⟩).take k = heardL l ⟨fr, tg, clk, rows, t, a, v, asks, try_, ph, echo⟩ := by rw [hkm, ← Hhl.out, List.take_length]
        have ho := HO.out
        rw [hall] at ho
        obtain ⟨A9, C9, rfl, hn9⟩ := ho.notes (by have := Hhl.out; omega)
        have Hn9 := Lib.hid hn9
        have Hkm := Lib.hid hkm
        clear hkm hall ho hn9 e0 e1 e2 e3 e4 e5 e6 e7 e8 e9 e10
        go_wp2_with fail
        go_ret2
        exact ⟨A9, C9, by rfl, Hn9.out, HKr.out.1⟩
  · obtain rfl := No.out fun h => htw h.2.2
    have htw' : (tg != who) = true := bne_iff_ne.2 htw
    clear htw
    go_wp2_with fail
    go_ret2
    exact ⟨none, 0, by rfl, Notes.nil _ _ _ (fun _ => rfl), HK2.out.1⟩
end Go.Proofs.Ytbpmonbehibgdaa
