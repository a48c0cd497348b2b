/- Merged texts: MailTakes, MailBack. No law is proved here. -/
import Derived.Test.YtfpadcfahfanoaaMailAwake
import Derived.Test.YtfpadcfahfanoaaMg25
import Derived.Deep.RegionHeld3
import Derived.Deep.QuietTactic
/- Law MailTakes, walked: any bytes are the message that the document says, or none. The law itself is stated in MailCards. -/
namespace Go.Proofs.Ytfpadcfahfanoaa
open Go.RowKit

set_option maxRecDepth 100000 in
set_option maxHeartbeats 8000000 in
theorem mailtakes_law (c : Cf) (a : Option Addr) (n d : Nat) (zs : List Int) (hn : n = zs.length) (hnd : n ≤ d) (w : World) (hB : Bytes w (.slice a n d) zs) :
    Calls Try.prog 3 #[cfV c, .slice a n d] w (Says w true) := by
  have hbig : n ≤ 9223372036854775807 := by rw [hn]; exact hB.1
  have HW := Lib.hid (Whole.made w 23 (cfCells c))
  have Hb0 := Lib.hid (below_box w (.cells (cfCells c) 23))
  have HB := Lib.hid hB; clear hB
  have Hn := Lib.hid hn; clear hn
  obtain ⟨nn, q, r, p, kk, cc⟩ := c
  obtain ⟨res, Hres⟩ : ∃ z, Hid (takeM ⟨nn, q, r, p, kk, cc⟩ zs = z) := ⟨_, rfl⟩
  have hmt := fun w hw => mTake_calls ⟨nn, q, r, p, kk, cc⟩ a n d zs w hw Hn.out hnd
  have hrt := fun w hw => refmtake_calls ⟨nn, q, r, p, kk, cc⟩ a n d zs w hw Hn.out hnd
  rw [Hres.out] at hmt hrt
  have Hmt := Lib.hid hmt; have Hrt := Lib.hid hrt
  clear hmt hrt
  go_enter Try.func3, Try.ntmps3
  go_wp2_with fail
  refine (awake16 _).mono ?_
  rintro e w1 ⟨rfl, hb⟩
  have Hb1 := Lib.hid (held_next Hb0.out hb)
  have HW1 := Lib.hid (HW.out.later hb HW.out.lt)
  clear hb
  by_cases h2 : 2000 < n
  · have h2' : (2000 : Int) < (n : Int) := by omega
    go_wp2_with fail
    go_ret
    exact ⟨by rfl, Hb1.out⟩
  have h2' : ¬ (2000 : Int) < (n : Int) := by omega
  obtain ⟨d0, d1, d2, d3, d4, d5⟩ := config_cells HW1.out
  simp only at d0 d1 d2 d3 d4 d5
  go_wp2_with fail
  refine (Hmt.out _ (HB.out.later Hb1.out)).mono ?_
  rintro e w2 ⟨a1, m1, c1, a2, m2, c2, rfl, hM, hb⟩
  obtain ⟨x, Hx⟩ : ∃ z, Hid (res.getD ml0 = z) := ⟨_, rfl⟩
  rw [Hx.out] at hM ⊢
  have hb2 := held_next hb (below_box w2 (.cells (mlCells x (.slice a1 m1 c1) (.slice a2 m2 c2)) 35))
  have HX2 := Lib.hid (Whole.made w2 35 (mlCells x (.slice a1 m1 c1) (.slice a2 m2 c2)))
  have HM2 := Lib.hid (hM.later (below_box w2 (.cells (mlCells x (.slice a1 m1 c1) (.slice a2 m2 c2)) 35)))
  have Hb2 := Lib.hid (held_next Hb1.out hb2)
  have HW2 := Lib.hid (HW1.out.later hb2 HW1.out.lt)
  clear hb hb2 hM d0 d1 d2 d3 d4 d5
  obtain ⟨d0, d1, d2, d3, d4, d5⟩ := config_cells HW2.out
  simp only at d0 d1 d2 d3 d4 d5
  go_wp2_with fail
  refine (Hrt.out _ (HB.out.later Hb2.out)).mono ?_
  rintro e w3 ⟨b1, n1, e1, b2, n2, e2, rfl, hM, hb⟩
  rw [Hx.out] at hM ⊢
  have hb3 := held_next hb (below_box w3 (.cells (mlCells x (.slice b1 n1 e1) (.slice b2 n2 e2)) 35))
  have HX3 := Lib.hid (Whole.made w3 35 (mlCells x (.slice b1 n1 e1) (.slice b2 n2 e2)))
  have HN3 := Lib.hid (hM.later (below_box w3 (.cells (mlCells x (.slice b1 n1 e1) (.slice b2 n2 e2)) 35)))
  have HM3 := Lib.hid (HM2.out.later hb3)
  have HX2' := Lib.hid (HX2.out.later hb3 HX2.out.lt)
  have Hb3 := Lib.hid (held_next Hb2.out hb3)
  clear hb hb3 hM d0 d1 d2 d3 d4 d5
  have hlt2 : w2.heap.size < w3.heap.size + 1 := by
    have h := HX2'.out.lt
    simpa using h
  obtain ⟨⟨M0, M1, M2, M3⟩, ⟨M4, M5, M6, M7⟩, M8, M9, M10⟩ := ml_cells' HX2'.out
  obtain ⟨⟨N0, N1, N2, N3⟩, ⟨N4, N5, N6, N7⟩, N8, N9, N10⟩ := ml_cells' HX3.out
  have Hcall := Lib.hid (refmsame_calls x x a1 m1 c1 a2 m2 c2 b1 n1 e1 b2 n2 e2 _ HM3.out HN3.out true (iff_of_true rfl rfl))
  go_wp2_with fail
  refine Hcall.out.mono ?_
  rintro e w4 ⟨rfl, hb⟩
  have Hb4 := Lib.hid (held_next Hb3.out hb)
  clear hb
  go_wp2_with fail
  go_ret
  exact ⟨by simp, Hb4.out⟩
end Go.Proofs.Ytfpadcfahfanoaa

/- Law MailBack, walked: any message is put as the document says; one that may be is taken as it was. The law itself is stated in MailCards. -/
namespace Go.Proofs.Ytfpadcfahfanoaa
open Go.RowKit

theorem flat_bulkM (l : List Rw) : ∀ k, k ≤ l.length → (flatR (l.take k)).length + l.length = bulk l k + 2 * k
  | 0, _ => by simp [flatR, bulk]
  | k + 1, h => by
    have ih := flat_bulkM l k (by omega)
    rw [take_flat (by omega), List.length_append]
    simp only [bulk]
    simp [rowN]
    omega
theorem mail_light {x : Ml} (h : shortB x.rows = true) (h2 : x.echo.length ≤ 40) : (allN x).length ≤ 2000 := by
  have h1 : bulk x.rows x.rows.length ≤ 400 := of_decide_eq_true h
  have h3 := (shortB_len h).1
  have h4 := flat_bulkM x.rows x.rows.length (Nat.le_refl _)
  rw [List.take_length] at h4
  unfold allN
  rw [List.length_append, List.length_append, tailN_len]
  have : (headN x).length = 3 := rfl
  omega
set_option maxRecDepth 100000 in
set_option maxHeartbeats 8000000 in
theorem mailback_law (c : Cf) (x : Ml) (a1 : Option Addr) (m1 c1 : Nat) (a2 : Option Addr) (m2 c2 : Nat) (hR : Reach x.rows) (w : World) (hM : MailIn w a1 m1 c1 a2 m2 c2 x) :
    Calls Try.prog 4 #[cfV c, mlV x (.slice a1 m1 c1) (.slice a2 m2 c2)] w (Says w true) := by
  have HW := Lib.hid ((Whole.made w 23 (cfCells c)).alloc (.cells (mlCells x (.slice a1 m1 c1) (.slice a2 m2 c2)) 35))
  have HX := Lib.hid (Whole.made2 w (.cells (cfCells c) 23) 35 (mlCells x (.slice a1 m1 c1) (.slice a2 m2 c2)))
  have Hb0 := Lib.hid (below_two w (.cells (cfCells c) 23) (.cells (mlCells x (.slice a1 m1 c1) (.slice a2 m2 c2)) 35))
  have hm1 := hM.1; have hB1 := hM.2.1; have hm2 := hM.2.2.1
  have hbig2 : m2 ≤ 9223372036854775807 := by rw [hm2]; exact hM.2.2.2.1
  have HM := Lib.hid hM; clear hM
  obtain ⟨nn, q, r, p, kk, cc⟩ := c
  obtain ⟨fr, tg, clk, rows, t, ai, am, asks, try_, ph, echo⟩ := x
  obtain ⟨sh, Hsh⟩ : ∃ z, Hid (shortB rows = z) := ⟨_, rfl⟩
  have hcs := fun w hw => refshort_calls a1 m1 c1 rows hm1 hR w hw
  rw [Hsh.out] at hcs
  have Hcs := Lib.hid hcs
  have HB1 := Lib.hid hB1
  have Hm2 := Lib.hid hm2
  clear hcs hB1 hm2 hm1 hR
  go_enter Try.func4, Try.ntmps4
  go_wp2_with fail
  refine (awake16 _).mono ?_
  rintro e w1 ⟨rfl, hb⟩
  have Hb1 := Lib.hid (held_next Hb0.out hb)
  have HW1 := Lib.hid (HW.out.later hb HW.out.lt)
  have HX1 := Lib.hid (HX.out.later hb HX.out.lt)
  clear hb
  obtain ⟨⟨z0, z1, z2, z3⟩, ⟨z4, z5, z6, z7⟩, z8, z9, z10⟩ := ml_cells' HX1.out
  simp only at z0 z1 z2 z3 z4 z5 z6 z7 z8 z9 z10
  go_wp2_with fail
  refine (Hcs.out _ (HB1.out.later Hb1.out)).mono ?_
  rintro e w2 ⟨rfl, hb⟩
  have Hb2 := Lib.hid (held_next Hb1.out hb)
  have HW2 := Lib.hid (HW1.out.later hb HW1.out.lt)
  have HX2 := Lib.hid (HX1.out.later hb HX1.out.lt)
  clear hb z0 z1 z2 z3 z4 z5 z6 z7 z8 z9 z10
  obtain ⟨⟨z0, z1, z2, z3⟩, ⟨z4, z5, z6, z7⟩, z8, z9, z10⟩ := ml_cells' HX2.out
  simp only at z0 z1 z2 z3 z4 z5 z6 z7 z8 z9 z10
  cases sh with
  | false =>
    go_wp2_with fail
    go_ret
    exact ⟨by rfl, Hb2.out⟩
  | true =>
  by_cases h40 : 40 < m2
  · have h40' : (40 : Int) < (m2 : Int) := by omega
    go_wp2_with fail
    go_ret
    exact ⟨by rfl, Hb2.out⟩
  have h40' : ¬ (40 : Int) < (m2 : Int) := by omega
  have hroom : 10 * (allN ⟨fr, tg, clk, rows, t, ai, am, asks, try_, ph, echo⟩).length ≤ 140737488350000 := by
    have := mail_light (x := ⟨fr, tg, clk, rows, t, ai, am, asks, try_, ph, echo⟩) Hsh.out (by rw [← Hm2.out]; omega)
    omega
  have Hroom := Lib.hid hroom; clear hroom
  go_wp2_with fail
  refine (mPut_calls ⟨fr, tg, clk, rows, t, ai, am, asks, try_, ph, echo⟩ a1 m1 c1 a2 m2 c2 _ (HM.out.later Hb2.out) Hroom.out).mono ?_
  rintro e w3 ⟨v, rfl, hb, hF⟩
  obtain ⟨A3, M3, C3, rfl, hM3, hMC⟩ := hF.args
  have Hb3 := Lib.hid (held_next Hb2.out hb)
  have HW3 := Lib.hid (HW2.out.later hb HW2.out.lt)
  have HX3 := Lib.hid (HX2.out.later hb HX2.out.lt)
  have HBy := Lib.hid hF.bytes
  clear hb hF z0 z1 z2 z3 z4 z5 z6 z7 z8 z9 z10
  obtain ⟨zs, Hzs⟩ : ∃ z, Hid (mailBytes ⟨fr, tg, clk, rows, t, ai, am, asks, try_, ph, echo⟩ = z) := ⟨_, rfl⟩
  rw [Hzs.out] at HBy hM3
  have HM3 := Lib.hid hM3
  clear hM3
  have hp := fun w hw => refmput_calls ⟨fr, tg, clk, rows, t, ai, am, asks, try_, ph, echo⟩ a1 m1 c1 a2 m2 c2 w hw Hroom.out
  rw [Hzs.out] at hp
  have Hp := Lib.hid (fun W (h : Below w3.heap.size w3 W) => hp W (HM.out.later (held_next Hb3.out h)))
  clear hp
  have KP : Hid (∀ w', Below w3.heap.size w3 w' → Below w3.heap.size w3 w' ∧ (convert 24 9 (.slice A3 M3 C3)).run Try.prog w' = .ok (.string (strOfNums zs)) w' ∧ ((w'.cell? ⟨w.heap.size + 1, 0, none⟩ = some (.int .i64 fr) ∧ w'.cell? ⟨w.heap.size + 1, 1, none⟩ = some (.int .i64 tg) ∧ w'.cell? ⟨w.heap.size + 1, 2, none⟩ = some (.int .i64 clk) ∧ w'.cell? ⟨w.heap.size + 1, 3, none⟩ = some (.slice a1 m1 c1)) ∧ (w'.cell? ⟨w.heap.size + 1, 4, none⟩ = some (.int .i64 t) ∧ w'.cell? ⟨w.heap.size + 1, 5, none⟩ = some (.int .i64 ai) ∧ w'.cell? ⟨w.heap.size + 1, 6, none⟩ = some (.int .i64 am) ∧ w'.cell? ⟨w.heap.size + 1, 7, none⟩ = some (.int .i64 asks)) ∧ w'.cell? ⟨w.heap.size + 1, 8, none⟩ = some (.int .i64 try_) ∧ w'.cell? ⟨w.heap.size + 1, 9, none⟩ = some (.int .i64 ph) ∧ w'.cell? ⟨w.heap.size + 1, 10, none⟩ = some (.slice a2 m2 c2))) :=
    fun w' h => ⟨h, str_any (HBy.out.later h), ml_cells' (HX3.out.later h HX3.out.lt)⟩
  go_wp2_with fail
  go_region_held (fun w' => Below w3.heap.size w3 w' ∧ (convert 24 9 (.slice A3 M3 C3)).run Try.prog w' = .ok (.string (strOfNums zs)) w' ∧ ((w'.cell? ⟨w.heap.size + 1, 0, none⟩ = some (.int .i64 fr) ∧ w'.cell? ⟨w.heap.size + 1, 1, none⟩ = some (.int .i64 tg) ∧ w'.cell? ⟨w.heap.size + 1, 2, none⟩ = some (.int .i64 clk) ∧ w'.cell? ⟨w.heap.size + 1, 3, none⟩ = some (.slice a1 m1 c1)) ∧ (w'.cell? ⟨w.heap.size + 1, 4, none⟩ = some (.int .i64 t) ∧ w'.cell? ⟨w.heap.size + 1, 5, none⟩ = some (.int .i64 ai) ∧ w'.cell? ⟨w.heap.size + 1, 6, none⟩ = some (.int .i64 am) ∧ w'.cell? ⟨w.heap.size + 1, 7, none⟩ = some (.int .i64 asks)) ∧ w'.cell? ⟨w.heap.size + 1, 8, none⟩ = some (.int .i64 try_) ∧ w'.cell? ⟨w.heap.size + 1, 9, none⟩ = some (.int .i64 ph) ∧ w'.cell? ⟨w.heap.size + 1, 10, none⟩ = some (.slice a2 m2 c2)))
    (first | exact KP.out _ (Below.refl _ _).drew | (refine KP.out _ ?_; assumption))
    (first | (go_at_call 12; have hcur := (‹Below w3.heap.size w3 _ ∧ _ ∧ _›).1; refine (Hp.out _ hcur).mono ?_; rintro x W' ⟨v', rfl, hb', hF'⟩; have hS' : Below w3.heap.size w3 W' := held_next hcur hb'; have hcv := str_any hF'.bytes))
  have Hb4 := Lib.hid (held_next Hb3.out hS')
  have HW4 := Lib.hid (HW3.out.later hS' HW3.out.lt)
  have HX4 := Lib.hid (HX3.out.later hS' HX3.out.lt)
  have HBy4 := Lib.hid (HBy.out.later hS')
  clear hS' hb' hF' hcv Hp KP
  obtain ⟨d0, d1, d2, d3, d4, d5⟩ := config_cells HW4.out
  simp only at d0 d1 d2 d3 d4 d5
  obtain ⟨tk, Htk⟩ : ∃ z, Hid (takeM ⟨nn, q, r, p, kk, cc⟩ zs = z) := ⟨_, rfl⟩
  have hmt := mTake_calls ⟨nn, q, r, p, kk, cc⟩ A3 M3 C3 zs W' HBy4.out HM3.out hMC
  rw [Htk.out] at hmt
  have Hmt := Lib.hid hmt
  clear hmt hMC
  go_wp2_with fail
  refine Hmt.out.mono ?_
  rintro e w5 ⟨b1, n1, e1, b2, n2, e2, rfl, hK, hb⟩
  obtain ⟨y, Hy⟩ : ∃ z, Hid (tk.getD ml0 = z) := ⟨_, Lib.hid rfl⟩
  obtain ⟨ok, Hok⟩ : ∃ z, Hid (tk.isSome = z) := ⟨_, Lib.hid rfl⟩
  rw [Hy.out] at hK ⊢
  rw [Hok.out]
  have hb5 := held_next hb (below_box w5 (.cells (mlCells y (.slice b1 n1 e1) (.slice b2 n2 e2)) 35))
  have HY5 := Lib.hid (Whole.made w5 35 (mlCells y (.slice b1 n1 e1) (.slice b2 n2 e2)))
  have HK5 := Lib.hid (hK.later (below_box w5 (.cells (mlCells y (.slice b1 n1 e1) (.slice b2 n2 e2)) 35)))
  have Hb5 := Lib.hid (held_next Hb4.out hb5)
  have HW5 := Lib.hid (HW4.out.later hb5 HW4.out.lt)
  have HX5 := Lib.hid (HX4.out.later hb5 HX4.out.lt)
  clear hb hb5 hK d0 d1 d2 d3 d4 d5 Hmt
  obtain ⟨d0, d1, d2, d3, d4, d5⟩ := config_cells HW5.out
  obtain ⟨⟨z0, z1, z2, z3⟩, ⟨z4, z5, z6, z7⟩, z8, z9, z10⟩ := ml_cells' HX5.out
  simp only at d0 d1 d2 d3 d4 d5 z0 z1 z2 z3 z4 z5 z6 z7 z8 z9 z10
  obtain ⟨mb, Hmb⟩ : ∃ z, Hid (mailB ⟨nn, q, r, p, kk, cc⟩ ⟨fr, tg, clk, rows, t, ai, am, asks, try_, ph, echo⟩ = z) := ⟨_, Lib.hid rfl⟩
  have Hcall := Lib.hid (refmaymail_calls ⟨nn, q, r, p, kk, cc⟩ ⟨fr, tg, clk, rows, t, ai, am, asks, try_, ph, echo⟩ a1 m1 c1 a2 m2 c2 _ (HM.out.later Hb5.out))
  go_wp2_with fail
  refine Hcall.out.mono ?_
  rw [Hmb.out]
  rintro e w6 ⟨rfl, hb⟩
  have Hb6 := Lib.hid (held_next Hb5.out hb)
  have HX6 := Lib.hid (HX5.out.later hb HX5.out.lt)
  have HY6 := Lib.hid (HY5.out.later hb HY5.out.lt)
  have HK6 := Lib.hid (HK5.out.later hb)
  clear hb d0 d1 d2 d3 d4 d5 z0 z1 z2 z3 z4 z5 z6 z7 z8 z9 z10 Hcall
  cases mb with
  | false =>
    go_wp2_with fail
    go_ret
    exact ⟨by rfl, Hb6.out⟩
  | true =>
  have hyes : tk = some ⟨fr, tg, clk, rows, t, ai, am, asks, try_, ph, echo⟩ := Htk.out.symm.trans (takeM_yes ⟨of_decide_eq_true Hmb.out, Hzs.out.symm⟩)
  subst hyes
  obtain rfl : ok = true := Hok.out.symm
  obtain rfl : y = ⟨fr, tg, clk, rows, t, ai, am, asks, try_, ph, echo⟩ := Hy.out.symm
  obtain ⟨⟨z0, z1, z2, z3⟩, ⟨z4, z5, z6, z7⟩, z8, z9, z10⟩ := ml_cells' HX6.out
  obtain ⟨⟨y0, y1, y2, y3⟩, ⟨y4, y5, y6, y7⟩, y8, y9, y10⟩ := ml_cells' HY6.out
  simp only at z0 z1 z2 z3 z4 z5 z6 z7 z8 z9 z10 y0 y1 y2 y3 y4 y5 y6 y7 y8 y9 y10
  have Hcall := Lib.hid (refmsame_calls ⟨fr, tg, clk, rows, t, ai, am, asks, try_, ph, echo⟩ ⟨fr, tg, clk, rows, t, ai, am, asks, try_, ph, echo⟩ b1 n1 e1 b2 n2 e2 a1 m1 c1 a2 m2 c2 _ HK6.out (HM.out.later Hb6.out) true (iff_of_true rfl rfl))
  go_wp2_with fail
  refine Hcall.out.mono ?_
  rintro e w7 ⟨rfl, hb⟩
  have Hb7 := Lib.hid (held_next Hb6.out hb)
  clear hb
  go_wp2_with fail
  go_ret
  exact ⟨by rfl, Hb7.out⟩
end Go.Proofs.Ytfpadcfahfanoaa
