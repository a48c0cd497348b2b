/- Law MailApart, walked: unlike messages that may be have unlike bytes; cut short they are none. The law itself is stated in MailCards. -/
import Derived.Test.YtfpadcfahfanoaaMailAwake
import Derived.Deep.RegionHeld3
import Derived.IntWalk
namespace Go.Proofs.Ytfpadcfahfanoaa
open Go.RowKit

theorem mail_room {c : Cf} {x : Ml} (h : mailOk c x) : 10 * (allN x).length ≤ 140737488350000 := by
  have hn : c.n = (c.n.toNat : Int) := by have := h.1.1.1; omega
  have h16 : c.n.toNat ≤ 16 := by have := h.1.1.2.1; omega
  obtain ⟨h1, h2⟩ := right_rowed h.1 hn
  have hlx : (allN x).length = 3 + (c.n.toNat * (c.n.toNat + 2) + (6 + 2 * c.n.toNat)) := by
    unfold allN
    rw [List.length_append, List.length_append, flatR_len h2, h1, tailN_len, show x.echo.length = c.n.toNat by have := h.2.2.2.2.2.1; omega]
    rfl
  have h3 : c.n.toNat * (c.n.toNat + 2) ≤ 16 * 18 := Nat.mul_le_mul h16 (by omega)
  omega
theorem mail_bytes_some (x : Ml) : 0 < (mailBytes x).length := by
  have : mailBytes x = bytesN (u64n x.fr :: (([x.to, x.clk] ++ (flatR x.rows ++ tailN x)).map u64n)) := rfl
  rw [this, bytesN_cons, List.length_append]
  have := PackMath.num_pos (u64n x.fr)
  omega
theorem mail_bytes_apart {c : Cf} {x y : Ml} (hx : mailOk c x) (hy : mailOk c y) (h : x ≠ y) : mailBytes x ≠ mailBytes y := fun e => h (mail_unique hx hy (r := []) (r' := []) (by rw [e])).1
set_option maxRecDepth 100000 in
set_option maxHeartbeats 16000000 in
theorem mailapart_law (c : Cf) (x : Ml) (a1 : Option Addr) (m1 c1 : Nat) (a2 : Option Addr) (m2 c2 : Nat) (y : Ml) (b1 : Option Addr) (n1 e1 : Nat) (b2 : Option Addr) (n2 e2 : Nat) (cut : Nat) (hcut : cut < 65536) (w : World) (hM : MailIn w a1 m1 c1 a2 m2 c2 x) (hN : MailIn w b1 n1 e1 b2 n2 e2 y) :
    Calls Try.prog 5 #[cfV c, mlV x (.slice a1 m1 c1) (.slice a2 m2 c2), mlV y (.slice b1 n1 e1) (.slice b2 n2 e2), .int .u16 (cut : Int)] w (Says w true) := by
  have HW := Lib.hid (((Whole.made w 23 (cfCells c)).alloc (.cells (mlCells x (.slice a1 m1 c1) (.slice a2 m2 c2)) 35)).alloc (.cells (mlCells y (.slice b1 n1 e1) (.slice b2 n2 e2)) 35))
  have HX := Lib.hid ((Whole.made2 w (.cells (cfCells c) 23) 35 (mlCells x (.slice a1 m1 c1) (.slice a2 m2 c2))).alloc (.cells (mlCells y (.slice b1 n1 e1) (.slice b2 n2 e2)) 35))
  have HY := Lib.hid (Whole.madeAt ((w.alloc (.cells (cfCells c) 23)).alloc (.cells (mlCells x (.slice a1 m1 c1) (.slice a2 m2 c2)) 35)) 35 (mlCells y (.slice b1 n1 e1) (.slice b2 n2 e2)) (w.heap.size + 1 + 1) (by simp))
  have Hb0 := Lib.hid ((below_two w (.cells (cfCells c) 23) (.cells (mlCells x (.slice a1 m1 c1) (.slice a2 m2 c2)) 35)).alloc (by simp; omega) (.cells (mlCells y (.slice b1 n1 e1) (.slice b2 n2 e2)) 35))
  have HM := Lib.hid hM; clear hM
  have HN := Lib.hid hN; clear hN
  obtain ⟨nn, q, r, p, kk, cc⟩ := c
  obtain ⟨fr, tg, clk, rows, t, ai, am, asks, try_, ph, echo⟩ := x
  obtain ⟨fr2, tg2, clk2, rows2, t2, ai2, am2, asks2, try2, ph2, echo2⟩ := y
  go_enter Try.func5, Try.ntmps5
  go_wp2_with fail
  refine (awake16 _).mono ?_
  rintro e w1 ⟨rfl, hb⟩
  have Hb1 := Lib.hid (held_next Hb0.out hb)
  have HW1 := Lib.hid (HW.out.later hb HW.out.lt)
  have HX1 := Lib.hid (HX.out.later hb HX.out.lt)
  have HY1 := Lib.hid (HY.out.later hb HY.out.lt)
  clear hb
  obtain ⟨mx, Hmx⟩ : ∃ z, Hid (mailB ⟨nn, q, r, p, kk, cc⟩ ⟨fr, tg, clk, rows, t, ai, am, asks, try_, ph, echo⟩ = z) := ⟨_, Lib.hid rfl⟩
  obtain ⟨my, Hmy⟩ : ∃ z, Hid (mailB ⟨nn, q, r, p, kk, cc⟩ ⟨fr2, tg2, clk2, rows2, t2, ai2, am2, asks2, try2, ph2, echo2⟩ = z) := ⟨_, Lib.hid rfl⟩
  have Hc1 := Lib.hid (refmaymail_calls ⟨nn, q, r, p, kk, cc⟩ ⟨fr, tg, clk, rows, t, ai, am, asks, try_, ph, echo⟩ a1 m1 c1 a2 m2 c2 _ (HM.out.later Hb1.out))
  obtain ⟨d0, d1, d2, d3, d4, d5⟩ := config_cells HW1.out
  obtain ⟨⟨z0, z1, z2, z3⟩, ⟨z4, z5, z6, z7⟩, z8, z9, z10⟩ := ml_cells' HX1.out
  obtain ⟨⟨y0, y1, y2, y3⟩, ⟨y4, y5, y6, y7⟩, y8, y9, y10⟩ := ml_cells' HY1.out
  simp only at d0 d1 d2 d3 d4 d5 z0 z1 z2 z3 z4 z5 z6 z7 z8 z9 z10 y0 y1 y2 y3 y4 y5 y6 y7 y8 y9 y10
  go_wp2_with fail
  refine Hc1.out.mono ?_
  rw [Hmx.out]
  rintro e w2 ⟨rfl, hb⟩
  have Hb2 := Lib.hid (held_next Hb1.out hb)
  have HW2 := Lib.hid (HW1.out.later hb HW1.out.lt)
  have HX2 := Lib.hid (HX1.out.later hb HX1.out.lt)
  have HY2 := Lib.hid (HY1.out.later hb HY1.out.lt)
  clear hb d0 d1 d2 d3 d4 d5 z0 z1 z2 z3 z4 z5 z6 z7 z8 z9 z10 y0 y1 y2 y3 y4 y5 y6 y7 y8 y9 y10
  obtain ⟨d0, d1, d2, d3, d4, d5⟩ := config_cells HW2.out
  obtain ⟨⟨z0, z1, z2, z3⟩, ⟨z4, z5, z6, z7⟩, z8, z9, z10⟩ := ml_cells' HX2.out
  obtain ⟨⟨y0, y1, y2, y3⟩, ⟨y4, y5, y6, y7⟩, y8, y9, y10⟩ := ml_cells' HY2.out
  simp only at d0 d1 d2 d3 d4 d5 z0 z1 z2 z3 z4 z5 z6 z7 z8 z9 z10 y0 y1 y2 y3 y4 y5 y6 y7 y8 y9 y10
  cases mx with
  | false =>
    go_wp2_with fail
    go_ret
    exact ⟨by rfl, Hb2.out⟩
  | true =>
  have Hc2 := Lib.hid (refmaymail_calls ⟨nn, q, r, p, kk, cc⟩ ⟨fr2, tg2, clk2, rows2, t2, ai2, am2, asks2, try2, ph2, echo2⟩ b1 n1 e1 b2 n2 e2 _ (HN.out.later Hb2.out))
  go_wp2_with fail
  refine Hc2.out.mono ?_
  rw [Hmy.out]
  rintro e w3 ⟨rfl, hb⟩
  have Hb3 := Lib.hid (held_next Hb2.out hb)
  have HW3 := Lib.hid (HW2.out.later hb HW2.out.lt)
  have HX3 := Lib.hid (HX2.out.later hb HX2.out.lt)
  have HY3 := Lib.hid (HY2.out.later hb HY2.out.lt)
  clear hb d0 d1 d2 d3 d4 d5 z0 z1 z2 z3 z4 z5 z6 z7 z8 z9 z10 y0 y1 y2 y3 y4 y5 y6 y7 y8 y9 y10
  cases my with
  | false =>
    go_wp2_with fail
    go_ret
    exact ⟨by rfl, Hb3.out⟩
  | true =>
  have hox : mailOk ⟨nn, q, r, p, kk, cc⟩ ⟨fr, tg, clk, rows, t, ai, am, asks, try_, ph, echo⟩ := of_decide_eq_true Hmx.out
  have hoy : mailOk ⟨nn, q, r, p, kk, cc⟩ ⟨fr2, tg2, clk2, rows2, t2, ai2, am2, asks2, try2, ph2, echo2⟩ := of_decide_eq_true Hmy.out
  have Hrx := Lib.hid (mail_room hox); have Hry := Lib.hid (mail_room hoy)
  have Hox := Lib.hid hox; have Hoy := Lib.hid hoy
  clear hox hoy
  obtain ⟨zx, Hzx⟩ : ∃ z, Hid (mailBytes ⟨fr, tg, clk, rows, t, ai, am, asks, try_, ph, echo⟩ = z) := ⟨_, Lib.hid rfl⟩
  obtain ⟨zy, Hzy⟩ : ∃ z, Hid (mailBytes ⟨fr2, tg2, clk2, rows2, t2, ai2, am2, asks2, try2, ph2, echo2⟩ = z) := ⟨_, Lib.hid rfl⟩
  have hpx := fun w hw => mPut_calls ⟨fr, tg, clk, rows, t, ai, am, asks, try_, ph, echo⟩ a1 m1 c1 a2 m2 c2 w hw Hrx.out
  have hpy := fun w hw => mPut_calls ⟨fr2, tg2, clk2, rows2, t2, ai2, am2, asks2, try2, ph2, echo2⟩ b1 n1 e1 b2 n2 e2 w hw Hry.out
  rw [Hzx.out] at hpx
  rw [Hzy.out] at hpy
  have Hpx : Hid (∀ W, Below w3.heap.size w3 W → Calls Try.prog 11 #[.agg #[.int .i64 fr, .int .i64 tg, .int .i64 clk, .slice a1 m1 c1, .int .i64 t, .int .i64 ai, .int .i64 am, .int .i64 asks, .int .i64 try_, .int .i64 ph, .slice a2 m2 c2]] W (Made W zx)) := fun W h => hpx W (HM.out.later (held_next Hb3.out h))
  have Hpy : Hid (∀ W, Below w3.heap.size w3 W → Calls Try.prog 11 #[.agg #[.int .i64 fr2, .int .i64 tg2, .int .i64 clk2, .slice b1 n1 e1, .int .i64 t2, .int .i64 ai2, .int .i64 am2, .int .i64 asks2, .int .i64 try2, .int .i64 ph2, .slice b2 n2 e2]] W (Made W zy)) := fun W h => hpy W (HN.out.later (held_next Hb3.out h))
  clear hpx hpy
  have KP : Hid (∀ w', Below w3.heap.size w3 w' → Below w3.heap.size w3 w' ∧ ((w'.cell? ⟨w.heap.size + 1, 0, none⟩ = some (.int .i64 fr) ∧ w'.cell? ⟨w.heap.size + 1, 1, none⟩ = some (.int .i64 tg) ∧ w'.cell? ⟨w.heap.size + 1, 2, none⟩ = some (.int .i64 clk) ∧ w'.cell? ⟨w.heap.size + 1, 3, none⟩ = some (.slice a1 m1 c1)) ∧ (w'.cell? ⟨w.heap.size + 1, 4, none⟩ = some (.int .i64 t) ∧ w'.cell? ⟨w.heap.size + 1, 5, none⟩ = some (.int .i64 ai) ∧ w'.cell? ⟨w.heap.size + 1, 6, none⟩ = some (.int .i64 am) ∧ w'.cell? ⟨w.heap.size + 1, 7, none⟩ = some (.int .i64 asks)) ∧ w'.cell? ⟨w.heap.size + 1, 8, none⟩ = some (.int .i64 try_) ∧ w'.cell? ⟨w.heap.size + 1, 9, none⟩ = some (.int .i64 ph) ∧ w'.cell? ⟨w.heap.size + 1, 10, none⟩ = some (.slice a2 m2 c2)) ∧ ((w'.cell? ⟨w.heap.size + 1 + 1, 0, none⟩ = some (.int .i64 fr2) ∧ w'.cell? ⟨w.heap.size + 1 + 1, 1, none⟩ = some (.int .i64 tg2) ∧ w'.cell? ⟨w.heap.size + 1 + 1, 2, none⟩ = some (.int .i64 clk2) ∧ w'.cell? ⟨w.heap.size + 1 + 1, 3, none⟩ = some (.slice b1 n1 e1)) ∧ (w'.cell? ⟨w.heap.size + 1 + 1, 4, none⟩ = some (.int .i64 t2) ∧ w'.cell? ⟨w.heap.size + 1 + 1, 5, none⟩ = some (.int .i64 ai2) ∧ w'.cell? ⟨w.heap.size + 1 + 1, 6, none⟩ = some (.int .i64 am2) ∧ w'.cell? ⟨w.heap.size + 1 + 1, 7, none⟩ = some (.int .i64 asks2)) ∧ w'.cell? ⟨w.heap.size + 1 + 1, 8, none⟩ = some (.int .i64 try2) ∧ w'.cell? ⟨w.heap.size + 1 + 1, 9, none⟩ = some (.int .i64 ph2) ∧ w'.cell? ⟨w.heap.size + 1 + 1, 10, none⟩ = some (.slice b2 n2 e2))) :=
    fun w' h => ⟨h, ml_cells' (HX3.out.later h HX3.out.lt), ml_cells' (HY3.out.later h HY3.out.lt)⟩
  go_wp2_with fail
  go_region_held3 (fun w' => Below w3.heap.size w3 w' ∧ ((w'.cell? ⟨w.heap.size + 1, 0, none⟩ = some (.int .i64 fr) ∧ w'.cell? ⟨w.heap.size + 1, 1, none⟩ = some (.int .i64 tg) ∧ w'.cell? ⟨w.heap.size + 1, 2, none⟩ = some (.int .i64 clk) ∧ w'.cell? ⟨w.heap.size + 1, 3, none⟩ = some (.slice a1 m1 c1)) ∧ (w'.cell? ⟨w.heap.size + 1, 4, none⟩ = some (.int .i64 t) ∧ w'.cell? ⟨w.heap.size + 1, 5, none⟩ = some (.int .i64 ai) ∧ w'.cell? ⟨w.heap.size + 1, 6, none⟩ = some (.int .i64 am) ∧ w'.cell? ⟨w.heap.size + 1, 7, none⟩ = some (.int .i64 asks)) ∧ w'.cell? ⟨w.heap.size + 1, 8, none⟩ = some (.int .i64 try_) ∧ w'.cell? ⟨w.heap.size + 1, 9, none⟩ = some (.int .i64 ph) ∧ w'.cell? ⟨w.heap.size + 1, 10, none⟩ = some (.slice a2 m2 c2)) ∧ ((w'.cell? ⟨w.heap.size + 1 + 1, 0, none⟩ = some (.int .i64 fr2) ∧ w'.cell? ⟨w.heap.size + 1 + 1, 1, none⟩ = some (.int .i64 tg2) ∧ w'.cell? ⟨w.heap.size + 1 + 1, 2, none⟩ = some (.int .i64 clk2) ∧ w'.cell? ⟨w.heap.size + 1 + 1, 3, none⟩ = some (.slice b1 n1 e1)) ∧ (w'.cell? ⟨w.heap.size + 1 + 1, 4, none⟩ = some (.int .i64 t2) ∧ w'.cell? ⟨w.heap.size + 1 + 1, 5, none⟩ = some (.int .i64 ai2) ∧ w'.cell? ⟨w.heap.size + 1 + 1, 6, none⟩ = some (.int .i64 am2) ∧ w'.cell? ⟨w.heap.size + 1 + 1, 7, none⟩ = some (.int .i64 asks2)) ∧ w'.cell? ⟨w.heap.size + 1 + 1, 8, none⟩ = some (.int .i64 try2) ∧ w'.cell? ⟨w.heap.size + 1 + 1, 9, none⟩ = some (.int .i64 ph2) ∧ w'.cell? ⟨w.heap.size + 1 + 1, 10, none⟩ = some (.slice b2 n2 e2)))
    (first | exact KP.out _ (Below.refl _ _).drew | (refine KP.out _ ?_; assumption))
    (first | (go_at_call 11; have hcur := (‹Below w3.heap.size w3 _ ∧ _ ∧ _›).1; have hcall := Hpx.out _ hcur; (with_reducible refine hcall.mono ?_); rintro ex wx ⟨vx, rfl, hbx, hFx⟩; have hSx : Below w3.heap.size w3 wx := held_next hcur hbx; obtain ⟨A4, M4, C4, rfl, hM4, hC4⟩ := hFx.args; have HBx := Lib.hid hFx.bytes; have HM4 := Lib.hid hM4; clear hFx hM4 hbx)
           | (go_at_call 11; have hcur := (‹Below w3.heap.size w3 _ ∧ _ ∧ _›).1; have hcall := Hpy.out _ hcur; (with_reducible refine hcall.mono ?_); rintro ey wy ⟨vy, rfl, hby, hFy⟩; have hSy : Below w3.heap.size w3 wy := held_next hcur hby; obtain ⟨A5, M5, C5, rfl, hM5, hC5⟩ := hFy.args; have HBy := Lib.hid hFy.bytes; have HBx5 := Lib.hid (HBx.out.later hby); have HM5 := Lib.hid hM5; clear hFy hM5 hby))
  have Hb5 := Lib.hid (held_next Hb3.out hSy)
  have HW5 := Lib.hid (HW3.out.later hSy HW3.out.lt)
  have HX5 := Lib.hid (HX3.out.later hSy HX3.out.lt)
  have HY5 := Lib.hid (HY3.out.later hSy HY3.out.lt)
  clear hSx hSy KP Hpx Hpy hC5
  obtain ⟨res, hres, hs⟩ : ∃ res : Bool, (res = true ↔ (⟨fr, tg, clk, rows, t, ai, am, asks, try_, ph, echo⟩ : Ml) = ⟨fr2, tg2, clk2, rows2, t2, ai2, am2, asks2, try2, ph2, echo2⟩) ∧ ((strOfNums zx).toList == (strOfNums zy).toList) = res := by
    by_cases h : (⟨fr, tg, clk, rows, t, ai, am, asks, try_, ph, echo⟩ : Ml) = ⟨fr2, tg2, clk2, rows2, t2, ai2, am2, asks2, try2, ph2, echo2⟩
    · exact ⟨true, iff_of_true rfl h, str_same (by rw [← Hzx.out, ← Hzy.out, h])⟩
    · exact ⟨false, iff_of_false (by decide) h, str_ne fun e => mail_bytes_apart Hox.out Hoy.out h (by rw [Hzx.out, Hzy.out]; exact strOf_inj HBx5.out.2.1 HBy.out.2.1 e)⟩
  have Hc := Lib.hid (fun W (h : Below wy.heap.size wy W) => refmsame_calls ⟨fr, tg, clk, rows, t, ai, am, asks, try_, ph, echo⟩ ⟨fr2, tg2, clk2, rows2, t2, ai2, am2, asks2, try2, ph2, echo2⟩ a1 m1 c1 a2 m2 c2 b1 n1 e1 b2 n2 e2 W (HM.out.later (held_next Hb5.out h)) (HN.out.later (held_next Hb5.out h)) res hres)
  have hM0 : ¬ (M4 : Int) = 0 := by have h1 := HM4.out; have h2 := mail_bytes_some ⟨fr, tg, clk, rows, t, ai, am, asks, try_, ph, echo⟩; rw [Hzx.out] at h2; omega
  have hM1 : ((M4 : Int) == 0) = false := beq_eq_false_iff_ne.2 hM0
  have hM2 : decide ((M4 : Int) = 0) = false := decide_eq_false hM0
  have hMb : M4 ≤ 9223372036854775807 := by rw [HM4.out]; exact HBx5.out.1
  have KP : Hid (∀ w', Below wy.heap.size wy w' → Below wy.heap.size wy w' ∧ (convert 24 9 (.slice A4 M4 C4)).run Try.prog w' = .ok (.string (strOfNums zx)) w' ∧ (convert 24 9 (.slice A5 M5 C5)).run Try.prog w' = .ok (.string (strOfNums zy)) w' ∧ ((w'.cell? ⟨w.heap.size + 1, 0, none⟩ = some (.int .i64 fr) ∧ w'.cell? ⟨w.heap.size + 1, 1, none⟩ = some (.int .i64 tg) ∧ w'.cell? ⟨w.heap.size + 1, 2, none⟩ = some (.int .i64 clk) ∧ w'.cell? ⟨w.heap.size + 1, 3, none⟩ = some (.slice a1 m1 c1)) ∧ (w'.cell? ⟨w.heap.size + 1, 4, none⟩ = some (.int .i64 t) ∧ w'.cell? ⟨w.heap.size + 1, 5, none⟩ = some (.int .i64 ai) ∧ w'.cell? ⟨w.heap.size + 1, 6, none⟩ = some (.int .i64 am) ∧ w'.cell? ⟨w.heap.size + 1, 7, none⟩ = some (.int .i64 asks)) ∧ w'.cell? ⟨w.heap.size + 1, 8, none⟩ = some (.int .i64 try_) ∧ w'.cell? ⟨w.heap.size + 1, 9, none⟩ = some (.int .i64 ph) ∧ w'.cell? ⟨w.heap.size + 1, 10, none⟩ = some (.slice a2 m2 c2)) ∧ ((w'.cell? ⟨w.heap.size + 1 + 1, 0, none⟩ = some (.int .i64 fr2) ∧ w'.cell? ⟨w.heap.size + 1 + 1, 1, none⟩ = some (.int .i64 tg2) ∧ w'.cell? ⟨w.heap.size + 1 + 1, 2, none⟩ = some (.int .i64 clk2) ∧ w'.cell? ⟨w.heap.size + 1 + 1, 3, none⟩ = some (.slice b1 n1 e1)) ∧ (w'.cell? ⟨w.heap.size + 1 + 1, 4, none⟩ = some (.int .i64 t2) ∧ w'.cell? ⟨w.heap.size + 1 + 1, 5, none⟩ = some (.int .i64 ai2) ∧ w'.cell? ⟨w.heap.size + 1 + 1, 6, none⟩ = some (.int .i64 am2) ∧ w'.cell? ⟨w.heap.size + 1 + 1, 7, none⟩ = some (.int .i64 asks2)) ∧ w'.cell? ⟨w.heap.size + 1 + 1, 8, none⟩ = some (.int .i64 try2) ∧ w'.cell? ⟨w.heap.size + 1 + 1, 9, none⟩ = some (.int .i64 ph2) ∧ w'.cell? ⟨w.heap.size + 1 + 1, 10, none⟩ = some (.slice b2 n2 e2))) :=
    fun w' h => ⟨h, str_any (HBx5.out.later h), str_any (HBy.out.later h), ml_cells' (HX5.out.later h HX5.out.lt), ml_cells' (HY5.out.later h HY5.out.lt)⟩
  clear hres
  go_wp2_with fail
  go_region_held (fun w' => Below wy.heap.size wy w' ∧ (convert 24 9 (.slice A4 M4 C4)).run Try.prog w' = .ok (.string (strOfNums zx)) w' ∧ (convert 24 9 (.slice A5 M5 C5)).run Try.prog w' = .ok (.string (strOfNums zy)) w' ∧ ((w'.cell? ⟨w.heap.size + 1, 0, none⟩ = some (.int .i64 fr) ∧ w'.cell? ⟨w.heap.size + 1, 1, none⟩ = some (.int .i64 tg) ∧ w'.cell? ⟨w.heap.size + 1, 2, none⟩ = some (.int .i64 clk) ∧ w'.cell? ⟨w.heap.size + 1, 3, none⟩ = some (.slice a1 m1 c1)) ∧ (w'.cell? ⟨w.heap.size + 1, 4, none⟩ = some (.int .i64 t) ∧ w'.cell? ⟨w.heap.size + 1, 5, none⟩ = some (.int .i64 ai) ∧ w'.cell? ⟨w.heap.size + 1, 6, none⟩ = some (.int .i64 am) ∧ w'.cell? ⟨w.heap.size + 1, 7, none⟩ = some (.int .i64 asks)) ∧ w'.cell? ⟨w.heap.size + 1, 8, none⟩ = some (.int .i64 try_) ∧ w'.cell? ⟨w.heap.size + 1, 9, none⟩ = some (.int .i64 ph) ∧ w'.cell? ⟨w.heap.size + 1, 10, none⟩ = some (.slice a2 m2 c2)) ∧ ((w'.cell? ⟨w.heap.size + 1 + 1, 0, none⟩ = some (.int .i64 fr2) ∧ w'.cell? ⟨w.heap.size + 1 + 1, 1, none⟩ = some (.int .i64 tg2) ∧ w'.cell? ⟨w.heap.size + 1 + 1, 2, none⟩ = some (.int .i64 clk2) ∧ w'.cell? ⟨w.heap.size + 1 + 1, 3, none⟩ = some (.slice b1 n1 e1)) ∧ (w'.cell? ⟨w.heap.size + 1 + 1, 4, none⟩ = some (.int .i64 t2) ∧ w'.cell? ⟨w.heap.size + 1 + 1, 5, none⟩ = some (.int .i64 ai2) ∧ w'.cell? ⟨w.heap.size + 1 + 1, 6, none⟩ = some (.int .i64 am2) ∧ w'.cell? ⟨w.heap.size + 1 + 1, 7, none⟩ = some (.int .i64 asks2)) ∧ w'.cell? ⟨w.heap.size + 1 + 1, 8, none⟩ = some (.int .i64 try2) ∧ w'.cell? ⟨w.heap.size + 1 + 1, 9, none⟩ = some (.int .i64 ph2) ∧ w'.cell? ⟨w.heap.size + 1 + 1, 10, none⟩ = some (.slice b2 n2 e2)))
    (first | exact KP.out _ (Below.refl _ _).drew | (refine KP.out _ ?_; assumption))
    (first | (go_at_call 9; have hcur := (‹Below wy.heap.size wy _ ∧ _ ∧ _›).1; refine (Hc.out _ hcur).mono ?_; rintro ez wz ⟨rfl, hbz⟩; have hSz : Below wy.heap.size wy wz := held_next hcur hbz))
  have Hb6 := Lib.hid (held_next Hb5.out hSz)
  have HW6 := Lib.hid (HW5.out.later hSz HW5.out.lt)
  have HBx6 := Lib.hid (HBx5.out.later hSz)
  clear hSz hbz KP Hc
  obtain ⟨k, hk⟩ : ∃ k : Nat, (cut : Int) % (M4 : Int) = (k : Int) := ⟨cut % M4, by omega⟩
  have hkM : k < M4 := by have h1 := HM4.out; have h2 := mail_bytes_some ⟨fr, tg, clk, rows, t, ai, am, asks, try_, ph, echo⟩; rw [Hzx.out] at h2; have := Int.emod_lt_of_pos (cut : Int) (show 0 < (M4 : Int) by omega); omega
  have hno : takeM ⟨nn, q, r, p, kk, cc⟩ (zx.take k) = none := by rw [← Hzx.out]; exact takeM_cut Hox.out (by rw [Hzx.out, ← HM4.out]; exact hkM)
  obtain ⟨v6, hv6, hv6B, A6, C6, hvv, hC6⟩ := piece_upto (zs := zx) HM4.out (Nat.le_of_lt hkM) hC4
  subst hvv
  have hkl : k = (zx.take k).length := by rw [List.length_take, ← HM4.out]; omega
  have Hk := Lib.hid hk
  have hmt := fun W (h : Below wz.heap.size wz W) => mTake_calls ⟨nn, q, r, p, kk, cc⟩ A6 k C6 (zx.take k) W (hv6B _ (HBx6.out.later h)) hkl hC6
  rw [hno] at hmt
  have Hmt := Lib.hid hmt
  have hwc : IntKind.i64.wrap (cut : Int) = (cut : Int) := IntWalk.i64_in _ (by omega)
  have htm : Int.tmod (cut : Int) (M4 : Int) = (k : Int) := by rw [Int.tmod_eq_emod_of_nonneg (by omega)]; exact hk
  have hM3 : ¬ M4 = 0 := by omega
  clear hmt hk hv6B hno hkl hC6 hC4 hkM
  go_wp2_with fail
  refine wp_region_each_at ?hm ?hb (fun a0 d a' w' => ∃ (e0 e1 e2 e3 e4 e5 e6 e7 e8 e9 e10 e11 e12 e14 : Value) (p1 p4 : Option Addr) (p2 p3 p5 p6 gb : Nat), a' = putAll a0 [(44, e0), (45, e1), (46, e2), (47, e3), (48, e4), (49, e5), (50, e6), (51, e7), (52, e8), (43, e9), (53, e10), (54, e11), (11, e12), (12, e14)] ∧ Below wz.heap.size wz w' ∧ (d 0 = true → e0 = (cfV ⟨nn, q, r, p, kk, cc⟩)) ∧ (d 1 = true → e1 = (.slice A4 M4 C4)) ∧ (d 2 = true → e2 = (.int .u16 (cut : Int))) ∧ (d 3 = true → e3 = (.int .i64 (cut : Int))) ∧ (d 4 = true → e4 = (.slice A4 M4 C4)) ∧ (d 5 = true → e5 = (.int .i64 (M4 : Int))) ∧ (d 6 = true → e6 = (.int .i64 (k : Int))) ∧ (d 7 = true → e7 = (.slice A6 k C6)) ∧ (d 8 = true → (e8 = .tuple #[mlV ml0 (.slice p1 p2 p3) (.slice p4 p5 p6), .bool false])) ∧ (d 9 = true → (d 8 = true ∧ e9 = .tuple #[mlV ml0 (.slice p1 p2 p3) (.slice p4 p5 p6), .bool false])) ∧ (d 10 = true → (d 8 = true ∧ e10 = mlV ml0 (.slice p1 p2 p3) (.slice p4 p5 p6))) ∧ (d 11 = true → (e11 = .bool false)) ∧ (d 12 = true → (e12 = .pointer (some ⟨gb, 0, none⟩) ∧ wz.heap.size ≤ gb ∧ gb < w'.heap.size ∧ (d 13 = false → Whole w' gb 35 (mlCells ml0 (.slice none 0 0) (.slice none 0 0))))) ∧ (d 13 = true → (d 12 = true)) ∧ (d 14 = true → (e14 = .bool false))) ?h0 ?step ?ends
  case hm => kernel_rfl
  case hb => kernel_rfl
  case h0 =>
    refine ⟨undef, undef, undef, undef, undef, undef, undef, undef, undef, undef, undef, undef, undef, undef, none, none, 0, 0, 0, 0, 0, ?_, (Below.refl _ _).drew, fun h => absurd h (by decide), fun h => absurd h (by decide), fun h => absurd h (by decide), fun h => absurd h (by decide), fun h => absurd h (by decide), fun h => absurd h (by decide), fun h => absurd h (by decide), fun h => absurd h (by decide), fun h => absurd h (by decide), fun h => absurd h (by decide), fun h => absurd h (by decide), fun h => absurd h (by decide), fun h => absurd h (by decide), fun h => absurd h (by decide), fun h => absurd h (by decide)⟩
    simp only [putAll, Act.put, List.setIfInBounds_toArray, List.set_cons_zero, List.set_cons_succ]
  case step =>
    intro i d a' w' hi hJ hd hk
    obtain ⟨e0, e1, e2, e3, e4, e5, e6, e7, e8, e9, e10, e11, e12, e14, p1, p4, p2, p3, p5, p6, gb, rfl, hB, c0, c1, c2, c3, c4, c5, c6, c7, c8, c9, c10, c11, c12, c13, c14⟩ := hJ
    match i, hi, hd, hk with
    | 0, _, hd, hk =>
      obtain ⟨z0, z1, z2, z3, z4, z5⟩ := config_cells (HW6.out.later hB HW6.out.lt)
      simp only at z0 z1 z2 z3 z4 z5
      apply wpOp_at
      case ho => rfl
      intro K hK
      simp only [putAll, Act.put, List.setIfInBounds_toArray, List.set_cons_zero, List.set_cons_succ]
      go_simp
      refine hK _ _ ⟨(cfV ⟨nn, q, r, p, kk, cc⟩), e1, e2, e3, e4, e5, e6, e7, e8, e9, e10, e11, e12, e14, p1, p4, p2, p3, p5, p6, gb, ?_, hB, fun _ => rfl, c1, c2, c3, c4, c5, c6, c7, c8, c9, c10, c11, c12, c13, c14⟩
      simp only [putAll, Act.put, List.setIfInBounds_toArray, List.set_cons_zero, List.set_cons_succ]
      all_goals rfl
    | 1, _, hd, hk =>
      apply wpOp_at
      case ho => rfl
      intro K hK
      simp only [putAll, Act.put, List.setIfInBounds_toArray, List.set_cons_zero, List.set_cons_succ]
      go_simp
      refine hK _ _ ⟨e0, (.slice A4 M4 C4), e2, e3, e4, e5, e6, e7, e8, e9, e10, e11, e12, e14, p1, p4, p2, p3, p5, p6, gb, ?_, hB, c0, fun _ => rfl, c2, c3, c4, c5, c6, c7, c8, c9, c10, c11, c12, c13, c14⟩
      simp only [putAll, Act.put, List.setIfInBounds_toArray, List.set_cons_zero, List.set_cons_succ]
      all_goals rfl
    | 2, _, hd, hk =>
      apply wpOp_at
      case ho => rfl
      intro K hK
      simp only [putAll, Act.put, List.setIfInBounds_toArray, List.set_cons_zero, List.set_cons_succ]
      go_simp
      refine hK _ _ ⟨e0, e1, (.int .u16 (cut : Int)), e3, e4, e5, e6, e7, e8, e9, e10, e11, e12, e14, p1, p4, p2, p3, p5, p6, gb, ?_, hB, c0, c1, fun _ => rfl, c3, c4, c5, c6, c7, c8, c9, c10, c11, c12, c13, c14⟩
      simp only [putAll, Act.put, List.setIfInBounds_toArray, List.set_cons_zero, List.set_cons_succ]
      all_goals rfl
    | 3, _, hd, hk =>
      have h2 : d 2 = true := hk 2 (by decide +kernel)
      obtain rfl := c2 h2
      apply wpOp_at
      case ho => rfl
      intro K hK
      simp only [putAll, Act.put, List.setIfInBounds_toArray, List.set_cons_zero, List.set_cons_succ]
      go_simp
      refine hK _ _ ⟨e0, e1, (.int .u16 (cut : Int)), (.int .i64 (cut : Int)), e4, e5, e6, e7, e8, e9, e10, e11, e12, e14, p1, p4, p2, p3, p5, p6, gb, ?_, hB, c0, c1, c2, fun _ => rfl, c4, c5, c6, c7, c8, c9, c10, c11, c12, c13, c14⟩
      simp only [putAll, Act.put, List.setIfInBounds_toArray, List.set_cons_zero, List.set_cons_succ]
      all_goals rfl
    | 4, _, hd, hk =>
      apply wpOp_at
      case ho => rfl
      intro K hK
      simp only [putAll, Act.put, List.setIfInBounds_toArray, List.set_cons_zero, List.set_cons_succ]
      go_simp
      refine hK _ _ ⟨e0, e1, e2, e3, (.slice A4 M4 C4), e5, e6, e7, e8, e9, e10, e11, e12, e14, p1, p4, p2, p3, p5, p6, gb, ?_, hB, c0, c1, c2, c3, fun _ => rfl, c5, c6, c7, c8, c9, c10, c11, c12, c13, c14⟩
      simp only [putAll, Act.put, List.setIfInBounds_toArray, List.set_cons_zero, List.set_cons_succ]
      all_goals rfl
    | 5, _, hd, hk =>
      have h4 : d 4 = true := hk 4 (by decide +kernel)
      obtain rfl := c4 h4
      apply wpOp_at
      case ho => rfl
      intro K hK
      simp only [putAll, Act.put, List.setIfInBounds_toArray, List.set_cons_zero, List.set_cons_succ]
      go_simp
      refine hK _ _ ⟨e0, e1, e2, e3, (.slice A4 M4 C4), (.int .i64 (M4 : Int)), e6, e7, e8, e9, e10, e11, e12, e14, p1, p4, p2, p3, p5, p6, gb, ?_, hB, c0, c1, c2, c3, c4, fun _ => rfl, c6, c7, c8, c9, c10, c11, c12, c13, c14⟩
      simp only [putAll, Act.put, List.setIfInBounds_toArray, List.set_cons_zero, List.set_cons_succ]
      all_goals rfl
    | 6, _, hd, hk =>
      have h3 : d 3 = true := hk 3 (by decide +kernel)
      have h5 : d 5 = true := hk 5 (by decide +kernel)
      obtain rfl := c3 h3
      obtain rfl := c5 h5
      apply wpOp_at
      case ho => rfl
      intro K hK
      simp only [putAll, Act.put, List.setIfInBounds_toArray, List.set_cons_zero, List.set_cons_succ]
      go_simp
      refine hK _ _ ⟨e0, e1, e2, (.int .i64 (cut : Int)), e4, (.int .i64 (M4 : Int)), (.int .i64 (k : Int)), e7, e8, e9, e10, e11, e12, e14, p1, p4, p2, p3, p5, p6, gb, ?_, hB, c0, c1, c2, c3, c4, c5, fun _ => rfl, c7, c8, c9, c10, c11, c12, c13, c14⟩
      simp only [putAll, Act.put, List.setIfInBounds_toArray, List.set_cons_zero, List.set_cons_succ]
      all_goals rfl
    | 7, _, hd, hk =>
      have h1 : d 1 = true := hk 1 (by decide +kernel)
      have h6 : d 6 = true := hk 6 (by decide +kernel)
      obtain rfl := c1 h1
      obtain rfl := c6 h6
      apply wpOp_at
      case ho => rfl
      intro K hK
      simp only [putAll, Act.put, List.setIfInBounds_toArray, List.set_cons_zero, List.set_cons_succ]
      go_simp
      refine hK _ _ ⟨e0, (.slice A4 M4 C4), e2, e3, e4, e5, (.int .i64 (k : Int)), (.slice A6 k C6), e8, e9, e10, e11, e12, e14, p1, p4, p2, p3, p5, p6, gb, ?_, hB, c0, c1, c2, c3, c4, c5, c6, fun _ => rfl, c8, c9, c10, c11, c12, c13, c14⟩
      simp only [putAll, Act.put, List.setIfInBounds_toArray, List.set_cons_zero, List.set_cons_succ]
      all_goals rfl
    | 8, _, hd, hk =>
      have h0 : d 0 = true := hk 0 (by decide +kernel)
      have h7 : d 7 = true := hk 7 (by decide +kernel)
      obtain rfl := c0 h0
      obtain rfl := c7 h7
      apply wpOp_at
      case ho => rfl
      intro K hK
      simp only [putAll, Act.put, List.setIfInBounds_toArray, List.set_cons_zero, List.set_cons_succ]
      go_simp
      refine (Hmt.out _ hB).mono ?_
      rintro e w'' ⟨a1', m1', c1', a2', m2', c2', rfl, _, hb⟩
      refine hK _ _ ⟨(cfV ⟨nn, q, r, p, kk, cc⟩), e1, e2, e3, e4, e5, e6, (.slice A6 k C6), .tuple #[mlV ml0 (.slice a1' m1' c1') (.slice a2' m2' c2'), .bool false], e9, e10, e11, e12, e14, a1', a2', m1', c1', m2', c2', gb, ?_, hB.trans (hb.mono hB.size), c0, c1, c2, c3, c4, c5, c6, c7, fun _ => rfl, fun h => Bool.noConfusion (hd.symm.trans (c9 h).1), fun h => Bool.noConfusion (hd.symm.trans (c10 h).1), c11, fun h => ⟨(c12 h).1, (c12 h).2.1, Nat.lt_of_lt_of_le (c12 h).2.2.1 hb.size, fun h2 => ((c12 h).2.2.2 h2).later hb (c12 h).2.2.1⟩, c13, c14⟩
      simp only [putAll, Act.put, List.setIfInBounds_toArray, List.set_cons_zero, List.set_cons_succ]
      all_goals rfl
    | 9, _, hd, hk =>
      have h8 : d 8 = true := hk 8 (by decide +kernel)
      obtain rfl := c8 h8
      apply wpOp_at
      case ho => rfl
      intro K hK
      simp only [putAll, Act.put, List.setIfInBounds_toArray, List.set_cons_zero, List.set_cons_succ]
      go_simp
      refine hK _ _ ⟨e0, e1, e2, e3, e4, e5, e6, e7, .tuple #[mlV ml0 (.slice p1 p2 p3) (.slice p4 p5 p6), .bool false], .tuple #[mlV ml0 (.slice p1 p2 p3) (.slice p4 p5 p6), .bool false], e10, e11, e12, e14, p1, p4, p2, p3, p5, p6, gb, ?_, hB, c0, c1, c2, c3, c4, c5, c6, c7, fun _ => rfl, fun _ => ⟨h8, rfl⟩, c10, c11, c12, c13, c14⟩
      simp only [putAll, Act.put, List.setIfInBounds_toArray, List.set_cons_zero, List.set_cons_succ]
      all_goals rfl
    | 10, _, hd, hk =>
      have h9 : d 9 = true := hk 9 (by decide +kernel)
      obtain ⟨h8, rfl⟩ := c9 h9
      obtain rfl := c8 h8
      apply wpOp_at
      case ho => rfl
      intro K hK
      simp only [putAll, Act.put, List.setIfInBounds_toArray, List.set_cons_zero, List.set_cons_succ]
      go_simp
      refine hK _ _ ⟨e0, e1, e2, e3, e4, e5, e6, e7, .tuple #[mlV ml0 (.slice p1 p2 p3) (.slice p4 p5 p6), .bool false], .tuple #[mlV ml0 (.slice p1 p2 p3) (.slice p4 p5 p6), .bool false], mlV ml0 (.slice p1 p2 p3) (.slice p4 p5 p6), e11, e12, e14, p1, p4, p2, p3, p5, p6, gb, ?_, hB, c0, c1, c2, c3, c4, c5, c6, c7, fun _ => rfl, fun _ => ⟨h8, rfl⟩, fun _ => ⟨h8, rfl⟩, c11, c12, c13, c14⟩
      simp only [putAll, Act.put, List.setIfInBounds_toArray, List.set_cons_zero, List.set_cons_succ]
      all_goals rfl
    | 11, _, hd, hk =>
      have h9 : d 9 = true := hk 9 (by decide +kernel)
      obtain ⟨h8, rfl⟩ := c9 h9
      obtain rfl := c8 h8
      apply wpOp_at
      case ho => rfl
      intro K hK
      simp only [putAll, Act.put, List.setIfInBounds_toArray, List.set_cons_zero, List.set_cons_succ]
      go_simp
      refine hK _ _ ⟨e0, e1, e2, e3, e4, e5, e6, e7, .tuple #[mlV ml0 (.slice p1 p2 p3) (.slice p4 p5 p6), .bool false], .tuple #[mlV ml0 (.slice p1 p2 p3) (.slice p4 p5 p6), .bool false], e10, .bool false, e12, e14, p1, p4, p2, p3, p5, p6, gb, ?_, hB, c0, c1, c2, c3, c4, c5, c6, c7, fun _ => rfl, fun _ => ⟨h8, rfl⟩, c10, fun _ => rfl, c12, c13, c14⟩
      simp only [putAll, Act.put, List.setIfInBounds_toArray, List.set_cons_zero, List.set_cons_succ]
      all_goals rfl
    | 12, _, hd, hk =>
      have hb := below_box w' (.cells (mlCells ml0 (.slice none 0 0) (.slice none 0 0)) 35)
      apply wpOp_at
      case ho => rfl
      intro K hK
      simp only [putAll, Act.put, List.setIfInBounds_toArray, List.set_cons_zero, List.set_cons_succ]
      go_simp
      refine hK _ _ ⟨e0, e1, e2, e3, e4, e5, e6, e7, e8, e9, e10, e11, .pointer (some ⟨w'.heap.size, 0, none⟩), e14, p1, p4, p2, p3, p5, p6, w'.heap.size, ?_, hB.trans (hb.mono hB.size), c0, c1, c2, c3, c4, c5, c6, c7, c8, c9, c10, c11, fun _ => ⟨rfl, hB.size, by simp, fun _ => Whole.made w' _ _⟩, fun h => Bool.noConfusion (hd.symm.trans (c13 h)), c14⟩
      simp only [putAll, Act.put, List.setIfInBounds_toArray, List.set_cons_zero, List.set_cons_succ]
      all_goals rfl
    | 13, _, hd, hk =>
      have h10 : d 10 = true := hk 10 (by decide +kernel)
      have h12 : d 12 = true := hk 12 (by decide +kernel)
      obtain ⟨h8, rfl⟩ := c10 h10
      obtain rfl := c8 h8
      obtain ⟨rfl, hgb, hgl, hw0⟩ := c12 h12
      have hZ := hw0 hd
      have y0 := hZ.free 0
      have y1 := hZ.free 1
      have y2 := hZ.free 2
      have y3 := hZ.free 3
      have y4 := hZ.free 4
      have y5 := hZ.free 5
      have y6 := hZ.free 6
      have y7 := hZ.free 7
      have y8 := hZ.free 8
      have y9 := hZ.free 9
      have y10 := hZ.free 10
      obtain ⟨⟨z0, z1, z2, z3⟩, ⟨z4, z5, z6, z7⟩, z8, z9, z10⟩ := ml_cells' hZ
      have hlb := ml11_below (g := gb) (x := ml0) (rv := .slice p1 p2 p3) (ev := .slice p4 p5 p6) (Below.refl gb w') (Nat.le_refl _)
      apply wpOp_at
      case ho => rfl
      intro K hK
      simp only [putAll, Act.put, List.setIfInBounds_toArray, List.set_cons_zero, List.set_cons_succ]
      go_simp
      refine hK _ _ ⟨e0, e1, e2, e3, e4, e5, e6, e7, .tuple #[mlV ml0 (.slice p1 p2 p3) (.slice p4 p5 p6), .bool false], e9, mlV ml0 (.slice p1 p2 p3) (.slice p4 p5 p6), e11, .pointer (some ⟨gb, 0, none⟩), e14, p1, p4, p2, p3, p5, p6, gb, ?_, ml11_below (g := gb) (x := ml0) (rv := .slice p1 p2 p3) (ev := .slice p4 p5 p6) hB hgb, c0, c1, c2, c3, c4, c5, c6, c7, fun _ => rfl, c9, fun _ => ⟨h8, rfl⟩, c11, fun _ => ⟨rfl, hgb, Nat.lt_of_lt_of_le hgl hlb.size, fun h => Bool.noConfusion (show true = false from h)⟩, fun _ => h12, c14⟩
      simp only [putAll, Act.put, List.setIfInBounds_toArray, List.set_cons_zero, List.set_cons_succ]
      all_goals rfl
    | 14, _, hd, hk =>
      have h11 : d 11 = true := hk 11 (by decide +kernel)
      obtain rfl := c11 h11
      apply wpOp_at
      case ho => rfl
      intro K hK
      simp only [putAll, Act.put, List.setIfInBounds_toArray, List.set_cons_zero, List.set_cons_succ]
      go_simp
      refine hK _ _ ⟨e0, e1, e2, e3, e4, e5, e6, e7, e8, e9, e10, .bool false, e12, .bool false, p1, p4, p2, p3, p5, p6, gb, ?_, hB, c0, c1, c2, c3, c4, c5, c6, c7, c8, c9, c10, fun _ => rfl, c12, c13, fun _ => rfl⟩
      simp only [putAll, Act.put, List.setIfInBounds_toArray, List.set_cons_zero, List.set_cons_succ]
      all_goals rfl
    | k + 15, hi, _, _ => exact absurd hi (by simp)
  case ends =>
    intro d a' w9 hJ hall
    obtain ⟨e0, e1, e2, e3, e4, e5, e6, e7, e8, e9, e10, e11, e12, e14, p1, p4, p2, p3, p5, p6, gb, rfl, hB, c0, c1, c2, c3, c4, c5, c6, c7, c8, c9, c10, c11, c12, c13, c14⟩ := hJ
    obtain rfl := c14 (hall 14 (by decide +kernel))
    have Hbe := Lib.hid (held_next Hb6.out hB)
    clear c0 c1 c2 c3 c4 c5 c6 c7 c8 c9 c10 c11 c12 c13 c14 hall hB
    simp only [putAll, Act.put, List.setIfInBounds_toArray, List.set_cons_zero, List.set_cons_succ]
    go_wp2_with fail
    go_ret
    exact ⟨by rfl, Hbe.out⟩
end Go.Proofs.Ytfpadcfahfanoaa
