/- Parts, as far as BookTakesCards reaches them, of: LineFault. No law is proved here. -/
import Derived.Test.YtnkgakhnlbifdaaGreatTb1
import Derived.Test.YtnkgakhnlbifdaaGreatTb30
import Derived.Test.YtnkgakhnlbifdaaGreatTb26
import Derived.Laws.EntriesVeiled
import Derived.Test.YtnkgakhnlbifdaaGreatTbQ
namespace Go.Proofs.YtnkgakhnlbifdaaGreat
open Go.RowKit
def faultV (c : Cf) (who : Int) (l : List Rq) (k : Nat) (x : Rq) : Int :=
 if x.m < 1 ∨ 1099511627776 < x.m then 2 else if c.q ≤ (k : Int) then 3 else if mayB x.t x.a c.n = true ∧ x.a = who then (if 0 < k ∧ rqOld (rqAt l (k - 1)) x = false then 1 else 0) else 1
theorem fault_two {c : Cf} {who : Int} {l : List Rq} {k : Nat} {x : Rq} (h : x.m < 1 ∨ 1099511627776 < x.m) : faultV c who l k x = 2 := if_pos h
theorem fault_three {c : Cf} {who : Int} {l : List Rq} {k : Nat} {x : Rq} (h : ¬ (x.m < 1 ∨ 1099511627776 < x.m)) (h2 : c.q ≤ (k : Int)) : faultV c who l k x = 3 := by unfold faultV; rw [if_neg h, if_pos h2]
theorem fault_one {c : Cf} {who : Int} {l : List Rq} {k : Nat} {x : Rq} (h : ¬ (x.m < 1 ∨ 1099511627776 < x.m)) (h2 : (k : Int) < c.q) (h3 : ¬ (mayB x.t x.a c.n = true ∧ x.a = who)) : faultV c who l k x = 1 := by unfold faultV; rw [if_neg h, if_neg (by omega), if_neg h3]
theorem fault_last {c : Cf} {who : Int} {l : List Rq} {k : Nat} {x : Rq} (h : ¬ (x.m < 1 ∨ 1099511627776 < x.m)) (h2 : (k : Int) < c.q) (h3 : mayB x.t x.a c.n = true ∧ x.a = who) : faultV c who l k x = if 0 < k ∧ rqOld (rqAt l (k - 1)) x = false then 1 else 0 := by unfold faultV; rw [if_neg h, if_neg (by omega), if_pos h3]
def CodeQ (w : World) (z : Int) (e : Ending) (w' : World) : Prop := e = .returned (.int .i64 z) ∧ Below w.heap.size w w'
def ClosQ (w : World) (v : Value) (c : Cf) (who : Int) (sl : Value) : Prop :=
 ∃ bc bw bl : Nat, v = .func (.func 117) #[] #[.pointer (some ⟨bc, 0, none⟩), .pointer (some ⟨bw, 0, none⟩), .pointer (some ⟨bl, 0, none⟩)] ∧ Whole w bc 23 (cfCells c) ∧ w.cell? ⟨bw, 0, none⟩ = some (.int .i64 who) ∧ w.cell? ⟨bl, 0, none⟩ = some sl
theorem ClosQ.later {w w' : World} {v : Value} {c : Cf} {who : Int} {sl : Value} (h : ClosQ w v c who sl) (hb : Below w.heap.size w w') : ClosQ w' v c who sl := by
 obtain ⟨bc, bw, bl, e, h1, h2, h3⟩ := h
 exact ⟨bc, bw, bl, e, h1.later hb h1.lt, cell_later hb h2, cell_later hb h3⟩
theorem faults_calls (c : Cf) (who : Int) (a : Option Addr) (m d : Nat) (w : World) :
 Calls Tryz.prog 106 #[cfV c, .int .i64 who, .slice a m d] w (fun e w' => ∃ v, e = .returned v ∧ ClosQ w' v c who (.slice a m d) ∧ Below w.heap.size w w') := by
 have hmf : ∀ (fn : Fn) (first cap : Array Value) (w : World), (Instr.makeFunc fn first cap).run Tryz.prog w = .ok (.func fn first cap) w := fun _ _ _ _ => rfl
 obtain ⟨n, q, r, p, kk, cc⟩ := c
 go_enter Tryz.func106, Tryz.ntmps106
 go_wp2_with fail
 go_ret
 refine ⟨_, rfl, ⟨w.heap.size, w.heap.size + 1, w.heap.size + 1 + 1, rfl, ((Whole.made w _ _).alloc _).alloc _, ?_, ?_⟩, (below_two w _ _).alloc (by simp; omega) _⟩
 · have B : Whole (((w.alloc (.cells (cfCells ⟨n, q, r, p, kk, cc⟩) 23)).alloc (.cells #[.int .i64 who] 3)).alloc (.cells #[.slice a m d] 27)) (w.heap.size + 1) 3 #[.int .i64 who] := (Whole.madeAt _ _ _ _ (by simp)).alloc _
   exact B.cell 0
 · have B : Whole (((w.alloc (.cells (cfCells ⟨n, q, r, p, kk, cc⟩) 23)).alloc (.cells #[.int .i64 who] 3)).alloc (.cells #[.slice a m d] 27)) (w.heap.size + 1 + 1) 27 #[.slice a m d] := Whole.madeAt _ _ _ _ (by simp)
   exact B.cell 0
set_option maxRecDepth 100000 in
set_option maxHeartbeats 8000000 in
theorem fault_calls (c : Cf) (who : Int) (a : Option Addr) (m d : Nat) (l : List Rq) (k : Nat) (x : Rq) (hm : m = l.length) (hk : k ≤ m) (bc bw bl : Nat) (w : World) (hB : Line w (.slice a m d) l)
 (q1 : Whole w bc 23 (cfCells c)) (q2 : w.cell? ⟨bw, 0, none⟩ = some (.int .i64 who)) (q3 : w.cell? ⟨bl, 0, none⟩ = some (.slice a m d)) :
 Calls Tryz.prog 117 #[.int .i64 (k : Int), rqV x, .pointer (some ⟨bc, 0, none⟩), .pointer (some ⟨bw, 0, none⟩), .pointer (some ⟨bl, 0, none⟩)] w (CodeQ w (faultV c who l k x)) := by
 have hbig : m ≤ 9223372036854775807 := by rw [hm]; exact hB.big
 have hbw : bw < w.heap.size := World.block_lt_of_cell? w _ q2
 have hbl : bl < w.heap.size := World.block_lt_of_cell? w _ q3
 have hbc := q1.lt
 have HB := Lib.hid hB; clear hB
 have Hm := Lib.hid hm; clear hm
 have HC := Lib.hid q1; clear q1
 have HW := Lib.hid q2; clear q2
 have HL := Lib.hid q3; clear q3
 obtain ⟨n, q, r, p, kk, cc⟩ := c
 obtain ⟨t, u, v⟩ := x
 have HX := Lib.hid (Whole.made w 67 (rqCells ⟨t, u, v⟩))
 have Hb0 := Lib.hid (below_box w (.cells (rqCells ⟨t, u, v⟩) 67))
 have HC0 := Lib.hid (HC.out.later Hb0.out hbc)
 obtain ⟨res, Hres⟩ : ∃ z, Hid (faultV ⟨n, q, r, p, kk, cc⟩ who l k ⟨t, u, v⟩ = z) := ⟨_, rfl⟩
 rw [Hres.out]
 obtain ⟨d0, d1, _⟩ := config_cells HC0.out
 simp only at d0 d1
 by_cases hv1 : v < 1
 · obtain rfl : res = 2 := Hres.out.symm.trans (fault_two (Or.inl hv1))
   go_enter Tryz.func117, Tryz.ntmps117
   go_wp2_with fail
   go_ret
   exact ⟨by rfl, Hb0.out⟩
 by_cases hv2 : 1099511627776 < v
 · obtain rfl : res = 2 := Hres.out.symm.trans (fault_two (Or.inr hv2))
   go_enter Tryz.func117, Tryz.ntmps117
   go_wp2_with fail
   go_ret
   exact ⟨by rfl, Hb0.out⟩
 have Hv : Hid (¬ (v < 1 ∨ 1099511627776 < v)) := by show ¬ _; omega
 by_cases hq : q ≤ (k : Int)
 · obtain rfl : res = 3 := Hres.out.symm.trans (fault_three Hv.out hq)
   go_enter Tryz.func117, Tryz.ntmps117
   go_wp2_with fail
   go_ret
   exact ⟨by rfl, Hb0.out⟩
 have Hq : Hid ((k : Int) < q) := by show _ < _; omega
 obtain ⟨may, Hmay⟩ : ∃ z, Hid (mayB t u n = z) := ⟨_, rfl⟩
 go_enter Tryz.func117, Tryz.ntmps117
 go_wp2_with fail
 refine (stampmay_calls t u n _).mono ?_
 rw [Hmay.out]
 rintro e w1 ⟨rfl, hb⟩
 have Hb1 := Lib.hid (held_next Hb0.out hb)
 have HX1 := Lib.hid (HX.out.later hb HX.out.lt)
 clear hb d0 d1
 have e0 : w1.cell? ⟨bw, 0, none⟩ = some (.int .i64 who) := cell_later Hb1.out HW.out
 have e1 : w1.cell? ⟨bl, 0, none⟩ = some (.slice a m d) := cell_later Hb1.out HL.out
 obtain ⟨f0, f1, f2⟩ := rq_cells HX1.out
 simp only at f0 f1 f2
 cases may with
 | false =>
   obtain rfl : res = 1 := Hres.out.symm.trans (fault_one Hv.out Hq.out (by rw [Hmay.out]; simp))
   go_wp2_with fail
   go_ret
   exact ⟨by rfl, Hb1.out⟩
 | true =>
 by_cases hu : u = who
 rotate_left 1
 · obtain rfl : res = 1 := Hres.out.symm.trans (fault_one Hv.out Hq.out (fun h => hu h.2))
   have hun : (u != who) = true := bne_iff_ne.2 hu
   go_wp2_with fail
   go_ret
   exact ⟨by rfl, Hb1.out⟩
 have hlast := Hres.out.symm.trans (fault_last Hv.out Hq.out ⟨Hmay.out, hu⟩)
 subst hu
 by_cases hk0 : k = 0
 · obtain rfl : res = 0 := by rw [hlast, if_neg (by omega)]
   have s5 : decide ((0 : Int) < (k : Int)) = false := decide_eq_false (by omega)
   have s6 : decide (0 < k) = false := decide_eq_false (by omega)
   clear hlast
   have Hk0 := Lib.hid hk0; clear hk0
   go_wp2_with fail
   refine wp_region_held_drew (S := (fun w' => Below w1.heap.size w1 w')) (by kernel_rfl) ((Below.refl _ _).drew) (fun hHeld => ?_)
   refine wpAnyH_take (i := 0) (oi := ⟨some 37, _, _, _, _, _⟩) (v := ?_) rfl (by kernel_rfl) (by kernel_rfl) (by kernel_rfl) (fun _ _ _ h => h) (Or.inl ⟨by rfl, ?_⟩) (by assumption) ?_
   rotate_left 1
   · intro w hSw
     try dsimp only at hSw
     go_simp
     try with_reducible rfl
   simp only [Act.put, qA, qB, qC]
   refine wpAnyH_take (i := 1) (oi := ⟨some 38, _, _, _, _, _⟩) (v := ?_) rfl (by kernel_rfl) (by kernel_rfl) (by kernel_rfl) (fun _ _ _ h => h) (Or.inl ⟨by rfl, ?_⟩) (by assumption) ?_
   rotate_left 1
   · intro w hSw
     try dsimp only at hSw
     go_simp
     try simp only [s5, s6]
     try with_reducible rfl
   simp only [Act.put, qA, qB, qC]
   refine wpAnyH_take (i := 2) (oi := ⟨some 39, _, _, _, _, _⟩) (v := ?_) rfl (by kernel_rfl) (by kernel_rfl) (by kernel_rfl) (fun _ _ _ h => h) (Or.inl ⟨by rfl, ?_⟩) (by assumption) ?_
   rotate_left 1
   · intro w hSw
     try dsimp only at hSw
     go_simp
     try with_reducible rfl
   simp only [Act.put, qA, qB, qC]
   refine wpAnyH_take (i := 3) (oi := ⟨some 40, _, _, _, _, _⟩) (v := undef) rfl (by kernel_rfl) (by kernel_rfl) (by kernel_rfl) (fun _ _ _ h => h) (Or.inr ⟨by rfl, rfl⟩) (by assumption) ?_
   simp only [Act.put, qA, qB, qC]
   refine wpAnyH_take (i := 4) (oi := ⟨some 41, _, _, _, _, _⟩) (v := undef) rfl (by kernel_rfl) (by kernel_rfl) (by kernel_rfl) (fun _ _ _ h => h) (Or.inr ⟨by rfl, rfl⟩) (by assumption) ?_
   simp only [Act.put, qA, qB, qC]
   refine wpAnyH_take (i := 5) (oi := ⟨some 42, _, _, _, _, _⟩) (v := undef) rfl (by kernel_rfl) (by kernel_rfl) (by kernel_rfl) (fun _ _ _ h => h) (Or.inr ⟨by rfl, rfl⟩) (by assumption) ?_
   simp only [Act.put, qA, qB, qC]
   refine wpAnyH_take (i := 6) (oi := ⟨some 43, _, _, _, _, _⟩) (v := undef) rfl (by kernel_rfl) (by kernel_rfl) (by kernel_rfl) (fun _ _ _ h => h) (Or.inr ⟨by rfl, rfl⟩) (by assumption) ?_
   simp only [Act.put, qA, qB, qC]
   refine wpAnyH_take (i := 7) (oi := ⟨some 44, _, _, _, _, _⟩) (v := undef) rfl (by kernel_rfl) (by kernel_rfl) (by kernel_rfl) (fun _ _ _ h => h) (Or.inr ⟨by rfl, rfl⟩) (by assumption) ?_
   simp only [Act.put, qA, qB, qC]
   refine wpAnyH_take (i := 8) (oi := ⟨some 45, _, _, _, _, _⟩) (v := undef) rfl (by kernel_rfl) (by kernel_rfl) (by kernel_rfl) (fun _ _ _ h => h) (Or.inr ⟨by rfl, rfl⟩) (by assumption) ?_
   simp only [Act.put, qA, qB, qC]
   refine wpAnyH_take (i := 9) (oi := ⟨some 46, _, _, _, _, _⟩) (v := undef) rfl (by kernel_rfl) (by kernel_rfl) (by kernel_rfl) (fun _ _ _ h => h) (Or.inr ⟨by rfl, rfl⟩) (by assumption) ?_
   simp only [Act.put, qA, qB, qC]
   refine wpAnyH_take (i := 10) (oi := ⟨some 47, _, _, _, _, _⟩) (v := undef) rfl (by kernel_rfl) (by kernel_rfl) (by kernel_rfl) (fun _ _ _ h => h) (Or.inr ⟨by rfl, rfl⟩) (by assumption) ?_
   simp only [Act.put, qA, qB, qC]
   refine wpAnyH_take (i := 11) (oi := ⟨some 48, _, _, _, _, _⟩) (v := undef) rfl (by kernel_rfl) (by kernel_rfl) (by kernel_rfl) (fun _ _ _ h => h) (Or.inr ⟨by rfl, rfl⟩) (by assumption) ?_
   simp only [Act.put, qA, qB, qC]
   refine wpAnyH_take (i := 12) (oi := ⟨some 49, _, _, _, _, _⟩) (v := undef) rfl (by kernel_rfl) (by kernel_rfl) (by kernel_rfl) (fun _ _ _ h => h) (Or.inr ⟨by rfl, rfl⟩) (by assumption) ?_
   simp only [Act.put, qA, qB, qC]
   refine wpAnyH_take (i := 13) (oi := ⟨some 50, _, _, _, _, _⟩) (v := ?_) rfl (by kernel_rfl) (by kernel_rfl) (by kernel_rfl) (fun _ _ _ h => h) (Or.inl ⟨by rfl, ?_⟩) (by assumption) ?_
   rotate_left 1
   · intro w hSw
     try dsimp only at hSw
     go_simp
     try with_reducible rfl
   simp only [Act.put, qA, qB, qC]
   refine wpAnyH_take (i := 14) (oi := ⟨some 36, _, _, _, _, _⟩) (v := ?_) rfl (by kernel_rfl) (by kernel_rfl) (by kernel_rfl) (fun _ _ _ h => h) (Or.inl ⟨by rfl, ?_⟩) (by assumption) ?_
   rotate_left 1
   · intro w hSw
     try dsimp only at hSw
     go_simp
     try with_reducible rfl
   simp only [Act.put, qA, qB, qC]
   refine wpAnyH_done (by kernel_rfl) ?_ _
   have HbN := Lib.hid (held_next Hb1.out hHeld)
   clear hHeld
   go_wp2_with fail
   go_ret
   exact ⟨by rfl, HbN.out⟩
 · obtain ⟨j, Hj⟩ : ∃ j, Hid (k = j + 1) := ⟨k - 1, show _ = _ by omega⟩
   have hj := Hj.out
   obtain ⟨b, off, rfl, g0, g1, _⟩ := HB.out.at (i := j) (by have := Hm.out; omega)
   obtain ⟨y, Hy⟩ : ∃ z, Hid (rqAt l j = z) := ⟨_, rfl⟩
   obtain ⟨o, Ho⟩ : ∃ z, Hid (olderB y.t y.a t u = z) := ⟨_, rfl⟩
   rw [Hy.out] at g0 g1
   have hres : res = if o = false then 1 else 0 := by
    rw [hlast, show k - 1 = j by omega, Hy.out]
    have e : rqOld y ⟨t, u, v⟩ = o := Ho.out
    rw [e]
    by_cases h : o = false
    · rw [if_pos ⟨by omega, h⟩, if_pos h]
    · rw [if_neg (fun h2 => h h2.2), if_neg h]
   have Hr := Lib.hid hres; clear hres hlast
   have s1 : IntKind.i64.wrap ((k : Int) - 1) = (j : Int) := by rw [IntWalk.i64_in _ (by omega)]; omega
   have s1' : (k : Int) - 1 = (j : Int) := by omega
   have s1'' : IntKind.i64.wrap (j : Int) = (j : Int) := IntWalk.i64_in _ (by omega)
   have s2 : (0 : Int) ≤ (j : Int) := by omega
   have s3 : (j : Int) < (m : Int) := by omega
   have s5 : decide ((0 : Int) < (k : Int)) = true := decide_eq_true (by omega)
   have s6 : decide (0 < k) = true := decide_eq_true (by omega)
   have Hk0 := Lib.hid hk0; clear hk0
   clear hj
   have KP : Hid (∀ w', Below w1.heap.size w1 w' → (fun w' => Below w1.heap.size w1 w' ∧ w'.cell? ⟨bl, 0, none⟩ = some (.slice (some ⟨b, off, none⟩) m d) ∧ (w'.cell? ⟨w.heap.size, 0, none⟩ = some (.int .i64 t) ∧ w'.cell? ⟨w.heap.size, 1, none⟩ = some (.int .i64 u) ∧ w'.cell? ⟨w.heap.size, 2, none⟩ = some (.int .i64 v)) ∧ w'.cell? ⟨b, off + j * 3, none⟩ = some (.int .i64 y.t) ∧ w'.cell? ⟨b, off + j * 3 + 1, none⟩ = some (.int .i64 y.a)) w') :=
    fun w' h => ⟨h, cell_later (held_next Hb1.out h) HL.out, rq_cells (HX1.out.later h HX1.out.lt), cell_later (held_next Hb1.out h) g0, cell_later (held_next Hb1.out h) g1⟩
   clear g0 g1
   go_wp2_with fail
   refine wp_region_held_drew (S := (fun w' => Below w1.heap.size w1 w' ∧ w'.cell? ⟨bl, 0, none⟩ = some (.slice (some ⟨b, off, none⟩) m d) ∧ (w'.cell? ⟨w.heap.size, 0, none⟩ = some (.int .i64 t) ∧ w'.cell? ⟨w.heap.size, 1, none⟩ = some (.int .i64 u) ∧ w'.cell? ⟨w.heap.size, 2, none⟩ = some (.int .i64 v)) ∧ w'.cell? ⟨b, off + j * 3, none⟩ = some (.int .i64 y.t) ∧ w'.cell? ⟨b, off + j * 3 + 1, none⟩ = some (.int .i64 y.a))) (by kernel_rfl) (KP.out _ (Below.refl _ _).drew) (fun hHeld => ?_)
   refine wpAnyH_take (i := 0) (oi := ⟨some 37, _, _, _, _, _⟩) (v := ?_) rfl (by kernel_rfl) (by kernel_rfl) (by kernel_rfl) (fun _ _ _ h => h) (Or.inl ⟨by rfl, ?_⟩) (by assumption) ?_
   rotate_left 1
   · intro w hSw
     try dsimp only at hSw
     go_simp
     try with_reducible rfl
   simp only [Act.put, qA, qB, qC]
   refine wpAnyH_take (i := 1) (oi := ⟨some 38, _, _, _, _, _⟩) (v := ?_) rfl (by kernel_rfl) (by kernel_rfl) (by kernel_rfl) (fun _ _ _ h => h) (Or.inl ⟨by rfl, ?_⟩) (by assumption) ?_
   rotate_left 1
   · intro w hSw
     try dsimp only at hSw
     go_simp
     try simp only [s5, s6]
     try with_reducible rfl
   simp only [Act.put, qA, qB, qC]
   refine wpAnyH_take (i := 2) (oi := ⟨some 39, _, _, _, _, _⟩) (v := ?_) rfl (by kernel_rfl) (by kernel_rfl) (by kernel_rfl) (fun _ _ _ h => h) (Or.inl ⟨by rfl, ?_⟩) (by assumption) ?_
   rotate_left 1
   · intro w hSw
     try dsimp only at hSw
     go_simp
     try with_reducible rfl
   simp only [Act.put, qA, qB, qC]
   refine wpAnyH_take (i := 3) (oi := ⟨some 40, _, _, _, _, _⟩) (v := ?_) rfl (by kernel_rfl) (by kernel_rfl) (by kernel_rfl) (fun _ _ _ h => h) (Or.inl ⟨by rfl, ?_⟩) (by assumption) ?_
   rotate_left 1
   · intro w hSw
     try dsimp only at hSw
     go_simp
     try with_reducible rfl
   simp only [Act.put, qA, qB, qC]
   refine wpAnyH_take (i := 4) (oi := ⟨some 41, _, _, _, _, _⟩) (v := ?_) rfl (by kernel_rfl) (by kernel_rfl) (by kernel_rfl) (fun _ _ _ h => h) (Or.inl ⟨by rfl, ?_⟩) (by assumption) ?_
   rotate_left 1
   · intro w hSw
     try dsimp only at hSw
     go_simp
     try with_reducible rfl
   simp only [Act.put, qA, qB, qC]
   refine wpAnyH_take (i := 5) (oi := ⟨some 42, _, _, _, _, _⟩) (v := ?_) rfl (by kernel_rfl) (by kernel_rfl) (by kernel_rfl) (fun _ _ _ h => h) (Or.inl ⟨by rfl, ?_⟩) (by assumption) ?_
   rotate_left 1
   · intro w hSw
     try dsimp only at hSw
     go_simp
     try with_reducible rfl
   simp only [Act.put, qA, qB, qC]
   refine wpAnyH_take (i := 6) (oi := ⟨some 43, _, _, _, _, _⟩) (v := ?_) rfl (by kernel_rfl) (by kernel_rfl) (by kernel_rfl) (fun _ _ _ h => h) (Or.inl ⟨by rfl, ?_⟩) (by assumption) ?_
   rotate_left 1
   · intro w hSw
     try dsimp only at hSw
     go_simp
     try with_reducible rfl
   simp only [Act.put, qA, qB, qC]
   refine wpAnyH_take (i := 7) (oi := ⟨some 44, _, _, _, _, _⟩) (v := ?_) rfl (by kernel_rfl) (by kernel_rfl) (by kernel_rfl) (fun _ _ _ h => h) (Or.inl ⟨by rfl, ?_⟩) (by assumption) ?_
   rotate_left 1
   · intro w hSw
     try dsimp only at hSw
     go_simp
     try with_reducible rfl
   simp only [Act.put, qA, qB, qC]
   refine wpAnyH_take (i := 8) (oi := ⟨some 45, _, _, _, _, _⟩) (v := ?_) rfl (by kernel_rfl) (by kernel_rfl) (by kernel_rfl) (fun _ _ _ h => h) (Or.inl ⟨by rfl, ?_⟩) (by assumption) ?_
   rotate_left 1
   · intro w hSw
     try dsimp only at hSw
     go_simp
     try with_reducible rfl
   simp only [Act.put, qA, qB, qC]
   refine wpAnyH_take (i := 9) (oi := ⟨some 46, _, _, _, _, _⟩) (v := ?_) rfl (by kernel_rfl) (by kernel_rfl) (by kernel_rfl) (fun _ _ _ h => h) (Or.inl ⟨by rfl, ?_⟩) (by assumption) ?_
   rotate_left 1
   · intro w hSw
     try dsimp only at hSw
     go_simp
     try with_reducible rfl
   simp only [Act.put, qA, qB, qC]
   refine wpAnyH_take (i := 10) (oi := ⟨some 47, _, _, _, _, _⟩) (v := ?_) rfl (by kernel_rfl) (by kernel_rfl) (by kernel_rfl) (fun _ _ _ h => h) (Or.inl ⟨by rfl, ?_⟩) (by assumption) ?_
   rotate_left 1
   · intro w hSw
     try dsimp only at hSw
     go_simp
     try with_reducible rfl
   simp only [Act.put, qA, qB, qC]
   refine wpAnyH_ready (rs := [11]) (by kernel_rfl) (by simp) ?_
   refine AllReadyH.cons rfl (fun K hK => ?_) AllReadyH.nil
   go_simp
   go_wp2_with (go_at_call 118; refine (older_calls y.t y.a t u _).mono ?_; rw [Ho.out]; rintro ee wo ⟨rfl, hb2⟩; have hS1 := held_next hHeld.1 hb2)
   refine hK.out _ _ (KP.out _ hS1) (fun hHeld2 => ?_)
   clear hHeld hK K
   have hHeld := hHeld2
   clear hHeld2
   refine wpAnyH_take (i := 12) (oi := ⟨some 49, _, _, _, _, _⟩) (v := ?_) rfl (by kernel_rfl) (by kernel_rfl) (by kernel_rfl) (fun _ _ _ h => h) (Or.inl ⟨by rfl, ?_⟩) (by assumption) ?_
   rotate_left 1
   · intro w hSw
     try dsimp only at hSw
     go_simp
     try with_reducible rfl
   simp only [Act.put, qA, qB, qC]
   refine wpAnyH_take (i := 13) (oi := ⟨some 50, _, _, _, _, _⟩) (v := ?_) rfl (by kernel_rfl) (by kernel_rfl) (by kernel_rfl) (fun _ _ _ h => h) (Or.inl ⟨by rfl, ?_⟩) (by assumption) ?_
   rotate_left 1
   · intro w hSw
     try dsimp only at hSw
     go_simp
     try with_reducible rfl
   simp only [Act.put, qA, qB, qC]
   refine wpAnyH_take (i := 14) (oi := ⟨some 36, _, _, _, _, _⟩) (v := ?_) rfl (by kernel_rfl) (by kernel_rfl) (by kernel_rfl) (fun _ _ _ h => h) (Or.inl ⟨by rfl, ?_⟩) (by assumption) ?_
   rotate_left 1
   · intro w hSw
     try dsimp only at hSw
     go_simp
     try with_reducible rfl
   simp only [Act.put, qA, qB, qC]
   refine wpAnyH_done (by kernel_rfl) ?_ _
   have HbN := Lib.hid (held_next Hb1.out hHeld.1)
   clear hHeld
   cases o with
   | false =>
     obtain rfl : res = 1 := Hr.out.trans (by simp)
     go_wp2_with fail
     go_ret
     exact ⟨by rfl, HbN.out⟩
   | true =>
     obtain rfl : res = 0 := Hr.out.trans (by simp)
     go_wp2_with fail
     go_ret
     exact ⟨by rfl, HbN.out⟩
end Go.Proofs.YtnkgakhnlbifdaaGreat
