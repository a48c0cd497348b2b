/- Package rights, walked: the closure that tells a replica's rights. No law is proved here. -/
import Derived.Test.YtfpadcfahfanoaaMg22
import Derived.WalkKit
import Derived.ProofKit
import Derived.OpenShut
import Derived.WalkSpells
import Derived.Laws.AppendOwn
import Derived.Laws.AppendOwnNone
import Derived.Laws.OwnMore
import Derived.Lib.Hide
import Derived.Deep.Draws
import Derived.Deep.Slices
import Derived.Deep.Fields
import Derived.ChangeSame
import Derived.RegionTactic
import Derived.Maps.AppendAt
import Derived.Lib.SmallJoins
import Derived.RangeFuncNested
import Derived.RangeFuncBound
import Derived.RangeFuncLeaves
import Derived.RangeFuncBox
import Derived.Laws.MakeOwn
import Derived.LoopTactic
import Derived.BigRegion
import Derived.WalkLawsBesides
import Derived.IntWalk
import Derived.WalkSmall
import Derived.Deep.QuietTactic
import Derived.BigQuiet
import Derived.Deep.RegionHeld3
import Derived.RangeFuncCalls
import Derived.Shelf.Abstract
import Derived.Shelf.RegionOpen
import Derived.OwnWalkIn
import Derived.TacticsInMore
import Derived.LoopNIn
import Derived.LoopIn
import Derived.Laws.EntriesVeiled
namespace Go.Proofs.Ytfpadcfahfanoaa
open Go.RowKit

theorem sums_calls (a : Option Addr) (m d : Nat) (w : World) : Calls Try.prog 64 #[.slice a m d] w (fun e w' => e = .returned (.func (.func 72) #[] #[.pointer (some ⟨w.heap.size, 0, none⟩)]) ∧ w' = w.alloc (.cells #[.slice a m d] 26)) := by
  have hmf : ∀ (fn : Fn) (first cap : Array Value) (w : World), (Instr.makeFunc fn first cap).run Try.prog w = .ok (.func fn first cap) w := fun _ _ _ _ => rfl
  go_enter Try.func64, Try.ntmps64
  go_wp2
  go_ret
  exact ⟨rfl, rfl⟩
/-- the closure over a config and books -/
def Clos (w : World) (v : Value) (c : Cf) (sl : Value) : Prop :=
  ∃ bl ba bc bs : Nat, v = .func (.func 65) #[] #[.pointer (some ⟨bl, 0, none⟩), .pointer (some ⟨ba, 0, none⟩), .pointer (some ⟨bc, 0, none⟩)] ∧ w.cell? ⟨bl, 0, none⟩ = some sl ∧
    w.cell? ⟨ba, 0, none⟩ = some (.func (.func 72) #[] #[.pointer (some ⟨bs, 0, none⟩)]) ∧ w.cell? ⟨bs, 0, none⟩ = some sl ∧ Whole w bc 23 (cfCells c)
theorem Clos.later {w w' : World} {v : Value} {c : Cf} {sl : Value} (h : Clos w v c sl) (hb : Below w.heap.size w w') : Clos w' v c sl := by
  obtain ⟨bl, ba, bc, bs, e, h1, h2, h3, h4⟩ := h
  exact ⟨bl, ba, bc, bs, e, cell_later hb h1, cell_later hb h2, cell_later hb h3, h4.later hb h4.lt⟩
/-- a closure, and what was there has not turned -/
def Closed (c : Cf) (sl : Value) (w : World) (e : Ending) (w' : World) : Prop := ∃ v, e = .returned v ∧ Clos w' v c sl ∧ Below w.heap.size w w'
theorem rights_calls (c : Cf) (a : Option Addr) (m d : Nat) (w : World) : Calls Try.prog 55 #[cfV c, .slice a m d] w (Closed c (.slice a m d) w) := by
  have hmf : ∀ (fn : Fn) (first cap : Array Value) (w : World), (Instr.makeFunc fn first cap).run Try.prog w = .ok (.func fn first cap) w := fun _ _ _ _ => rfl
  obtain ⟨n, q, r, p, k, cc⟩ := c
  go_enter Try.func55, Try.ntmps55
  go_wp2_with fail
  refine (sums_calls a m d _).mono ?_
  rintro e w3 ⟨rfl, hw3⟩
  have hs3 : w3.heap.size = w.heap.size + 1 + 1 + 1 := by rw [hw3]; simp
  have Hw3 := Lib.hid hw3; clear hw3
  have Hs3 := Lib.hid hs3; clear hs3
  go_wp2_with fail
  go_ret
  have B1 : Whole ((((w.alloc (.cells (cfCells ⟨n, q, r, p, k, cc⟩) 23)).alloc (.cells #[.slice a m d] 26)).alloc (.cells #[.slice a m d] 26)).alloc (.cells #[.func (.func 72) #[] #[.pointer (some ⟨w.heap.size + 1 + 1, 0, none⟩)]] 101)) w.heap.size 23 (cfCells ⟨n, q, r, p, k, cc⟩) := (((Whole.made w _ _).alloc _).alloc _).alloc _
  have B2 : Whole ((((w.alloc (.cells (cfCells ⟨n, q, r, p, k, cc⟩) 23)).alloc (.cells #[.slice a m d] 26)).alloc (.cells #[.slice a m d] 26)).alloc (.cells #[.func (.func 72) #[] #[.pointer (some ⟨w.heap.size + 1 + 1, 0, none⟩)]] 101)) (w.heap.size + 1) 26 #[.slice a m d] := ((Whole.madeAt _ _ _ _ (by simp)).alloc _).alloc _
  have B3 : Whole ((((w.alloc (.cells (cfCells ⟨n, q, r, p, k, cc⟩) 23)).alloc (.cells #[.slice a m d] 26)).alloc (.cells #[.slice a m d] 26)).alloc (.cells #[.func (.func 72) #[] #[.pointer (some ⟨w.heap.size + 1 + 1, 0, none⟩)]] 101)) (w.heap.size + 1 + 1) 26 #[.slice a m d] := (Whole.madeAt _ _ _ _ (by simp)).alloc _
  have B4 : Whole ((((w.alloc (.cells (cfCells ⟨n, q, r, p, k, cc⟩) 23)).alloc (.cells #[.slice a m d] 26)).alloc (.cells #[.slice a m d] 26)).alloc (.cells #[.func (.func 72) #[] #[.pointer (some ⟨w.heap.size + 1 + 1, 0, none⟩)]] 101)) (w.heap.size + 1 + 1 + 1) 101 #[.func (.func 72) #[] #[.pointer (some ⟨w.heap.size + 1 + 1, 0, none⟩)]] := Whole.madeAt _ _ _ _ (by simp)
  rw [Hw3.out]
  refine ⟨_, ?_, ⟨w.heap.size + 1, w.heap.size + 1 + 1 + 1, w.heap.size, w.heap.size + 1 + 1, rfl, B2.cell 0, B4.cell 0, B3.cell 0, B1⟩, ((below_two w _ _).alloc (by simp; omega) _).alloc (by simp; omega) _⟩
  simp
set_option maxRecDepth 100000 in
set_option maxHeartbeats 4000000 in
theorem clos_calls (c : Cf) (a : Option Addr) (m d : Nat) (l : List Rw) (who : Nat) (hm : m = l.length) (h16 : m ≤ 16) (hw : who < m) (hF : Fits l) (bl ba bc bs : Nat) (w : World) (hB : Books w (.slice a m d) l)
    (q1 : w.cell? ⟨bl, 0, none⟩ = some (.slice a m d)) (q2 : w.cell? ⟨ba, 0, none⟩ = some (.func (.func 72) #[] #[.pointer (some ⟨bs, 0, none⟩)])) (q3 : w.cell? ⟨bs, 0, none⟩ = some (.slice a m d)) (q4 : Whole w bc 23 (cfCells c)) :
    Calls Try.prog 65 #[.int .i64 (who : Int), .pointer (some ⟨bl, 0, none⟩), .pointer (some ⟨ba, 0, none⟩), .pointer (some ⟨bc, 0, none⟩)] w (Num w (rightsV c l who)) := by
  have hmf : ∀ (fn : Fn) (first cap : Array Value) (w : World), (Instr.makeFunc fn first cap).run Try.prog w = .ok (.func fn first cap) w := fun _ _ _ _ => rfl
  have Hparts := Lib.hid (rights_parts (c := c) hm h16 hF hw)
  obtain ⟨b, off, A, C, rfl, hbw, c0, c1, c2, hN⟩ := hB.at (k := who) (by omega)
  have hbl : bl < w.heap.size := World.block_lt_of_cell? w _ q1
  have hba : ba < w.heap.size := World.block_lt_of_cell? w _ q2
  have hbc : bc < w.heap.size := q4.lt
  have hbs : bs < w.heap.size := World.block_lt_of_cell? w _ q3
  have HB := Lib.hid hB; clear hB
  have Hm := Lib.hid hm; clear hm
  have HF := Lib.hid hF; clear hF
  have HQ3 := Lib.hid q3; clear q3
  have HQ4 := Lib.hid q4; clear q4
  obtain ⟨r, Hr⟩ : ∃ z, Hid (at_ l who = z) := ⟨_, rfl⟩
  have hff := HF.out who (by have := Hm.out; omega)
  rw [Hr.out, ← Hm.out] at hff
  rw [Hr.out] at c0 c1 c2 hN
  rw [hff.1] at c2 hN
  have Hlen := Lib.hid hff.1.symm
  have HN := Lib.hid hN; clear hN
  obtain ⟨x, Hx⟩ : ∃ x, Hid (r.inc = x) := ⟨_, rfl⟩
  obtain ⟨y, Hy⟩ : ∃ y, Hid (r.use = y) := ⟨_, rfl⟩
  rw [Hx.out] at c0
  rw [Hy.out] at c1
  have hbx : 0 ≤ x ∧ x ≤ 1099511627776 := by rw [← Hx.out]; omega
  have hby : 0 ≤ y ∧ y ≤ 1099511627776 := by rw [← Hy.out]; omega
  obtain ⟨s, Hs⟩ : ∃ s, Hid (shareV c who = s) := ⟨_, rfl⟩
  have hbsh : 0 ≤ s ∧ s ≤ 1099511627777 := by have := shareV_bound c who; rw [Hs.out] at this; exact this
  obtain ⟨T, HT⟩ : ∃ T, Hid (sumN (fun i => (at_ l i).out[who]?.getD 0) m = T) := ⟨_, rfl⟩
  have hbT : -18014398509481984 ≤ T ∧ T ≤ 18014398509481984 := by
    have := sumN_bound (g := fun i => (at_ l i).out[who]?.getD 0) (b := 1125899906842624) (n := m) (fun k hk => by
      have := (HF.out k (by have := Hm.out; omega)).2.2.2.2.2 who (by have := Hm.out; omega)
      show -1125899906842624 ≤ (at_ l k).out[who]?.getD 0 ∧ (at_ l k).out[who]?.getD 0 ≤ 1125899906842624
      omega) m (Nat.le_refl _)
    rw [HT.out] at this
    omega
  obtain ⟨S, HS⟩ : ∃ S, Hid (sentV r.out = S) := ⟨_, rfl⟩
  have hbS : -18014398509481984 ≤ S ∧ S ≤ 18014398509481984 := by
    have h1 := hff.2.2.2.2.2
    have h2 := sent_is (la := r.out) (by have := Hlen.out; omega) (fun k hk => h1 k (by have := Hlen.out; omega))
    have := sumN_bound (g := fun i => r.out[i]?.getD 0) (b := 1125899906842624) (n := m) (fun k hk => by
      have := h1 k hk
      show -1125899906842624 ≤ r.out[k]?.getD 0 ∧ r.out[k]?.getD 0 ≤ 1125899906842624
      omega) m (Nat.le_refl _)
    rw [← Hlen.out, HS.out] at h2
    rw [← h2] at this
    omega
  clear hff
  have Hv : Hid (rightsV c l who = s + x + T - S - y) := by
    rw [Hparts.out, Hr.out, Hs.out, HT.out, HS.out, Hx.out, Hy.out]; exact rfl
  rw [Hv.out]
  obtain ⟨hx0, hx1⟩ := hbx
  obtain ⟨hy0, hy1⟩ := hby
  obtain ⟨hs0, hs1⟩ := hbsh
  obtain ⟨hT0, hT1⟩ := hbT
  obtain ⟨hS0, hS1'⟩ := hbS
  have k0 : (0 : Int) ≤ (who : Int) := by omega
  have k1 : (who : Int) < (m : Int) := by omega
  have hmb : m ≤ 9223372036854775807 := by omega
  go_enter Try.func65, Try.ntmps65
  go_wp2_with fail
  have HWh := Lib.hid ((Whole.made w 3 #[.int .i64 (who : Int)]).alloc (.cells #[.int .i64 x, .int .i64 y, .slice A m C] 59))
  have HWr := Lib.hid (Whole.made2 w (.cells #[.int .i64 (who : Int)] 3) 59 #[.int .i64 x, .int .i64 y, .slice A m C])
  have Hb0 := Lib.hid (below_two w (.cells #[.int .i64 (who : Int)] 3) (.cells #[.int .i64 x, .int .i64 y, .slice A m C] 59))
  refine (sums_given (some ⟨b, off, none⟩) m d l Hm.out h16 HF.out who hw bs w.heap.size _ (HB.out.later Hb0.out) (cell_later Hb0.out HQ3.out) (HWh.out.cell 0)).mono ?_
  rintro e w3 ⟨rfl, hb⟩
  rw [HT.out]
  have Hb3 := Lib.hid (held_next Hb0.out hb)
  have HWh3 := Lib.hid (HWh.out.later hb HWh.out.lt)
  have HWr3 := Lib.hid (HWr.out.later hb HWr.out.lt)
  have HWc3 := Lib.hid (HQ4.out.later Hb3.out hbc)
  have HN3 := Lib.hid (HN.out.later Hb3.out)
  clear hb HWh HWr q1 q2 c0 c1 c2
  have KP : Hid (∀ w', Below w3.heap.size w3 w' → Below w3.heap.size w3 w' ∧ (w'.cell? ⟨bc, 0, none⟩ = some (.int .i64 c.n) ∧ w'.cell? ⟨bc, 1, none⟩ = some (.int .i64 c.q) ∧ w'.cell? ⟨bc, 2, none⟩ = some (.int .i64 c.r) ∧ w'.cell? ⟨bc, 3, none⟩ = some (.int .i64 c.p) ∧ w'.cell? ⟨bc, 4, none⟩ = some (.int .i64 c.k) ∧ w'.cell? ⟨bc, 5, none⟩ = some (.int .i64 c.c)) ∧
      w'.cell? ⟨w.heap.size, 0, none⟩ = some (.int .i64 (who : Int)) ∧ w'.cell? ⟨w.heap.size + 1, 0, none⟩ = some (.int .i64 x) ∧ w'.cell? ⟨w.heap.size + 1, 1, none⟩ = some (.int .i64 y) ∧ w'.cell? ⟨w.heap.size + 1, 2, none⟩ = some (.slice A m C)) :=
    fun w' h => ⟨h, config_cells (HWc3.out.later h HWc3.out.lt), (HWh3.out.later h HWh3.out.lt).cell 0, (HWr3.out.later h HWr3.out.lt).cell 0, (HWr3.out.later h HWr3.out.lt).cell 1, (HWr3.out.later h HWr3.out.lt).cell 2⟩
  have OS : Hid (∀ w', Calls Try.prog 67 #[cfV c, .int .i64 (who : Int)] w' (Num w' s)) := by rw [← Hs.out]; exact fun w' => rShare_calls c who w'
  have OT : Hid (∀ w', Below w3.heap.size w3 w' → Calls Try.prog 68 #[rowV x y (.slice A m C)] w' (Num w' S)) := by rw [← HS.out]; exact fun w' h => sent_calls A m C x y r.out Hlen.out w' (HN3.out.later h)
  have e1 : IntKind.i64.wrap (s + x) = s + x := IntWalk.i64_in _ (by omega)
  have e2 : IntKind.i64.wrap (s + x + T) = s + x + T := IntWalk.i64_in _ (by omega)
  have e3 : IntKind.i64.wrap (s + x + T - S) = s + x + T - S := IntWalk.i64_in _ (by omega)
  have e4 : IntKind.i64.wrap (s + x + T - S - y) = s + x + T - S - y := IntWalk.i64_in _ (by omega)
  go_wp2_with fail
  go_region_held3 (fun w' => Below w3.heap.size w3 w' ∧ (w'.cell? ⟨bc, 0, none⟩ = some (.int .i64 c.n) ∧ w'.cell? ⟨bc, 1, none⟩ = some (.int .i64 c.q) ∧ w'.cell? ⟨bc, 2, none⟩ = some (.int .i64 c.r) ∧ w'.cell? ⟨bc, 3, none⟩ = some (.int .i64 c.p) ∧ w'.cell? ⟨bc, 4, none⟩ = some (.int .i64 c.k) ∧ w'.cell? ⟨bc, 5, none⟩ = some (.int .i64 c.c)) ∧
      w'.cell? ⟨w.heap.size, 0, none⟩ = some (.int .i64 (who : Int)) ∧ w'.cell? ⟨w.heap.size + 1, 0, none⟩ = some (.int .i64 x) ∧ w'.cell? ⟨w.heap.size + 1, 1, none⟩ = some (.int .i64 y) ∧ w'.cell? ⟨w.heap.size + 1, 2, none⟩ = some (.slice A m C))
    (first | exact KP.out _ (Below.refl _ _).drew | (refine KP.out _ ?_; assumption))
    (first | (go_at_call 67; have hcur := (‹Below w3.heap.size w3 _ ∧ _ ∧ _›).1; refine (OS.out _).mono ?_; rintro e w4 ⟨rfl, hb1⟩; have hS1 := held_next hcur hb1; clear hb1 hcur) | (go_at_call 68; have hcur := (‹Below w3.heap.size w3 _ ∧ _ ∧ _›).1; refine (OT.out _ hcur).mono ?_; rintro e w4 ⟨rfl, hb1⟩; have hS1 := held_next hcur hb1; clear hb1 hcur))
  all_goals go_wp2_with fail
  all_goals go_ret
  all_goals exact ⟨by rfl, held_next Hb3.out (by assumption)⟩
end Go.Proofs.Ytfpadcfahfanoaa
