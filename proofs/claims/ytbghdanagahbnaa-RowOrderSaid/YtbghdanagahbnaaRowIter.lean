/- The ranges over functions of layer 4: two lists place by place; each number with the most that it may be. No law is proved here. -/
import Derived.RangeFuncNested
import Derived.RangeFuncBound
import Derived.RangeFuncCalls
import Derived.RangeFuncLeaves
import Derived.RangeFuncBox
import Derived.Shelf.Abstract
import Derived.Shelf.RegionOpen
import Derived.WalkKit
import Derived.OwnWalkIn
import Derived.TacticsInMore
import Derived.LoopNIn
import Derived.LoopIn
import Derived.Test.YtbghdanagahbnaaAppend
namespace Go.Proofs.Ytbghdanagahbnaa
open Go.RowKit Go.Shelf

attribute [local go_sem] Oper.semAt_some

/-- A slice of numbers. -/
def Nums (w : World) (v : Value) (l : List Int) : Prop := Elems w v 1 l.length (fun i _ => .int .i64 (l[i]?.getD 0))
theorem Nums.later {w w' : World} {v : Value} {l : List Int} (h : Nums w v l) (hb : Below w.heap.size w w') : Nums w' v l := Elems.later h hb
/-- a number, where there is one -/
theorem Nums.at {w : World} {a : Option Addr} {m c : Nat} {l : List Int} (h : Nums w (.slice a m c) l) {i : Nat} (hi : i < l.length) :
    ∃ b off, a = some ⟨b, off, none⟩ ∧ b < w.heap.size ∧ w.cell? ⟨b, off + i, none⟩ = some (.int .i64 (l[i]?.getD 0)) := by
  obtain ⟨b, off, e, hc⟩ := Elems.at h hi
  have := hc 0 (by omega)
  rw [Nat.mul_one, Nat.add_zero] at this
  exact ⟨b, off, e, World.block_lt_of_cell? w _ this, this⟩

theorem zip_take_snoc (la lb : List Int) (k : Nat) (ha : k < la.length) (hb : k < lb.length) : (la.zip lb).take (k + 1) = (la.zip lb).take k ++ [(la[k]?.getD 0, lb[k]?.getD 0)] := by
  rw [List.take_succ_eq_append_getElem (by rw [List.length_zip]; omega)]
  simp [List.getElem?_eq_getElem ha, List.getElem?_eq_getElem hb]

/-- what a round of these loops keeps: what was there ahead of the call, and one box -/
def KeptAt (n₀ B : Nat) (W W' : World) : Prop := Below n₀ W W' ∧ W'.heap[B]? = W.heap[B]?

set_option maxRecDepth 100000 in
set_option maxHeartbeats 1000000 in
/-- two lists of as many numbers, place by place -/
theorem pairs1_in (F : Fence) (n : Nat) (hF : F.fn 18) (hro : F.round = none) (hn : 1 ≤ n) (l Ba Bb : Nat) (w0 : World) (a b : Option Addr) (m ca cb : Nat) (la lb : List Int)
    (hla : m = la.length) (hlb : m = lb.length) (hA : Nums w0 (.slice a m ca) la) (hB : Nums w0 (.slice b m cb) lb) (J Jx : List (Int × Int) → World → Prop)
    (hY : ∀ pre x W, J pre W → pre.length < m → YieldAt F (n - 1) Try.prog l #[.int .i64 x.1, .int .i64 x.2] W fun e W' =>
      (e = .returned (.bool true) ∧ J (pre ++ [x]) W' ∧ KeptAt w0.heap.size Bb W W') ∨ (e = .returned (.bool false) ∧ Jx (pre ++ [x]) W'))
    (W : World) (hW : Below w0.heap.size w0 W) (hBa : Boxed W Ba 22 (.slice a m ca)) (hBb : Boxed W Bb 22 (.slice b m cb)) (h0 : J [] W) :
    CallsIn F n Try.prog 18 #[.func (.yield l) #[] #[], .pointer (some ⟨Ba, 0, none⟩), .pointer (some ⟨Bb, 0, none⟩)] W fun e W' => (∃ v, e = .returned v) ∧
      ((∃ ys, ys = la.zip lb ∧ J ys W') ∨ (∃ pre, (∃ k, k ≤ m ∧ pre = (la.zip lb).take k) ∧ Jx pre W')) := by
  have hbig : m ≤ 9223372036854775807 := by rw [hla]; exact hA.1
  have HA := Lib.hid hA; clear hA
  have HB := Lib.hid hB; clear hB
  have Ha := Lib.hid hla; clear hla
  have Hb := Lib.hid hlb; clear hlb
  have HBb := Lib.hid hBb
  have cA := hBa.cell
  have HW := Lib.hid hW
  clear hBa hBb hW
  refine callsIn_of_wp Try.func18 rfl hF ?_ hro
  simp only [Try.ntmps18, List.size_toArray, List.length_cons, List.length_nil, Nat.reduceAdd, Nat.reduceSub, Array.replicate_succ, Array.replicate_zero, List.push_toArray, List.append_toArray, List.nil_append, List.cons_append]
  gi_wp2
  gi_loopw [8] (fun i wr => ∃ k : Nat, k ≤ m ∧ i = .int .i64 k ∧ J ((la.zip lb).take k) wr ∧ Hid (Below w0.heap.size w0 wr) ∧ Hid (Boxed wr Bb 22 (.slice b m cb)))
    (fun i _ => m - (intOf i).toNat)
  case atStart => exact ⟨0, Nat.zero_le _, rfl, by rw [List.take_zero]; exact h0, HW, HBb⟩
  case round =>
    obtain ⟨k, hk, rfl, hJs, Hw, HBr⟩ := hrel
    clear cA
    by_cases hlt : k < m
    · obtain ⟨ba, oa, rfl, _, c0⟩ := HA.out.at (i := k) (by have := Ha.out; omega)
      obtain ⟨bb, ob, rfl, _, c1⟩ := HB.out.at (i := k) (by have := Hb.out; omega)
      have d0 := cell_later Hw.out c0
      have d1 := cell_later Hw.out c1
      have dB := HBr.out.cell
      clear c0 c1
      obtain ⟨fn, tmps, assign, body, hy, hR⟩ := hY _ (la[k]?.getD 0, lb[k]?.getD 0) wr hJs (by rw [List.length_take, List.length_zip, ← Ha.out, ← Hb.out]; omega)
      dsimp only at hy
      rw [← zip_take_snoc la lb k (by have := Ha.out; omega) (by have := Hb.out; omega)] at hR
      gi_wp2
      refine hR.mono ?_
      rintro e W3 (⟨rfl, hJ3, hk3⟩ | ⟨rfl, hJx3⟩)
      · have Hw3 := Lib.hid (Hw.out.trans hk3.1)
        have HB3 := Lib.hid (show Boxed W3 Bb 22 (.slice (some ⟨bb, ob, none⟩) m cb) from hk3.2.trans HBr.out)
        clear hk3
        gi_wp2
        go_roundw
        case rel => exact ⟨k + 1, by omega, by simp, hJ3, Hw3, HB3⟩
        case measure => simp [intOf]; omega
      · gi_wp2
        refine bodyPost_ret (results_none rfl _ _ _) rfl ?_
        exact ⟨⟨_, rfl⟩, .inr ⟨_, ⟨k + 1, by omega, rfl⟩, hJx3⟩⟩
    · have hkm : k = m := by omega
      have Hkm := Lib.hid hkm; clear hkm
      gi_wp2
      go_end0
      refine ⟨⟨_, rfl⟩, .inl ⟨_, ?_, hJs⟩⟩
      rw [Hkm.out, List.take_of_length_le (by rw [List.length_zip, ← Ha.out, ← Hb.out]; omega)]

theorem kept_trans {n₀ B : Nat} {X Y Z : World} (h : KeptAt n₀ B X Y) (k : KeptAt n₀ B Y Z) : KeptAt n₀ B X Z := ⟨h.1.trans k.1, k.2.trans h.2⟩
theorem kept_put {n₀ B : Nat} {w : World} (hn : n₀ ≤ w.heap.size) (hB : B < w.heap.size) : ∀ (W : World) (l : Nat) (o o' : Obj), w.heap.size ≤ l → W.heap[l]? = some o → o.isCells = false → o.isWalk = false → KeptAt n₀ B W (W.putObj l o') :=
  fun W l o o' hl ho hc hk => ⟨belowK_b (w := w) hn W l o o' hl ho hc hk, World.putObj_heap_other (by omega)⟩
theorem kept_refl (n₀ B : Nat) (W : World) : KeptAt n₀ B W W := ⟨Below.refl _ _, rfl⟩
theorem kept_set {n₀ B : Nat} {W : World} {p : Addr} (u : Value) (hn : n₀ ≤ p.block) (hB : B ≠ p.block) : KeptAt n₀ B W (W.setCell p u) := ⟨(Below.refl _ _).setCell hn u, Below.heap_setCell W p u B hB⟩
theorem kept_grown {n₀ B : Nat} {W W' : World} {row : Option Nat} (hg : W.grownBy W' row) (hn : n₀ ≤ W.heap.size) (hr : ∀ r, row = some r → n₀ ≤ r) (hB : B < W.heap.size) (hne : row ≠ some B) : KeptAt n₀ B W W' :=
  ⟨(Below.refl _ _).grown hg hn hr, hg.block B hB (fun e => hne e.symm)⟩
theorem kept_alloc {n₀ B : Nat} {W : World} (o : Obj) (hn : n₀ ≤ W.heap.size) (hB : B < W.heap.size) : KeptAt n₀ B W (W.alloc o) := ⟨(Below.refl _ _).alloc hn _, Below.heap_alloc W o B hB⟩

set_option maxHeartbeats 1000000 in
/-- the two lists are boxed; the function value captures the boxes -/
theorem pairs_in (F : Fence) (n : Nat) (hF : F.fn 15) (hro : F.round = none) (a b : Option Addr) (m c m' c' : Nat) (w : World) :
    CallsIn F n Try.prog 15 #[.slice a m c, .slice b m' c'] w fun e w' => e = .returned (.func (.func 18) #[] #[.pointer (some ⟨w.heap.size, 0, none⟩), .pointer (some ⟨w.heap.size + 1, 0, none⟩)]) ∧
      w' = (w.alloc (.cells #[.slice a m c] 22)).alloc (.cells #[.slice b m' c'] 22) := by
  refine callsIn_of_wp Try.func15 rfl hF ?_ hro
  simp only [Try.ntmps15, List.size_toArray, List.length_cons, List.length_nil, Nat.reduceAdd, Nat.reduceSub, Array.replicate_succ, Array.replicate_zero, List.push_toArray, List.append_toArray, List.nil_append, List.cons_append]
  gi_wp2
  go_ret
  exact ⟨rfl, rfl⟩

/-- what the loop hands over, all of it or as much as was asked for -/
theorem pairs_stops (F : Fence) (n : Nat) (hF : F.fn 18) (hro : F.round = none) (hn : 1 ≤ n) (Ba Bb : Nat) (w0 : World) (a b : Option Addr) (m ca cb : Nat) (la lb : List Int)
    (hla : m = la.length) (hlb : m = lb.length) (hA : Nums w0 (.slice a m ca) la) (hB : Nums w0 (.slice b m cb) lb) (w : World) (hb0 : Below w0.heap.size w0 w)
    (hBa : Boxed w Ba 22 (.slice a m ca)) (hBb : Boxed w Bb 22 (.slice b m cb)) :
    SeqStopsK F n Try.prog 18 #[.pointer (some ⟨Ba, 0, none⟩), .pointer (some ⟨Bb, 0, none⟩)] (fun x : Int × Int => #[Value.int .i64 x.1, Value.int .i64 x.2]) (KeptAt w0.heap.size Bb) (fun ys => ys = la.zip lb)
      (fun pre => ∃ k, k ≤ m ∧ pre = (la.zip lb).take k) m w := fun l J Jx W hW _ _ hY h0 =>
  pairs1_in F n hF hro hn l Ba Bb w0 a b m ca cb la lb hla hlb hA hB J Jx hY W (hb0.trans (hW.mono hb0.size)) ((hW.block Ba hBa.lt).trans hBa) ((hW.block Bb hBb.lt).trans hBb) h0

/-! ### each number, and the most that it may be -/

/-- the most that each number may be: nothing where the replica would move to itself -/
def mostOf (who : Int) (k : Nat) : Int := if (k : Int) = who then 0 else 1125899906842624
def mosts (who : Int) (m : Nat) : List Int := (List.range m).map (mostOf who)
theorem mosts_length (who : Int) (m : Nat) : (mosts who m).length = m := by simp [mosts]
theorem mosts_at (who : Int) (m k : Nat) (h : k < m) : (mosts who m)[k]?.getD 0 = mostOf who k := by simp [mosts, h]

set_option maxRecDepth 100000 in
set_option maxHeartbeats 1000000 in
theorem limits1_in (F : Fence) (n : Nat) (hF : F.fn 19) (hro : F.round = none) (hn : 1 ≤ n) (l Ba Bb : Nat) (w0 : World) (a : Option Addr) (m ca : Nat) (who : Int) (la : List Int)
    (hla : m = la.length) (hA : Nums w0 (.slice a m ca) la) (J Jx : List (Int × Int) → World → Prop)
    (hY : ∀ pre x W, J pre W → pre.length < m → YieldAt F (n - 1) Try.prog l #[.int .i64 x.1, .int .i64 x.2] W fun e W' =>
      (e = .returned (.bool true) ∧ J (pre ++ [x]) W' ∧ KeptAt w0.heap.size Bb W W') ∨ (e = .returned (.bool false) ∧ Jx (pre ++ [x]) W'))
    (W : World) (hW : Below w0.heap.size w0 W) (hBa : Boxed W Ba 22 (.slice a m ca)) (hBb : Boxed W Bb 3 (.int .i64 who)) (h0 : J [] W) :
    CallsIn F n Try.prog 19 #[.func (.yield l) #[] #[], .pointer (some ⟨Ba, 0, none⟩), .pointer (some ⟨Bb, 0, none⟩)] W fun e W' => (∃ v, e = .returned v) ∧
      ((∃ ys, ys = la.zip (mosts who m) ∧ J ys W') ∨ (∃ pre, (∃ k, k ≤ m ∧ pre = (la.zip (mosts who m)).take k) ∧ Jx pre W')) := by
  have hbig : m ≤ 9223372036854775807 := by rw [hla]; exact hA.1
  have HA := Lib.hid hA; clear hA
  have Ha := Lib.hid hla; clear hla
  have HBb := Lib.hid hBb
  have cA := hBa.cell
  have HW := Lib.hid hW
  clear hBa hBb hW
  refine callsIn_of_wp Try.func19 rfl hF ?_ hro
  simp only [Try.ntmps19, List.size_toArray, List.length_cons, List.length_nil, Nat.reduceAdd, Nat.reduceSub, Array.replicate_succ, Array.replicate_zero, List.push_toArray, List.append_toArray, List.nil_append, List.cons_append]
  gi_wp2
  gi_loopw [9] (fun i wr => ∃ k : Nat, k ≤ m ∧ i = .int .i64 k ∧ J ((la.zip (mosts who m)).take k) wr ∧ Hid (Below w0.heap.size w0 wr) ∧ Hid (Boxed wr Bb 3 (.int .i64 who)))
    (fun i _ => m - (intOf i).toNat)
  case atStart => exact ⟨0, Nat.zero_le _, rfl, by rw [List.take_zero]; exact h0, HW, HBb⟩
  case round =>
    obtain ⟨k, hk, rfl, hJs, Hw, HBr⟩ := hrel
    clear cA
    by_cases hlt : k < m
    · obtain ⟨ba, oa, rfl, _, c0⟩ := HA.out.at (i := k) (by have := Ha.out; omega)
      have d0 := cell_later Hw.out c0
      have dB := HBr.out.cell
      clear c0
      by_cases hw : (k : Int) = who
      all_goals
        obtain ⟨fn, tmps, assign, body, hy, hR⟩ := hY _ (la[k]?.getD 0, mostOf who k) wr hJs (by rw [List.length_take, List.length_zip, mosts_length, ← Ha.out]; omega)
        dsimp only at hy
        rw [← mosts_at who m k hlt, ← zip_take_snoc la (mosts who m) k (by have := Ha.out; omega) (by rw [mosts_length]; exact hlt)] at hR
        first | (have hm0 : mostOf who k = 0 := if_pos hw) | (have hm0 : mostOf who k = 1125899906842624 := if_neg hw)
        rw [hm0] at hy
        clear hm0
        first | (subst hw) | (have hd : ((k : Int) == who) = false := by simpa using hw)
        gi_wp2
        refine hR.mono ?_
        rintro e W3 (⟨rfl, hJ3, hk3⟩ | ⟨rfl, hJx3⟩)
        · have Hw3 := Lib.hid (Hw.out.trans hk3.1)
          have HB3 := Lib.hid (show Boxed W3 Bb 3 (.int .i64 _) from hk3.2.trans HBr.out)
          clear hk3
          gi_wp2
          go_roundw
          case rel => exact ⟨k + 1, by omega, by simp, hJ3, Hw3, HB3⟩
          case measure => simp [intOf]; omega
        · gi_wp2
          refine bodyPost_ret (results_none rfl _ _ _) rfl ?_
          exact ⟨⟨_, rfl⟩, .inr ⟨_, ⟨k + 1, by omega, rfl⟩, hJx3⟩⟩
    · have hkm : k = m := by omega
      have Hkm := Lib.hid hkm; clear hkm
      gi_wp2
      go_end0
      refine ⟨⟨_, rfl⟩, .inl ⟨_, ?_, hJs⟩⟩
      rw [Hkm.out, List.take_of_length_le (by rw [List.length_zip, mosts_length, ← Ha.out]; omega)]

set_option maxHeartbeats 1000000 in
theorem limits_in (F : Fence) (n : Nat) (hF : F.fn 17) (hro : F.round = none) (a : Option Addr) (m c : Nat) (who : Int) (w : World) :
    CallsIn F n Try.prog 17 #[.slice a m c, .int .i64 who] w fun e w' => e = .returned (.func (.func 19) #[] #[.pointer (some ⟨w.heap.size, 0, none⟩), .pointer (some ⟨w.heap.size + 1, 0, none⟩)]) ∧
      w' = (w.alloc (.cells #[.slice a m c] 22)).alloc (.cells #[.int .i64 who] 3) := by
  refine callsIn_of_wp Try.func17 rfl hF ?_ hro
  simp only [Try.ntmps17, List.size_toArray, List.length_cons, List.length_nil, Nat.reduceAdd, Nat.reduceSub, Array.replicate_succ, Array.replicate_zero, List.push_toArray, List.append_toArray, List.nil_append, List.cons_append]
  gi_wp2
  go_ret
  exact ⟨rfl, rfl⟩

theorem limits_stops (F : Fence) (n : Nat) (hF : F.fn 19) (hro : F.round = none) (hn : 1 ≤ n) (Ba Bb : Nat) (w0 : World) (a : Option Addr) (m ca : Nat) (who : Int) (la : List Int)
    (hla : m = la.length) (hA : Nums w0 (.slice a m ca) la) (w : World) (hb0 : Below w0.heap.size w0 w)
    (hBa : Boxed w Ba 22 (.slice a m ca)) (hBb : Boxed w Bb 3 (.int .i64 who)) :
    SeqStopsK F n Try.prog 19 #[.pointer (some ⟨Ba, 0, none⟩), .pointer (some ⟨Bb, 0, none⟩)] (fun x : Int × Int => #[Value.int .i64 x.1, Value.int .i64 x.2]) (KeptAt w0.heap.size Bb) (fun ys => ys = la.zip (mosts who m))
      (fun pre => ∃ k, k ≤ m ∧ pre = (la.zip (mosts who m)).take k) m w := fun l J Jx W hW _ _ hY h0 =>
  limits1_in F n hF hro hn l Ba Bb w0 a m ca who la hla hA J Jx hY W (hb0.trans (hW.mono hb0.size)) ((hW.block Ba hBa.lt).trans hBa) ((hW.block Bb hBb.lt).trans hBb) h0
end Go.Proofs.Ytbghdanagahbnaa
