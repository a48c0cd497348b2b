/- Oldest, and the document's own: the oldest of a list of stamps. -/
import Derived.Test.YtblfjekdejndfaaStampTick
import Derived.Test.YtblfjekdejndfaaElems
import Derived.LoopTactic
import Derived.Deep.RegionHeld
namespace Go.Proofs.Ytblfjekdejndfaa
open Go.ChangeShapes Go.WideShapes Go.ChangeAt Go.RowKit

/-- cell j of a stamp -/
def sc (s : Int × Int) (j : Nat) : Value := .int .i64 (if j = 0 then s.1 else s.2)
/-- A slice of stamps. -/
def Stamps (w : World) (v : Value) (l : List (Int × Int)) : Prop := Elems w v 2 l.length (fun i j => sc (l.getD i (0, 0)) j)

theorem Stamps.later {w w' : World} {v : Value} {l : List (Int × Int)} (h : Stamps w v l) (hb : Below w.heap.size w w') : Stamps w' v l := Elems.later h hb

/-- the oldest of some -/
def best : List (Int × Int) → Int × Int
  | [] => (0, 0)
  | s :: r => r.foldl (fun b x => if olderB x.1 x.2 b.1 b.2 then x else b) s
theorem best_snoc (l : List (Int × Int)) (x : Int × Int) : best (l ++ [x]) = if l = [] then x else if olderB x.1 x.2 (best l).1 (best l).2 then x else best l := by
  cases l with
  | nil => rfl
  | cons s r => simp [best]; rfl
theorem take_snoc' (l : List (Int × Int)) (k : Nat) (h : k < l.length) : l.take (k + 1) = l.take k ++ [l.getD k (0, 0)] := by
  rw [List.take_succ_eq_append_getElem h]
  simp [List.getD_eq_getElem?_getD, List.getElem?_eq_getElem h]

/-- the stamp, and whether there is one -/
def Found (w : World) (l : List (Int × Int)) (e : Ending) (w' : World) : Prop :=
  e = .returned (.tuple #[stampV (best l).1 (best l).2, .bool (decide (0 < l.length))]) ∧ Below w.heap.size w w'

theorem info_stamp : (Try.prog.info? 23).map (fun i => (i.zero, i.size, i.bytes)) = some (some (.agg #[.int .i64 0, .int .i64 0]), 2, 16) := by kernel_rfl

set_option maxRecDepth 100000 in
set_option maxHeartbeats 1000000 in
theorem first_calls (a : Option Addr) (n c : Nat) (l : List (Int × Int)) (hn : n = l.length) (w : World) (hS : Stamps w (.slice a n c) l) :
    Calls Try.prog 17 #[.slice a n c, .func (.func 8) #[] #[]] w (Found w l) := by
  have hbig : n ≤ 9223372036854775807 := by rw [hn]; exact hS.1
  have Hn := Lib.hid hn; clear hn
  have HS := Lib.hid hS; clear hS
  go_enter Try.func17, Try.ntmps17
  go_wp2_with fail
  go_loopw [10] (fun i wr => ∃ k : Nat, k ≤ n ∧ i = .int .i64 k ∧ Hid (Below w.heap.size w wr) ∧ Hid (Whole wr w.heap.size 23 #[.int .i64 (best (l.take k)).1, .int .i64 (best (l.take k)).2])) (fun i _ => n - (intOf i).toNat)
  case atStart => exact ⟨0, Nat.zero_le _, rfl, below_box _ _, Whole.made _ _ _⟩
  case round =>
    obtain ⟨k, hk, rfl, Hb, HW⟩ := hrel
    by_cases hlt : k < n
    · obtain ⟨b, off, rfl, hcc⟩ := Elems.at HS.out (i := k) (by have := Hn.out; omega)
      have c0 := hcc 0 (by omega)
      have c1 := hcc 1 (by omega)
      clear hcc
      obtain ⟨xt, xw, Hx⟩ : ∃ xt xw, Hid (l.getD k (0, 0) = (xt, xw)) := ⟨_, _, rfl⟩
      obtain ⟨yt, yw, Hy⟩ : ∃ yt yw, Hid (best (l.take k) = (yt, yw)) := ⟨_, _, rfl⟩
      rw [Hx.out] at c0 c1
      have d0 : wr.cell? ⟨b, off + k * 2, none⟩ = some (.int .i64 xt) := cell_later Hb.out c0
      have d1 : wr.cell? ⟨b, off + k * 2 + 1, none⟩ = some (.int .i64 xw) := cell_later Hb.out c1
      have HW' := HW
      rw [Hy.out] at HW'
      have e0 : wr.cell? ⟨w.heap.size, 0, none⟩ = some (.int .i64 yt) := HW'.out.cell 0
      have e1 : wr.cell? ⟨w.heap.size, 1, none⟩ = some (.int .i64 yw) := HW'.out.cell 1
      have f0 := HW'.out.free 0
      have f1 := HW'.out.free 1
      have hlw := HW'.out.lt
      clear c0 c1
      have hts := take_snoc' l k (by have := Hn.out; omega)
      have hbs := best_snoc (l.take k) (xt, xw)
      rw [Hx.out] at hts
      rw [← hts, Hy.out] at hbs
      have Hbs := Lib.hid hbs; clear hts hbs
      have hbx := below_box wr (.cells #[.int .i64 xt, .int .i64 xw] 23)
      have Hb2 := Lib.hid (below_next Hb.out Hb.out.size hbx)
      have HW2 := Lib.hid (HW'.out.alloc (.cells #[.int .i64 xt, .int .i64 xw] 23))
      clear hbx
      by_cases h0 : k = 0
      · have hk0 : ((k : Int) == 0) = true := beq_iff_eq.2 (by omega)
        have hbs : best (l.take (k + 1)) = (xt, xw) := by rw [Hbs.out, if_pos (by rw [h0]; rfl)]
        have Hbs2 := Lib.hid hbs
        clear h0 hbs
        go_wp2_with fail
        go_roundw
        case rel => exact ⟨k + 1, hlt, by go_num, ((Hb.out.setCell (p := ⟨w.heap.size, 0, none⟩) (Nat.le_refl _) _).setCell (p := ⟨w.heap.size, 1, none⟩) (Nat.le_refl _) _).alloc (by simpa using Hb.out.size) _, by rw [Hbs2.out]; exact ((HW'.out.set 0 _).set 1 _).alloc _⟩
        case measure => simp [intOf]; omega
      · have hk0 : ((k : Int) == 0) = false := beq_eq_false_iff_ne.2 (by omega)
        have hne : l.take k ≠ [] := fun e => h0 (by have h := congrArg List.length e; have h' := Hn.out; rw [List.length_take, List.length_nil] at h; omega)
        have Ho := Lib.hid (fun w => older_calls xt xw yt yw w)
        obtain ⟨z, Hz⟩ : ∃ z, Hid (olderB xt xw yt yw = z) := ⟨_, rfl⟩
        have hbs : best (l.take (k + 1)) = if z = true then (xt, xw) else (yt, yw) := by rw [Hbs.out, if_neg hne, ← Hz.out]
        rw [Hz.out] at Ho
        have Hbs2 := Lib.hid hbs
        clear h0 hbs hne
        go_wp2_with fail
        refine (Ho.out _).mono ?_
        rintro e w2 ⟨rfl, hb⟩
        have Hb3 := Lib.hid (below_next Hb2.out Hb2.out.size hb)
        have HW3 := Lib.hid (HW2.out.later hb HW2.out.lt)
        have HX3 := Lib.hid ((Whole.made wr 23 #[.int .i64 xt, .int .i64 xw]).later hb (Whole.made _ _ _).lt)
        clear hb
        cases z with
        | true =>
          have g0 : w2.cell? ⟨w.heap.size, 0, none⟩ = some (.int .i64 yt) := HW3.out.cell 0
          have g1 : w2.cell? ⟨w.heap.size, 1, none⟩ = some (.int .i64 yw) := HW3.out.cell 1
          have p0 := HW3.out.free 0
          have p1 := HW3.out.free 1
          have q0 : w2.cell? ⟨wr.heap.size, 0, none⟩ = some (.int .i64 xt) := HX3.out.cell 0
          have q1 : w2.cell? ⟨wr.heap.size, 1, none⟩ = some (.int .i64 xw) := HX3.out.cell 1
          go_wp2_with fail
          go_roundw
          case rel => exact ⟨k + 1, hlt, by go_num, (Hb3.out.setCell (p := ⟨w.heap.size, 0, none⟩) (Nat.le_refl _) _).setCell (p := ⟨w.heap.size, 1, none⟩) (Nat.le_refl _) _, by rw [Hbs2.out]; exact (HW3.out.set 0 _).set 1 _⟩
          case measure => simp [intOf]; omega
        | false =>
          go_wp2_with fail
          go_roundw
          case rel => exact ⟨k + 1, hlt, by go_num, Hb3, by rw [Hbs2.out]; exact HW3⟩
          case measure => simp [intOf]; omega
    · have hkn : k = n := by omega
      have HW' := HW
      obtain ⟨yt, yw, Hy⟩ : ∃ yt yw, Hid (best (l.take k) = (yt, yw)) := ⟨_, _, rfl⟩
      rw [Hy.out] at HW'
      have e0 : wr.cell? ⟨w.heap.size, 0, none⟩ = some (.int .i64 yt) := HW'.out.cell 0
      have e1 : wr.cell? ⟨w.heap.size, 1, none⟩ = some (.int .i64 yw) := HW'.out.cell 1
      have f0 := HW'.out.free 0
      have f1 := HW'.out.free 1
      have hlw := HW'.out.lt
      have Hkn := Lib.hid hkn; clear hkn
      go_wp2_with fail
      refine bodyPost_ret (v := .tuple #[.agg #[.int .i64 yt, .int .i64 yw], .bool (decide (0 < n))]) (by simp [results, Try.results17, go_sem, e0, e1]) rfl ⟨?_, ?_⟩
      · rw [Hkn.out, Hn.out, List.take_length] at Hy
        rw [Hy.out, Hn.out]
      · exact (Hb.out.setCell (p := ⟨w.heap.size, 0, none⟩) (Nat.le_refl _) _).setCell (p := ⟨w.heap.size, 1, none⟩) (Nat.le_refl _) _

set_option maxRecDepth 100000 in
set_option maxHeartbeats 1000000 in
theorem oldest_calls (a : Option Addr) (n c : Nat) (l : List (Int × Int)) (hn : n = l.length) (w : World) (hS : Stamps w (.slice a n c) l) :
    Calls Try.prog 14 #[.slice a n c] w (Found w l) := by
  have hbx := below_box w (.cells #[.int .i64 0, .int .i64 0] 23)
  have Hc := Lib.hid (first_calls a n c l hn _ (hS.later hbx))
  have HW := Lib.hid (Whole.made w 23 #[.int .i64 0, .int .i64 0])
  have Hbx := Lib.hid hbx
  clear hS hbx
  have Hn := Lib.hid hn; clear hn
  obtain ⟨yt, yw, Hy⟩ : ∃ yt yw, Hid (best l = (yt, yw)) := ⟨_, _, rfl⟩
  go_enter Try.func14, Try.ntmps14
  go_wp2_with fail
  refine Hc.out.mono ?_
  rintro e w1 ⟨rfl, hb⟩
  rw [Hy.out]
  have Hb1 := Lib.hid (below_next Hbx.out Hbx.out.size hb)
  have HW1 := Lib.hid (HW.out.later hb HW.out.lt)
  clear hb
  have e0 : w1.cell? ⟨w.heap.size, 0, none⟩ = some (.int .i64 0) := HW1.out.cell 0
  have e1 : w1.cell? ⟨w.heap.size, 1, none⟩ = some (.int .i64 0) := HW1.out.cell 1
  have f0 := HW1.out.free 0
  have f1 := HW1.out.free 1
  go_wp2_with fail
  refine bodyPost_ret (v := .tuple #[.agg #[.int .i64 yt, .int .i64 yw], .bool (decide (0 < l.length))]) (by simp [results, Try.results14, go_sem, e0, e1]) rfl ⟨by rw [Hy.out], ?_⟩
  exact (Hb1.out.setCell (p := ⟨w.heap.size, 0, none⟩) (Nat.le_refl _) _).setCell (p := ⟨w.heap.size, 1, none⟩) (Nat.le_refl _) _

set_option maxRecDepth 100000 in
set_option maxHeartbeats 1000000 in
theorem refoldest_calls (a : Option Addr) (n c : Nat) (l : List (Int × Int)) (hn : n = l.length) (w : World) (hS : Stamps w (.slice a n c) l) :
    Calls Try.prog 15 #[.slice a n c] w (Found w l) := by
  have hbig : n ≤ 9223372036854775807 := by rw [hn]; exact hS.1
  by_cases h0 : n = 0
  · obtain rfl : l = [] := List.eq_nil_of_length_eq_zero (by omega)
    have hz : ((n : Int) == 0) = true := beq_iff_eq.2 (by omega)
    clear hS hn h0
    go_enter Try.func15, Try.ntmps15
    go_wp2_with fail
    refine bodyPost_ret (v := .tuple #[.agg #[.int .i64 0, .int .i64 0], .bool false]) (by simp [results, Try.results15, go_sem]) rfl ⟨rfl, ?_⟩
    exact below_box _ _
  · have hz : ((n : Int) == 0) = false := beq_eq_false_iff_ne.2 (by omega)
    have hn0 : 0 < n := by omega
    obtain ⟨b, off, rfl, hcc⟩ := Elems.at hS (i := 0) (by omega)
    have c0 := hcc 0 (by omega)
    have c1 := hcc 1 (by omega)
    clear hcc
    obtain ⟨xt, xw, Hx⟩ : ∃ xt xw, Hid (l.getD 0 (0, 0) = (xt, xw)) := ⟨_, _, rfl⟩
    rw [Hx.out] at c0 c1
    have d0 : w.cell? ⟨b, off, none⟩ = some (.int .i64 xt) := by simpa [sc] using c0
    have d1 : w.cell? ⟨b, off + 1, none⟩ = some (.int .i64 xw) := by simpa [sc] using c1
    have ea : b < w.heap.size := World.block_lt_of_cell? w _ d0
    have hb1 : best (l.take 1) = (xt, xw) := by
      have := take_snoc' l 0 (by omega)
      rw [List.take_zero, List.nil_append] at this
      rw [this, Hx.out]; rfl
    have Hb1 := Lib.hid hb1
    have HZ := Lib.hid (below_two w (.cells #[.int .i64 0, .int .i64 0] 23) (.cells #[.int .i64 xt, .int .i64 xw] 23))
    have HW0 := Lib.hid ((Whole.made w 23 #[.int .i64 0, .int .i64 0]).alloc (.cells #[.int .i64 xt, .int .i64 xw] 23))
    have HW1 := Lib.hid (Whole.made2 w (.cells #[.int .i64 0, .int .i64 0] 23) 23 #[.int .i64 xt, .int .i64 xw])
    clear c0 c1 h0 hb1
    have HS := Lib.hid hS; clear hS
    have Hn := Lib.hid hn; clear hn
    go_enter Try.func15, Try.ntmps15
    go_wp2_with fail
    go_loopw [5] (fun i wr => ∃ k : Nat, 1 ≤ k ∧ k ≤ n ∧ i = .int .i64 k ∧ Hid (Below w.heap.size w wr) ∧ Hid (Whole wr w.heap.size 23 #[.int .i64 0, .int .i64 0]) ∧ Hid (Whole wr (w.heap.size + 1) 23 #[.int .i64 (best (l.take k)).1, .int .i64 (best (l.take k)).2])) (fun i _ => n - (intOf i).toNat)
    case atStart => exact ⟨1, Nat.le_refl _, hn0, rfl, HZ.out, HW0.out, by rw [Hb1.out]; exact HW1.out⟩
    case round =>
      obtain ⟨k, hk1, hk, rfl, Hb, HW0, HW⟩ := hrel
      clear d0 d1 ea
      by_cases hlt : k < n
      · obtain ⟨b', off', hbo, hcc⟩ := Elems.at HS.out (i := k) (by have := Hn.out; omega)
        simp only [Option.some.injEq, Addr.mk.injEq, and_true] at hbo
        obtain ⟨rfl, rfl⟩ := hbo
        have c0 := hcc 0 (by omega)
        have c1 := hcc 1 (by omega)
        clear hcc
        obtain ⟨vt, vw, Hv⟩ : ∃ vt vw, Hid (l.getD k (0, 0) = (vt, vw)) := ⟨_, _, rfl⟩
        obtain ⟨yt, yw, Hy⟩ : ∃ yt yw, Hid (best (l.take k) = (yt, yw)) := ⟨_, _, rfl⟩
        rw [Hv.out] at c0 c1
        have d0 : wr.cell? ⟨b, off + k * 2, none⟩ = some (.int .i64 vt) := cell_later Hb.out c0
        have d1 : wr.cell? ⟨b, off + k * 2 + 1, none⟩ = some (.int .i64 vw) := cell_later Hb.out c1
        have HW' := HW
        rw [Hy.out] at HW'
        have hts := take_snoc' l k (by have := Hn.out; omega)
        have hbs := best_snoc (l.take k) (vt, vw)
        rw [Hv.out] at hts
        rw [← hts, Hy.out] at hbs
        have Ho := Lib.hid (fun w => refolder_calls vt vw yt yw w)
        obtain ⟨z, Hz⟩ : ∃ z, Hid (olderB vt vw yt yw = z) := ⟨_, rfl⟩
        have hne : l.take k ≠ [] := fun e => by have h := congrArg List.length e; have h' := Hn.out; rw [List.length_take, List.length_nil] at h; omega
        rw [if_neg hne, Hz.out] at hbs
        rw [Hz.out] at Ho
        have Hbs2 := Lib.hid hbs
        have KP : Hid (∀ w', Below wr.heap.size wr w' → (Below wr.heap.size wr w' ∧ w'.cell? ⟨b, off + k * 2, none⟩ = some (.int .i64 vt) ∧ w'.cell? ⟨b, off + k * 2 + 1, none⟩ = some (.int .i64 vw) ∧ w'.cell? ⟨w.heap.size + 1, 0, none⟩ = some (.int .i64 yt) ∧ w'.cell? ⟨w.heap.size + 1, 1, none⟩ = some (.int .i64 yw))) :=
          fun w' h => ⟨h, cell_later h d0, cell_later h d1, (HW'.out.later h HW'.out.lt).cell 0, (HW'.out.later h HW'.out.lt).cell 1⟩
        clear c0 c1 d0 d1 hts hbs hne
        go_wp2_with fail
        go_region_held (fun w' => Below wr.heap.size wr w' ∧ w'.cell? ⟨b, off + k * 2, none⟩ = some (.int .i64 vt) ∧ w'.cell? ⟨b, off + k * 2 + 1, none⟩ = some (.int .i64 vw) ∧ w'.cell? ⟨w.heap.size + 1, 0, none⟩ = some (.int .i64 yt) ∧ w'.cell? ⟨w.heap.size + 1, 1, none⟩ = some (.int .i64 yw))
          (first | exact KP.out _ (Below.refl _ _).drew | (refine KP.out _ ?_; assumption))
          (first
            | (go_at_call 9; ((with_reducible refine (Ho.out _).mono ?_); rintro e w2 ⟨rfl, hb2⟩; have hS2 : Below wr.heap.size wr w2 := held_next ((Below.refl _ _).drew) hb2)))
        have HX2 := Lib.hid (HW'.out.later hS2 HW'.out.lt)
        have HZ2 := Lib.hid (HW0.out.later hS2 HW0.out.lt)
        have Hb3 := Lib.hid (below_next Hb.out Hb.out.size hS2)
        obtain ⟨_, d0, d1, e0, e1⟩ := KP.out _ hS2
        have f0 := HX2.out.free 0
        have f1 := HX2.out.free 1
        clear hb2 hS2
        cases z with
        | true =>
          go_wp2_with fail
          go_roundw
          case rel => exact ⟨k + 1, by omega, hlt, by go_num, (Hb3.out.setCell (p := ⟨w.heap.size + 1, 0, none⟩) (by simp) _).setCell (p := ⟨w.heap.size + 1, 1, none⟩) (by simp) _, (HZ2.out.other (by simp) _).other (by simp) _, by rw [Hbs2.out]; exact (HX2.out.set 0 _).set 1 _⟩
          case measure => simp [intOf]; omega
        | false =>
          go_wp2_with fail
          go_roundw
          case rel => exact ⟨k + 1, by omega, hlt, by go_num, Hb3, HZ2, by rw [Hbs2.out]; exact HX2⟩
          case measure => simp [intOf]; omega
      · have hkn : k = n := by omega
        have HW' := HW
        obtain ⟨yt, yw, Hy⟩ : ∃ yt yw, Hid (best (l.take k) = (yt, yw)) := ⟨_, _, rfl⟩
        rw [Hy.out] at HW'
        have e0 : wr.cell? ⟨w.heap.size + 1, 0, none⟩ = some (.int .i64 yt) := HW'.out.cell 0
        have e1 : wr.cell? ⟨w.heap.size + 1, 1, none⟩ = some (.int .i64 yw) := HW'.out.cell 1
        have g0 : wr.cell? ⟨w.heap.size, 0, none⟩ = some (.int .i64 0) := HW0.out.cell 0
        have g1 : wr.cell? ⟨w.heap.size, 1, none⟩ = some (.int .i64 0) := HW0.out.cell 1
        have f0 := HW0.out.free 0
        have f1 := HW0.out.free 1
        have Hkn := Lib.hid hkn; clear hkn
        go_wp2_with fail
        refine bodyPost_ret (v := .tuple #[.agg #[.int .i64 yt, .int .i64 yw], .bool true]) (by simp [results, Try.results15, go_sem, g0, g1]) rfl ⟨?_, ?_⟩
        · rw [Hkn.out, Hn.out, List.take_length] at Hy
          rw [Hy.out, ← Hn.out, decide_eq_true hn0]
        · exact (Hb.out.setCell (p := ⟨w.heap.size, 0, none⟩) (Nat.le_refl _) _).setCell (p := ⟨w.heap.size, 1, none⟩) (Nat.le_refl _) _
end Go.Proofs.Ytblfjekdejndfaa
