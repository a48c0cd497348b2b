/- The document's own Join. No law is proved here. -/
import Derived.Test.YtlhfggnnikmikaaRowWorld
import Derived.Lib.MinMax
import Derived.LoopTactic
import Derived.BigRegion
namespace Go.Proofs.Ytlhfggnnikmikaa
open Go.RowKit

attribute [local go_sem ↓] run_fine

set_option maxRecDepth 100000 in
set_option maxHeartbeats 2000000 in
theorem refjoin_own (a : Option Addr) (n c : Nat) (b : Option Addr) (d : Nat) (i u j v : Int) (la lb : List Int) (hn : n = la.length) (hm : n = lb.length) (w : World) (hA : Nums w (.slice a n c) la) (hB : Nums w (.slice b n d) lb)
    (hle : n ≤ 1000000) : Calls Try.prog 44 #[rowV i u (.slice a n c), rowV j v (.slice b n d)] w (JoinedO w n (max i j) (max u v) (joinL la lb)) := by
  have hbig : n ≤ 9223372036854775807 := by omega
  have HA := Lib.hid hA; clear hA
  have HB := Lib.hid hB; clear hB
  have Hn := Lib.hid hn; clear hn
  have Hm := Lib.hid hm; clear hm
  obtain ⟨w3, Hw3⟩ : ∃ w3, Hid (((w.alloc (.cells #[.int .i64 i, .int .i64 u, .slice a n c] 49)).alloc (.cells #[.int .i64 j, .int .i64 v, .slice b n d] 49)).alloc (.cells #[.int .i64 0, .int .i64 0, .slice none 0 0] 49) = w3) := ⟨_, rfl⟩
  have HWA : Hid (Whole w3 w.heap.size 49 #[.int .i64 i, .int .i64 u, .slice a n c]) := by rw [← Hw3.out]; exact (((Whole.made w 49 #[.int .i64 i, .int .i64 u, .slice a n c]).alloc (.cells #[.int .i64 j, .int .i64 v, .slice b n d] 49)).alloc (.cells #[.int .i64 0, .int .i64 0, .slice none 0 0] 49))
  have HWB : Hid (Whole w3 (w.heap.size + 1) 49 #[.int .i64 j, .int .i64 v, .slice b n d]) := by rw [← Hw3.out]; exact ((Whole.made2 w (.cells #[.int .i64 i, .int .i64 u, .slice a n c] 49) 49 #[.int .i64 j, .int .i64 v, .slice b n d]).alloc (.cells #[.int .i64 0, .int .i64 0, .slice none 0 0] 49))
  have HWC : Hid (Whole w3 (w.heap.size + 1 + 1) 49 #[.int .i64 0, .int .i64 0, .slice none 0 0]) := by rw [← Hw3.out]; exact (Whole.madeAt ((w.alloc (.cells #[.int .i64 i, .int .i64 u, .slice a n c] 49)).alloc (.cells #[.int .i64 j, .int .i64 v, .slice b n d] 49)) 49 #[.int .i64 0, .int .i64 0, .slice none 0 0] (w.heap.size + 1 + 1) (by simp))
  have Hb3 : Hid (Below w.heap.size w w3) := by rw [← Hw3.out]; exact ((below_two w (.cells #[.int .i64 i, .int .i64 u, .slice a n c] 49) (.cells #[.int .i64 j, .int .i64 v, .slice b n d] 49)).alloc (by simp; omega) (.cells #[.int .i64 0, .int .i64 0, .slice none 0 0] 49))
  have hs3 : w3.heap.size = w.heap.size + 1 + 1 + 1 := by rw [← Hw3.out]; simp
  have Hs3 := Lib.hid hs3; clear hs3
  obtain ⟨i0, hi, hz0, hz1, hz2⟩ := info_parts info_int64
  have Hi := Lib.hid hi; clear hi
  have Hz0 := Lib.hid hz0; clear hz0
  have Hz1 := Lib.hid hz1; clear hz1
  have Hz2 := Lib.hid hz2; clear hz2
  have HG : Hid (Whole (w3.alloc (.cells #[.int .i64 (max i j), .int .i64 (max u v), .slice none 0 0] 49)) (w.heap.size + 1 + 1 + 1) 49 #[.int .i64 (max i j), .int .i64 (max u v), .slice none 0 0]) := Whole.madeAt _ _ _ _ Hs3.out.symm
  go_enter Try.func44, Try.ntmps44
  go_wp2_with fail
  rw [Hw3.out]
  go_loopw [7] (fun x wr => ∃ k : Nat, k ≤ n ∧ x = .int .i64 k ∧ Hid (Below w.heap.size w wr) ∧ Hid (Whole wr w.heap.size 49 #[.int .i64 i, .int .i64 u, .slice a n c]) ∧ Hid (Whole wr (w.heap.size + 1) 49 #[.int .i64 j, .int .i64 v, .slice b n d]) ∧
    Hid (Whole wr (w.heap.size + 1 + 1) 49 #[.int .i64 0, .int .i64 0, .slice none 0 0]) ∧ Hid (∃ sv, Whole wr (w.heap.size + 1 + 1 + 1) 49 #[.int .i64 (max i j), .int .i64 (max u v), sv] ∧ wr.ownsRow (w.heap.size + 1 + 1) 2 1 sv k (flatCells 1 k (fun q _ => .int .i64 ((joinL la lb)[q]?.getD 0))))) (fun x _ => n - (intOf x).toNat)
  case atStart => exact ⟨0, Nat.zero_le _, rfl, Hb3.out.alloc Hb3.out.size _, HWA.out.alloc _, HWB.out.alloc _, HWC.out.alloc _, _, HG.out, World.ownsRow_nil _ _ _ _⟩
  case round =>
    obtain ⟨k, hk, rfl, Hb, HWa, HWb, HWc, HGr⟩ := hrel
    obtain ⟨sv, hGw, hrow⟩ := HGr.out
    clear HWA HWB HWC HG HGr Hw3
    have a2 : wr.cell? ⟨w.heap.size, 2, none⟩ = some (.slice a n c) := HWa.out.cell 2
    have b2 : wr.cell? ⟨w.heap.size + 1, 2, none⟩ = some (.slice b n d) := HWb.out.cell 2
    have e2 : wr.cell? ⟨w.heap.size + 1 + 1 + 1, 2, none⟩ = some sv := hGw.cell 2
    have hGlt := hGw.lt
    have HGw := Lib.hid hGw
    have Hrow := Lib.hid hrow
    clear hGw hrow
    by_cases hlt : k < n
    · obtain ⟨ba, oa, rfl, _, c0⟩ := HA.out.at (i := k) (by have := Hn.out; omega)
      obtain ⟨bb, ob, rfl, _, c1⟩ := HB.out.at (i := k) (by have := Hm.out; omega)
      have d0 := cell_later Hb.out c0
      have d1 := cell_later Hb.out c1
      clear c0 c1
      obtain ⟨x, Hx⟩ : ∃ x, Hid (la[k]?.getD 0 = x) := ⟨_, rfl⟩
      obtain ⟨y, Hy⟩ : ∃ y, Hid (lb[k]?.getD 0 = y) := ⟨_, rfl⟩
      rw [Hx.out] at d0
      rw [Hy.out] at d1
      have Hxy : Hid ((joinL la lb)[k]?.getD 0 = max x y) := by
        have := joinL_at (la := la) (lb := lb) (by rw [← Hn.out, ← Hm.out]) (k := k) (by have := Hn.out; omega)
        rw [Hx.out, Hy.out] at this; exact this
      have k0 : (0 : Int) ≤ (k : Int) := by omega
      have k1 : (k : Int) < (n : Int) := by omega
      have hn2 : w.heap.size + 1 + 1 ≤ wr.heap.size := by omega
      have HO : Hid (∀ W, Below wr.heap.size wr W → W.ownsRow (w.heap.size + 1 + 1) 2 1 sv k (flatCells 1 k (fun q _ => .int .i64 ((joinL la lb)[q]?.getD 0)))) := fun W h => own_later Hrow.out h
      have HP : Hid (∀ W v' w1, Below wr.heap.size wr W → w1.ownsRow (w.heap.size + 1 + 1) 2 1 v' (k + 1) (flatCells 1 (k + 1) (fun i' j' => if i' < k then (fun q _ => Value.int .i64 ((joinL la lb)[q]?.getD 0)) i' j' else (fun _ _ => Value.int .i64 (max x y)) (i' - k) j')) → Below (w.heap.size + 1 + 1) W w1 → Grew W w1 sv v' →
          (∃ A C, v' = .slice A (k + 1) C) ∧ Whole w1 (w.heap.size + 1 + 1 + 1) 49 #[.int .i64 (max i j), .int .i64 (max u v), sv] ∧ Whole w1 (w.heap.size + 1 + 1) 49 #[.int .i64 0, .int .i64 0, .slice none 0 0] ∧
          w1.ownsRow (w.heap.size + 1 + 1) 2 1 v' (k + 1) (flatCells 1 (k + 1) (fun q _ => .int .i64 ((joinL la lb)[q]?.getD 0))) ∧ Below (w.heap.size + 1 + 1) wr w1) := by
        intro W v' w1 h1 h2 h3 h4
        rw [flat_push (f := fun q _ => Value.int .i64 ((joinL la lb)[q]?.getD 0)) (g := fun _ _ => Value.int .i64 (max x y)) (by show Value.int .i64 (max x y) = Value.int .i64 _; rw [Hxy.out])] at h2
        obtain ⟨A', C', hv, _, _⟩ := elems_of_own h2 (by omega)
        exact ⟨⟨A', C', hv⟩, (h4.whole (HGw.out.later h1 HGw.out.lt) (fun e => (HGw.out.not_row (by decide) Hrow.out) e.symm)).1, (h4.whole (HWc.out.later h1 HWc.out.lt) (fun e => (HWc.out.not_row (by decide) Hrow.out) e.symm)).1, h2, (h1.mono hn2).trans h3⟩
      obtain ⟨v', w1, hrun, q1, q2, q3⟩ := run_append_elems (P := Try.prog) (w := (wr.alloc (.cells #[.int .i64 (max x y)] 2)).drew) 47 47 (w.heap.size + 1 + 1) 2 i0 _ 1 8 Try.underlying47 Hi.out Hz0.out Hz1.out Hz2.out rfl (by decide) sv k _ (HO.out _ (below_box _ _).drew) (some ⟨wr.heap.size, 0, none⟩) 1 1
        (fun _ _ => .int .i64 (max x y)) (one_num (Whole.madeAt _ _ _ _ rfl).drew) (fun _ _ _ _ => rfl) (by unfold maxLen; omega) (by omega) (by simp; omega)
      obtain ⟨⟨A', C', rfl⟩, hq3, hq4, hq5, hq1⟩ := HP.out _ _ _ (below_box _ _).drew q1 q2 q3
      have hc5 : w1.cell? ⟨w.heap.size + 1 + 1 + 1, 2, none⟩ = some sv := hq3.cell 2
      have hf5 := hq3.free 2
      have hfine : Fine Try.prog (wr.alloc (.cells #[.int .i64 (max x y)] 2)).drew #[47, 47] 47 #[sv, .slice (some ⟨wr.heap.size, 0, none⟩) 1 1] := ⟨_, _, hrun⟩
      have happV : appV Try.prog (wr.alloc (.cells #[.int .i64 (max x y)] 2)).drew #[47, 47] 47 #[sv, .slice (some ⟨wr.heap.size, 0, none⟩) 1 1] = .slice A' (k + 1) C' := by unfold appV; rw [hrun]; rfl
      have happW : appW Try.prog (wr.alloc (.cells #[.int .i64 (max x y)] 2)).drew #[47, 47] 47 #[sv, .slice (some ⟨wr.heap.size, 0, none⟩) 1 1] = w1 := by unfold appW; rw [hrun]; rfl
      clear q1 q2 q3 hrun
      have Hq3 := Lib.hid hq3
      have Hq4 := Lib.hid hq4
      have Hq5 := Lib.hid hq5
      have Hq1 := Lib.hid hq1
      clear hq3 hq4 hq5 hq1
      go_wp2
      go_region
      go_wp2
      go_roundw
      case rel => exact ⟨k + 1, by omega, by go_num, (Hb.out.trans (Hq1.out.mono (by omega))).setCell (p := ⟨w.heap.size + 1 + 1 + 1, 2, none⟩) (by simp; omega) _, (HWa.out.later Hq1.out (by omega)).other (by simp; omega) _, (HWb.out.later Hq1.out (by omega)).other (by simp) _, Hq4.out.other (by simp) _,
        _, by simpa using Hq3.out.set 2 (.slice A' (k + 1) C'), Hq5.out.kept (grownBy_set w1 _ _) (.inr (Hq3.out.not_row (by decide) Hq5.out).symm)⟩
      case measure => simp [intOf]; omega
    · have hkn : k = n := by omega
      have Hkn := Lib.hid hkn; clear hkn
      have hlj : (joinL la lb).length = n := by rw [joinL_length (by rw [← Hn.out, ← Hm.out]), ← Hn.out]
      have hK := ((Hrow.out.kept (grownBy_set wr ⟨w.heap.size + 1 + 1, 0, none⟩ (.int .i64 (max i j))) (.inr (HWc.out.not_row (by decide) Hrow.out).symm)).kept (grownBy_set _ ⟨w.heap.size + 1 + 1, 1, none⟩ (.int .i64 (max u v))) (.inr (HWc.out.not_row (by decide) Hrow.out).symm)).kept (grownBy_set _ ⟨w.heap.size + 1 + 1, 2, none⟩ sv) (.inr (HWc.out.not_row (by decide) Hrow.out).symm)
      obtain ⟨A, C, rfl, _, _⟩ := elems_of_own hK (by omega)
      have hE' : (((wr.setCell ⟨w.heap.size + 1 + 1, 0, none⟩ (.int .i64 (max i j))).setCell ⟨w.heap.size + 1 + 1, 1, none⟩ (.int .i64 (max u v))).setCell ⟨w.heap.size + 1 + 1, 2, none⟩ (.slice A k C)).ownsRow w.heap.size 2 1 (.slice A k C) k ((joinL la lb).map (Value.int .i64)) := by
        rw [flat_one, hlj, ← Hkn.out]
        exact own_base hK (by omega)
      rw [Hkn.out] at hE'
      have HE := Lib.hid hE'
      rw [Hkn.out] at e2
      have g0 : wr.cell? ⟨w.heap.size + 1 + 1 + 1, 0, none⟩ = some (.int .i64 (max i j)) := HGw.out.cell 0
      have g1 : wr.cell? ⟨w.heap.size + 1 + 1 + 1, 1, none⟩ = some (.int .i64 (max u v)) := HGw.out.cell 1
      obtain ⟨z0, z1, z2⟩ := row_cells HWc.out
      have y0 := HWc.out.free 0
      have y1 := HWc.out.free 1
      have y2 := HWc.out.free 2
      clear hE' hlj hK
      go_wp2
      refine bodyPost_ret (v := .tuple #[rowV (max i j) (max u v) (.slice A n C), .bool true]) (by simp [results, Try.results44, go_sem, z0, z1, z2]) rfl ⟨A, C, rfl, HE.out, ?_⟩
      exact ((Hb.out.setCell (p := ⟨w.heap.size + 1 + 1, 0, none⟩) (by simp; omega) _).setCell (p := ⟨w.heap.size + 1 + 1, 1, none⟩) (by simp; omega) _).setCell (p := ⟨w.heap.size + 1 + 1, 2, none⟩) (by simp; omega) _

theorem refjoin_loop (a : Option Addr) (n c : Nat) (b : Option Addr) (d : Nat) (i u j v : Int) (la lb : List Int) (hn : n = la.length) (hm : n = lb.length) (w : World) (hA : Nums w (.slice a n c) la) (hB : Nums w (.slice b n d) lb)
    (hle : n ≤ 1000000) : Calls Try.prog 44 #[rowV i u (.slice a n c), rowV j v (.slice b n d)] w (Joined w n (max i j) (max u v) (joinL la lb)) :=
  (refjoin_own a n c b d i u j v la lb hn hm w hA hB hle).mono fun _ _ h => h.joined (by omega)

set_option maxHeartbeats 1000000 in
theorem refjoin_no (a : Option Addr) (n c : Nat) (b : Option Addr) (m d : Nat) (i u j v : Int) (w : World) (hne : n ≠ m) :
    Calls Try.prog 44 #[rowV i u (.slice a n c), rowV j v (.slice b m d)] w (Apart w) := by
  have h1' : ((n : Int) != (m : Int)) = true := by simp; omega
  go_enter Try.func44, Try.ntmps44
  go_wp2
  exact bodyPost_ret (v := .tuple #[rowV 0 0 (.slice none 0 0), .bool false]) (by simp [results, Try.results44, go_sem]) rfl ⟨rfl, (below_two w _ _).alloc (by simp; omega) _⟩
end Go.Proofs.Ytlhfggnnikmikaa
