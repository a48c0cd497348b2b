/- A line that is full, lengthened: the append as it runs. No law is proved here. -/
import Derived.Test.YtefekkfocogghaaLineWords
import Derived.Test.YtefekkfocogghaaAppFull
namespace Go.Proofs.Ytefekkfocogghaa
open Go.RowKit

theorem info_rq' : (Try.prog.info? 28).map (fun i => (i.zero, i.size, i.bytes)) = some (some (.agg #[.int .i64 0, .int .i64 0, .int .i64 0]), 3, 24) := by kernel_rfl
theorem rqc_one' (x : Rq) (j : Nat) : (rqc x j).oneCell' = true := by unfold rqc; rfl
theorem rq_both' (l k : List Rq) : (fun i j => if i < l.length then rqc (rqAt l i) j else rqc (rqAt k (i - l.length)) j) = fun i j => rqc (rqAt (l ++ k) i) j := by
  funext i j
  by_cases h : i < l.length
  · rw [if_pos h]; unfold rqAt; rw [List.getElem?_append_left h]
  · rw [if_neg h]; unfold rqAt; rw [List.getElem?_append_right (by omega)]
/-- one request in a block of its own is a slice of one -/
theorem one_rq' {w : World} {g : Nat} {x : Rq} (h : Whole w g 28 (rqCells x)) : Line w (.slice (some ⟨g, 0, none⟩) 1 1) [x] := by
  refine ⟨show 1 ≤ 9223372036854775807 by decide, Or.inr ⟨g, 0, 1, rfl, Nat.le_refl _, fun i j hi hj => ?_⟩⟩
  have hi : i < 1 := hi
  obtain rfl : i = 0 := by omega
  have hc := h.cell
  match j, hj with
  | 0, _ => exact hc 0
  | 1, _ => exact hc 1
  | 2, _ => exact hc 2
theorem Line.full {w : World} {a : Option Addr} {m c : Nat} {l : List Rq} (h : Line w (.slice a m c) l) (hm : m = l.length) : Line w (.slice a m m) l := by
  subst hm
  refine ⟨h.1, ?_⟩
  obtain ⟨_, ⟨a0, c0, hv, h0, hl⟩ | ⟨b, off, c0, hv, hn, hcell⟩⟩ := h
  · exact Or.inl ⟨a, l.length, by rw [hl], fun _ => hl, hl⟩
  · simp only [Value.slice.injEq] at hv
    obtain ⟨rfl, _, rfl⟩ := hv
    exact Or.inr ⟨b, off, l.length, rfl, Nat.le_refl _, hcell⟩
/-- the requests behind the first one, where they lie -/
theorem Line.rest {w : World} {b off : Nat} {m c : Nat} {l : List Rq} (h : Line w (.slice (some ⟨b, off, none⟩) m c) l) (hm : m = l.length) (h0 : 0 < m) : Line w (.slice (some ⟨b, off + 3, none⟩) (m - 1) (c - 1)) l.tail := by
  have hc := h.cap
  have hbig := h.big
  refine ⟨by rw [List.length_tail]; omega, ?_⟩
  obtain ⟨_, ⟨a0, c0, hv, _, hl⟩ | ⟨b', off', c0, hv, hn, hcell⟩⟩ := h
  · omega
  · simp only [Value.slice.injEq, Option.some.injEq, Addr.mk.injEq, and_true] at hv
    obtain ⟨⟨rfl, rfl⟩, _, rfl⟩ := hv
    refine Or.inr ⟨b, off + 3, c - 1, by rw [List.length_tail, hm], by rw [List.length_tail]; omega, fun i j hi hj => ?_⟩
    rw [List.length_tail] at hi
    have hx := hcell (i + 1) j (by omega) hj
    rw [show off + 3 + (i * 3 + j) = off + ((i + 1) * 3 + j) by omega, hx]
    show some (rqc (rqAt l (i + 1)) j) = some (rqc (rqAt l.tail i) j)
    rw [rqAt_tail]
theorem run_append_rq {w : World} {A : Option Addr} {n : Nat} {l k : List Rq} (hA : Line w (.slice A n n) l) (hn : n = l.length) {B : Option Addr} {m c : Nat} (hB : Line w (.slice B m c) k) (hm : m = k.length) (h : l.length + k.length ≤ 1000000) :
    ∃ A' C w', (Builtin.append_ #[24, 24] 24 #[.slice A n n, .slice B m c]).run Try.prog w = .ok (.slice A' (n + m) C) w' ∧ n + m ≤ C ∧ Line w' (.slice A' (n + m) C) (l ++ k) ∧ Below w.heap.size w w' ∧ (0 < m → ∀ ad, A' = some ad → w.heap.size ≤ ad.block) := by
  subst hn hm
  obtain ⟨i5, hi, hz0, hz1, hz2⟩ := info_parts info_rq'
  obtain ⟨A', C, w', h1, h2, h3, h4, h5⟩ := run_append_full (P := Try.prog) (w := w) 24 24 28 i5 _ 3 24 Try.underlying24 hi hz0 hz1 hz2 rfl (by decide)
    A l.length _ hA B k.length c _ hB (fun i j _ _ => rqc_one' _ j) (by unfold maxLen; omega) (by omega)
  refine ⟨A', C, w', h1, h2, ?_, h4, h5⟩
  rw [rq_both'] at h3
  show Line w' _ (l ++ k)
  unfold Line
  rw [List.length_append]
  exact h3
end Go.Proofs.Ytefekkfocogghaa
