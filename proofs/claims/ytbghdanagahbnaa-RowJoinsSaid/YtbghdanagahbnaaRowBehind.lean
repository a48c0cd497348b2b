/- Behind, and Same: the loop over two lists, left early. No law is proved here. -/
import Derived.Test.YtbghdanagahbnaaRowIter
namespace Go.Proofs.Ytbghdanagahbnaa
open Go.RowKit Go.Shelf

attribute [local go_sem] Oper.semAt_some

/-- a row: what was put in, what was taken out, what was moved -/
abbrev rowV (i u : Int) (v : Value) : Value := .agg #[.int .i64 i, .int .i64 u, v]
/-- one list is nowhere ahead of another one of as many -/
def leAll (l : List (Int × Int)) : Bool := l.all fun x => decide (x.1 ≤ x.2)
def behindB (i u : Int) (la : List Int) (j v : Int) (lb : List Int) : Bool := decide (la.length = lb.length ∧ i ≤ j ∧ u ≤ v) && leAll (la.zip lb)

theorem leAll_no {l : List (Int × Int)} (x : Int × Int) (h : x ∈ l) (hx : x.2 < x.1) : leAll l = false := by
  unfold leAll
  rw [List.all_eq_false]
  exact ⟨x, h, by simp; omega⟩
theorem leAll_yes {l : List (Int × Int)} (h : ∀ x ∈ l, x.1 ≤ x.2) : leAll l = true := by
  unfold leAll
  rw [List.all_eq_true]
  intro x hx
  exact decide_eq_true (h x hx)
theorem behindB_no {i u j v : Int} {la lb : List Int} (h : ¬ (la.length = lb.length ∧ i ≤ j ∧ u ≤ v)) : behindB i u la j v lb = false := by
  unfold behindB; rw [decide_eq_false h]; rfl
theorem behindB_all {i u j v : Int} {la lb : List Int} (h : la.length = lb.length ∧ i ≤ j ∧ u ≤ v) : behindB i u la j v lb = leAll (la.zip lb) := by
  unfold behindB; rw [decide_eq_true h]; rfl

/-- the result's cell, in a box -/
theorem box_kept {W : World} {B : Nat} {t : TypeId} {v : Value} (h : Boxed W B t v) {X : World} {row : Option Nat} (hg : W.grownBy X row) (hr : ∀ r, row = some r → ∃ o : Obj, W.heap[r]? = some o ∧ o.isCells = false) : Boxed X B t v :=
  h.kept hg (fun e' => by obtain ⟨o, ho, hc⟩ := hr B e'.symm; rw [show W.heap[B]? = _ from h] at ho; cases ho; cases hc)

section
variable (a : Option Addr) (n c : Nat) (b : Option Addr) (m d : Nat) (i u j v : Int) (la lb : List Int) (hn : n = la.length) (hm : m = lb.length) (w : World) (hA : Nums w (.slice a n c) la) (hB : Nums w (.slice b m d) lb)
include hn hm hA hB

set_option maxHeartbeats 1000000 in
theorem behind_no (h : ¬ (n = m ∧ i ≤ j ∧ u ≤ v)) : Calls Try.prog 10 #[rowV i u (.slice a n c), rowV j v (.slice b m d)] w (Says w false) := by
  have hbig : n ≤ 9223372036854775807 := by rw [hn]; exact hA.1
  have hbig2 : m ≤ 9223372036854775807 := by rw [hm]; exact hB.1
  clear hn hm hA hB
  by_cases h1 : n = m
  · obtain rfl := h1
    by_cases h2 : j < i
    · clear h
      go_enter Try.func10, Try.ntmps10
      go_wp2
      refine bodyPost_ret (v := .bool false) (by simp [results, Try.results10, go_sem]) rfl ⟨rfl, ?_⟩
      exact ((below_two w _ _).alloc (by simp; omega) _)
    · have h3 : v < u := by omega
      clear h
      go_enter Try.func10, Try.ntmps10
      go_wp2
      refine bodyPost_ret (v := .bool false) (by simp [results, Try.results10, go_sem]) rfl ⟨rfl, ?_⟩
      exact ((below_two w _ _).alloc (by simp; omega) _)
  · clear h
    have h1' : ((n : Int) != (m : Int)) = true := by simp; omega
    go_enter Try.func10, Try.ntmps10
    go_wp2
    refine bodyPost_ret (v := .bool false) (by simp [results, Try.results10, go_sem]) rfl ⟨rfl, ?_⟩
    exact ((below_two w _ _).alloc (by simp; omega) _)
end

set_option maxRecDepth 100000 in
set_option maxHeartbeats 2000000 in
theorem behind_loop (F : Fence) (N : Nat) (hf : ∀ k, F.fn k) (hro : F.round = none) (hN : 3 ≤ N) (a : Option Addr) (n c : Nat) (b : Option Addr) (d : Nat) (i u j v : Int) (la lb : List Int) (hn : n = la.length) (hm : n = lb.length) (w : World) (hA : Nums w (.slice a n c) la) (hB : Nums w (.slice b n d) lb)
    (hi : i ≤ j) (hu : u ≤ v) : CallsIn F N Try.prog 10 #[rowV i u (.slice a n c), rowV j v (.slice b n d)] w (Says w (leAll (la.zip lb))) := by
  have hbig : n ≤ 9223372036854775807 := by rw [hn]; exact hA.1
  have h1 : 1 ≤ N := by omega
  have HA := Lib.hid hA; clear hA
  have HB := Lib.hid hB; clear hB
  have Hn := Lib.hid hn; clear hn
  have Hm := Lib.hid hm; clear hm
  refine callsIn_of_wp_marks Try.func10 rfl (hf _) ?_ hro
  simp only [Try.ntmps10, List.size_toArray, List.length_cons, List.length_nil, Nat.reduceAdd, Nat.reduceSub, Array.replicate_succ, Array.replicate_zero, List.push_toArray, List.append_toArray, List.nil_append, List.cons_append]
  gi_wp2_with (gi_at_call 15; refine (pairs_in F (N - 1) (hf _) hro _ _ _ _ _ _ _).mono ?_; rintro e w' ⟨rfl, rfl⟩)
  have c2 := Boxed.new ((w.alloc (.cells #[.int .i64 i, .int .i64 u, .slice a n c] 24)).alloc (.cells #[.int .i64 j, .int .i64 v, .slice b n d] 24)) 4 (.bool false)
  obtain ⟨w3, hw3⟩ : ∃ w3, ((w.alloc (.cells #[.int .i64 i, .int .i64 u, .slice a n c] 24)).alloc (.cells #[.int .i64 j, .int .i64 v, .slice b n d] 24)).alloc (.cells #[.bool false] 4) = w3 := ⟨_, rfl⟩
  have hs3 : w3.heap.size = w.heap.size + 1 + 1 + 1 := by rw [← hw3]; simp
  have hb3 : Below w.heap.size w w3 := by rw [← hw3]; exact (below_two w _ _).alloc (by simp; omega) _
  simp only [World.size_alloc] at c2
  rw [hw3] at c2 ⊢
  clear hw3
  have bA := Boxed.new w3 22 (.slice a n c)
  have bB := Boxed.new (w3.alloc (.cells #[.slice a n c] 22)) 22 (.slice b n d)
  rw [World.size_alloc] at bB
  rw [hs3] at bA bB
  have hB0 : Below w.heap.size w ((w3.alloc (.cells #[.slice a n c] 22)).alloc (.cells #[.slice b n d] 22)) := (hb3.alloc (by omega) _).alloc (by simp; omega) _
  refine wpIn_rangeFunc_ownG hro h1 (gf := 18) (lb := #[.pointer (some ⟨w.heap.size + 1 + 1 + 1, 0, none⟩), .pointer (some ⟨w.heap.size + 1 + 1 + 1 + 1, 0, none⟩)]) rfl (hf _) (enters_of Try.func18 (by kernel_rfl) rfl)
    (pairs_stops F (N - 1) (hf _) hro (by omega) (w.heap.size + 1 + 1 + 1) (w.heap.size + 1 + 1 + 1 + 1) w a b n c d la lb Hn.out Hm.out HA.out HB.out _ hB0 (bA.alloc _) bB) kept_trans (kept_put (by simp; omega) (by simp; omega)) (Below.refl _ _) (fun _ => rfl)
    (fun pre W => ((∀ x ∈ pre, x.1 ≤ x.2) ∧ Boxed W (w.heap.size + 1 + 1) 4 (.bool false)) ∧ Below w.heap.size w W)
    (fun cd pre W => (cd = .ret ∧ (∃ x ∈ pre, x.2 < x.1) ∧ Boxed W (w.heap.size + 1 + 1) 4 (.bool false)) ∧ Below w.heap.size w W)
    (OwnFrom.and (Own.from (fun s A B row hs hg hr => ⟨hs.1, box_kept hs.2 hg hr⟩) _) (ownFrom_below (Nat.le_refl _) (by simp; omega)))
    (fun cd => OwnFrom.and (Own.from (fun s A B row hs hg hr => ⟨hs.1, hs.2.1, box_kept hs.2.2 hg hr⟩) _) (ownFrom_below (Nat.le_refl _) (by simp; omega)))
    ⟨⟨by simp, (c2.alloc _).alloc _⟩, hB0⟩
    ?a1 ?assign ?body ?done ?stop
  case assign =>
    intro l x W K hK
    gi_wp2
    exact hK
  case body =>
    rintro l pre x W ⟨⟨hp, hr⟩, hB⟩ _
    have hc := hr.cell
    have hfz := hr.frozen
    gi_wp2
    · have hx : x.2 < x.1 := by assumption
      exact ⟨(KeepsOthers.setCell _ _ _).from _, ⟨rfl, ⟨x, by simp, hx⟩, hr.set _⟩, hB.setCell (p := ⟨w.heap.size + 1 + 1, 0, none⟩) (by simp; omega) _⟩
    · have hx : x.1 ≤ x.2 := by assumption
      exact ⟨KeepsFrom.refl _ _, kept_refl _ _ _, ⟨fun y hy => (List.mem_append.1 hy).elim (hp y) (fun e => by simp at e; subst e; exact hx), hr⟩, hB⟩
  case done =>
    rintro D ys W hD rfl ⟨⟨hp, hr⟩, hB⟩ hK
    have hc := hr.cell
    have hfz := hr.frozen
    gi_wp2
    have hK' := (KeepsOthers.setCell W ⟨w.heap.size + 1 + 1, 0, none⟩ (.bool true)).same D _ hK rfl
    refine ⟨by simp, .inl ⟨_, _, rfl, run_takeDeferred hK', ?_⟩⟩
    have hc5 := cell_kept (hr.set (.bool true)).cell (grownBy_putObj' _ D (.deferred none)) (fun r e => by cases e; exact ⟨_, hK', rfl⟩)
    refine ⟨.bool true, ?_, by rw [leAll_yes hp], (hB.setCell (p := ⟨w.heap.size + 1 + 1, 0, none⟩) (by simp; omega) _).trans (belowK_b (w := w) (Nat.le_refl _) _ D _ _ (by simp at hD; omega) hK' rfl rfl)⟩
    simp [results, Try.f10, go_sem, hc5]
  case stop =>
    rintro D cd pre W hD ⟨k, hk, rfl⟩ ⟨⟨rfl, ⟨x, hx, hlt⟩, hr⟩, hB⟩ hK
    gi_wp2
    refine ⟨by simp, .inl ⟨_, _, rfl, run_takeDeferred hK, ?_⟩⟩
    have hc5 := cell_kept hr.cell (grownBy_putObj' _ D (.deferred none)) (fun r e => by cases e; exact ⟨_, hK, rfl⟩)
    refine ⟨.bool false, ?_, by rw [leAll_no x (List.mem_of_mem_take hx) hlt], hB.trans (belowK_b (w := w) (Nat.le_refl _) W D _ _ (by simp at hD; omega) hK rfl rfl)⟩
    simp [results, Try.f10, go_sem, hc5]

theorem behind_calls (a : Option Addr) (n c : Nat) (b : Option Addr) (m d : Nat) (i u j v : Int) (la lb : List Int) (hn : n = la.length) (hm : m = lb.length) (w : World) (hA : Nums w (.slice a n c) la) (hB : Nums w (.slice b m d) lb) :
    Calls Try.prog 10 #[rowV i u (.slice a n c), rowV j v (.slice b m d)] w (Says w (behindB i u la j v lb)) := by
  by_cases h : n = m ∧ i ≤ j ∧ u ≤ v
  · obtain ⟨rfl, hi, hu⟩ := h
    rw [behindB_all ⟨by rw [← hn, ← hm], hi, hu⟩]
    exact (callsIn_wide (n := 9)).1 (behind_loop Fence.wide 9 (fun _ => trivial) rfl (by decide) a n c b d i u j v la lb hn hm w hA hB hi hu)
  · rw [behindB_no (by rw [← hn, ← hm]; exact h)]
    exact behind_no a n c b m d i u j v la lb hn hm w hA hB h
end Go.Proofs.Ytbghdanagahbnaa
