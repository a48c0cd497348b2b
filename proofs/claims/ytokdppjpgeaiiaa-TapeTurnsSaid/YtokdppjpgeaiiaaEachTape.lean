/- What the calls, the allocs and the stores of a region that draws its order leave of bytes, areas and tapes. No law is proved here. -/
import Derived.Test.YtokdppjpgeaiiaaEach
import Derived.Test.YtokdppjpgeaiiaaRefTapeLose
import Derived.Test.YtokdppjpgeaiiaaOwnBytes
import Derived.ArgAppend
namespace Go.Proofs.Ytokdppjpgeaiiaa
open Go.ChangeShapes Go.WideShapes Go.ChangeAt Go.RowKit

/-- bytes, an area, a tape that a call answered; where the box g is there, they don't lie in it -/
def RSo (w : World) (o : Bool) (g : Nat) (v : Value) (zs : List Int) : Prop := ∃ s : Sl, v = slV s ∧ SB w s zs ∧ (o = true → Off g s zs)
def RAo (w : World) (o : Bool) (g : Nat) (v : Value) (a : Ar) : Prop := ∃ s : ArS, v = arV s ∧ AB w s a ∧ (o = true → AOff g s a)
def RTo (w : World) (o : Bool) (g : Nat) (v : Value) (t : Tp) : Prop := ∃ s : TpS, v = tpV s ∧ TB w s t ∧ (o = true → TOff g s t)
theorem RSo.later {w w' : World} {o : Bool} {g : Nat} {v : Value} {zs : List Int} (h : RSo w o g v zs) (hb : Below w.heap.size w w') : RSo w' o g v zs := by
  obtain ⟨s, h1, h2, h3⟩ := h
  exact ⟨s, h1, h2.later hb, h3⟩
theorem RAo.later {w w' : World} {o : Bool} {g : Nat} {v : Value} {a : Ar} (h : RAo w o g v a) (hb : Below w.heap.size w w') : RAo w' o g v a := by
  obtain ⟨s, h1, h2, h3⟩ := h
  exact ⟨s, h1, h2.later hb, h3⟩
theorem RTo.later {w w' : World} {o : Bool} {g : Nat} {v : Value} {t : Tp} (h : RTo w o g v t) (hb : Below w.heap.size w w') : RTo w' o g v t := by
  obtain ⟨s, h1, h2, h3⟩ := h
  exact ⟨s, h1, h2.later hb, h3⟩
theorem RSo.made {w w' : World} {o : Bool} {g : Nat} {v : Value} {zs : List Int} (h : RSo w o g v zs) (hb : Below w.heap.size w w') : RSo w' true w.heap.size v zs := by
  obtain ⟨s, h1, h2, h3⟩ := h
  exact ⟨s, h1, h2.later hb, fun _ => h2.off (Nat.le_refl _)⟩
theorem RAo.made {w w' : World} {o : Bool} {g : Nat} {v : Value} {a : Ar} (h : RAo w o g v a) (hb : Below w.heap.size w w') : RAo w' true w.heap.size v a := by
  obtain ⟨s, h1, h2, h3⟩ := h
  exact ⟨s, h1, h2.later hb, fun _ => h2.off (Nat.le_refl _)⟩
theorem RTo.made {w w' : World} {o : Bool} {g : Nat} {v : Value} {t : Tp} (h : RTo w o g v t) (hb : Below w.heap.size w w') : RTo w' true w.heap.size v t := by
  obtain ⟨s, h1, h2, h3⟩ := h
  exact ⟨s, h1, h2.later hb, fun _ => h2.off (Nat.le_refl _)⟩
theorem AB.four {w1 : World} {g : Nat} {x : ArS} {a : Ar} (h : AB w1 x a) (hg : AOff g x a) (x0 x1 x2 x3 : Value) : AB ((((w1.setCell ⟨g, 0, none⟩ x0).setCell ⟨g, 1, none⟩ x1).setCell ⟨g, 2, none⟩ x2).setCell ⟨g, 3, none⟩ x3) x a :=
  ⟨h.1.four hg.1 _ _ _ _, h.2.four hg.2 _ _ _ _⟩
theorem RSo.store {w : World} {g : Nat} {v : Value} {zs : List Int} {o : Bool} (h : RSo w o g v zs) (ho : o = true) (x0 x1 x2 x3 : Value) : RSo ((((w.setCell ⟨g, 0, none⟩ x0).setCell ⟨g, 1, none⟩ x1).setCell ⟨g, 2, none⟩ x2).setCell ⟨g, 3, none⟩ x3) o g v zs := by
  obtain ⟨s, h1, h2, h3⟩ := h
  exact ⟨s, h1, h2.four (h3 ho) _ _ _ _, h3⟩
theorem RAo.store {w : World} {g : Nat} {v : Value} {a : Ar} {o : Bool} (h : RAo w o g v a) (ho : o = true) (x0 x1 x2 x3 : Value) : RAo ((((w.setCell ⟨g, 0, none⟩ x0).setCell ⟨g, 1, none⟩ x1).setCell ⟨g, 2, none⟩ x2).setCell ⟨g, 3, none⟩ x3) o g v a := by
  obtain ⟨s, h1, h2, h3⟩ := h
  exact ⟨s, h1, h2.four (h3 ho) _ _ _ _, h3⟩
theorem RTo.store {w : World} {g : Nat} {v : Value} {t : Tp} {o : Bool} (h : RTo w o g v t) (ho : o = true) (x0 x1 x2 x3 : Value) : RTo ((((w.setCell ⟨g, 0, none⟩ x0).setCell ⟨g, 1, none⟩ x1).setCell ⟨g, 2, none⟩ x2).setCell ⟨g, 3, none⟩ x3) o g v t := by
  obtain ⟨s, h1, h2, h3⟩ := h
  exact ⟨s, h1, h2.four (h3 ho) _ _ _ _, h3⟩
/-- a box of the call's own: behind its store it holds the tape -/
def BoxO (w : World) (B : Nat) (o st : Bool) (g : Nat) (v : Value) (t : Tp) : Prop :=
  v = .pointer (some ⟨g, 0, none⟩) ∧ B ≤ g ∧ g < w.heap.size ∧ ∃ v0 v1 v2 v3, Whole w g 26 #[v0, v1, v2, v3] ∧ (st = true → RTo w o g (.agg #[v0, v1, v2, v3]) t)
theorem BoxO.later {w w' : World} {B : Nat} {o st : Bool} {g : Nat} {v : Value} {t : Tp} (h : BoxO w B o st g v t) (hb : Below w.heap.size w w') : BoxO w' B o st g v t := by
  obtain ⟨h1, h2, h3, v0, v1, v2, v3, hw, hr⟩ := h
  exact ⟨h1, h2, Nat.lt_of_lt_of_le h3 hb.size, v0, v1, v2, v3, hw.later hb h3, fun h => (hr h).later hb⟩
/-- A COPY OF BYTES, an append to what is empty: as it runs -/
theorem run_bytes_copy (w : World) (g : Nat) {a : Option Addr} {n c : Nat} {ys : List Int} (hB : Bytes w (.slice a n c) ys) (hn : n = ys.length) (hroom : ys.length ≤ 140737488355300) :
    ∃ (s : Sl) (w' : World), (Builtin.append_ #[22, 22] 22 #[.slice (some ⟨g, 0, none⟩) 0 0, .slice a n c]).run Try.prog w = .ok (slV s) w' ∧ SB w' s ys ∧ Below w.heap.size w w' ∧ ∀ k, k < w.heap.size → Off k s ys := by
  obtain ⟨i5, hi, hz0, hz1, hz2⟩ := info_parts info_u8
  obtain ⟨hb, hsm, ⟨a0, c0, hv, h0, rfl⟩ | ⟨b, off, c0, hv, hc⟩⟩ := hB
  · simp only [Value.slice.injEq] at hv
    obtain ⟨rfl, rfl, rfl⟩ := hv
    refine ⟨⟨some ⟨g, 0, none⟩, 0, 0⟩, w, ?_, ⟨rfl, Nat.le_refl _, bytes_nil _ _ _ (fun h => by cases h)⟩, Below.refl _ _, fun k _ => Or.inl rfl⟩
    cases a with
    | none =>
      obtain rfl := h0 rfl
      simp [Builtin.append_, run_underlying Try.underlying22, sizeOf, typeInfo, hi, Builtin.lenOf, Builtin.firstCells, storeCells]
    | some ad =>
      have := run_append_room_cells (P := Try.prog) w 22 22 5 i5 Try.underlying22 hi g 0 0 0 ad 0 c [] (by simp) (fun j u h => by simp at h) (fun u h => by cases h) (Nat.le_refl _) (fun j h => by simp at h) (fun j h => by simp at h)
      simpa [World.setCells] using this
  · simp only [Value.slice.injEq] at hv
    obtain ⟨rfl, hnl, rfl⟩ := hv
    by_cases hy : ys = []
    · subst hy
      obtain rfl : n = 0 := hn
      refine ⟨⟨some ⟨g, 0, none⟩, 0, 0⟩, w, ?_, ⟨rfl, Nat.le_refl _, bytes_nil _ _ _ (fun h => by cases h)⟩, Below.refl _ _, fun k _ => Or.inl rfl⟩
      have := run_append_room_cells (P := Try.prog) w 22 22 5 i5 Try.underlying22 hi g 0 0 0 ⟨b, off, none⟩ 0 c [] (by simp) (fun j u h => by simp at h) (fun u h => by cases h) (Nat.le_refl _) (fun j h => by simp at h) (fun j h => by simp at h)
      simpa [World.setCells] using this
    · have hl : 0 < ys.length := List.length_pos_iff.2 hy
      obtain ⟨v', w', hrun, h1, h2⟩ := run_append_arg_grows (P := Try.prog) w 22 22 5 i5 (.int .u8 0) 1 1 Try.underlying22 hi hz0 hz1 hz2 rfl (by decide) ⟨g, 0, none⟩ 0 0 [] rfl (fun j u h => by simp at h)
        ⟨b, off, none⟩ n c (ys.map (Value.int .u8)) (by rw [List.length_map, hn, Nat.mul_one]) (fun j u h => by
          have hj : j < ys.length := by have := (List.getElem?_eq_some_iff.1 h).1; simpa using this
          rw [add_plain, hc j hj]
          simpa [hj, List.getD_eq_getElem?_getD] using h) (by omega) (by unfold maxLen; omega) (by omega)
      rw [List.nil_append, Nat.zero_add, hn] at h1
      have hF : Fresh w.heap.size 5 w' v' ys := ⟨h1, fun e => by
        rcases h1.2 with ⟨_, h0⟩ | ⟨g', cap, cur, hv', _⟩
        · omega
        · rw [hv'] at e; simp at e, hsm⟩
      obtain ⟨s, rfl, hs, ho⟩ := SB.fresh_off hF
      exact ⟨s, w', hrun, hs, (Below.refl _ _).grown h2 (Nat.le_refl _) (fun k h => by cases h), ho⟩
end Go.Proofs.Ytokdppjpgeaiiaa
