/- Slices of slices of bytes. No function of the program in it. No law is proved here. -/
import Derived.Test.YtfooplicnjjipaaDoorSlOwn
import Derived.Test.YtfooplicnjjipaaDoorSlCut
namespace Go.Proofs.YtfooplicnjjipaaDoor
open Go.RowKit

theorem info_sl : (Tryd.prog.info? 22).map (fun i => (i.zero, i.size, i.bytes)) = some (some (.slice none 0 0), 1, 24) := by kernel_rfl
theorem elem_sls : Tryd.prog.underlying 24 = some (.slice (Tryd.prog.elem 24)) := by kernel_rfl
theorem size_sls (w : World) : (sizeOf (Tryd.prog.elem 24)).run Tryd.prog w = .ok 1 w := by kernel_rfl
/-- slices of bytes, in a row -/
def Sls (w : World) (v : Value) (l : List (List Int)) : Prop := ∃ f : Nat → Sl, Elems w v 1 l.length (fun i _ => slV (f i)) ∧ ∀ i, i < l.length → SB w (f i) (l[i]?.getD [])
theorem Sls.later {w w' : World} {v : Value} {l : List (List Int)} (h : Sls w v l) (hb : Below w.heap.size w w') : Sls w' v l := by
  obtain ⟨f, h1, h2⟩ := h
  exact ⟨f, h1.later hb, fun i hi => (h2 i hi).later hb⟩
theorem sls_nil (w : World) (a : Option Addr) (c : Nat) (h : a = none → c = 0) : Sls w (.slice a 0 c) [] := ⟨fun _ => ⟨none, 0, 0⟩, elems_nil w a c 1 _ h, fun i hi => absurd hi (by simp)⟩
theorem Sls.len {w : World} {a : Option Addr} {m c : Nat} {l : List (List Int)} (h : Sls w (.slice a m c) l) : m = l.length := by
  obtain ⟨f, h1, _⟩ := h
  exact h1.len
theorem Sls.big {w : World} {v : Value} {l : List (List Int)} (h : Sls w v l) : l.length ≤ 9223372036854775807 := h.choose_spec.1.1
theorem Sls.at {w : World} {a : Option Addr} {m c : Nat} {l : List (List Int)} (h : Sls w (.slice a m c) l) {i : Nat} (hi : i < l.length) :
    ∃ (b off : Nat) (s : Sl), a = some ⟨b, off, none⟩ ∧ w.cell? ⟨b, off + i, none⟩ = some (slV s) ∧ SB w s (l[i]?.getD []) := by
  obtain ⟨f, h1, h2⟩ := h
  obtain ⟨b, off, ha, hc⟩ := h1.at hi
  have := hc 0 (by decide)
  rw [Nat.mul_one, Nat.add_zero] at this
  exact ⟨b, off, f i, ha, this, h2 i hi⟩
/-- the same, of the call's own: the row lies in no block in which one of its slices lies -/
def OwnSls (base : Nat) (w : World) (v : Value) (l : List (List Int)) : Prop :=
  ∃ f : Nat → Sl, w.ownsRow base 22 1 v l.length (flatCells 1 l.length (fun i _ => slV (f i))) ∧ ∀ i, i < l.length → SB w (f i) (l[i]?.getD []) ∧ ∀ g, v.ownBlock = some g → Off g (f i) (l[i]?.getD [])
theorem ownSls_nil (base : Nat) (w : World) : OwnSls base w (.slice none 0 0) [] := ⟨fun _ => ⟨none, 0, 0⟩, World.ownsRow_nil _ _ _ _, fun i hi => absurd hi (by simp)⟩
theorem OwnSls.later {base : Nat} {w w' : World} {v : Value} {l : List (List Int)} (h : OwnSls base w v l) (hb : Below w.heap.size w w') : OwnSls base w' v l := by
  obtain ⟨f, h1, h2⟩ := h
  exact ⟨f, own_later h1 hb, fun i hi => ⟨(h2 i hi).1.later hb, (h2 i hi).2⟩⟩
theorem OwnSls.sls {base : Nat} {w : World} {v : Value} {l : List (List Int)} (h : OwnSls base w v l) (hl : l.length ≤ 9223372036854775807) : ∃ A C, v = .slice A l.length C ∧ l.length ≤ C ∧ Sls w (.slice A l.length C) l := by
  obtain ⟨f, h1, h2⟩ := h
  obtain ⟨A, C, rfl, hC, hE⟩ := elems_of_own h1 hl
  exact ⟨A, C, rfl, hC, f, hE, fun i hi => (h2 i hi).1⟩
theorem SB.grown {w w' : World} {row : Option Nat} {s : Sl} {zs : List Int} (h : SB w s zs) (hg : w.grownBy w' row) (ho : ∀ g, row = some g → Off g s zs) : SB w' s zs := by
  refine h.past fun b hb => ?_
  by_cases h0 : zs = []
  · exact Or.inr h0
  · rcases hb with hb | hb
    · exact absurd hb h0
    · refine Or.inl (hg.block b ?_ fun e => ?_)
      · rcases h.2.2.2.2 with ⟨_, _, _, _, h3⟩ | ⟨b', off, cap, hv, hc⟩
        · exact absurd h3 h0
        · simp only [Value.slice.injEq] at hv
          rw [hv.1] at hb
          simp at hb
          subst hb
          exact World.block_lt_of_cell? w _ (hc 0 (List.length_pos_iff.2 h0))
      · rcases ho b e.symm with h1 | h1
        · exact h0 h1
        · exact h1 hb
/-- one slice more -/
theorem own_push {w : World} {base : Nat} {v : Value} {l : List (List Int)} (h : OwnSls base w v l) (hbase : base ≤ w.heap.size) {s : Sl} {zs : List Int} (hS : SB w s zs) (ho : ∀ g, v.ownBlock = some g → Off g s zs)
    {q : Nat} (hq : w.cell? ⟨q, 0, none⟩ = some (slV s)) (hroom : l.length + 1 ≤ 1000000) :
    ∃ v' w', (Builtin.append_ #[24, 24] 24 #[v, .slice (some ⟨q, 0, none⟩) 1 1]).run Tryd.prog w = .ok v' w' ∧ OwnSls base w' v' (l ++ [zs]) ∧ Below base w w' := by
  obtain ⟨f, h1, h2⟩ := h
  obtain ⟨i5, hi, hz0, hz1, hz2⟩ := info_parts info_sl
  have hE : Elems w (.slice (some ⟨q, 0, none⟩) 1 1) 1 1 (fun _ _ => slV s) := by
    refine ⟨by decide, Or.inr ⟨q, 0, 1, rfl, Nat.le_refl _, fun i j hi hj => ?_⟩⟩
    obtain rfl : i = 0 := by omega
    obtain rfl : j = 0 := by omega
    exact hq
  obtain ⟨v', w', hrun, q1, q2, q3⟩ := run_append_elems (P := Tryd.prog) (w := w) 24 24 base 22 i5 _ 1 24 Tryd.underlying24 hi hz0 hz1 hz2 rfl (by decide)
    v l.length (fun i _ => slV (f i)) h1 (some ⟨q, 0, none⟩) 1 1 (fun _ _ => slV s) hE (fun _ _ _ _ => rfl) (by unfold maxLen; omega) (by omega) hbase
  refine ⟨v', w', hrun, ⟨fun i => if i < l.length then f i else s, ?_, fun i hi => ?_⟩, q2⟩
  · have e : (fun (i _ : Nat) => slV (if i < l.length then f i else s)) = (fun i j => if i < l.length then (fun (i _ : Nat) => slV (f i)) i j else (fun (_ _ : Nat) => slV s) (i - l.length) j) := by
      funext i j
      by_cases hlt : i < l.length <;> simp [hlt]
    rw [List.length_append, List.length_singleton, e]
    exact q1
  · have hblk : ∀ g, v'.ownBlock = some g → v.ownBlock = some g ∨ g = w.heap.size := fun g hg => by
      rcases q3.2 with e | e
      · exact Or.inl (e.symm.trans hg)
      · rw [e] at hg
        injection hg with hg
        exact Or.inr hg.symm
    rw [List.length_append, List.length_singleton] at hi
    show SB w' (if i < l.length then f i else s) _ ∧ ∀ g, v'.ownBlock = some g → Off g (if i < l.length then f i else s) _
    by_cases hlt : i < l.length
    · rw [if_pos hlt, List.getElem?_append_left hlt]
      refine ⟨(h2 i hlt).1.grown q3.1 (h2 i hlt).2, fun g hg => ?_⟩
      rcases hblk g hg with e | e
      · exact (h2 i hlt).2 g e
      · exact (h2 i hlt).1.off (Nat.le_of_eq e.symm)
    · obtain rfl : i = l.length := by omega
      rw [if_neg hlt, List.getElem?_append_right (Nat.le_refl _), Nat.sub_self]
      refine ⟨hS.grown q3.1 ho, fun g hg => ?_⟩
      rcases hblk g hg with e | e
      · exact ho g e
      · exact hS.off (Nat.le_of_eq e.symm)
end Go.Proofs.YtfooplicnjjipaaDoor
