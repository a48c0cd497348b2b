/- A slice of bytes as one thing: where it lies, what it reads as, in which blocks it does not lie. No function of the program in it. No law is proved here. -/
import Derived.Test.YtfooplicnjjipaaDoorBytesRun
import Derived.Test.YtfooplicnjjipaaDoorPackWords
namespace Go.Proofs.YtfooplicnjjipaaDoor
open Go.RowKit

/-- a slice -/
structure Sl where
  a : Option Addr
  n : Nat
  c : Nat
abbrev slV (s : Sl) : Value := .slice s.a s.n s.c
/-- a slice of these bytes -/
def SB (w : World) (s : Sl) (zs : List Int) : Prop := s.n = zs.length ∧ s.n ≤ s.c ∧ Bytes w (slV s) zs
theorem SB.later {w w' : World} {s : Sl} {zs : List Int} (h : SB w s zs) (hb : Below w.heap.size w w') : SB w' s zs := ⟨h.1, h.2.1, h.2.2.later hb⟩
theorem SB.nil (w : World) : SB w ⟨none, 0, 0⟩ [] := ⟨rfl, Nat.le_refl _, bytes_nil _ _ _ (fun _ => rfl)⟩
theorem SB.fresh {B : Nat} {w : World} {v : Value} {zs : List Int} (h : Fresh B 5 w v zs) : ∃ s : Sl, v = slV s ∧ SB w s zs := by
  obtain ⟨a, n, c, rfl, hn, hnc⟩ := h.args
  exact ⟨⟨a, n, c⟩, rfl, hn, hnc, h.bytes⟩

/-- bytes, if any, that lie in another block -/
def Off (g : Nat) (s : Sl) (zs : List Int) : Prop := zs = [] ∨ s.a.map (·.block) ≠ some g
theorem Off.nil (g : Nat) (s : Sl) : Off g s [] := Or.inl rfl
theorem SB.off {w : World} {s : Sl} {zs : List Int} (h : SB w s zs) {g : Nat} (hg : w.heap.size ≤ g) : Off g s zs := by
  rcases h.2.2.2.2 with ⟨_, _, _, _, h3⟩ | ⟨b, off, cap, hv, hc⟩
  · exact Or.inl h3
  · by_cases h0 : zs = []
    · exact Or.inl h0
    · refine Or.inr fun e => ?_
      simp only [Value.slice.injEq] at hv
      rw [hv.1] at e
      have hl : 0 < zs.length := List.length_pos_iff.2 h0
      have := World.block_lt_of_cell? w _ (hc 0 hl)
      simp at e
      simp at this
      omega
theorem SB.fresh_off {B : Nat} {w : World} {v : Value} {zs : List Int} (h : Fresh B 5 w v zs) : ∃ s : Sl, v = slV s ∧ SB w s zs ∧ ∀ g, g < B → Off g s zs := by
  obtain ⟨g, cap, rfl, hB, _, hc, _⟩ := h.form
  exact ⟨⟨some ⟨g, 0, none⟩, zs.length, cap⟩, rfl, ⟨rfl, hc, h.bytes⟩, fun g' hg' => Or.inr fun e => by simp at e; omega⟩
/-- bytes -/
def Bytesd (w : World) (q : Nat → Prop) (zs : List Int) (e : Ending) (w' : World) : Prop := ∃ s : Sl, e = .returned (slV s) ∧ SB w' s zs ∧ (∀ g, g < w.heap.size → q g → Off g s zs) ∧ Below w.heap.size w w'
/-- bytes stay when other blocks are written -/
theorem SB.past {w1 w2 : World} {s : Sl} {zs : List Int} (h : SB w1 s zs) (hk : ∀ b, zs = [] ∨ s.a.map (·.block) = some b → w2.heap[b]? = w1.heap[b]? ∨ zs = []) : SB w2 s zs := by
  refine ⟨h.1, h.2.1, h.2.2.1, h.2.2.2.1, ?_⟩
  rcases h.2.2.2.2 with h3 | ⟨b, off, cap, hv, hc⟩
  · exact Or.inl h3
  · refine Or.inr ⟨b, off, cap, hv, fun j hj => ?_⟩
    simp only [Value.slice.injEq] at hv
    rcases hk b (Or.inr (by rw [hv.1]; rfl)) with h4 | h4
    · rw [World.cell?_of_block (a := ⟨b, off + j, none⟩) h4, hc j hj]
    · rw [h4] at hj; simp at hj
theorem tstr_any {w : World} {v : Value} {zs : List Int} (hB : Bytes w v zs) : (convert 22 9 v).run Tryd.prog w = .ok (.string (strOfNums zs)) w :=
  run_string hB Tryd.underlying22 Tryd.underlying5 Tryd.underlying9
/-- a string's bytes, as they are laid -/
theorem SB.text (w : World) {p : List Int} (h : ∀ c ∈ p, 0 ≤ c ∧ c < 256) (hl : p.length ≤ 1000000) :
    SB (Lib.bytesWorld w 5 (strOfNums p)) ⟨some ⟨w.heap.size, 0, none⟩, (strOfNums p).size, grownCap w (strOfNums p).size 0 5⟩ p := by
  have hB := bytes_of_text w 5 (strOfNums p) (by rw [strOfNums_size]; omega)
  rw [nums_strOf h] at hB
  exact ⟨strOfNums_size p, grownCap_ge _ _ _ _, hB⟩
end Go.Proofs.YtfooplicnjjipaaDoor
