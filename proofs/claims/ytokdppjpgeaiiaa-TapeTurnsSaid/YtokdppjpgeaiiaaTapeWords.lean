/- Areas and tapes: what the document says of them. No function of the program in it. No law is proved here. -/
import Derived.Test.YtokdppjpgeaiiaaBytesRun
import Derived.Test.YtokdppjpgeaiiaaPackWords
namespace Go.Proofs.Ytokdppjpgeaiiaa
open Go.RowKit

/-- a slice -/
structure Sl where
  a : Option Addr
  n : Nat
  c : Nat
abbrev slV (s : Sl) : Value := .slice s.a s.n s.c
/-- a slice of these bytes -/
def SB (w : World) (s : Sl) (zs : List Int) : Prop := s.n = zs.length ∧ s.n ≤ s.c ∧ Bytes w (slV s) zs
theorem SB.later {w w' : World} {s : Sl} {zs : List Int} (h : SB w s zs) (hb : Below w.heap.size w w') : SB w' s zs := ⟨h.1, h.2.1, h.2.2.later hb⟩
theorem SB.nil (w : World) : SB w ⟨none, 0, 0⟩ [] := ⟨rfl, Nat.le_refl _, bytes_nil _ _ _ (fun _ => rfl)⟩
theorem SB.fresh {B : Nat} {w : World} {v : Value} {zs : List Int} (h : Fresh B 5 w v zs) : ∃ s : Sl, v = slV s ∧ SB w s zs := by
  obtain ⟨a, n, c, rfl, hn, hnc⟩ := h.args
  exact ⟨⟨a, n, c⟩, rfl, hn, hnc, h.bytes⟩

/-- an area: what lasts, and what doesn't yet -/
structure Ar where
  s : List Int
  l : List Int
/-- a tape -/
structure Tp where
  m : Ar
  s : Ar
structure ArS where
  s : Sl
  l : Sl
structure TpS where
  m : ArS
  s : ArS
abbrev arV (x : ArS) : Value := .agg #[slV x.s, slV x.l]
abbrev tpV (t : TpS) : Value := .agg #[slV t.m.s, slV t.m.l, slV t.s.s, slV t.s.l]
abbrev arCells (x : ArS) : Array Value := #[slV x.s, slV x.l]
abbrev tpCells (t : TpS) : Array Value := #[slV t.m.s, slV t.m.l, slV t.s.s, slV t.s.l]
def AB (w : World) (x : ArS) (a : Ar) : Prop := SB w x.s a.s ∧ SB w x.l a.l
def TB (w : World) (x : TpS) (t : Tp) : Prop := AB w x.m t.m ∧ AB w x.s t.s
theorem AB.later {w w' : World} {x : ArS} {a : Ar} (h : AB w x a) (hb : Below w.heap.size w w') : AB w' x a := ⟨h.1.later hb, h.2.later hb⟩
theorem TB.later {w w' : World} {x : TpS} {t : Tp} (h : TB w x t) (hb : Below w.heap.size w w') : TB w' x t := ⟨h.1.later hb, h.2.later hb⟩
/-- an area that isn't too much -/
def Ar.fits (a : Ar) (k : Nat) : Prop := a.s.length ≤ k ∧ a.l.length ≤ k
def Tp.fits (t : Tp) (k : Nat) : Prop := t.m.fits k ∧ t.s.fits k

/-- all bytes of an area -/
def Ar.all (a : Ar) : List Int := a.s ++ a.l
def mayT (t : Tp) : Bool := decide (t.m.all.length + t.s.all.length ≤ 65536)
/-- written -/
def wroteT (t : Tp) (sp : Bool) (b : List Int) : Tp := if sp then ⟨t.m, ⟨t.s.s, t.s.l ++ b⟩⟩ else ⟨⟨t.m.s, t.m.l ++ b⟩, t.s⟩
def writeT (t : Tp) (sp : Bool) (b : List Int) : Tp × Int := if mayT t then (if mayT (wroteT t sp b) then (wroteT t sp b, 0) else (t, 6)) else (t, 1)
def syncT (t : Tp) (sp : Bool) : Tp := if sp then ⟨t.m, ⟨t.s.all, []⟩⟩ else ⟨⟨t.m.all, []⟩, t.s⟩
def turnT (t : Tp) : Tp := ⟨t.s, ⟨[], []⟩⟩
def wipeT (t : Tp) : Tp := ⟨t.m, ⟨[], []⟩⟩
/-- a number from 0 to n -/
def heldV (v : Int) (n : Nat) : Nat := if v < 0 then 0 else if (n : Int) < v then n else v.toNat
theorem heldV_le (v : Int) (n : Nat) : heldV v n ≤ n := by unfold heldV; split <;> (try split) <;> omega
def cutT (t : Tp) (n : Int) : Tp :=
  ⟨⟨t.m.all.take (heldV (heldV n t.m.all.length : Nat) t.m.s.length), (t.m.all.take (heldV n t.m.all.length)).drop (heldV (heldV n t.m.all.length : Nat) t.m.s.length)⟩, t.s⟩
def lostA (a : Ar) (keep : Int) : Ar := ⟨a.all.take (a.s.length + heldV keep a.l.length), []⟩
def loseT (t : Tp) (keep : Int) : Tp := ⟨lostA t.m keep, lostA t.s keep⟩

/-- bytes, if any, that lie in another block -/
def Off (g : Nat) (s : Sl) (zs : List Int) : Prop := zs = [] ∨ s.a.map (·.block) ≠ some g
theorem Off.nil (g : Nat) (s : Sl) : Off g s [] := Or.inl rfl
theorem SB.off {w : World} {s : Sl} {zs : List Int} (h : SB w s zs) {g : Nat} (hg : w.heap.size ≤ g) : Off g s zs := by
  rcases h.2.2.2.2 with ⟨_, _, _, _, h3⟩ | ⟨b, off, cap, hv, hc⟩
  · exact Or.inl h3
  · by_cases h0 : zs = []
    · exact Or.inl h0
    · refine Or.inr fun e => ?_
      simp only [Value.slice.injEq] at hv
      rw [hv.1] at e
      have hl : 0 < zs.length := List.length_pos_iff.2 h0
      have := World.block_lt_of_cell? w _ (hc 0 hl)
      simp at e
      simp at this
      omega
theorem SB.fresh_off {B : Nat} {w : World} {v : Value} {zs : List Int} (h : Fresh B 5 w v zs) : ∃ s : Sl, v = slV s ∧ SB w s zs ∧ ∀ g, g < B → Off g s zs := by
  obtain ⟨g, cap, rfl, hB, _, hc, _⟩ := h.form
  exact ⟨⟨some ⟨g, 0, none⟩, zs.length, cap⟩, rfl, ⟨rfl, hc, h.bytes⟩, fun g' hg' => Or.inr fun e => by simp at e; omega⟩
def AOff (g : Nat) (x : ArS) (a : Ar) : Prop := Off g x.s a.s ∧ Off g x.l a.l
def TOff (g : Nat) (x : TpS) (t : Tp) : Prop := AOff g x.m t.m ∧ AOff g x.s t.s
theorem AB.off {w : World} {x : ArS} {a : Ar} (h : AB w x a) {g : Nat} (hg : w.heap.size ≤ g) : AOff g x a := ⟨h.1.off hg, h.2.off hg⟩
theorem TB.off {w : World} {x : TpS} {t : Tp} (h : TB w x t) {g : Nat} (hg : w.heap.size ≤ g) : TOff g x t := ⟨h.1.off hg, h.2.off hg⟩

/-- a tape comes back, in no block in which what came in (so q says) didn't lie -/
def Taped (w : World) (q : Nat → Prop) (t : Tp) (e : Ending) (w' : World) : Prop := ∃ x : TpS, e = .returned (tpV x) ∧ TB w' x t ∧ (∀ g, g < w.heap.size → q g → TOff g x t) ∧ Below w.heap.size w w'
def Areaed (w : World) (q : Nat → Prop) (a : Ar) (e : Ending) (w' : World) : Prop := ∃ x : ArS, e = .returned (arV x) ∧ AB w' x a ∧ (∀ g, g < w.heap.size → q g → AOff g x a) ∧ Below w.heap.size w w'
/-- a tape, and a code -/
def TapedC (w : World) (q : Nat → Prop) (r : Tp × Int) (e : Ending) (w' : World) : Prop := ∃ x : TpS, e = .returned (.tuple #[tpV x, .int .i64 r.2]) ∧ TB w' x r.1 ∧ (∀ g, g < w.heap.size → q g → TOff g x r.1) ∧ Below w.heap.size w w'
/-- bytes -/
def Bytesd (w : World) (q : Nat → Prop) (zs : List Int) (e : Ending) (w' : World) : Prop := ∃ s : Sl, e = .returned (slV s) ∧ SB w' s zs ∧ (∀ g, g < w.heap.size → q g → Off g s zs) ∧ Below w.heap.size w w'
theorem tape_cells {wr : World} {g : Nat} {x : TpS} (h : Whole wr g 26 (tpCells x)) :
    wr.cell? ⟨g, 0, none⟩ = some (slV x.m.s) ∧ wr.cell? ⟨g, 1, none⟩ = some (slV x.m.l) ∧ wr.cell? ⟨g, 2, none⟩ = some (slV x.s.s) ∧ wr.cell? ⟨g, 3, none⟩ = some (slV x.s.l) := ⟨h.cell 0, h.cell 1, h.cell 2, h.cell 3⟩
theorem tape_left {w1 : World} {p g i j : Nat} {T : TypeId} {z0 z1 z2 z3 : Value} (hz : Whole w1 g T #[z0, z1, z2, z3]) (h : g ≠ p) (u v x0 x1 x2 x3 : Value) :
    Whole ((((((w1.setCell ⟨p, i, none⟩ u).setCell ⟨p, j, none⟩ v).setCell ⟨g, 0, none⟩ x0).setCell ⟨g, 1, none⟩ x1).setCell ⟨g, 2, none⟩ x2).setCell ⟨g, 3, none⟩ x3) g T #[x0, x1, x2, x3] :=
  (((((hz.other (p := ⟨p, i, none⟩) h u).other (p := ⟨p, j, none⟩) h v).set 0 x0).set 1 x1).set 2 x2).set 3 x3
theorem below_six {w w1 : World} {p g i j : Nat} (hb : Below w.heap.size w w1) (hp : w.heap.size ≤ p) (hg : w.heap.size ≤ g) (u v x0 x1 x2 x3 : Value) :
    Below w.heap.size w ((((((w1.setCell ⟨p, i, none⟩ u).setCell ⟨p, j, none⟩ v).setCell ⟨g, 0, none⟩ x0).setCell ⟨g, 1, none⟩ x1).setCell ⟨g, 2, none⟩ x2).setCell ⟨g, 3, none⟩ x3) :=
  (((((hb.setCell (p := ⟨p, i, none⟩) hp u).setCell (p := ⟨p, j, none⟩) hp v).setCell (p := ⟨g, 0, none⟩) hg x0).setCell (p := ⟨g, 1, none⟩) hg x1).setCell (p := ⟨g, 2, none⟩) hg x2).setCell (p := ⟨g, 3, none⟩) hg x3
/-- bytes stay when other blocks are written -/
theorem SB.past {w1 w2 : World} {s : Sl} {zs : List Int} (h : SB w1 s zs) (hk : ∀ b, zs = [] ∨ s.a.map (·.block) = some b → w2.heap[b]? = w1.heap[b]? ∨ zs = []) : SB w2 s zs := by
  refine ⟨h.1, h.2.1, h.2.2.1, h.2.2.2.1, ?_⟩
  rcases h.2.2.2.2 with h3 | ⟨b, off, cap, hv, hc⟩
  · exact Or.inl h3
  · refine Or.inr ⟨b, off, cap, hv, fun j hj => ?_⟩
    simp only [Value.slice.injEq] at hv
    rcases hk b (Or.inr (by rw [hv.1]; rfl)) with h4 | h4
    · rw [World.cell?_of_block (a := ⟨b, off + j, none⟩) h4, hc j hj]
    · rw [h4] at hj; simp at hj
theorem SB.six {w1 : World} {p g i j : Nat} {s : Sl} {zs : List Int} (h : SB w1 s zs) (hp : Off p s zs) (hg : Off g s zs) (u v x0 x1 x2 x3 : Value) :
    SB ((((((w1.setCell ⟨p, i, none⟩ u).setCell ⟨p, j, none⟩ v).setCell ⟨g, 0, none⟩ x0).setCell ⟨g, 1, none⟩ x1).setCell ⟨g, 2, none⟩ x2).setCell ⟨g, 3, none⟩ x3) s zs := by
  refine h.past fun b hb => ?_
  rcases hp with h0 | hp
  · exact Or.inr h0
  · rcases hg with h0 | hg
    · exact Or.inr h0
    · rcases hb with h0 | hb
      · exact Or.inr h0
      · have n1 : b ≠ p := fun e => hp (by rw [hb, e])
        have n2 : b ≠ g := fun e => hg (by rw [hb, e])
        refine Or.inl ?_
        rw [Below.heap_setCell _ _ _ _ n2, Below.heap_setCell _ _ _ _ n2, Below.heap_setCell _ _ _ _ n2, Below.heap_setCell _ _ _ _ n2, Below.heap_setCell _ _ _ _ n1, Below.heap_setCell _ _ _ _ n1]
end Go.Proofs.Ytokdppjpgeaiiaa
