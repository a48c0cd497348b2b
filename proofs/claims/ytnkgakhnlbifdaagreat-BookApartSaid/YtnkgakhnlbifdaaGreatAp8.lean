/- Parts, as far as BookApartCards reaches them, of: NumsPlain, NumsPush, BookKeep, BookPush, MailRead, BookRead, HeldBooks, BookTook, RefRightsShort, RefBookShort, RefBookSmall. No law is proved here. -/
import Derived.Test.YtnkgakhnlbifdaaGreatAp1
import Derived.OwnWalk
import Derived.Lib.SmallJoins
import Derived.Test.YtnkgakhnlbifdaaGreatAp7
import Derived.Test.YtnkgakhnlbifdaaGreatAp2
import Derived.Test.YtnkgakhnlbifdaaGreatAp4
import Derived.Test.YtnkgakhnlbifdaaGreatAp5
import Derived.WalkKit
import Derived.ProofKit
import Derived.OpenShut
import Derived.WalkSpells
import Derived.Laws.AppendOwn
import Derived.Laws.AppendOwnNone
import Derived.Laws.OwnMore
import Derived.Lib.Hide
import Derived.Deep.Draws
import Derived.Deep.Slices
import Derived.Deep.Fields
import Derived.ChangeSame
import Derived.RegionTactic
import Derived.Maps.AppendAt
import Derived.RangeFuncNested
import Derived.RangeFuncBound
import Derived.RangeFuncLeaves
import Derived.RangeFuncBox
import Derived.Laws.MakeOwn
import Derived.Deep.QuietTactic
import Derived.BigQuiet
import Derived.LoopTactic
import Derived.WalkSmall
import Derived.Deep.RegionHeld3
import Derived.IntWalk
namespace Go.Proofs.YtnkgakhnlbifdaaGreat
open Go.ChangeShapes Go.WideShapes Go.ChangeAt Go.RowKit Go.Joins Go.Deep
theorem info_n64 : (Tryz.prog.info? 2).map (fun i => (i.zero, i.size, i.bytes)) = some (some (.int .i64 0), 1, 8) := by kernel_rfl
abbrev OwnN (w : World) (base : Nat) (v : Value) (l : List Int) : Prop := w.ownsRow base 2 1 v l.length (flatCells 1 l.length fun i _ => .int .i64 (l[i]?.getD 0))
theorem OwnN.nums {w : World} {base : Nat} {v : Value} {l : List Int} (h : OwnN w base v l) (hb : l.length ≤ 9223372036854775807) : ∃ A C, v = .slice A l.length C ∧ Nums w (.slice A l.length C) l := by
 obtain ⟨A, C, hv, _, he⟩ := elems_of_own h hb
 exact ⟨A, C, hv, he⟩
theorem Nums.cap {w : World} {a : Option Addr} {m c : Nat} {l : List Int} (h : Nums w (.slice a m c) l) : m ≤ c ∧ m = l.length := by
 obtain ⟨_, ⟨_, _, hv, _, h0⟩ | ⟨_, _, _, hv, hn, _⟩⟩ := h
 · simp only [Value.slice.injEq] at hv
   omega
 · simp only [Value.slice.injEq] at hv
   omega
theorem Nums.from {w : World} {b off m c j : Nat} {l : List Int} (h : Nums w (.slice (some ⟨b, off, none⟩) m c) l) (hj : j ≤ m) : Nums w (.slice (some ⟨b, off + j, none⟩) (m - j) (c - j)) (l.drop j) := by
 have hc := h.cap
 have hb := h.1
 unfold Nums
 rw [List.length_drop]
 refine ⟨by omega, ?_⟩
 by_cases h0 : l.length - j = 0
 · exact Or.inl ⟨_, c - j, by rw [show m - j = 0 by omega], (fun h => by cases h), h0⟩
 · refine Or.inr ⟨b, off + j, c - j, by rw [← hc.2], by omega, fun i k hi hk => ?_⟩
   obtain rfl : k = 0 := by omega
   obtain ⟨b', off', e, _, hcell⟩ := h.at (i := j + i) (by omega)
   simp only [Option.some.injEq, Addr.mk.injEq, and_true] at e
   obtain ⟨rfl, rfl⟩ := e
   rw [Nat.mul_one, Nat.add_zero, Nat.add_assoc, hcell]
   show _ = some (Value.int .i64 ((l.drop j)[i]?.getD 0))
   rw [List.getElem?_drop]
end Go.Proofs.YtnkgakhnlbifdaaGreat
namespace Go.Proofs.YtnkgakhnlbifdaaGreat
open Go.RowKit
def ButG (G : Nat) (w0 wr : World) : Prop := Below 0 w0 wr ∧ ∀ b, b < w0.heap.size → b ≠ G → wr.heap[b]? = w0.heap[b]?
section
variable {G : Nat} {a b w0 wr w2 w3 : World}
theorem ButG.refl (G : Nat) (w : World) : ButG G w w := ⟨Below.refl _ _, fun _ _ _ => rfl⟩
theorem ButG.size (h : ButG G w0 wr) : w0.heap.size ≤ wr.heap.size := h.1.size
theorem ButG.trans (h : ButG G a b) (k : ButG G b w2) : ButG G a w2 := ⟨h.1.trans k.1, fun q hq hne => (k.2 q (Nat.lt_of_lt_of_le hq h.size) hne).trans (h.2 q hq hne)⟩
theorem ButG.of (hb : Below w0.heap.size w0 wr) : ButG G w0 wr := ⟨hb.mono (Nat.zero_le _), fun q hq _ => hb.block q hq⟩
theorem ButG.set (h : ButG G w0 wr) (i : Nat) (u : Value) : ButG G w0 (wr.setCell ⟨G, i, none⟩ u) := ⟨h.1.setCell (p := ⟨G, i, none⟩) (Nat.zero_le _) u, fun q hq hne => (Below.heap_setCell wr ⟨G, i, none⟩ u q hne).trans (h.2 q hq hne)⟩
theorem ButG.grown (h : ButG G w0 wr) (hb : Below w0.heap.size wr w2) : ButG G w0 w2 := ⟨h.1.trans (hb.mono (Nat.zero_le _)), fun q hq hne => (hb.block q hq).trans (h.2 q hq hne)⟩
theorem ButG.next (h : ButG G w0 wr) (hb : Below wr.heap.size wr w2) : ButG G w0 w2 := h.grown (hb.mono h.size)
theorem ButG.cell (h : ButG G w0 wr) {p : Addr} (hp : p.block < w0.heap.size) (hne : p.block ≠ G) : wr.cell? p = w0.cell? p := World.cell?_of_block (w := w0) (h.2 p.block hp hne)
theorem ButG.cell_of (h : ButG G w0 wr) {p : Addr} {u : Value} (hc : w0.cell? p = some u) (hne : p.block ≠ G) : wr.cell? p = some u := (h.cell (World.block_lt_of_cell? w0 _ hc) hne).trans hc
theorem Whole.butG {g : Nat} {t : TypeId} {cs : Array Value} (h : Whole w0 g t cs) (k : ButG G w0 wr) (hne : g ≠ G) : Whole wr g t cs := (k.2 g h.lt hne).trans h
theorem Elems.butG {A : Option Addr} {n c sz m : Nat} {f : Nat → Nat → Value} (h : Elems w0 (.slice A n c) sz m f) (k : ButG G w0 wr) (hne : ∀ ad, A = some ad → ad.block ≠ G) : Elems wr (.slice A n c) sz m f := by
 obtain ⟨h1, h2⟩ := h
 refine ⟨h1, ?_⟩
 rcases h2 with h2 | ⟨b, off, cap, hv, hn, hc⟩
 · exact Or.inl h2
 · refine Or.inr ⟨b, off, cap, hv, hn, fun i j hi hj => k.cell_of (hc i j hi hj) ?_⟩
   simp only [Value.slice.injEq] at hv
   exact hne ⟨b, off, none⟩ hv.1
end
theorem three_one {w : World} {g : Nat} {T : TypeId} {x : Rq} (h : Whole w g T (rqCells x)) : Elems w (.slice (some ⟨g, 0, none⟩) 1 1) 3 1 (fun _ j => rqc x j) := by
 refine ⟨by decide, Or.inr ⟨g, 0, 1, rfl, Nat.le_refl _, fun i j hi hj => ?_⟩⟩
 obtain rfl : i = 0 := by omega
 have hc := h.cell
 match j, hj with
 | 0, _ => exact hc 0
 | 1, _ => exact hc 1
 | 2, _ => exact hc 2
theorem flat_ext3 {sz n : Nat} {f g : Nat → Nat → Value} (h : ∀ i j, i < n → j < sz → f i j = g i j) : flatCells sz n f = flatCells sz n g := by
 unfold flatCells
 rw [List.flatMap_def, List.flatMap_def]
 congr 1
 refine List.map_congr_left fun i hi => List.map_congr_left fun j hj => h i j (List.mem_range.1 hi) (List.mem_range.1 hj)
theorem info_out : (Tryz.prog.info? 69).map (fun i => (i.zero, i.size, i.bytes)) = some (some (.agg #[.int .i64 0, .int .i64 0, .int .i64 0]), 3, 24) := by kernel_rfl
theorem info_req : (Tryz.prog.info? 67).map (fun i => (i.zero, i.size, i.bytes)) = some (some (.agg #[.int .i64 0, .int .i64 0, .int .i64 0]), 3, 24) := by kernel_rfl
theorem rqc_plain (x : Rq) (j : Nat) : (rqc x j).oneCell' = true := by unfold rqc; rfl
end Go.Proofs.YtnkgakhnlbifdaaGreat
namespace Go.Proofs.YtnkgakhnlbifdaaGreat
open Go.RowKit
theorem seven_one {w : World} {g : Nat} {T : TypeId} {x : Nt} (h : Whole w g T (ntCells x)) : Elems w (.slice (some ⟨g, 0, none⟩) 1 1) 7 1 (fun _ j => ntc x j) := by
 refine ⟨by decide, Or.inr ⟨g, 0, 1, rfl, Nat.le_refl _, fun i j hi hj => ?_⟩⟩
 obtain rfl : i = 0 := by omega
 have hc := h.cell
 match j, hj with
 | 0, _ => exact hc 0
 | 1, _ => exact hc 1
 | 2, _ => exact hc 2
 | 3, _ => exact hc 3
 | 4, _ => exact hc 4
 | 5, _ => exact hc 5
 | 6, _ => exact hc 6
theorem ntc_plain (x : Nt) (j : Nat) : (ntc x j).oneCell' = true := by unfold ntc; rfl
theorem nt_push_at {w : World} {base g : Nat} {v : Value} {E : List Nt} {k : Nat} {x : Nt} (hE : ntAt E k = x) (hown : w.ownsRow base 71 7 v k (flatCells 7 k (fun i j => ntc (ntAt E i) j))) (hW : Whole w g 71 (ntCells x)) (hk : k ≤ 1000) (hb : base ≤ w.heap.size) :
 ∃ A C w', (Builtin.append_ #[29, 29] 29 #[v, .slice (some ⟨g, 0, none⟩) 1 1]).run Tryz.prog w = .ok (.slice A (k + 1) C) w' ∧
   w'.ownsRow base 71 7 (.slice A (k + 1) C) (k + 1) (flatCells 7 (k + 1) (fun i j => ntc (ntAt E i) j)) ∧ Below base w w' ∧ Grew w w' v (.slice A (k + 1) C) := by
 obtain ⟨i0, hi, hz0, hz1, hz2⟩ := info_parts info_note17
 obtain ⟨v', w', hrun, q1, q2, q3⟩ := run_append_elems (P := Tryz.prog) (w := w) 29 29 base 71 i0 _ 7 56 Tryz.underlying29 hi hz0 hz1 hz2 rfl (by decide)
  v k (fun i j => ntc (ntAt E i) j) hown (some ⟨g, 0, none⟩) 1 1 (fun _ j => ntc x j) (seven_one hW) (fun _ _ _ _ => ntc_plain _ _) (by unfold maxLen; omega) (by omega) hb
 rw [flat_ext3 (g := fun i j => ntc (ntAt E i) j) (fun i j hi _ => by
  by_cases h : i < k
  · simp only [if_pos h]
  · obtain rfl : i = k := by omega
    simp only [Nat.lt_irrefl, if_false]
    rw [hE])] at q1
 obtain ⟨A, C, rfl, _⟩ := elems_of_own q1 (by omega)
 exact ⟨A, C, w', hrun, q1, q2, q3⟩
theorem info_flag : (Tryz.prog.info? 4).map (fun i => (i.zero, i.size, i.bytes)) = some (some (.bool false), 1, 1) := by kernel_rfl
theorem one_cell {w : World} {g : Nat} {T : TypeId} {u : Value} (h : Whole w g T #[u]) : Elems w (.slice (some ⟨g, 0, none⟩) 1 1) 1 1 (fun _ _ => u) := by
 refine ⟨by decide, Or.inr ⟨g, 0, 1, rfl, Nat.le_refl _, fun i j hi hj => ?_⟩⟩
 obtain rfl : i = 0 := by omega
 obtain rfl : j = 0 := by omega
 exact h.cell 0
theorem flag_push_at {w : World} {base g : Nat} {v : Value} {E : Nat → Bool} {k : Nat} {x : Bool} (hE : E k = x) (hown : w.ownsRow base 4 1 v k (flatCells 1 k (fun i _ => .bool (E i)))) (hW : Whole w g 4 #[.bool x]) (hk : k ≤ 1000) (hb : base ≤ w.heap.size) :
 ∃ A C w', (Builtin.append_ #[32, 32] 32 #[v, .slice (some ⟨g, 0, none⟩) 1 1]).run Tryz.prog w = .ok (.slice A (k + 1) C) w' ∧
   w'.ownsRow base 4 1 (.slice A (k + 1) C) (k + 1) (flatCells 1 (k + 1) (fun i _ => .bool (E i))) ∧ Below base w w' ∧ Grew w w' v (.slice A (k + 1) C) := by
 obtain ⟨i0, hi, hz0, hz1, hz2⟩ := info_parts info_flag
 obtain ⟨v', w', hrun, q1, q2, q3⟩ := run_append_elems (P := Tryz.prog) (w := w) 32 32 base 4 i0 _ 1 1 Tryz.underlying32 hi hz0 hz1 hz2 rfl (by decide)
  v k (fun i _ => .bool (E i)) hown (some ⟨g, 0, none⟩) 1 1 (fun _ _ => .bool x) (one_cell hW) (fun _ _ _ _ => rfl) (by unfold maxLen; omega) (by omega) hb
 rw [flat_ext3 (g := fun i _ => .bool (E i)) (fun i j hi _ => by
  by_cases h : i < k
  · simp only [if_pos h]
  · obtain rfl : i = k := by omega
    simp only [Nat.lt_irrefl, if_false]
    rw [hE])] at q1
 obtain ⟨A, C, rfl, _⟩ := elems_of_own q1 (by omega)
 exact ⟨A, C, w', hrun, q1, q2, q3⟩
theorem num_push_at {w : World} {base g : Nat} {v : Value} {E : Nat → Int} {k : Nat} {x : Int} (hE : E k = x) (hown : w.ownsRow base 2 1 v k (flatCells 1 k (fun i _ => .int .i64 (E i)))) (hW : Whole w g 2 #[.int .i64 x]) (hk : k ≤ 1000) (hb : base ≤ w.heap.size) :
 ∃ A C w', (Builtin.append_ #[33, 33] 33 #[v, .slice (some ⟨g, 0, none⟩) 1 1]).run Tryz.prog w = .ok (.slice A (k + 1) C) w' ∧
   w'.ownsRow base 2 1 (.slice A (k + 1) C) (k + 1) (flatCells 1 (k + 1) (fun i _ => .int .i64 (E i))) ∧ Below base w w' ∧ Grew w w' v (.slice A (k + 1) C) := by
 obtain ⟨i0, hi, hz0, hz1, hz2⟩ := info_parts info_n64
 obtain ⟨v', w', hrun, q1, q2, q3⟩ := run_append_elems (P := Tryz.prog) (w := w) 33 33 base 2 i0 _ 1 8 Tryz.underlying33 hi hz0 hz1 hz2 rfl (by decide)
  v k (fun i _ => .int .i64 (E i)) hown (some ⟨g, 0, none⟩) 1 1 (fun _ _ => .int .i64 x) (one_cell hW) (fun _ _ _ _ => rfl) (by unfold maxLen; omega) (by omega) hb
 rw [flat_ext3 (g := fun i _ => .int .i64 (E i)) (fun i j hi _ => by
  by_cases h : i < k
  · simp only [if_pos h]
  · obtain rfl : i = k := by omega
    simp only [Nat.lt_irrefl, if_false]
    rw [hE])] at q1
 obtain ⟨A, C, rfl, _⟩ := elems_of_own q1 (by omega)
 exact ⟨A, C, w', hrun, q1, q2, q3⟩
end Go.Proofs.YtnkgakhnlbifdaaGreat
namespace Go.Proofs.YtnkgakhnlbifdaaGreat
open Go.RowKit
theorem takeB_some {c : Cf} {zs rest : List Int} {l : List Rw} (h : takeB c zs = some (l, rest)) : Starts c zs l rest := by
 unfold takeB at h
 split at h
 · rename_i hex
   have e := Option.some.inj h
   have := hex.choose_spec
   rw [e] at this
   exact this
 · cases h
end Go.Proofs.YtnkgakhnlbifdaaGreat
namespace Go.Proofs.YtnkgakhnlbifdaaGreat
open Go.RowKit
noncomputable def countedN (most : Int) (k : Nat) (zs : List Int) : Option (List Nat × List Int) :=
 match someN 1 zs with
 | none => none
 | some (ns, r) => if ((ns[0]?.getD 0 : Nat) : Int) ≤ most then someN (ns[0]?.getD 0 * k) r else none
def CountedN (most : Int) (k : Nat) (zs : List Int) (P : List Nat) (r : List Int) : Prop := ∃ a : Nat, (a : Int) ≤ most ∧ a ≤ 4611686018427387903 ∧ P.length = a * k ∧ (∀ v ∈ P, v ≤ 4611686018427387903) ∧ zs = bytesN (a :: P) ++ r
theorem countedN_yes {most : Int} {k : Nat} {zs r : List Int} {P : List Nat} (h : CountedN most k zs P r) : countedN most k zs = some (P, r) := by
 obtain ⟨a, h1, h2, h3, h4, h5⟩ := h
 have e1 : someN 1 zs = some ([a], bytesN P ++ r) := someN_yes ⟨rfl, fun v hv => by rw [List.mem_singleton.1 hv]; exact h2, by rw [h5, bytesN_cons, List.append_assoc, bytesN_one]⟩
 have e2 : someN (a * k) (bytesN P ++ r) = some (P, r) := someN_yes ⟨h3, h4, rfl⟩
 unfold countedN
 rw [e1]
 show (if ((a : Nat) : Int) ≤ most then someN (a * k) (bytesN P ++ r) else none) = _
 rw [if_pos h1, e2]
theorem CountedN.unique {most : Int} {k : Nat} {zs r r' : List Int} {P P' : List Nat} (h : CountedN most k zs P r) (h' : countedN most k zs = some (P', r')) : P' = P ∧ r' = r := by
 have e := (countedN_yes h).symm.trans h'
 cases e; exact ⟨rfl, rfl⟩
abbrev K (l : List Int) : List Nat := l.map u64n
def Z5 (x : Bk) : List Int := if x.au = au0 then [] else bytesN (K (tripN x.au ++ [oneI x.au.moved]))
def lastN' (x : Bk) : List Int := x.asks :: (notesN x.notes ++ [x.au.try_, x.au.ph])
def Z4 (x : Bk) : List Int := bytesN (K (lastN' x)) ++ Z5 x
def Z3 (x : Bk) : List Int := bytesN (K ((x.outs.length : Int) :: pairN x.outs)) ++ Z4 x
def Z2 (x : Bk) : List Int := bytesN (K ((x.line.length : Int) :: pairN x.line)) ++ Z3 x
def Z1 (x : Bk) : List Int := booksB x.rows ++ Z2 x
section
variable {c : Cf} {who : Int} {zs : List Int} {x : Bk} {N : Nat}
end
section
variable {c : Cf} {who : Int} {zs r1 r2 r3 r4 r5 : List Int} {x : Bk} {N k1 : Nat} {rows : List Rw} {ls os ts : List Nat}
end
end Go.Proofs.YtnkgakhnlbifdaaGreat
namespace Go.Proofs.YtnkgakhnlbifdaaGreat
open Go.RowKit
def NumsAt (w : World) (b off : Nat) (l : List Int) : Prop := b < w.heap.size ∧ l.length ≤ 9223372036854775807 ∧ ∀ i, i < l.length → w.cell? ⟨b, off + i, none⟩ = some (.int .i64 (l[i]?.getD 0))
theorem NumsAt.nums {w : World} {b off : Nat} {l : List Int} (h : NumsAt w b off l) {C : Nat} (hC : l.length ≤ C) : Nums w (.slice (some ⟨b, off, none⟩) l.length C) l := by
 refine ⟨h.2.1, Or.inr ⟨b, off, C, rfl, hC, fun i j hi hj => ?_⟩⟩
 obtain rfl : j = 0 := by omega
 rw [Nat.mul_one, Nat.add_zero]
 exact h.2.2 i hi
theorem NumsAt.block {w w' : World} {b off : Nat} {l : List Int} (h : NumsAt w b off l) (hs : w.heap.size ≤ w'.heap.size) (hb : w'.heap[b]? = w.heap[b]?) : NumsAt w' b off l :=
 ⟨by have := h.1; omega, h.2.1, fun i hi => by rw [World.cell?_of_block (a := ⟨b, off + i, none⟩) hb]; exact h.2.2 i hi⟩
theorem NumsAt.later {w w' : World} {b off : Nat} {l : List Int} (h : NumsAt w b off l) (hb : Below w.heap.size w w') : NumsAt w' b off l := h.block hb.size (hb.block b h.1)
def HeldG (w : World) (base : Nat) (v : Value) (l : List Rw) (g : Nat → Value) : Prop :=
 w.ownsRow base 109 3 v l.length (flatCells 3 l.length (rowCell l g)) ∧
  ∀ k, k < l.length → ∃ b off C, g k = .slice (some ⟨b, off, none⟩) (at_ l k).out.length C ∧ (at_ l k).out.length ≤ C ∧ v.ownBlock ≠ some b ∧ base ≤ b ∧ NumsAt w b off (at_ l k).out
def HeldBooks (w : World) (base : Nat) (v : Value) (l : List Rw) : Prop := ∃ g, HeldG w base v l g
theorem HeldG.later {w w' : World} {base : Nat} {v : Value} {l : List Rw} {g : Nat → Value} (h : HeldG w base v l g) (hb : Below w.heap.size w w') : HeldG w' base v l g :=
 ⟨own_later h.1 hb, fun k hk => by obtain ⟨b, off, C, e, hC, hne, hB, hN⟩ := h.2 k hk; exact ⟨b, off, C, e, hC, hne, hB, hN.later hb⟩⟩
theorem HeldBooks.later {w w' : World} {base : Nat} {v : Value} {l : List Rw} (h : HeldBooks w base v l) (hb : Below w.heap.size w w') : HeldBooks w' base v l := ⟨_, h.choose_spec.later hb⟩
theorem heldBooks_nil (w : World) (base : Nat) : HeldBooks w base (.slice none 0 0) [] := ⟨fun _ => .bool false, World.ownsRow_nil _ _ _ _, fun k hk => absurd hk (by simp)⟩
theorem HeldBooks.books {w : World} {base : Nat} {v : Value} {l : List Rw} (h : HeldBooks w base v l) (hb : l.length ≤ 9223372036854775807) : ∃ A C, v = .slice A l.length C ∧ Books w (.slice A l.length C) l := by
 obtain ⟨g, h1, h2⟩ := h
 obtain ⟨A, C, rfl, _, hE⟩ := elems_of_own h1 hb
 refine ⟨A, C, rfl, g, hE, fun k hk => ?_⟩
 obtain ⟨b, off, C', e, hC, _, _, hN⟩ := h2 k hk
 exact ⟨_, _, e, by rw [e]; exact hN.nums hC⟩
def BooksFar (B : Nat) (w : World) (v : Value) (l : List Rw) : Prop := Books w v l ∧ ∀ W : World, w.heap.size ≤ W.heap.size → (∀ g, B ≤ g → g < w.heap.size → W.heap[g]? = w.heap[g]?) → Books W v l
theorem BooksFar.later {B : Nat} {w w' : World} {v : Value} {l : List Rw} (h : BooksFar B w v l) (hb : Below w.heap.size w w') : BooksFar B w' v l :=
 ⟨h.1.later hb, fun W hs hg => h.2 W (Nat.le_trans hb.size hs) fun g h1 h2 => (hg g h1 (Nat.lt_of_lt_of_le h2 hb.size)).trans (hb.block g h2)⟩
theorem BooksFar.other {B : Nat} {w : World} {v : Value} {l : List Rw} (h : BooksFar B w v l) {p : Addr} (hp : p.block < B) (u : Value) : BooksFar B (w.setCell p u) v l := by
 have e : ∀ g, B ≤ g → (w.setCell p u).heap[g]? = w.heap[g]? := fun g hg => Below.heap_setCell w p u g (by omega)
 have hs : (w.setCell p u).heap.size = w.heap.size := by simp
 refine ⟨h.2 _ (by rw [hs]; exact Nat.le_refl _) fun g h1 _ => e g h1, fun W h1 h2 => h.2 W (by rw [← hs]; exact h1) fun g h3 h4 => (h2 g h3 (by rw [hs]; exact h4)).trans (e g h3)⟩
theorem HeldBooks.far {w : World} {base : Nat} {v : Value} {l : List Rw} (h : HeldBooks w base v l) (hb : l.length ≤ 9223372036854775807) : ∃ A C, v = .slice A l.length C ∧ BooksFar base w (.slice A l.length C) l := by
 obtain ⟨A, C, rfl, hB⟩ := h.books hb
 refine ⟨A, C, rfl, hB, fun W hs hg => ?_⟩
 obtain ⟨g, h1, h2⟩ := h
 have hrow : W.ownsRow base 109 3 (.slice A l.length C) l.length (flatCells 3 l.length (rowCell l g)) := by
  refine ⟨h1.1, ?_⟩
  rcases h1.2 with hn | ⟨gb, cap, cur, e, h3, h4, h5⟩
  · exact Or.inl hn
  · exact Or.inr ⟨gb, cap, cur, e, h3, (hg gb h3 (Array.getElem?_eq_some_iff.1 h4).1).trans h4, h5⟩
 obtain ⟨A', C', e, _, hE⟩ := elems_of_own hrow hb
 simp only [Value.slice.injEq, true_and] at e
 obtain ⟨rfl, rfl⟩ := e
 refine ⟨g, hE, fun k hk => ?_⟩
 obtain ⟨b, off, C', e, hC, _, hbb, hN⟩ := h2 k hk
 exact ⟨_, _, e, by rw [e]; exact (hN.block hs (hg b hbb hN.1)).nums hC⟩
theorem held_push {w0 w1 w2 : World} {base : Nat} {v v' u : Value} {l : List Rw} {r : Rw} {g : Nat → Value} (h : HeldG w0 base v l g) (hb : Below w0.heap.size w0 w1)
 (hu : ∃ b off C, u = .slice (some ⟨b, off, none⟩) r.out.length C ∧ r.out.length ≤ C ∧ w0.heap.size ≤ b ∧ NumsAt w1 b off r.out)
 (hv : w2.ownsRow base 109 3 v' (l.length + 1) (flatCells 3 (l.length + 1) (fun i j => if i < l.length then rowCell l g i j else if j = 0 then .int .i64 r.inc else if j = 1 then .int .i64 r.use else u)))
 (hG : Grew w1 w2 v v') (hbs : base ≤ w0.heap.size) : HeldBooks w2 base v' (l ++ [r]) := by
 obtain ⟨h1, h2⟩ := h
 have hne2 : ∀ b, b < w1.heap.size → v.ownBlock ≠ some b → v'.ownBlock ≠ some b := fun b hb' hne e => by
  rcases hG.2 with h3 | h3
  · exact hne (h3.symm.trans e)
  · rw [h3] at e
    injection e with e
    omega
 refine ⟨fun i => if i < l.length then g i else u, ?_, fun k hk => ?_⟩
 · rw [List.length_append, List.length_singleton]
   have e : flatCells 3 (l.length + 1) (rowCell (l ++ [r]) (fun i => if i < l.length then g i else u)) = flatCells 3 (l.length + 1) (fun i j => if i < l.length then rowCell l g i j else if j = 0 then .int .i64 r.inc else if j = 1 then .int .i64 r.use else u) := by
    unfold flatCells
    rw [List.flatMap_def, List.flatMap_def]
    congr 1
    apply List.map_congr_left
    intro i hi
    apply List.map_congr_left
    intro j _
    by_cases hil : i < l.length
    · unfold rowCell
      rw [at_append_lt hil]
      simp only [if_pos hil]
    · have : i = l.length := by have := List.mem_range.1 hi; omega
      subst this
      unfold rowCell
      rw [at_append_eq]
      simp only [Nat.lt_irrefl, if_false]
   rw [e]; exact hv
 · rw [List.length_append, List.length_singleton] at hk
   by_cases hkl : k < l.length
   · obtain ⟨b, off, C, e, hC, hne, hB, hN⟩ := h2 k hkl
     rw [at_append_lt hkl]
     simp only [if_pos hkl]
     have hlt : b < w1.heap.size := Nat.lt_of_lt_of_le hN.1 hb.size
     exact ⟨b, off, C, e, hC, hne2 b hlt hne, hB, (hN.later hb).block hG.1.size (hG.1.block b hlt (fun e => hne e.symm))⟩
   · have : k = l.length := by omega
     subst this
     rw [at_append_eq]
     simp only [Nat.lt_irrefl, if_false]
     obtain ⟨b, off, C, e, hC, hge, hN⟩ := hu
     have hne : v.ownBlock ≠ some b := fun e => by have := (h1.lt b e).2; omega
     exact ⟨b, off, C, e, hC, hne2 b hN.1 hne, Nat.le_trans hbs hge, hN.block hG.1.size (hG.1.block b hN.1 (fun e => hne e.symm))⟩
end Go.Proofs.YtnkgakhnlbifdaaGreat
namespace Go.Proofs.YtnkgakhnlbifdaaGreat
open Go.RowKit
abbrev nilV : Value := .slice none 0 0
def KeptT (w : World) (c : Cf) (wk : World) : Prop :=
 Below w.heap.size w wk ∧ Whole wk w.heap.size 23 (cfCells c) ∧ Whole wk (w.heap.size + 1) 37 (bkCells bk0 nilV nilV nilV nilV nilV nilV nilV) ∧ Whole wk (w.heap.size + 1 + 1) 37 (bkCells bk0 nilV nilV nilV nilV nilV nilV nilV)
theorem KeptT.made (w : World) (c : Cf) : KeptT w c (((w.alloc (.cells (cfCells c) 23)).alloc (.cells (bkCells bk0 nilV nilV nilV nilV nilV nilV nilV) 37)).alloc (.cells (bkCells bk0 nilV nilV nilV nilV nilV nilV nilV) 37)) :=
 ⟨(below_two w _ _).alloc (by simp; omega) _, ((Whole.made w _ _).alloc _).alloc _, (Whole.made2 w _ _ _).alloc _, Whole.madeAt _ _ _ _ (by simp)⟩
theorem KeptT.later {w : World} {c : Cf} {wk wl : World} (h : KeptT w c wk) (hb : Below wk.heap.size wk wl) : KeptT w c wl := ⟨held_next h.1 hb, h.2.1.later hb h.2.1.lt, h.2.2.1.later hb h.2.2.1.lt, h.2.2.2.later hb h.2.2.2.lt⟩
abbrev bl00 : Bl := ⟨none, 0, 0, none, 0, 0, none, 0, 0, none, 0, 0, ⟨none, 0, 0, none, 0, 0, none, 0, 0⟩⟩
theorem Bytes.butG {G : Nat} {w0 wr : World} {B : Option Addr} {n D : Nat} {zs : List Int} {x : Bk} {lv ov nv tv uv iv : Value} {a1 : Option Addr} {m1 c1 : Nat} (h : Bytes w0 (.slice B n D) zs) (k : ButG G w0 wr)
 (hX : Whole w0 G 37 (bkCells x (.slice a1 m1 c1) lv ov nv tv uv iv)) (hl : ∀ v, v = lv ∨ v = ov ∨ v = nv ∨ v = tv ∨ v = uv ∨ v = iv → ∃ p m c, v = .slice p m c) : Bytes wr (.slice B n D) zs := by
 obtain ⟨h1, h2, h3⟩ := h
 refine ⟨h1, h2, ?_⟩
 rcases h3 with ⟨a, cap, e, h4, h5⟩ | ⟨b, off, cap, e, hc⟩
 · exact Or.inl ⟨a, cap, e, h4, h5⟩
 · refine Or.inr ⟨b, off, cap, e, fun j hj => k.cell_of (hc j hj) fun e2 => ?_⟩
   have h6 := hc j hj
   simp only at e2
   subst e2
   rw [hX.cell] at h6
   have h7 : off + j < 12 := by
    have := (Array.getElem?_eq_some_iff.1 h6).1
    simpa using this
   obtain ⟨p1, m1, q1, rfl⟩ := hl lv (Or.inl rfl)
   obtain ⟨p2, m2, q2, rfl⟩ := hl ov (Or.inr (Or.inl rfl))
   obtain ⟨p3, m3, q3, rfl⟩ := hl nv (Or.inr (Or.inr (Or.inl rfl)))
   obtain ⟨p4, m4, q4, rfl⟩ := hl tv (Or.inr (Or.inr (Or.inr (Or.inl rfl))))
   obtain ⟨p5, m5, q5, rfl⟩ := hl uv (Or.inr (Or.inr (Or.inr (Or.inr (Or.inl rfl)))))
   obtain ⟨p6, m6, q6, rfl⟩ := hl iv (Or.inr (Or.inr (Or.inr (Or.inr (Or.inr rfl)))))
   generalize off + j = t at h6 h7
   match t, h7 with
   | 0, _ => cases h6
   | 1, _ => cases h6
   | 2, _ => cases h6
   | 3, _ => cases h6
   | 4, _ => cases h6
   | 5, _ => cases h6
   | 6, _ => cases h6
   | 7, _ => cases h6
   | 8, _ => cases h6
   | 9, _ => cases h6
   | 10, _ => cases h6
   | 11, _ => cases h6
def FarK (g : Nat) (p : Bl) : Prop :=
 (∀ ad, p.a2 = some ad → ad.block ≠ g) ∧ (∀ ad, p.a3 = some ad → ad.block ≠ g) ∧ (∀ ad, p.a4 = some ad → ad.block ≠ g) ∧ (∀ ad, p.al.a1 = some ad → ad.block ≠ g) ∧ (∀ ad, p.al.a2 = some ad → ad.block ≠ g) ∧ (∀ ad, p.al.a3 = some ad → ad.block ≠ g)
theorem bk12_elems' {wx : World} {g sz n c m : Nat} {A : Option Addr} {f : Nat → Nat → Value} {x : Bk} {rv lv ov nv tv uv iv : Value} (h : Elems wx (.slice A n c) sz m f) (hn : n = m) (hg : ∀ ad, A = some ad → ad.block ≠ g) : Elems (bk12 wx g x rv lv ov nv tv uv iv) (.slice A n c) sz m f := by
 subst hn
 exact bk12_elems h hg
theorem bk12_far {B : Nat} {wx : World} {g : Nat} {v : Value} {l : List Rw} {x : Bk} {rv lv ov nv tv uv iv : Value} (h : BooksFar B wx v l) (hg : g < B) : BooksFar B (bk12 wx g x rv lv ov nv tv uv iv) v l :=
 (((((((((((h.other (p := ⟨g, 0, none⟩) hg _).other (p := ⟨g, 1, none⟩) hg _).other (p := ⟨g, 2, none⟩) hg _).other (p := ⟨g, 3, none⟩) hg _).other (p := ⟨g, 4, none⟩) hg _).other (p := ⟨g, 5, none⟩) hg _).other (p := ⟨g, 6, none⟩) hg _).other (p := ⟨g, 7, none⟩) hg _).other (p := ⟨g, 8, none⟩) hg _).other (p := ⟨g, 9, none⟩) hg _).other (p := ⟨g, 10, none⟩) hg _).other (p := ⟨g, 11, none⟩) hg _
theorem bk12_in {B g : Nat} {wk : World} {x y : Bk} {p : Bl} {rv lv ov nv tv uv iv : Value} (h : BkIn wk p y) (hf : BooksFar B wk (.slice p.a1 p.m1 p.c1) y.rows) (hg : g < B) (hF : FarK g p) : BkIn (bk12 wk g x rv lv ov nv tv uv iv) p y := by
 obtain ⟨⟨m1, _⟩, ⟨m2, h2⟩, ⟨m3, h3⟩, ⟨m4, h4⟩, ⟨m5, h5⟩, ⟨m6, h6⟩, m7, h7⟩ := h
 obtain ⟨f2, f3, f4, f5, f6, f7⟩ := hF
 exact ⟨⟨m1, (bk12_far hf hg).1⟩, ⟨m2, bk12_elems' h2 m2 f2⟩, ⟨m3, bk12_elems' h3 m3 f3⟩, ⟨m4, bk12_elems' h4 m4 f4⟩, ⟨m5, bk12_elems' h5 m5 f5⟩, ⟨m6, bk12_elems' h6 m6 f6⟩, m7, bk12_elems' h7 m7 f7⟩
end Go.Proofs.YtnkgakhnlbifdaaGreat
namespace Go.Proofs.YtnkgakhnlbifdaaGreat
open Go.RowKit
set_option maxRecDepth 100000 in
set_option maxHeartbeats 1000000 in
theorem refshort_calls (a : Option Addr) (m d : Nat) (l : List Rw) (hm : m = l.length) (hR : Reach l) (w : World) (hA : Books w (.slice a m d) l) :
 Calls Tryz.prog 30 #[.slice a m d] w (Says w (shortB l)) := by
 have hbm : m ≤ 17592186044416 := by rw [hm]; exact hR.1
 have HA := Lib.hid hA; clear hA
 have Hm := Lib.hid hm; clear hm
 have HR := Lib.hid hR; clear hR
 obtain ⟨res, Hres⟩ : ∃ z, Hid (shortB l = z) := ⟨_, rfl⟩
 rw [Hres.out]
 go_enter Tryz.func30, Tryz.ntmps30
 go_wp2
 go_loop [3, 4] (fun t x => ∃ k T : Nat, k ≤ m ∧ x = .int .i64 k ∧ t = .int .i64 T ∧ T ≤ 17592186045000 ∧ Hid (T = bulk l k)) (fun _ x => m - (intOf x).toNat)
 case atStart => exact ⟨0, m, Nat.zero_le _, rfl, rfl, by omega, Hm.out⟩
 case round =>
  obtain ⟨k, T, hk, rfl, rfl, hT, HT⟩ := hrel
  by_cases h4 : T ≤ 400
  · by_cases hlt : k < m
    · obtain ⟨g1, o1, A1, C1, rfl, _, _, _, c2, _⟩ := HA.out.at (k := k) (by have := Hm.out; omega)
      have hx := HR.out.2 k (by have := Hm.out; omega)
      obtain ⟨x, Hx⟩ : ∃ z, Hid ((at_ l k).out.length = z) := ⟨_, rfl⟩
      rw [Hx.out] at c2 hx
      have k0 : (0 : Int) ≤ (k : Int) := by omega
      have k1 : (k : Int) < (m : Int) := by omega
      go_wp2
      go_round
      case rel => exact ⟨k + 1, T + x, by omega, by go_num, by go_num, by omega, show _ = _ by rw [HT.out, ← Hx.out]; rfl⟩
      case measure => simp [intOf]; omega
    · have hkm : k = m := by omega
      obtain rfl : res = true := Hres.out.symm.trans (decide_eq_true (by rw [← Hm.out, ← hkm, ← HT.out]; exact h4))
      have Hkm := Lib.hid hkm; clear hkm
      go_wp2
      go_ret
      exact ⟨by simp; omega, Below.refl _ _⟩
  · obtain rfl : res = false := Hres.out.symm.trans (decide_eq_false fun h => by
     have := bulk_mono l k l.length (by have := Hm.out; omega)
     have := HT.out
     omega)
    go_wp2
    all_goals go_ret
    all_goals exact ⟨by simp; omega, Below.refl _ _⟩
end Go.Proofs.YtnkgakhnlbifdaaGreat
namespace Go.Proofs.YtnkgakhnlbifdaaGreat
open Go.RowKit
def shortK (x : Bk) (p : Bl) : Bool := shortB x.rows && (decide (p.m2 ≤ 40) && (decide (p.m3 ≤ 40) && (decide (p.m4 ≤ 40) && (decide (p.al.m1 ≤ 40) && (decide (p.al.m2 ≤ 40) && decide (p.al.m3 ≤ 40))))))
set_option maxRecDepth 100000 in
set_option maxHeartbeats 4000000 in
theorem refkshort_calls (x : Bk) (p : Bl) (hR : Reach x.rows) (w : World) (hK : BkIn w p x) : Calls Tryz.prog 10 #[bkAt x p] w (Says w (shortK x p)) := by
 obtain ⟨⟨hm1, hB1⟩, ⟨hm2, hB2⟩, ⟨hm3, hB3⟩, ⟨hm4, hB4⟩, ⟨hm5, hB5⟩, ⟨hm6, hB6⟩, hm7, hB7⟩ := hK
 have b2 : p.m2 ≤ 9223372036854775807 := by rw [hm2]; exact hB2.1
 have b3 : p.m3 ≤ 9223372036854775807 := by rw [hm3]; exact hB3.1
 have b4 : p.m4 ≤ 9223372036854775807 := by rw [hm4]; exact hB4.1
 have b5 : p.al.m1 ≤ 9223372036854775807 := by rw [hm5]; exact hB5.1
 have b6 : p.al.m2 ≤ 9223372036854775807 := by rw [hm6]; exact hB6.1
 have b7 : p.al.m3 ≤ 9223372036854775807 := by rw [hm7]; exact hB7.1
 have HX := Lib.hid (Whole.made w 37 (bkAtC x p))
 have Hb0 := Lib.hid (below_box w (.cells (bkAtC x p) 37))
 have hcall := fun w hw => refshort_calls p.a1 p.m1 p.c1 x.rows hm1 hR w hw
 have HB1 := Lib.hid hB1
 obtain ⟨clk, rows, line, outs, asks, notes, ⟨tr, ph, told, use, inc, moved⟩⟩ := x
 obtain ⟨a1, m1, c1, a2, m2, c2, a3, m3, c3, a4, m4, c4, ⟨a5, m5, c5, a6, m6, c6, a7, m7, c7⟩⟩ := p
 simp only at b2 b3 b4 b5 b6 b7
 obtain ⟨z, Hz⟩ : ∃ z, Hid (shortB rows = z) := ⟨_, rfl⟩
 simp only at hcall
 rw [Hz.out] at hcall
 have Hcall := Lib.hid hcall
 clear hcall hB1 hB2 hB3 hB4 hB5 hB6 hB7 hm1 hm2 hm3 hm4 hm5 hm6 hm7 hR
 obtain ⟨res, Hres⟩ : ∃ y, Hid ((shortB rows && (decide (m2 ≤ 40) && (decide (m3 ≤ 40) && (decide (m4 ≤ 40) && (decide (m5 ≤ 40) && (decide (m6 ≤ 40) && decide (m7 ≤ 40))))))) = y) := ⟨_, Lib.hid rfl⟩
 show Calls _ _ _ _ (Says w (shortB rows && (decide (m2 ≤ 40) && (decide (m3 ≤ 40) && (decide (m4 ≤ 40) && (decide (m5 ≤ 40) && (decide (m6 ≤ 40) && decide (m7 ≤ 40))))))))
 rw [Hres.out]
 have HR := Hres.out
 rw [Hz.out] at HR
 have HRes := Lib.hid HR
 clear HR Hres
 go_enter Tryz.func10, Tryz.ntmps10
 go_wp2_with fail
 refine (Hcall.out _ (HB1.out.later Hb0.out)).mono ?_
 rintro e w1 ⟨rfl, hb⟩
 have Hb1 := Lib.hid (held_next Hb0.out hb)
 have HX1 := Lib.hid (HX.out.later hb HX.out.lt)
 clear hb Hcall
 obtain ⟨⟨z0, z1, z2, z3⟩, ⟨z4, z5, z6, z7⟩, z8, z9, z10, z11⟩ := bk_cells HX1.out
 simp only at z0 z1 z2 z3 z4 z5 z6 z7 z8 z9 z10 z11
 cases z with
 | false =>
   obtain rfl : res = false := HRes.out.symm
   go_wp2_with fail
   go_ret
   exact ⟨by rfl, Hb1.out⟩
 | true =>
   by_cases q2 : m2 ≤ 40
   · by_cases q3 : m3 ≤ 40
     · by_cases q4 : m4 ≤ 40
       · by_cases q5 : m5 ≤ 40
         · by_cases q6 : m6 ≤ 40
           · by_cases q7 : m7 ≤ 40
             · obtain rfl : res = true := HRes.out.symm.trans (by simp [q2, q3, q4, q5, q6, q7])
               go_wp2_with fail
               go_ret
               exact ⟨by simp; omega, Hb1.out⟩
             · obtain rfl : res = false := HRes.out.symm.trans (by simp [q2, q3, q4, q5, q6, q7])
               go_wp2_with fail
               go_ret
               exact ⟨by simp; omega, Hb1.out⟩
           · obtain rfl : res = false := HRes.out.symm.trans (by simp [q2, q3, q4, q5, q6])
             go_wp2_with fail
             go_ret
             exact ⟨by rfl, Hb1.out⟩
         · obtain rfl : res = false := HRes.out.symm.trans (by simp [q2, q3, q4, q5])
           go_wp2_with fail
           go_ret
           exact ⟨by rfl, Hb1.out⟩
       · obtain rfl : res = false := HRes.out.symm.trans (by simp [q2, q3, q4])
         go_wp2_with fail
         go_ret
         exact ⟨by rfl, Hb1.out⟩
     · obtain rfl : res = false := HRes.out.symm.trans (by simp [q2, q3])
       go_wp2_with fail
       go_ret
       exact ⟨by rfl, Hb1.out⟩
   · obtain rfl : res = false := HRes.out.symm.trans (by simp [q2])
     go_wp2_with fail
     go_ret
     exact ⟨by rfl, Hb1.out⟩
end Go.Proofs.YtnkgakhnlbifdaaGreat
