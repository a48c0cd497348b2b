/- Merged texts: HeldBooks, BytesRun, PaintWords. No law is proved here. -/
import Derived.Test.YtfpadcfahfanoaaRightsWords
import Derived.Test.YtfpadcfahfanoaaMg10
import Derived.Test.YtfpadcfahfanoaaMg2
import Derived.Test.YtfpadcfahfanoaaMg8
/- Books whose rows are of the call's own, while each list Out lies wherever it lies, aside of them. No function of the program in it. No law is proved here. -/
namespace Go.Proofs.Ytfpadcfahfanoaa
open Go.RowKit

/-- numbers at a place, in a block -/
def NumsAt (w : World) (b off : Nat) (l : List Int) : Prop := b < w.heap.size ∧ l.length ≤ 9223372036854775807 ∧ ∀ i, i < l.length → w.cell? ⟨b, off + i, none⟩ = some (.int .i64 (l[i]?.getD 0))
theorem NumsAt.nums {w : World} {b off : Nat} {l : List Int} (h : NumsAt w b off l) {C : Nat} (hC : l.length ≤ C) : Nums w (.slice (some ⟨b, off, none⟩) l.length C) l := by
  refine ⟨h.2.1, Or.inr ⟨b, off, C, rfl, hC, fun i j hi hj => ?_⟩⟩
  obtain rfl : j = 0 := by omega
  rw [Nat.mul_one, Nat.add_zero]
  exact h.2.2 i hi
theorem NumsAt.block {w w' : World} {b off : Nat} {l : List Int} (h : NumsAt w b off l) (hs : w.heap.size ≤ w'.heap.size) (hb : w'.heap[b]? = w.heap[b]?) : NumsAt w' b off l :=
  ⟨by have := h.1; omega, h.2.1, fun i hi => by rw [World.cell?_of_block (a := ⟨b, off + i, none⟩) hb]; exact h.2.2 i hi⟩
theorem NumsAt.later {w w' : World} {b off : Nat} {l : List Int} (h : NumsAt w b off l) (hb : Below w.heap.size w w') : NumsAt w' b off l := h.block hb.size (hb.block b h.1)

def HeldG (w : World) (base : Nat) (v : Value) (l : List Rw) (g : Nat → Value) : Prop :=
  w.ownsRow base 59 3 v l.length (flatCells 3 l.length (rowCell l g)) ∧
    ∀ k, k < l.length → ∃ b off C, g k = .slice (some ⟨b, off, none⟩) (at_ l k).out.length C ∧ (at_ l k).out.length ≤ C ∧ v.ownBlock ≠ some b ∧ base ≤ b ∧ NumsAt w b off (at_ l k).out
def HeldBooks (w : World) (base : Nat) (v : Value) (l : List Rw) : Prop := ∃ g, HeldG w base v l g
theorem HeldG.later {w w' : World} {base : Nat} {v : Value} {l : List Rw} {g : Nat → Value} (h : HeldG w base v l g) (hb : Below w.heap.size w w') : HeldG w' base v l g :=
  ⟨own_later h.1 hb, fun k hk => by obtain ⟨b, off, C, e, hC, hne, hB, hN⟩ := h.2 k hk; exact ⟨b, off, C, e, hC, hne, hB, hN.later hb⟩⟩
theorem HeldBooks.later {w w' : World} {base : Nat} {v : Value} {l : List Rw} (h : HeldBooks w base v l) (hb : Below w.heap.size w w') : HeldBooks w' base v l := ⟨_, h.choose_spec.later hb⟩
theorem heldBooks_nil (w : World) (base : Nat) : HeldBooks w base (.slice none 0 0) [] := ⟨fun _ => .bool false, World.ownsRow_nil _ _ _ _, fun k hk => absurd hk (by simp)⟩
theorem HeldBooks.books {w : World} {base : Nat} {v : Value} {l : List Rw} (h : HeldBooks w base v l) (hb : l.length ≤ 9223372036854775807) : ∃ A C, v = .slice A l.length C ∧ Books w (.slice A l.length C) l := by
  obtain ⟨g, h1, h2⟩ := h
  obtain ⟨A, C, rfl, _, hE⟩ := elems_of_own h1 hb
  refine ⟨A, C, rfl, g, hE, fun k hk => ?_⟩
  obtain ⟨b, off, C', e, hC, _, _, hN⟩ := h2 k hk
  exact ⟨_, _, e, by rw [e]; exact hN.nums hC⟩

/-- books that lie behind B: they stay where nothing behind B turns -/
def BooksFar (B : Nat) (w : World) (v : Value) (l : List Rw) : Prop := Books w v l ∧ ∀ W : World, w.heap.size ≤ W.heap.size → (∀ g, B ≤ g → g < w.heap.size → W.heap[g]? = w.heap[g]?) → Books W v l
theorem BooksFar.later {B : Nat} {w w' : World} {v : Value} {l : List Rw} (h : BooksFar B w v l) (hb : Below w.heap.size w w') : BooksFar B w' v l :=
  ⟨h.1.later hb, fun W hs hg => h.2 W (Nat.le_trans hb.size hs) fun g h1 h2 => (hg g h1 (Nat.lt_of_lt_of_le h2 hb.size)).trans (hb.block g h2)⟩
theorem BooksFar.other {B : Nat} {w : World} {v : Value} {l : List Rw} (h : BooksFar B w v l) {p : Addr} (hp : p.block < B) (u : Value) : BooksFar B (w.setCell p u) v l := by
  have e : ∀ g, B ≤ g → (w.setCell p u).heap[g]? = w.heap[g]? := fun g hg => Below.heap_setCell w p u g (by omega)
  have hs : (w.setCell p u).heap.size = w.heap.size := by simp
  refine ⟨h.2 _ (by rw [hs]; exact Nat.le_refl _) fun g h1 _ => e g h1, fun W h1 h2 => h.2 W (by rw [← hs]; exact h1) fun g h3 h4 => (h2 g h3 (by rw [hs]; exact h4)).trans (e g h3)⟩
theorem HeldBooks.far {w : World} {base : Nat} {v : Value} {l : List Rw} (h : HeldBooks w base v l) (hb : l.length ≤ 9223372036854775807) : ∃ A C, v = .slice A l.length C ∧ BooksFar base w (.slice A l.length C) l := by
  obtain ⟨A, C, rfl, hB⟩ := h.books hb
  refine ⟨A, C, rfl, hB, fun W hs hg => ?_⟩
  obtain ⟨g, h1, h2⟩ := h
  have hrow : W.ownsRow base 59 3 (.slice A l.length C) l.length (flatCells 3 l.length (rowCell l g)) := by
    refine ⟨h1.1, ?_⟩
    rcases h1.2 with hn | ⟨gb, cap, cur, e, h3, h4, h5⟩
    · exact Or.inl hn
    · exact Or.inr ⟨gb, cap, cur, e, h3, (hg gb h3 (Array.getElem?_eq_some_iff.1 h4).1).trans h4, h5⟩
  obtain ⟨A', C', e, _, hE⟩ := elems_of_own hrow hb
  simp only [Value.slice.injEq, true_and] at e
  obtain ⟨rfl, rfl⟩ := e
  refine ⟨g, hE, fun k hk => ?_⟩
  obtain ⟨b, off, C', e, hC, _, hbb, hN⟩ := h2 k hk
  exact ⟨_, _, e, by rw [e]; exact (hN.block hs (hg b hbb hN.1)).nums hC⟩

/-- ONE ROW MORE, by an append -/
theorem held_push {w0 w1 w2 : World} {base : Nat} {v v' u : Value} {l : List Rw} {r : Rw} {g : Nat → Value} (h : HeldG w0 base v l g) (hb : Below w0.heap.size w0 w1)
    (hu : ∃ b off C, u = .slice (some ⟨b, off, none⟩) r.out.length C ∧ r.out.length ≤ C ∧ w0.heap.size ≤ b ∧ NumsAt w1 b off r.out)
    (hv : w2.ownsRow base 59 3 v' (l.length + 1) (flatCells 3 (l.length + 1) (fun i j => if i < l.length then rowCell l g i j else if j = 0 then .int .i64 r.inc else if j = 1 then .int .i64 r.use else u)))
    (hG : Grew w1 w2 v v') (hbs : base ≤ w0.heap.size) : HeldBooks w2 base v' (l ++ [r]) := by
  obtain ⟨h1, h2⟩ := h
  have hne2 : ∀ b, b < w1.heap.size → v.ownBlock ≠ some b → v'.ownBlock ≠ some b := fun b hb' hne e => by
    rcases hG.2 with h3 | h3
    · exact hne (h3.symm.trans e)
    · rw [h3] at e
      injection e with e
      omega
  refine ⟨fun i => if i < l.length then g i else u, ?_, fun k hk => ?_⟩
  · rw [List.length_append, List.length_singleton]
    have e : flatCells 3 (l.length + 1) (rowCell (l ++ [r]) (fun i => if i < l.length then g i else u)) = flatCells 3 (l.length + 1) (fun i j => if i < l.length then rowCell l g i j else if j = 0 then .int .i64 r.inc else if j = 1 then .int .i64 r.use else u) := by
      unfold flatCells
      rw [List.flatMap_def, List.flatMap_def]
      congr 1
      apply List.map_congr_left
      intro i hi
      apply List.map_congr_left
      intro j _
      by_cases hil : i < l.length
      · unfold rowCell
        rw [at_append_lt hil]
        simp only [if_pos hil]
      · have : i = l.length := by have := List.mem_range.1 hi; omega
        subst this
        unfold rowCell
        rw [at_append_eq]
        simp only [Nat.lt_irrefl, if_false]
    rw [e]; exact hv
  · rw [List.length_append, List.length_singleton] at hk
    by_cases hkl : k < l.length
    · obtain ⟨b, off, C, e, hC, hne, hB, hN⟩ := h2 k hkl
      rw [at_append_lt hkl]
      simp only [if_pos hkl]
      have hlt : b < w1.heap.size := Nat.lt_of_lt_of_le hN.1 hb.size
      exact ⟨b, off, C, e, hC, hne2 b hlt hne, hB, (hN.later hb).block hG.1.size (hG.1.block b hlt (fun e => hne e.symm))⟩
    · have : k = l.length := by omega
      subst this
      rw [at_append_eq]
      simp only [Nat.lt_irrefl, if_false]
      obtain ⟨b, off, C, e, hC, hge, hN⟩ := hu
      have hne : v.ownBlock ≠ some b := fun e => by have := (h1.lt b e).2; omega
      exact ⟨b, off, C, e, hC, hne2 b hN.1 hne, Nat.le_trans hbs hge, hN.block hG.1.size (hG.1.block b hN.1 (fun e => hne e.symm))⟩
end Go.Proofs.Ytfpadcfahfanoaa

/- Appends of bytes as they run; a slice of bytes as elements. No function of the program in it. No law is proved here. -/
namespace Go.Proofs.Ytfpadcfahfanoaa
open Go.RowKit

theorem flat_bytes (l : List Int) : l.map (Value.int .u8) = flatCells 1 l.length (fun i _ => .int .u8 (l[i]?.getD 0)) := by
  apply List.ext_getElem?
  intro i
  by_cases hi : i < l.length
  · have := flat_at 1 l.length (fun i _ => Value.int .u8 (l[i]?.getD 0)) i 0 hi (by decide)
    rw [Nat.mul_one, Nat.add_zero] at this
    rw [this]
    simp [List.getElem?_eq_getElem hi]
  · rw [List.getElem?_eq_none (by simp; omega), List.getElem?_eq_none (by rw [flat_length]; omega)]
theorem elems_of_bytes {w : World} {a : Option Addr} {n c : Nat} {zs : List Int} (hB : Bytes w (.slice a n c) zs) (hn : n = zs.length) (hnc : n ≤ c) : Elems w (.slice a n c) 1 n (fun i _ => .int .u8 (zs[i]?.getD 0)) := by
  obtain ⟨h1, _, ⟨a0, c0, h3, h4, h5⟩ | ⟨b, off, c0, h3, h4⟩⟩ := hB
  · simp only [Value.slice.injEq] at h3
    obtain ⟨rfl, h, rfl⟩ := h3
    exact ⟨by omega, Or.inl ⟨_, _, by rw [h], h4, h⟩⟩
  · simp only [Value.slice.injEq] at h3
    obtain ⟨rfl, h, rfl⟩ := h3
    refine ⟨by omega, Or.inr ⟨b, off, _, rfl, hnc, fun i j hi hj => ?_⟩⟩
    obtain rfl : j = 0 := by omega
    rw [Nat.mul_one, Nat.add_zero, h4 i (by omega)]
    simp [List.getD_eq_getElem?_getD]

set_option maxRecDepth 1000000 in
/-- BYTES APPENDED to bytes of the call's own, as it runs -/
theorem run_append_bytes {w : World} {base : Nat} {v : Value} {zs : List Int} (hF : Fresh base 5 w v zs) (hbase : base ≤ w.heap.size) {a : Option Addr} {n c : Nat} {ys : List Int} (hB : Bytes w (.slice a n c) ys) (hn : n = ys.length) (hnc : n ≤ c)
    (hroom : zs.length + ys.length ≤ 140737488355000) (i5 : TypeInfo) (hi : Try.prog.info? 5 = some i5) (hz0 : i5.zero = some (.int .u8 0)) (hz1 : i5.size = 1) (hz2 : i5.bytes = 1) :
    ∃ v' w', (Builtin.append_ #[24, 24] 24 #[v, .slice a n c]).run Try.prog w = .ok v' w' ∧ Fresh base 5 w' v' (zs ++ ys) ∧ Below base w w' := by
  obtain ⟨g, cap, rfl, _, _, _, _⟩ := hF.form
  subst hn
  have hown := hF.1
  have e : zs.map (Value.int .u8) = flatCells 1 zs.length (fun i _ => .int .u8 ((zs ++ ys)[i]?.getD 0)) := by
    rw [flat_bytes]
    unfold flatCells
    rw [List.flatMap_def, List.flatMap_def]
    congr 1
    apply List.map_congr_left
    intro i hi
    have := List.mem_range.1 hi
    simp [List.getElem?_append_left this]
  obtain ⟨v', w', hrun, q1, q2, q3⟩ := run_append_elems (P := Try.prog) (w := w) 24 24 base 5 i5 _ 1 1 Try.underlying24 hi hz0 hz1 hz2 rfl (by decide)
    (.slice (some ⟨g, 0, none⟩) zs.length cap) zs.length (fun i _ => .int .u8 ((zs ++ ys)[i]?.getD 0)) (by rw [← e]; exact hown) a ys.length c (fun i _ => .int .u8 (ys[i]?.getD 0)) (elems_of_bytes hB rfl hnc) (fun _ _ _ _ => rfl) (by unfold maxLen; omega) (by omega) hbase
  refine ⟨v', w', hrun, ⟨?_, ?_, ?_⟩, q2⟩
  · have e2 : flatCells 1 (zs.length + ys.length) (fun i j => if i < zs.length then (fun i (_ : Nat) => Value.int .u8 ((zs ++ ys)[i]?.getD 0)) i j else (fun i (_ : Nat) => Value.int .u8 (ys[i]?.getD 0)) (i - zs.length) j) = flatCells 1 (zs.length + ys.length) (fun i _ => Value.int .u8 ((zs ++ ys)[i]?.getD 0)) := by
      congr 1
      funext i j
      by_cases h : i < zs.length
      · simp [h]
      · simp [h, List.getElem?_append_right (show zs.length ≤ i by omega)]
    rw [e2] at q1
    rw [flat_bytes, List.length_append]
    exact q1
  · intro h
    rw [h] at q3
    rcases q3.2 with h2 | h2 <;> simp [Value.ownBlock] at h2
  · intro x hx
    rcases List.mem_append.1 hx with h | h
    · exact hF.2.2 x h
    · exact hB.2.1 x h
/-- a block of bytes that is known whole -/
theorem bytes_whole {W : World} {g : Nat} {zs : List Int} {cs : Array Value} (h : Whole W g 5 cs) (hcs : cs = (zs.map (Value.int .u8)).toArray) (hs : ∀ c ∈ zs, 0 ≤ c ∧ c < 256) (hl : zs.length ≤ 9223372036854775807) :
    Bytes W (.slice (some ⟨g, 0, none⟩) zs.length zs.length) zs := by
  refine ⟨hl, hs, Or.inr ⟨g, 0, zs.length, rfl, fun j hj => ?_⟩⟩
  rw [Nat.zero_add, h.cell, hcs]
  simp [hj]
/-- a block of bytes, marked as a constant's or not -/
theorem bytes_marked {W : World} {g : Nat} {zs : List Int} {cs : Array Value} {fr : Nat × Nat} (h : W.heap[g]? = some (.cells cs 5 fr)) (hcs : cs = (zs.map (Value.int .u8)).toArray) (hs : ∀ c ∈ zs, 0 ≤ c ∧ c < 256) (hl : zs.length ≤ 9223372036854775807) :
    Bytes W (.slice (some ⟨g, 0, none⟩) zs.length zs.length) zs := by
  refine ⟨hl, hs, Or.inr ⟨g, 0, zs.length, rfl, fun j hj => ?_⟩⟩
  rw [Nat.zero_add, cell_of_row W g j cs 5 fr h, hcs]
  simp [hj]
end Go.Proofs.Ytfpadcfahfanoaa

/- Books as bytes: what comes back; numbers of the call's own. No function of the program in it. No law is proved here. -/
namespace Go.Proofs.Ytfpadcfahfanoaa
open Go.RowKit

theorem elem_nums : Try.prog.underlying 52 = some (.slice (Try.prog.elem 52)) := by kernel_rfl
theorem size_nums (w : World) : (sizeOf (Try.prog.elem 52)).run Try.prog w = .ok 1 w := by kernel_rfl

/-- books and what is behind them, or none of both -/
def TookB (w : World) (x : Option (List Rw × List Int)) (e : Ending) (w' : World) : Prop :=
  (∃ l rest A C B D, x = some (l, rest) ∧ e = .returned (.tuple #[.slice A l.length C, .slice B rest.length D, .bool true]) ∧ Books w' (.slice A l.length C) l ∧ Bytes w' (.slice B rest.length D) rest ∧ rest.length ≤ D ∧ Below w.heap.size w w') ∨
  (x = none ∧ e = .returned (.tuple #[.slice none 0 0, .slice none 0 0, .bool false]) ∧ Below w.heap.size w w')

/-- the same, and the books lie behind where the call began -/
def TookBF (w : World) (x : Option (List Rw × List Int)) (e : Ending) (w' : World) : Prop :=
  (∃ l rest A C B D, x = some (l, rest) ∧ e = .returned (.tuple #[.slice A l.length C, .slice B rest.length D, .bool true]) ∧ BooksFar w.heap.size w' (.slice A l.length C) l ∧ Bytes w' (.slice B rest.length D) rest ∧ rest.length ≤ D ∧ Below w.heap.size w w') ∨
  (x = none ∧ e = .returned (.tuple #[.slice none 0 0, .slice none 0 0, .bool false]) ∧ Below w.heap.size w w')
theorem TookBF.took {w : World} {x : Option (List Rw × List Int)} {e : Ending} {w' : World} (h : TookBF w x e w') : TookB w x e w' := by
  rcases h with ⟨l, rest, A, C, B, D, h1, h2, h3, h4⟩ | h
  · exact Or.inl ⟨l, rest, A, C, B, D, h1, h2, h3.1, h4⟩
  · exact Or.inr h
set_option maxRecDepth 100000 in
/-- one number more, behind numbers of the call's own -/
theorem nums_push {w : World} {base : Nat} {v : Value} {P : List Int} {k : Nat} (x : Int) (hk : P.length = k) (hown : w.ownsRow base 2 1 v k (P.map (Value.int .i64))) (hb : base ≤ w.heap.size) (h : k ≤ 1000000) :
    ∃ v' w', (Builtin.append_ #[52, 52] 52 #[v, .slice (some ⟨w.heap.size, 0, none⟩) 1 1]).run Try.prog (w.alloc (.cells #[.int .i64 x] 2)) = .ok v' w' ∧
      w'.ownsRow base 2 1 v' (k + 1) ((P ++ [x]).map (Value.int .i64)) ∧ Below base w w' ∧ Grew (w.alloc (.cells #[.int .i64 x] 2)) w' v v' := by
  subst hk
  obtain ⟨i0, hi, hz0, hz1, hz2⟩ := info_parts info_int64
  have hb1 : Below w.heap.size w (w.alloc (.cells #[.int .i64 x] 2)) := below_box w _
  have e : P.map (Value.int .i64) = flatCells 1 P.length (fun i _ => .int .i64 ((P ++ [x])[i]?.getD 0)) := by
    rw [flat_one]
    unfold flatCells
    rw [List.flatMap_def, List.flatMap_def]
    congr 1
    apply List.map_congr_left
    intro i hi
    have := List.mem_range.1 hi
    simp [List.getElem?_append_left this]
  obtain ⟨v', w', hrun, q1, q2, q3⟩ := run_append_elems (P := Try.prog) (w := w.alloc (.cells #[.int .i64 x] 2)) 52 52 base 2 i0 _ 1 8 Try.underlying52 hi hz0 hz1 hz2 rfl (by decide)
    v P.length (fun i _ => .int .i64 ((P ++ [x])[i]?.getD 0)) (by rw [← e]; exact own_later hown hb1) (some ⟨w.heap.size, 0, none⟩) 1 1 (fun _ _ => .int .i64 x) (one_num (Whole.made w _ _)) (fun _ _ _ _ => rfl) (by unfold maxLen; omega) (by omega) (by have := hb1.size; omega)
  refine ⟨v', w', hrun, ?_, (hb1.mono hb).trans q2, q3⟩
  rw [flat_push (k := P.length) (f := fun i _ => .int .i64 ((P ++ [x])[i]?.getD 0)) (g := fun _ _ => .int .i64 x) (by simp)] at q1
  rw [flat_one, List.length_append, List.length_singleton]
  exact q1

theorem three {w : World} {base : Nat} {v : Value} {P : List Int} {k : Nat} (hown : w.ownsRow base 2 1 v k (P.map (Value.int .i64))) (hk : P.length = k) (h2 : 2 ≤ k) :
    ∃ g cap, v = .slice (some ⟨g, 0, none⟩) k cap ∧ base ≤ g ∧ g < w.heap.size ∧ k ≤ cap ∧ w.cell? ⟨g, 0, none⟩ = some (.int .i64 (P[0]?.getD 0)) ∧ w.cell? ⟨g, 1, none⟩ = some (.int .i64 (P[1]?.getD 0)) ∧ NumsAt w g 2 (P.drop 2) := by
  have hl := hown.1
  rcases hown.2 with ⟨_, h0⟩ | ⟨g, cap, cur, rfl, hg, hh, hn, hm, h5, h6⟩
  · omega
  · have hc : ∀ j, j < k → w.cell? ⟨g, j, none⟩ = some (.int .i64 (P[j]?.getD 0)) := by
      intro j hj
      rw [Whole.cell (w := w) (g := g) (t := 2) (cs := cur) hh]
      have : (cur.toList.take (k * 1))[j]? = (P.map (Value.int .i64))[j]? := by rw [h6]
      rw [List.getElem?_take_of_lt (by omega), Array.getElem?_toList] at this
      rw [this]
      simp [List.getElem?_eq_getElem (show j < P.length by omega)]
    refine ⟨g, cap, rfl, hg, (Array.getElem?_eq_some_iff.1 hh).1, hn, hc 0 (by omega), hc 1 (by omega), (Array.getElem?_eq_some_iff.1 hh).1, by rw [List.length_drop]; unfold maxLen at hm; omega, fun i hi => ?_⟩
    rw [List.length_drop] at hi
    rw [hc (2 + i) (by omega), List.getElem?_drop]

/-- bytes, and what was there has not turned -/
def PutB (w : World) (zs : List Int) (e : Ending) (w' : World) : Prop := ∃ A m C, e = .returned (.slice A m C) ∧ m = zs.length ∧ m ≤ C ∧ Bytes w' (.slice A m C) zs ∧ Below w.heap.size w w'
end Go.Proofs.Ytfpadcfahfanoaa
