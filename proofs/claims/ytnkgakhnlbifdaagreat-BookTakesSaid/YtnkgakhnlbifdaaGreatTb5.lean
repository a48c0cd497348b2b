/- Parts, as far as BookTakesCards reaches them, of: BookKeep, BookPush, MailRead, BookRead. No law is proved here. -/
import Derived.Test.YtnkgakhnlbifdaaGreatTb4
import Derived.Test.YtnkgakhnlbifdaaGreatTb1
import Derived.OwnWalk
import Derived.Test.YtnkgakhnlbifdaaGreatTbQ
import Derived.Test.YtnkgakhnlbifdaaGreatTb2
namespace Go.Proofs.YtnkgakhnlbifdaaGreat
open Go.RowKit
def ButG (G : Nat) (w0 wr : World) : Prop := Below 0 w0 wr ∧ ∀ b, b < w0.heap.size → b ≠ G → wr.heap[b]? = w0.heap[b]?
section
variable {G : Nat} {a b w0 wr w2 w3 : World}
theorem ButG.refl (G : Nat) (w : World) : ButG G w w := ⟨Below.refl _ _, fun _ _ _ => rfl⟩
theorem ButG.size (h : ButG G w0 wr) : w0.heap.size ≤ wr.heap.size := h.1.size
theorem ButG.trans (h : ButG G a b) (k : ButG G b w2) : ButG G a w2 := ⟨h.1.trans k.1, fun q hq hne => (k.2 q (Nat.lt_of_lt_of_le hq h.size) hne).trans (h.2 q hq hne)⟩
theorem ButG.of (hb : Below w0.heap.size w0 wr) : ButG G w0 wr := ⟨hb.mono (Nat.zero_le _), fun q hq _ => hb.block q hq⟩
theorem ButG.set (h : ButG G w0 wr) (i : Nat) (u : Value) : ButG G w0 (wr.setCell ⟨G, i, none⟩ u) := ⟨h.1.setCell (p := ⟨G, i, none⟩) (Nat.zero_le _) u, fun q hq hne => (Below.heap_setCell wr ⟨G, i, none⟩ u q hne).trans (h.2 q hq hne)⟩
theorem ButG.grown (h : ButG G w0 wr) (hb : Below w0.heap.size wr w2) : ButG G w0 w2 := ⟨h.1.trans (hb.mono (Nat.zero_le _)), fun q hq hne => (hb.block q hq).trans (h.2 q hq hne)⟩
theorem ButG.next (h : ButG G w0 wr) (hb : Below wr.heap.size wr w2) : ButG G w0 w2 := h.grown (hb.mono h.size)
theorem ButG.below (h : ButG G w0 wr) (hB : Below G w3 w0) (hG : G ≤ w0.heap.size) : Below G w3 wr :=
 ⟨h.1.os.trans hB.os, h.1.tape.trans hB.tape, h.1.output.trans hB.output, Nat.le_trans hB.size h.size, fun q hq => (h.2 q (by omega) (by omega)).trans (hB.block q hq)⟩
theorem ButG.cell (h : ButG G w0 wr) {p : Addr} (hp : p.block < w0.heap.size) (hne : p.block ≠ G) : wr.cell? p = w0.cell? p := World.cell?_of_block (w := w0) (h.2 p.block hp hne)
theorem ButG.cell_of (h : ButG G w0 wr) {p : Addr} {u : Value} (hc : w0.cell? p = some u) (hne : p.block ≠ G) : wr.cell? p = some u := (h.cell (World.block_lt_of_cell? w0 _ hc) hne).trans hc
theorem Whole.butG {g : Nat} {t : TypeId} {cs : Array Value} (h : Whole w0 g t cs) (k : ButG G w0 wr) (hne : g ≠ G) : Whole wr g t cs := (k.2 g h.lt hne).trans h
theorem Elems.butG {A : Option Addr} {n c sz m : Nat} {f : Nat → Nat → Value} (h : Elems w0 (.slice A n c) sz m f) (k : ButG G w0 wr) (hne : ∀ ad, A = some ad → ad.block ≠ G) : Elems wr (.slice A n c) sz m f := by
 obtain ⟨h1, h2⟩ := h
 refine ⟨h1, ?_⟩
 rcases h2 with h2 | ⟨b, off, cap, hv, hn, hc⟩
 · exact Or.inl h2
 · refine Or.inr ⟨b, off, cap, hv, hn, fun i j hi hj => k.cell_of (hc i j hi hj) ?_⟩
   simp only [Value.slice.injEq] at hv
   exact hne ⟨b, off, none⟩ hv.1
end
theorem three_one {w : World} {g : Nat} {T : TypeId} {x : Rq} (h : Whole w g T (rqCells x)) : Elems w (.slice (some ⟨g, 0, none⟩) 1 1) 3 1 (fun _ j => rqc x j) := by
 refine ⟨by decide, Or.inr ⟨g, 0, 1, rfl, Nat.le_refl _, fun i j hi hj => ?_⟩⟩
 obtain rfl : i = 0 := by omega
 have hc := h.cell
 match j, hj with
 | 0, _ => exact hc 0
 | 1, _ => exact hc 1
 | 2, _ => exact hc 2
theorem flat_ext3 {sz n : Nat} {f g : Nat → Nat → Value} (h : ∀ i j, i < n → j < sz → f i j = g i j) : flatCells sz n f = flatCells sz n g := by
 unfold flatCells
 rw [List.flatMap_def, List.flatMap_def]
 congr 1
 refine List.map_congr_left fun i hi => List.map_congr_left fun j hj => h i j (List.mem_range.1 hi) (List.mem_range.1 hj)
theorem info_out : (Tryz.prog.info? 69).map (fun i => (i.zero, i.size, i.bytes)) = some (some (.agg #[.int .i64 0, .int .i64 0, .int .i64 0]), 3, 24) := by kernel_rfl
theorem info_req : (Tryz.prog.info? 67).map (fun i => (i.zero, i.size, i.bytes)) = some (some (.agg #[.int .i64 0, .int .i64 0, .int .i64 0]), 3, 24) := by kernel_rfl
theorem rqc_plain (x : Rq) (j : Nat) : (rqc x j).oneCell' = true := by unfold rqc; rfl
theorem req_push_at {w : World} {base g : Nat} {v : Value} {E : List Rq} {k : Nat} {x : Rq} (hE : rqAt E k = x) (hown : w.ownsRow base 67 3 v k (flatCells 3 k (fun i j => rqc (rqAt E i) j))) (hW : Whole w g 67 (rqCells x)) (hk : k ≤ 1000) (hb : base ≤ w.heap.size) :
 ∃ A C w', (Builtin.append_ #[27, 27] 27 #[v, .slice (some ⟨g, 0, none⟩) 1 1]).run Tryz.prog w = .ok (.slice A (k + 1) C) w' ∧
   w'.ownsRow base 67 3 (.slice A (k + 1) C) (k + 1) (flatCells 3 (k + 1) (fun i j => rqc (rqAt E i) j)) ∧ Below base w w' ∧ Grew w w' v (.slice A (k + 1) C) := by
 obtain ⟨i0, hi, hz0, hz1, hz2⟩ := info_parts info_req
 obtain ⟨v', w', hrun, q1, q2, q3⟩ := run_append_elems (P := Tryz.prog) (w := w) 27 27 base 67 i0 _ 3 24 Tryz.underlying27 hi hz0 hz1 hz2 rfl (by decide)
  v k (fun i j => rqc (rqAt E i) j) hown (some ⟨g, 0, none⟩) 1 1 (fun _ j => rqc x j) (three_one hW) (fun _ _ _ _ => rqc_plain _ _) (by unfold maxLen; omega) (by omega) hb
 rw [flat_ext3 (g := fun i j => rqc (rqAt E i) j) (fun i j hi _ => by
  by_cases h : i < k
  · simp only [if_pos h]
  · obtain rfl : i = k := by omega
    simp only [Nat.lt_irrefl, if_false]
    rw [hE])] at q1
 obtain ⟨A, C, rfl, _⟩ := elems_of_own q1 (by omega)
 exact ⟨A, C, w', hrun, q1, q2, q3⟩
theorem out_push_at {w : World} {base g : Nat} {v : Value} {E : List Rq} {k : Nat} {x : Rq} (hE : rqAt E k = x) (hown : w.ownsRow base 69 3 v k (flatCells 3 k (fun i j => rqc (rqAt E i) j))) (hW : Whole w g 69 (rqCells x)) (hk : k ≤ 1000) (hb : base ≤ w.heap.size) :
 ∃ A C w', (Builtin.append_ #[28, 28] 28 #[v, .slice (some ⟨g, 0, none⟩) 1 1]).run Tryz.prog w = .ok (.slice A (k + 1) C) w' ∧
   w'.ownsRow base 69 3 (.slice A (k + 1) C) (k + 1) (flatCells 3 (k + 1) (fun i j => rqc (rqAt E i) j)) ∧ Below base w w' ∧ Grew w w' v (.slice A (k + 1) C) := by
 obtain ⟨i0, hi, hz0, hz1, hz2⟩ := info_parts info_out
 obtain ⟨v', w', hrun, q1, q2, q3⟩ := run_append_elems (P := Tryz.prog) (w := w) 28 28 base 69 i0 _ 3 24 Tryz.underlying28 hi hz0 hz1 hz2 rfl (by decide)
  v k (fun i j => rqc (rqAt E i) j) hown (some ⟨g, 0, none⟩) 1 1 (fun _ j => rqc x j) (three_one hW) (fun _ _ _ _ => rqc_plain _ _) (by unfold maxLen; omega) (by omega) hb
 rw [flat_ext3 (g := fun i j => rqc (rqAt E i) j) (fun i j hi _ => by
  by_cases h : i < k
  · simp only [if_pos h]
  · obtain rfl : i = k := by omega
    simp only [Nat.lt_irrefl, if_false]
    rw [hE])] at q1
 obtain ⟨A, C, rfl, _⟩ := elems_of_own q1 (by omega)
 exact ⟨A, C, w', hrun, q1, q2, q3⟩
theorem bk_set2 {w : World} {g : Nat} {x : Bk} {rv lv ov nv tv uv iv u : Value} (h : Whole w g 37 (bkCells x rv lv ov nv tv uv iv)) : Whole (w.setCell ⟨g, 2, none⟩ u) g 37 (bkCells x rv u ov nv tv uv iv) := by
 have h2 := h.set 2 u
 simpa only [bkCells, qA, qB, qC] using h2
theorem bk_set3 {w : World} {g : Nat} {x : Bk} {rv lv ov nv tv uv iv u : Value} (h : Whole w g 37 (bkCells x rv lv ov nv tv uv iv)) : Whole (w.setCell ⟨g, 3, none⟩ u) g 37 (bkCells x rv lv u nv tv uv iv) := by
 have h2 := h.set 3 u
 simpa only [bkCells, qA, qB, qC] using h2
theorem bk_set5 {w : World} {g : Nat} {x : Bk} {rv lv ov nv tv uv iv u : Value} (h : Whole w g 37 (bkCells x rv lv ov nv tv uv iv)) : Whole (w.setCell ⟨g, 5, none⟩ u) g 37 (bkCells x rv lv ov u tv uv iv) := by
 have h2 := h.set 5 u
 simpa only [bkCells, qA, qB, qC] using h2
end Go.Proofs.YtnkgakhnlbifdaaGreat
namespace Go.Proofs.YtnkgakhnlbifdaaGreat
open Go.RowKit
theorem seven_one {w : World} {g : Nat} {T : TypeId} {x : Nt} (h : Whole w g T (ntCells x)) : Elems w (.slice (some ⟨g, 0, none⟩) 1 1) 7 1 (fun _ j => ntc x j) := by
 refine ⟨by decide, Or.inr ⟨g, 0, 1, rfl, Nat.le_refl _, fun i j hi hj => ?_⟩⟩
 obtain rfl : i = 0 := by omega
 have hc := h.cell
 match j, hj with
 | 0, _ => exact hc 0
 | 1, _ => exact hc 1
 | 2, _ => exact hc 2
 | 3, _ => exact hc 3
 | 4, _ => exact hc 4
 | 5, _ => exact hc 5
 | 6, _ => exact hc 6
theorem ntc_plain (x : Nt) (j : Nat) : (ntc x j).oneCell' = true := by unfold ntc; rfl
theorem nt_push_at {w : World} {base g : Nat} {v : Value} {E : List Nt} {k : Nat} {x : Nt} (hE : ntAt E k = x) (hown : w.ownsRow base 71 7 v k (flatCells 7 k (fun i j => ntc (ntAt E i) j))) (hW : Whole w g 71 (ntCells x)) (hk : k ≤ 1000) (hb : base ≤ w.heap.size) :
 ∃ A C w', (Builtin.append_ #[29, 29] 29 #[v, .slice (some ⟨g, 0, none⟩) 1 1]).run Tryz.prog w = .ok (.slice A (k + 1) C) w' ∧
   w'.ownsRow base 71 7 (.slice A (k + 1) C) (k + 1) (flatCells 7 (k + 1) (fun i j => ntc (ntAt E i) j)) ∧ Below base w w' ∧ Grew w w' v (.slice A (k + 1) C) := by
 obtain ⟨i0, hi, hz0, hz1, hz2⟩ := info_parts info_note17
 obtain ⟨v', w', hrun, q1, q2, q3⟩ := run_append_elems (P := Tryz.prog) (w := w) 29 29 base 71 i0 _ 7 56 Tryz.underlying29 hi hz0 hz1 hz2 rfl (by decide)
  v k (fun i j => ntc (ntAt E i) j) hown (some ⟨g, 0, none⟩) 1 1 (fun _ j => ntc x j) (seven_one hW) (fun _ _ _ _ => ntc_plain _ _) (by unfold maxLen; omega) (by omega) hb
 rw [flat_ext3 (g := fun i j => ntc (ntAt E i) j) (fun i j hi _ => by
  by_cases h : i < k
  · simp only [if_pos h]
  · obtain rfl : i = k := by omega
    simp only [Nat.lt_irrefl, if_false]
    rw [hE])] at q1
 obtain ⟨A, C, rfl, _⟩ := elems_of_own q1 (by omega)
 exact ⟨A, C, w', hrun, q1, q2, q3⟩
theorem info_flag : (Tryz.prog.info? 4).map (fun i => (i.zero, i.size, i.bytes)) = some (some (.bool false), 1, 1) := by kernel_rfl
theorem one_cell {w : World} {g : Nat} {T : TypeId} {u : Value} (h : Whole w g T #[u]) : Elems w (.slice (some ⟨g, 0, none⟩) 1 1) 1 1 (fun _ _ => u) := by
 refine ⟨by decide, Or.inr ⟨g, 0, 1, rfl, Nat.le_refl _, fun i j hi hj => ?_⟩⟩
 obtain rfl : i = 0 := by omega
 obtain rfl : j = 0 := by omega
 exact h.cell 0
theorem flag_push_at {w : World} {base g : Nat} {v : Value} {E : Nat → Bool} {k : Nat} {x : Bool} (hE : E k = x) (hown : w.ownsRow base 4 1 v k (flatCells 1 k (fun i _ => .bool (E i)))) (hW : Whole w g 4 #[.bool x]) (hk : k ≤ 1000) (hb : base ≤ w.heap.size) :
 ∃ A C w', (Builtin.append_ #[32, 32] 32 #[v, .slice (some ⟨g, 0, none⟩) 1 1]).run Tryz.prog w = .ok (.slice A (k + 1) C) w' ∧
   w'.ownsRow base 4 1 (.slice A (k + 1) C) (k + 1) (flatCells 1 (k + 1) (fun i _ => .bool (E i))) ∧ Below base w w' ∧ Grew w w' v (.slice A (k + 1) C) := by
 obtain ⟨i0, hi, hz0, hz1, hz2⟩ := info_parts info_flag
 obtain ⟨v', w', hrun, q1, q2, q3⟩ := run_append_elems (P := Tryz.prog) (w := w) 32 32 base 4 i0 _ 1 1 Tryz.underlying32 hi hz0 hz1 hz2 rfl (by decide)
  v k (fun i _ => .bool (E i)) hown (some ⟨g, 0, none⟩) 1 1 (fun _ _ => .bool x) (one_cell hW) (fun _ _ _ _ => rfl) (by unfold maxLen; omega) (by omega) hb
 rw [flat_ext3 (g := fun i _ => .bool (E i)) (fun i j hi _ => by
  by_cases h : i < k
  · simp only [if_pos h]
  · obtain rfl : i = k := by omega
    simp only [Nat.lt_irrefl, if_false]
    rw [hE])] at q1
 obtain ⟨A, C, rfl, _⟩ := elems_of_own q1 (by omega)
 exact ⟨A, C, w', hrun, q1, q2, q3⟩
theorem num_push_at {w : World} {base g : Nat} {v : Value} {E : Nat → Int} {k : Nat} {x : Int} (hE : E k = x) (hown : w.ownsRow base 2 1 v k (flatCells 1 k (fun i _ => .int .i64 (E i)))) (hW : Whole w g 2 #[.int .i64 x]) (hk : k ≤ 1000) (hb : base ≤ w.heap.size) :
 ∃ A C w', (Builtin.append_ #[33, 33] 33 #[v, .slice (some ⟨g, 0, none⟩) 1 1]).run Tryz.prog w = .ok (.slice A (k + 1) C) w' ∧
   w'.ownsRow base 2 1 (.slice A (k + 1) C) (k + 1) (flatCells 1 (k + 1) (fun i _ => .int .i64 (E i))) ∧ Below base w w' ∧ Grew w w' v (.slice A (k + 1) C) := by
 obtain ⟨i0, hi, hz0, hz1, hz2⟩ := info_parts info_n64
 obtain ⟨v', w', hrun, q1, q2, q3⟩ := run_append_elems (P := Tryz.prog) (w := w) 33 33 base 2 i0 _ 1 8 Tryz.underlying33 hi hz0 hz1 hz2 rfl (by decide)
  v k (fun i _ => .int .i64 (E i)) hown (some ⟨g, 0, none⟩) 1 1 (fun _ _ => .int .i64 x) (one_cell hW) (fun _ _ _ _ => rfl) (by unfold maxLen; omega) (by omega) hb
 rw [flat_ext3 (g := fun i _ => .int .i64 (E i)) (fun i j hi _ => by
  by_cases h : i < k
  · simp only [if_pos h]
  · obtain rfl : i = k := by omega
    simp only [Nat.lt_irrefl, if_false]
    rw [hE])] at q1
 obtain ⟨A, C, rfl, _⟩ := elems_of_own q1 (by omega)
 exact ⟨A, C, w', hrun, q1, q2, q3⟩
theorem bk_set8 {w : World} {g : Nat} {x : Bk} {rv lv ov nv tv uv iv u : Value} (h : Whole w g 37 (bkCells x rv lv ov nv tv uv iv)) : Whole (w.setCell ⟨g, 8, none⟩ u) g 37 (bkCells x rv lv ov nv u uv iv) := by
 have h2 := h.set 8 u
 simpa only [bkCells, qA, qB, qC] using h2
theorem bk_set9 {w : World} {g : Nat} {x : Bk} {rv lv ov nv tv uv iv u : Value} (h : Whole w g 37 (bkCells x rv lv ov nv tv uv iv)) : Whole (w.setCell ⟨g, 9, none⟩ u) g 37 (bkCells x rv lv ov nv tv u iv) := by
 have h2 := h.set 9 u
 simpa only [bkCells, qA, qB, qC] using h2
theorem bk_set10 {w : World} {g : Nat} {x : Bk} {rv lv ov nv tv uv iv u : Value} (h : Whole w g 37 (bkCells x rv lv ov nv tv uv iv)) : Whole (w.setCell ⟨g, 10, none⟩ u) g 37 (bkCells x rv lv ov nv tv uv u) := by
 have h2 := h.set 10 u
 simpa only [bkCells, qA, qB, qC] using h2
end Go.Proofs.YtnkgakhnlbifdaaGreat
namespace Go.Proofs.YtnkgakhnlbifdaaGreat
open Go.RowKit
theorem takeB_some {c : Cf} {zs rest : List Int} {l : List Rw} (h : takeB c zs = some (l, rest)) : Starts c zs l rest := by
 unfold takeB at h
 split at h
 · rename_i hex
   have e := Option.some.inj h
   have := hex.choose_spec
   rw [e] at this
   exact this
 · cases h
theorem takeB_none {c : Cf} {zs : List Int} (h : takeB c zs = none) (l : List Rw) (rest : List Int) : ¬ Starts c zs l rest := fun hs => by
 rw [takeB_yes hs] at h; cases h
theorem small_map {ns : List Nat} (h : ∀ v ∈ ns, v ≤ 4611686018427387903) : (ns.map fun v : Nat => (v : Int)).map u64n = ns := by
 rw [List.map_map]
 conv => rhs; rw [← List.map_id ns]
 exact List.map_congr_left fun v hv => u64n_nat (by have := h v hv; omega)
end Go.Proofs.YtnkgakhnlbifdaaGreat
namespace Go.Proofs.YtnkgakhnlbifdaaGreat
open Go.RowKit
noncomputable def countedN (most : Int) (k : Nat) (zs : List Int) : Option (List Nat × List Int) :=
 match someN 1 zs with
 | none => none
 | some (ns, r) => if ((ns[0]?.getD 0 : Nat) : Int) ≤ most then someN (ns[0]?.getD 0 * k) r else none
def CountedN (most : Int) (k : Nat) (zs : List Int) (P : List Nat) (r : List Int) : Prop := ∃ a : Nat, (a : Int) ≤ most ∧ a ≤ 4611686018427387903 ∧ P.length = a * k ∧ (∀ v ∈ P, v ≤ 4611686018427387903) ∧ zs = bytesN (a :: P) ++ r
theorem countedN_yes {most : Int} {k : Nat} {zs r : List Int} {P : List Nat} (h : CountedN most k zs P r) : countedN most k zs = some (P, r) := by
 obtain ⟨a, h1, h2, h3, h4, h5⟩ := h
 have e1 : someN 1 zs = some ([a], bytesN P ++ r) := someN_yes ⟨rfl, fun v hv => by rw [List.mem_singleton.1 hv]; exact h2, by rw [h5, bytesN_cons, List.append_assoc, bytesN_one]⟩
 have e2 : someN (a * k) (bytesN P ++ r) = some (P, r) := someN_yes ⟨h3, h4, rfl⟩
 unfold countedN
 rw [e1]
 show (if ((a : Nat) : Int) ≤ most then someN (a * k) (bytesN P ++ r) else none) = _
 rw [if_pos h1, e2]
theorem countedN_some {most : Int} {k : Nat} {zs r : List Int} {P : List Nat} (h : countedN most k zs = some (P, r)) : CountedN most k zs P r := by
 unfold countedN at h
 cases hs : someN 1 zs with
 | none => rw [hs] at h; cases h
 | some v =>
   obtain ⟨ns, r1⟩ := v
   rw [hs] at h
   have h1 := someN_some hs
   match ns, h1.1 with
   | [a], _ =>
     have h2 : (if ((a : Nat) : Int) ≤ most then someN (a * k) r1 else none) = some (P, r) := h
     by_cases hm : ((a : Nat) : Int) ≤ most
     · rw [if_pos hm] at h2
       have h3 := someN_some h2
       exact ⟨a, hm, h1.2.1 a (List.mem_singleton.2 rfl), h3.1, h3.2.1, by rw [h1.2.2, h3.2.2, bytesN_one, bytesN_cons, List.append_assoc]⟩
     · rw [if_neg hm] at h2; cases h2
theorem CountedN.unique {most : Int} {k : Nat} {zs r r' : List Int} {P P' : List Nat} (h : CountedN most k zs P r) (h' : countedN most k zs = some (P', r')) : P' = P ∧ r' = r := by
 have e := (countedN_yes h).symm.trans h'
 cases e; exact ⟨rfl, rfl⟩
abbrev K (l : List Int) : List Nat := l.map u64n
def Z5 (x : Bk) : List Int := if x.au = au0 then [] else bytesN (K (tripN x.au ++ [oneI x.au.moved]))
def lastN' (x : Bk) : List Int := x.asks :: (notesN x.notes ++ [x.au.try_, x.au.ph])
def Z4 (x : Bk) : List Int := bytesN (K (lastN' x)) ++ Z5 x
def Z3 (x : Bk) : List Int := bytesN (K ((x.outs.length : Int) :: pairN x.outs)) ++ Z4 x
def Z2 (x : Bk) : List Int := bytesN (K ((x.line.length : Int) :: pairN x.line)) ++ Z3 x
def Z1 (x : Bk) : List Int := booksB x.rows ++ Z2 x
theorem rest_parts (x : Bk) : bytesN (K (restN x)) = Z2 x := by
 unfold restN Z2 Z3 Z4 Z5 lastN' auN
 by_cases h : x.au = au0
 · rw [if_pos h, if_pos h]
   simp [K, bytesN_append, bytesN_cons]
 · rw [if_neg h, if_neg h]
   simp [K, bytesN_append, bytesN_cons, bytesN_nil]
theorem book_parts (x : Bk) : bookBytes x = bytesN [u64n x.clk] ++ Z1 x := by
 rw [bookBytes_parts, show bytesN ((restN x).map u64n) = Z2 x from rest_parts x]; rfl
section
variable {c : Cf} {who : Int} {zs : List Int} {x : Bk} {N : Nat}
theorem small_K (h : IsBook c who zs x) {P : List Int} (hP : ∀ v ∈ P, v ∈ allK x) : ∀ v ∈ K P, v ≤ 4611686018427387903 := fun v hv => by
 obtain ⟨y, hy, rfl⟩ := List.mem_map.1 hv
 have := book_small h.1 y (hP y hy)
 have := u64n_of this.1 (by omega)
 omega
theorem back_K (h : IsBook c who zs x) {P : List Int} (hP : ∀ v ∈ P, v ∈ allK x) : ((K P).map fun v : Nat => (v : Int)) = P := by
 rw [List.map_map]
 conv => rhs; rw [← List.map_id P]
 exact List.map_congr_left fun v hv => by have := book_small h.1 v (hP v hv); exact u64n_of this.1 (by omega)
theorem in_line {v : Int} (h : v ∈ pairN x.line) : v ∈ allK x := by unfold allK restN; simp [h]
theorem in_outs {v : Int} (h : v ∈ pairN x.outs) : v ∈ allK x := by unfold allK restN; simp [h]
theorem in_last {v : Int} (h : v ∈ lastN' x) : v ∈ allK x := by
 unfold lastN' at h
 unfold allK restN auN
 simp only [List.mem_cons, List.mem_append, List.not_mem_nil, or_false] at h ⊢
 rcases h with h | h | h | h
 · simp [h]
 · simp [h]
 · simp [h]
 · simp [h]
theorem in_trip (ha : x.au ≠ au0) {v : Int} (h : v ∈ tripN x.au ++ [oneI x.au.moved]) : v ∈ allK x := by
 unfold allK restN auN
 rw [if_neg ha]
 simp only [List.mem_cons, List.mem_append, List.not_mem_nil, or_false] at h ⊢
 rcases h with h | h
 · simp [h]
 · simp [h]
theorem step1 (h : IsBook c who zs x) : SomeN 1 zs [u64n x.clk] (Z1 x) :=
 ⟨rfl, small_K h (P := [x.clk]) (fun v hv => by rw [List.mem_singleton.1 hv]; unfold allK; simp), by rw [h.2, book_parts]⟩
theorem step2 (h : IsBook c who zs x) : Starts c (Z1 x) x.rows (Z2 x) := ⟨h.1.1, rfl⟩
theorem step3 (h : IsBook c who zs x) : CountedN c.q 2 (Z2 x) (K (pairN x.line)) (Z3 x) := by
 have hl : (x.line.length : Int) ≤ c.q := h.1.2.2.2.1.2.2.1
 have hc : cfOk c := h.1.1.1
 have hq : c.q ≤ 8 := hc.2.2.2.1
 refine ⟨x.line.length, hl, by omega, by rw [List.length_map, pairN_len]; omega, small_K h fun v => in_line, ?_⟩
 unfold Z2 K
 rw [List.map_cons, u64n_nat (by omega)]
theorem step4 (h : IsBook c who zs x) : CountedN (c.q + 1) 2 (Z3 x) (K (pairN x.outs)) (Z4 x) := by
 have hl : (x.outs.length : Int) ≤ c.q + 1 := h.1.2.2.2.2.1.1
 have hc : cfOk c := h.1.1.1
 have hq : c.q ≤ 8 := hc.2.2.2.1
 refine ⟨x.outs.length, hl, by omega, by rw [List.length_map, pairN_len]; omega, small_K h fun v => in_outs, ?_⟩
 unfold Z3 K
 rw [List.map_cons, u64n_nat (by omega)]
theorem step5 (hN : c.n = (N : Int)) (h : IsBook c who zs x) : SomeN (1 + 7 * N + 2) (Z4 x) (K (lastN' x)) (Z5 x) := by
 have hl : (x.notes.length : Int) = c.n := h.1.2.2.2.2.2.2.2.2.1.2.2.1
 refine ⟨?_, small_K h fun v => in_last, rfl⟩
 unfold lastN'
 rw [List.length_map, List.length_cons, List.length_append, notesN_len]
 simp; omega
theorem step6_no (ha : x.au = au0) : x.au.try_ = 0 ∧ x.au.ph = 0 ∧ Z5 x = [] := by
 refine ⟨by rw [ha], by rw [ha], ?_⟩
 unfold Z5
 rw [if_pos ha]
theorem step6_yes (hN : c.n = (N : Int)) (h : IsBook c who zs x) (ha : x.au ≠ au0) : (x.au.try_ ≠ 0 ∨ x.au.ph ≠ 0) ∧ SomeN (3 * N + 1) (Z5 x) (K (tripN x.au ++ [oneI x.au.moved])) [] := by
 have hr : runsOk c who x.au := by
  rcases h.1.2.2.2.2.2.2.2.2.2.2.2 with h1 | h1
  · exact absurd h1 ha
  · exact h1
 refine ⟨Or.inl (by have := hr.1.1; omega), ?_, small_K h fun v => in_trip ha, ?_⟩
 · have := hr.2.2.1
   rw [List.length_map, List.length_append, tripN_len]
   simp; omega
 · unfold Z5
   rw [if_neg ha, List.append_nil]
end
theorem flat_congr {α : Type} {n : Nat} {f g : Nat → List α} (h : ∀ i, i < n → f i = g i) : (List.range n).flatMap f = (List.range n).flatMap g := by
 induction n with
 | zero => rfl
 | succ n ih => rw [List.range_succ, List.flatMap_append, List.flatMap_append, ih fun i hi => h i (by omega), List.flatMap_singleton, List.flatMap_singleton, h n (by omega)]
theorem chunks {α : Type} (F : Nat → α) (s : Nat) (l : List Nat) (k : Nat) : ∀ n, k + s * n ≤ l.length → ((List.range n).flatMap fun i => (List.range s).map fun j => F (l[k + s * i + j]?.getD 0)) = ((l.drop k).take (s * n)).map F
 | 0, _ => by simp
 | n + 1, h => by
   have h2 : k + s * n + s ≤ l.length := by rw [Nat.mul_succ] at h; omega
   rw [List.range_succ, List.flatMap_append, chunks F s l k n (by omega), List.flatMap_singleton, Nat.mul_succ, List.take_add, List.map_append]
   congr 1
   rw [List.drop_drop]
   apply List.ext_getElem?
   intro j
   by_cases hj : j < s
   · rw [List.getElem?_map, List.getElem?_range hj, List.getElem?_map, List.getElem?_take, if_pos hj, List.getElem?_drop, Nat.add_assoc]
     show some (F (l[k + s * n + j]?.getD 0)) = _
     rw [show k + s * n + j = k + (s * n + j) by omega, List.getElem?_eq_getElem (show k + (s * n + j) < l.length by omega)]
     rfl
   · rw [List.getElem?_eq_none (by simp; omega), List.getElem?_eq_none (by simp; omega)]
def mkPairs (who : Int) (l : List Nat) : List Rq := (List.range (l.length / 2)).map fun i => ⟨((l[2 * i]?.getD 0 : Nat) : Int), who, ((l[2 * i + 1]?.getD 0 : Nat) : Int)⟩
theorem pairs_who (who : Int) (l : List Nat) : ∀ q ∈ mkPairs who l, q.a = who := fun q hq => by
 obtain ⟨i, _, rfl⟩ := List.mem_map.1 hq
 rfl
theorem pairs_of (who : Int) (l : List Nat) {a : Nat} (h : l.length = a * 2) : pairN (mkPairs who l) = l.map fun v : Nat => (v : Int) := by
 have h1 := chunks (fun v : Nat => (v : Int)) 2 l 0 a (by omega)
 unfold mkPairs pairN
 rw [List.flatMap_map, show l.length / 2 = a by omega]
 rw [List.drop_zero, List.take_of_length_le (by omega)] at h1
 rw [← h1]
 congr 1
 funext i
 show [((l[2 * i]?.getD 0 : Nat) : Int), ((l[2 * i + 1]?.getD 0 : Nat) : Int)] = [((l[0 + 2 * i + 0]?.getD 0 : Nat) : Int), ((l[0 + 2 * i + 1]?.getD 0 : Nat) : Int)]
 rw [Nat.zero_add]; rfl
def mkNote (l : List Nat) (i : Nat) : Nt := ⟨((l[1 + 7 * i]?.getD 0 : Nat) : Int), ((l[1 + 7 * i + 1]?.getD 0 : Nat) : Int), ((l[1 + 7 * i + 2]?.getD 0 : Nat) : Int), ((l[1 + 7 * i + 3]?.getD 0 : Nat) : Int), ((l[1 + 7 * i + 4]?.getD 0 : Nat) : Int), ((l[1 + 7 * i + 5]?.getD 0 : Nat) : Int), ((l[1 + 7 * i + 6]?.getD 0 : Nat) : Int)⟩
def mkNotes (l : List Nat) (n : Nat) : List Nt := (List.range n).map (mkNote l)
theorem notes_of (l : List Nat) {n : Nat} (h : 1 + 7 * n ≤ l.length) : notesN (mkNotes l n) = ((l.drop 1).take (7 * n)).map fun v : Nat => (v : Int) := by
 have h1 := chunks (fun v : Nat => (v : Int)) 7 l 1 n h
 unfold mkNotes notesN
 rw [List.flatMap_map, ← h1]
 rfl
def mkAu (n : Nat) (tr ph : Nat) (l : List Nat) : Au := ⟨tr, ph, (List.range n).map fun i => l[3 * i]?.getD 0 == 1, (List.range n).map fun i => ((l[3 * i + 1]?.getD 0 : Nat) : Int), (List.range n).map fun i => ((l[3 * i + 2]?.getD 0 : Nat) : Int), l[3 * n]?.getD 0 == 1⟩
theorem one_of {v : Nat} (h : v = 0 ∨ v = 1) : oneI (v == 1) = (v : Int) := by
 rcases h with rfl | rfl <;> rfl
theorem trip_of (n tr ph : Nat) (l : List Nat) (h : l.length = 3 * n + 1) (hf : ∀ i, i ≤ n → l[3 * i]?.getD 0 = 0 ∨ l[3 * i]?.getD 0 = 1) : tripN (mkAu n tr ph l) ++ [oneI (mkAu n tr ph l).moved] = l.map fun v : Nat => (v : Int) := by
 have h1 := chunks (fun v : Nat => (v : Int)) 3 l 0 n (by omega)
 have e1 : tripN (mkAu n tr ph l) = ((l.drop 0).take (3 * n)).map fun v : Nat => (v : Int) := by
  rw [← h1]
  unfold tripN
  rw [show (mkAu n tr ph l).told.length = n by simp [mkAu]]
  refine flat_congr fun i hi => ?_
  have e2 : (mkAu n tr ph l).told[i]?.getD false = (l[3 * i]?.getD 0 == 1) := by simp [mkAu, hi]
  have e3 : (mkAu n tr ph l).use[i]?.getD 0 = ((l[3 * i + 1]?.getD 0 : Nat) : Int) := by simp [mkAu, hi]
  have e4 : (mkAu n tr ph l).inc[i]?.getD 0 = ((l[3 * i + 2]?.getD 0 : Nat) : Int) := by simp [mkAu, hi]
  rw [e2, e3, e4, one_of (hf i (by omega))]
  show _ = [((l[0 + 3 * i + 0]?.getD 0 : Nat) : Int), ((l[0 + 3 * i + 1]?.getD 0 : Nat) : Int), ((l[0 + 3 * i + 2]?.getD 0 : Nat) : Int)]
  rw [Nat.zero_add]; rfl
 rw [e1, List.drop_zero, show (mkAu n tr ph l).moved = (l[3 * n]?.getD 0 == 1) from rfl, one_of (hf n (Nat.le_refl _))]
 rw [show [((l[3 * n]?.getD 0 : Nat) : Int)] = (l.drop (3 * n)).map fun v : Nat => (v : Int) by
  rw [List.drop_eq_getElem_cons (show 3 * n < l.length by omega), List.drop_of_length_le (by omega), List.getElem?_eq_getElem (show 3 * n < l.length by omega)]; rfl]
 rw [← List.map_append, List.take_append_drop]
def mkK (who : Int) (n k : Nat) (rows : List Rw) (ls os ts : List Nat) (au : Au) : Bk := ⟨(k : Int), rows, mkPairs who ls, mkPairs who os, ((ts[0]?.getD 0 : Nat) : Int), mkNotes ts n, au⟩
theorem last_of (who : Int) {n k : Nat} (rows : List Rw) (ls os : List Nat) {ts : List Nat} {au : Au} (ht : ts.length = 1 + 7 * n + 2) (h1 : au.try_ = ((ts[1 + 7 * n]?.getD 0 : Nat) : Int)) (h2 : au.ph = ((ts[2 + 7 * n]?.getD 0 : Nat) : Int)) :
 lastN' (mkK who n k rows ls os ts au) = ts.map fun v : Nat => (v : Int) := by
 unfold lastN' mkK
 rw [notes_of ts (by omega)]
 show ((ts[0]?.getD 0 : Nat) : Int) :: (((ts.drop 1).take (7 * n)).map (fun v : Nat => (v : Int)) ++ [au.try_, au.ph]) = _
 have e1 : ts = ts[0]'(by omega) :: ts.drop 1 := by
  conv => lhs; rw [← List.drop_zero (l := ts), List.drop_eq_getElem_cons (show 0 < ts.length by omega)]
 rw [show 2 + 7 * n = 1 + 7 * n + 1 by omega] at h2
 have e3 : (ts.drop 1).drop (7 * n) = [ts[1 + 7 * n]'(by omega), ts[1 + 7 * n + 1]'(by omega)] := by
  rw [List.drop_drop, List.drop_eq_getElem_cons (show 1 + 7 * n < ts.length by omega), List.drop_eq_getElem_cons (show 1 + 7 * n + 1 < ts.length by omega), List.drop_of_length_le (by omega)]
 have e2 : ts.drop 1 = (ts.drop 1).take (7 * n) ++ [ts[1 + 7 * n]'(by omega), ts[1 + 7 * n + 1]'(by omega)] := by rw [← e3]; exact (List.take_append_drop _ _).symm
 have e0 : ts.map (fun v : Nat => (v : Int)) = ((ts[0]'(by omega) : Nat) : Int) :: (((ts.drop 1).take (7 * n)).map (fun v : Nat => (v : Int)) ++ [((ts[1 + 7 * n]'(by omega) : Nat) : Int), ((ts[1 + 7 * n + 1]'(by omega) : Nat) : Int)]) := by
  have h := congrArg (List.map fun v : Nat => (v : Int)) e1
  rw [List.map_cons] at h
  refine h.trans ?_
  congr 1
  have h' := congrArg (List.map fun v : Nat => (v : Int)) e2
  rw [List.map_append] at h'
  exact h'
 rw [e0, h1, h2, List.getElem?_eq_getElem (show 0 < ts.length by omega), List.getElem?_eq_getElem (show 1 + 7 * n < ts.length by omega), List.getElem?_eq_getElem (show 1 + 7 * n + 1 < ts.length by omega)]
 rfl
section
variable {c : Cf} {who : Int} {zs r1 r2 r3 r4 r5 : List Int} {x : Bk} {N k1 : Nat} {rows : List Rw} {ls os ts : List Nat}
theorem takeK_1 (h : someN 1 zs = none) : takeK c who zs = none := takeK_no fun _ hx => someN_none h _ _ (step1 hx)
theorem takeK_cf (h : ¬ cfOk c) : takeK c who zs = none := takeK_no fun _ hx => h hx.1.1.1
theorem is_1 (h : someN 1 zs = some ([k1], r1)) (hx : IsBook c who zs x) : k1 = u64n x.clk ∧ r1 = Z1 x := by
 obtain ⟨e1, e2⟩ := (someN_some h).unique (step1 hx)
 exact ⟨(List.cons.inj e1).1, e2⟩
theorem takeK_2 (h : someN 1 zs = some ([k1], r1)) (h2 : takeB c r1 = none) : takeK c who zs = none := takeK_no fun x hx => by
 obtain ⟨_, e⟩ := is_1 h hx
 exact takeB_none h2 _ _ (e ▸ step2 hx)
theorem is_2 (h : someN 1 zs = some ([k1], r1)) (h2 : takeB c r1 = some (rows, r2)) (hx : IsBook c who zs x) : rows = x.rows ∧ r2 = Z2 x := by
 obtain ⟨_, e⟩ := is_1 h hx
 exact (takeB_some h2).unique (e ▸ step2 hx)
theorem takeK_3 (h : someN 1 zs = some ([k1], r1)) (h2 : takeB c r1 = some (rows, r2)) (h3 : countedN c.q 2 r2 = none) : takeK c who zs = none := takeK_no fun x hx => by
 obtain ⟨_, e⟩ := is_2 h h2 hx
 rw [e, countedN_yes (step3 hx)] at h3
 cases h3
theorem is_3 (h : someN 1 zs = some ([k1], r1)) (h2 : takeB c r1 = some (rows, r2)) (h3 : countedN c.q 2 r2 = some (ls, r3)) (hx : IsBook c who zs x) : ls = K (pairN x.line) ∧ r3 = Z3 x := by
 obtain ⟨_, e⟩ := is_2 h h2 hx
 exact (step3 hx).unique (e ▸ h3)
theorem takeK_4 (h : someN 1 zs = some ([k1], r1)) (h2 : takeB c r1 = some (rows, r2)) (h3 : countedN c.q 2 r2 = some (ls, r3)) (h4 : countedN (c.q + 1) 2 r3 = none) : takeK c who zs = none := takeK_no fun x hx => by
 obtain ⟨_, e⟩ := is_3 h h2 h3 hx
 rw [e, countedN_yes (step4 hx)] at h4
 cases h4
theorem is_4 (h : someN 1 zs = some ([k1], r1)) (h2 : takeB c r1 = some (rows, r2)) (h3 : countedN c.q 2 r2 = some (ls, r3)) (h4 : countedN (c.q + 1) 2 r3 = some (os, r4)) (hx : IsBook c who zs x) : os = K (pairN x.outs) ∧ r4 = Z4 x := by
 obtain ⟨_, e⟩ := is_3 h h2 h3 hx
 exact (step4 hx).unique (e ▸ h4)
theorem mkPairs_is {l : List Rq} (hw : ∀ q ∈ l, q.a = who) (hb : ((K (pairN l)).map fun v : Nat => (v : Int)) = pairN l) : mkPairs who (K (pairN l)) = l :=
 pairN_inj (pairs_who who _) hw ((pairs_of who _ (a := l.length) (by rw [List.length_map, pairN_len]; omega)).trans hb)
theorem line_who (hx : IsBook c who zs x) : ∀ q ∈ x.line, q.a = who := fun q hq => by
 obtain ⟨i, hi, rfl⟩ := List.mem_iff_getElem.1 hq
 have h := (hx.1.2.2.2.1.2.2.2 i hi).1
 have e : rqAt x.line i = x.line[i] := by unfold rqAt; rw [List.getElem?_eq_getElem hi]; rfl
 rw [e] at h
 simp only [oneB, Bool.and_eq_true, decide_eq_true_eq] at h
 exact h.2.1
theorem outs_who (hx : IsBook c who zs x) : ∀ q ∈ x.outs, q.a = who ∧ q.m ≤ 7 := fun q hq => by
 obtain ⟨i, hi, rfl⟩ := List.mem_iff_getElem.1 hq
 have h := hx.1.2.2.2.2.2.2.1 i hi
 have e : rqAt x.outs i = x.outs[i] := by unfold rqAt; rw [List.getElem?_eq_getElem hi]; rfl
 rw [e] at h
 simp only [outB, Bool.and_eq_true, decide_eq_true_eq] at h
 exact ⟨h.2.1.1, by have := h.2.2; omega⟩
theorem takeK_code (h : someN 1 zs = some ([k1], r1)) (h2 : takeB c r1 = some (rows, r2)) (h3 : countedN c.q 2 r2 = some (ls, r3)) (h4 : countedN (c.q + 1) 2 r3 = some (os, r4)) {i : Nat} (hi : 2 * i + 1 < os.length) (hc : 99 < os[2 * i + 1]?.getD 0) : takeK c who zs = none := takeK_no fun x hx => by
 obtain ⟨e, _⟩ := is_4 h h2 h3 h4 hx
 have h5 : mkPairs who os = x.outs := by rw [e]; exact mkPairs_is (fun q hq => (outs_who hx q hq).1) (back_K hx fun v => in_outs)
 have h6 : (⟨((os[2 * i]?.getD 0 : Nat) : Int), who, ((os[2 * i + 1]?.getD 0 : Nat) : Int)⟩ : Rq) ∈ mkPairs who os := List.mem_map.2 ⟨i, List.mem_range.2 (by omega), rfl⟩
 rw [h5] at h6
 have h7 : ((os[2 * i + 1]?.getD 0 : Nat) : Int) ≤ 7 := (outs_who hx _ h6).2
 omega
theorem takeK_5 (hN : c.n = (N : Int)) (h : someN 1 zs = some ([k1], r1)) (h2 : takeB c r1 = some (rows, r2)) (h3 : countedN c.q 2 r2 = some (ls, r3)) (h4 : countedN (c.q + 1) 2 r3 = some (os, r4)) (h5 : someN (1 + 7 * N + 2) r4 = none) : takeK c who zs = none := takeK_no fun x hx => by
 obtain ⟨_, e⟩ := is_4 h h2 h3 h4 hx
 exact someN_none h5 _ _ (e ▸ step5 hN hx)
theorem is_5 (hN : c.n = (N : Int)) (h : someN 1 zs = some ([k1], r1)) (h2 : takeB c r1 = some (rows, r2)) (h3 : countedN c.q 2 r2 = some (ls, r3)) (h4 : countedN (c.q + 1) 2 r3 = some (os, r4)) (h5 : someN (1 + 7 * N + 2) r4 = some (ts, r5)) (hx : IsBook c who zs x) : ts = K (lastN' x) ∧ r5 = Z5 x := by
 obtain ⟨_, e⟩ := is_4 h h2 h3 h4 hx
 exact (someN_some h5).unique (e ▸ step5 hN hx)
theorem last_len (hN : c.n = (N : Int)) (hx : IsBook c who zs x) : (lastN' x).length = 1 + 7 * N + 2 := by
 have := (step5 hN hx).1
 rwa [List.length_map] at this
theorem audit_two (hN : c.n = (N : Int)) (hx : IsBook c who zs x) (e : ts = K (lastN' x)) : x.au.try_ = ((ts[1 + 7 * N]?.getD 0 : Nat) : Int) ∧ x.au.ph = ((ts[2 + 7 * N]?.getD 0 : Nat) : Int) := by
 have hl := last_len hN hx
 have hnl : x.notes.length = N := by have h8 : (x.notes.length : Int) = c.n := hx.1.2.2.2.2.2.2.2.2.1.2.2.1; omega
 have hb := back_K hx (P := lastN' x) fun v => in_last
 have key : ∀ j, j < (lastN' x).length → (lastN' x)[j]? = some ((ts[j]?.getD 0 : Nat) : Int) := fun j hj => by
  have h1 : j < ts.length := by rw [e, List.length_map]; exact hj
  rw [← hb, ← e, List.getElem?_map, List.getElem?_eq_getElem h1]; rfl
 have hq : ∀ j, (lastN' x)[1 + 7 * N + j]? = [x.au.try_, x.au.ph][j]? := fun j => by
  unfold lastN'
  rw [show 1 + 7 * N + j = (7 * N + j) + 1 by omega, List.getElem?_cons_succ, List.getElem?_append_right (by rw [notesN_len]; omega), notesN_len, hnl, Nat.add_sub_cancel_left]
 have h0 := (hq 0).symm.trans (key (1 + 7 * N) (by omega))
 have h1 := (hq 1).symm.trans (key (1 + 7 * N + 1) (by omega))
 rw [show 1 + 7 * N + 1 = 2 + 7 * N by omega] at h1
 exact ⟨Option.some.inj h0, Option.some.inj h1⟩
end
end Go.Proofs.YtnkgakhnlbifdaaGreat
