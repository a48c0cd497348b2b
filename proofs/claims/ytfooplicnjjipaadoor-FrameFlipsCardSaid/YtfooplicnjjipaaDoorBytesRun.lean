/- Appends of bytes as they run; a slice of bytes as elements. No function of the program in it. No law is proved here. -/
import Derived.Test.YtfooplicnjjipaaDoorBytes
import Derived.Test.YtfooplicnjjipaaDoorAppRun
namespace Go.Proofs.YtfooplicnjjipaaDoor
open Go.RowKit

theorem flat_bytes (l : List Int) : l.map (Value.int .u8) = flatCells 1 l.length (fun i _ => .int .u8 (l[i]?.getD 0)) := by
  apply List.ext_getElem?
  intro i
  by_cases hi : i < l.length
  · have := flat_at 1 l.length (fun i _ => Value.int .u8 (l[i]?.getD 0)) i 0 hi (by decide)
    rw [Nat.mul_one, Nat.add_zero] at this
    rw [this]
    simp [List.getElem?_eq_getElem hi]
  · rw [List.getElem?_eq_none (by simp; omega), List.getElem?_eq_none (by rw [flat_length]; omega)]
theorem elems_of_bytes {w : World} {a : Option Addr} {n c : Nat} {zs : List Int} (hB : Bytes w (.slice a n c) zs) (hn : n = zs.length) (hnc : n ≤ c) : Elems w (.slice a n c) 1 n (fun i _ => .int .u8 (zs[i]?.getD 0)) := by
  obtain ⟨h1, _, ⟨a0, c0, h3, h4, h5⟩ | ⟨b, off, c0, h3, h4⟩⟩ := hB
  · simp only [Value.slice.injEq] at h3
    obtain ⟨rfl, h, rfl⟩ := h3
    exact ⟨by omega, Or.inl ⟨_, _, by rw [h], h4, h⟩⟩
  · simp only [Value.slice.injEq] at h3
    obtain ⟨rfl, h, rfl⟩ := h3
    refine ⟨by omega, Or.inr ⟨b, off, _, rfl, hnc, fun i j hi hj => ?_⟩⟩
    obtain rfl : j = 0 := by omega
    rw [Nat.mul_one, Nat.add_zero, h4 i (by omega)]
    simp [List.getD_eq_getElem?_getD]

/-- BYTES APPENDED to bytes of the call's own, as it runs -/
theorem run_append_bytes {w : World} {base : Nat} {v : Value} {zs : List Int} (hF : Fresh base 5 w v zs) (hbase : base ≤ w.heap.size) {a : Option Addr} {n c : Nat} {ys : List Int} (hB : Bytes w (.slice a n c) ys) (hn : n = ys.length) (hnc : n ≤ c)
    (hroom : zs.length + ys.length ≤ 140737488355000) (i5 : TypeInfo) (hi : Tryd.prog.info? 5 = some i5) (hz0 : i5.zero = some (.int .u8 0)) (hz1 : i5.size = 1) (hz2 : i5.bytes = 1) :
    ∃ v' w', (Builtin.append_ #[22, 22] 22 #[v, .slice a n c]).run Tryd.prog w = .ok v' w' ∧ Fresh base 5 w' v' (zs ++ ys) ∧ Below base w w' := by
  obtain ⟨g, cap, rfl, _, _, _, _⟩ := hF.form
  subst hn
  have hown := hF.1
  have e : zs.map (Value.int .u8) = flatCells 1 zs.length (fun i _ => .int .u8 ((zs ++ ys)[i]?.getD 0)) := by
    rw [flat_bytes]
    unfold flatCells
    rw [List.flatMap_def, List.flatMap_def]
    congr 1
    apply List.map_congr_left
    intro i hi
    have := List.mem_range.1 hi
    simp [List.getElem?_append_left this]
  obtain ⟨v', w', hrun, q1, q2, q3⟩ := run_append_elems (P := Tryd.prog) (w := w) 22 22 base 5 i5 _ 1 1 Tryd.underlying22 hi hz0 hz1 hz2 rfl (by decide)
    (.slice (some ⟨g, 0, none⟩) zs.length cap) zs.length (fun i _ => .int .u8 ((zs ++ ys)[i]?.getD 0)) (by rw [← e]; exact hown) a ys.length c (fun i _ => .int .u8 (ys[i]?.getD 0)) (elems_of_bytes hB rfl hnc) (fun _ _ _ _ => rfl) (by unfold maxLen; omega) (by omega) hbase
  refine ⟨v', w', hrun, ⟨?_, ?_, ?_⟩, q2⟩
  · have e2 : flatCells 1 (zs.length + ys.length) (fun i j => if i < zs.length then (fun i (_ : Nat) => Value.int .u8 ((zs ++ ys)[i]?.getD 0)) i j else (fun i (_ : Nat) => Value.int .u8 (ys[i]?.getD 0)) (i - zs.length) j) = flatCells 1 (zs.length + ys.length) (fun i _ => Value.int .u8 ((zs ++ ys)[i]?.getD 0)) := by
      congr 1
      funext i j
      by_cases h : i < zs.length
      · simp [h]
      · simp [h, List.getElem?_append_right (show zs.length ≤ i by omega)]
    rw [e2] at q1
    rw [flat_bytes, List.length_append]
    exact q1
  · intro h
    rw [h] at q3
    rcases q3.2 with h2 | h2 <;> simp [Value.ownBlock] at h2
  · intro x hx
    rcases List.mem_append.1 hx with h | h
    · exact hF.2.2 x h
    · exact hB.2.1 x h
/-- a block of bytes that is known whole -/
theorem bytes_whole {W : World} {g : Nat} {zs : List Int} {cs : Array Value} (h : Whole W g 5 cs) (hcs : cs = (zs.map (Value.int .u8)).toArray) (hs : ∀ c ∈ zs, 0 ≤ c ∧ c < 256) (hl : zs.length ≤ 9223372036854775807) :
    Bytes W (.slice (some ⟨g, 0, none⟩) zs.length zs.length) zs := by
  refine ⟨hl, hs, Or.inr ⟨g, 0, zs.length, rfl, fun j hj => ?_⟩⟩
  rw [Nat.zero_add, h.cell, hcs]
  simp [hj]
/-- a block of bytes, marked as a constant's or not -/
theorem bytes_marked {W : World} {g : Nat} {zs : List Int} {cs : Array Value} {fr : Nat × Nat} (h : W.heap[g]? = some (.cells cs 5 fr)) (hcs : cs = (zs.map (Value.int .u8)).toArray) (hs : ∀ c ∈ zs, 0 ≤ c ∧ c < 256) (hl : zs.length ≤ 9223372036854775807) :
    Bytes W (.slice (some ⟨g, 0, none⟩) zs.length zs.length) zs := by
  refine ⟨hl, hs, Or.inr ⟨g, 0, zs.length, rfl, fun j hj => ?_⟩⟩
  rw [Nat.zero_add, cell_of_row W g j cs 5 fr h, hcs]
  simp [hj]
end Go.Proofs.YtfooplicnjjipaaDoor
