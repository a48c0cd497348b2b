/- Bytes of the call's own, nil and all; one append more. No function of the program in it. No law is proved here. -/
import Derived.Test.YtfooplicnjjipaaDoorBytesRun
import Derived.Test.YtfooplicnjjipaaDoorPackWords
namespace Go.Proofs.YtfooplicnjjipaaDoor
open Go.RowKit

/-- bytes of the call's own, or none -/
def OwnB (base : Nat) (w : World) (v : Value) (zs : List Int) : Prop := w.ownsRow base 5 1 v zs.length (zs.map (Value.int .u8)) ∧ ∀ x ∈ zs, 0 ≤ x ∧ x < 256
theorem ownB_nil (base : Nat) (w : World) : OwnB base w (.slice none 0 0) [] := ⟨World.ownsRow_nil _ _ _ _, fun _ h => by cases h⟩
theorem OwnB.later {base : Nat} {w w' : World} {v : Value} {zs : List Int} (h : OwnB base w v zs) (hb : Below w.heap.size w w') : OwnB base w' v zs := ⟨own_later h.1 hb, h.2⟩
theorem Fresh.ownB {base : Nat} {w : World} {v : Value} {zs : List Int} (h : Fresh base 5 w v zs) : OwnB base w v zs := ⟨h.1, h.2.2⟩
theorem OwnB.form {base : Nat} {w : World} {v : Value} {zs : List Int} (h : OwnB base w v zs) (hl : zs.length ≤ 9223372036854775807) : ∃ A C, v = .slice A zs.length C ∧ zs.length ≤ C ∧ Bytes w (.slice A zs.length C) zs := by
  have h1 := h.1
  rcases h1.2 with ⟨rfl, h0⟩ | ⟨g, cap, cur, rfl, hg, hh, hn, hm, h5, h6⟩
  · obtain rfl : zs = [] := List.eq_nil_of_length_eq_zero h0
    exact ⟨none, 0, rfl, Nat.le_refl _, bytes_nil _ _ _ (fun _ => rfl)⟩
  · obtain ⟨_, _, _, _, _, _, hb⟩ := bytes_of_own h1 (by simp) hl h.2
    exact ⟨_, cap, rfl, hn, hb⟩
theorem own_flat (zs ys : List Int) : zs.map (Value.int .u8) = flatCells 1 zs.length (fun i _ => .int .u8 ((zs ++ ys)[i]?.getD 0)) := by
  rw [flat_bytes]
  unfold flatCells
  rw [List.flatMap_def, List.flatMap_def]
  congr 1
  apply List.map_congr_left
  intro i hi
  have := List.mem_range.1 hi
  simp [List.getElem?_append_left this]
/-- BYTES APPENDED, as it runs -/
theorem run_append_own {w : World} {base : Nat} {v : Value} {zs : List Int} (hF : OwnB base w v zs) (hbase : base ≤ w.heap.size) {a : Option Addr} {n c : Nat} {ys : List Int} (hB : Bytes w (.slice a n c) ys) (hn : n = ys.length) (hnc : n ≤ c)
    (hroom : zs.length + ys.length ≤ 140737488355300) :
    ∃ v' w', (Builtin.append_ #[22, 22] 22 #[v, .slice a n c]).run Tryd.prog w = .ok v' w' ∧ OwnB base w' v' (zs ++ ys) ∧ Below base w w' ∧ Grew w w' v v' := by
  obtain ⟨i5, hi, hz0, hz1, hz2⟩ := info_parts info_u8
  subst hn
  obtain ⟨v', w', hrun, q1, q2, q3⟩ := run_append_elems (P := Tryd.prog) (w := w) 22 22 base 5 i5 _ 1 1 Tryd.underlying22 hi hz0 hz1 hz2 rfl (by decide)
    v zs.length (fun i _ => .int .u8 ((zs ++ ys)[i]?.getD 0)) (by rw [← own_flat]; exact hF.1) a ys.length c (fun i _ => .int .u8 (ys[i]?.getD 0)) (elems_of_bytes hB rfl hnc) (fun _ _ _ _ => rfl) (by unfold maxLen; omega) (by omega) hbase
  refine ⟨v', w', hrun, ⟨?_, ?_⟩, q2, q3⟩
  · have e2 : flatCells 1 (zs.length + ys.length) (fun i j => if i < zs.length then (fun i (_ : Nat) => Value.int .u8 ((zs ++ ys)[i]?.getD 0)) i j else (fun i (_ : Nat) => Value.int .u8 (ys[i]?.getD 0)) (i - zs.length) j) = flatCells 1 (zs.length + ys.length) (fun i _ => Value.int .u8 ((zs ++ ys)[i]?.getD 0)) := by
      congr 1
      funext i j
      by_cases h : i < zs.length
      · simp [h]
      · simp [h, List.getElem?_append_right (show zs.length ≤ i by omega)]
    rw [e2] at q1
    rw [flat_bytes, List.length_append]
    exact q1
  · intro x hx
    rcases List.mem_append.1 hx with h | h
    · exact hF.2 x h
    · exact hB.2.1 x h
end Go.Proofs.YtfooplicnjjipaaDoor
