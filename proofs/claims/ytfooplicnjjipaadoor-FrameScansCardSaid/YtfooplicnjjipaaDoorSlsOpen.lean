/- Slices of bytes in a slice that came in, none greater than memory can hold. No function of the program in it. No law is proved here. -/
import Derived.Test.YtfooplicnjjipaaDoorSlOpen
import Derived.Test.YtfooplicnjjipaaDoorOpenData
import Derived.Test.YtfooplicnjjipaaDoorSls
namespace Go.Proofs.YtfooplicnjjipaaDoor
open Go.ChangeShapes Go.WideShapes Go.ChangeAt Go.RowKit Go.Joins Go.Deep

theorem cells_sl : Tryd.prog.cellsOf 22 = 1 := by kernel_rfl
theorem open_sl_reach {H : Type} {enc : TypeId × Value → H} {W : World} {v : Value} {n : Nat} {y : DataW H × List MemPlace} (hf : DataW.trod enc Tryd.prog W 0 (fun _ => true) true n 22 [v] = some y) :
    ∃ (s : Sl) (zs : List Int), v = slV s ∧ SB W s zs ∧ (Held 22 y.1 → zs.length ≤ 140737488351232) := by
  obtain ⟨s, zs, e1, e2⟩ := open_sl hf
  refine ⟨s, zs, e1, e2, fun hw => ?_⟩
  rcases open_ints Tryd.underlying22 Tryd.underlying5 cells_byte hf with ⟨hcs, hx⟩ | ⟨a, len, cap, zs', hcs, _, hl, hm, hz, hx, hcell, hwz⟩
  · rw [e1] at hcs
    simp only [List.cons.injEq, Value.slice.injEq, and_true] at hcs
    have := e2.1
    omega
  · rw [e1] at hcs
    simp only [List.cons.injEq, Value.slice.injEq, and_true] at hcs
    obtain ⟨_, hlen, _⟩ := hcs
    simp only [if_true] at hz
    have h8 : Tryd.prog.bytesOf 5 = 1 := by kernel_rfl
    have := hw (((lits .u8 (zs'.take len) : List (DataW H)).length + (lits .u8 (zs'.drop len) : List (DataW H)).length) * Tryd.prog.bytesOf 5) (by
      rw [hx]
      simp only [DataW.weights, Tryd.underlying22]
      exact List.mem_cons_self)
    rw [h8] at this
    have hl2 : (lits .u8 (zs'.take len) : List (DataW H)).length = len := by
      simp [lits]; omega
    rw [hl2] at this
    simp only [reachBytes] at this
    have := e2.1
    omega
theorem open_sls_reach {H : Type} {enc : TypeId × Value → H} {W : World} {base : Nat} {v : Value} {d : DataW H} {p : List MemPlace} (hv : Value.okWide Tryd.prog W .any base 24 v)
    (h : DataW.Trod enc Tryd.prog W 0 (fun _ => true) true 24 v d p) (hw : Held 24 d) : ∃ a m c l, v = .slice a m c ∧ m ≤ c ∧ Sls W (.slice a m c) l ∧ ∀ i, i < l.length → (l[i]?.getD []).length ≤ 140737488351232 := by
  obtain ⟨a, n, c, f, D, S, rfl, hnc, _, hE, hd, hf⟩ := open_elems_data Tryd.underlying24 cells_sl (by decide) hv h
  have hD : ∀ i, i < n → Held 22 (D i) := fun i hi q hq => hw q (by
    rw [hd (by omega)]
    simp only [DataW.weights, Tryd.underlying24]
    exact List.mem_cons_of_mem _ (List.mem_append_left _ (weightsAll_mem (List.mem_map.2 ⟨i, List.mem_range.2 hi, rfl⟩) q hq)))
  have hex : ∀ i, ∃ r : Sl × List Int, i < n → (f i 0 = slV r.1 ∧ SB W r.1 r.2 ∧ r.2.length ≤ 140737488351232) := by
    intro i
    by_cases hi : i < n
    · obtain ⟨fu, pl, hx⟩ := hf i hi
      have hr : (List.range 1).map (f i) = [f i 0] := rfl
      rw [hr] at hx
      obtain ⟨s, zs, e1, e2, e3⟩ := open_sl_reach hx
      exact ⟨(s, zs), fun _ => ⟨e1, e2, e3 (hD i hi)⟩⟩
    · exact ⟨(⟨none, 0, 0⟩, []), fun h => absurd h hi⟩
  obtain ⟨G, hG⟩ := Classical.axiomOfChoice hex
  have e : ∀ i, i < n → ((List.range n).map (fun i => (G i).2))[i]?.getD [] = (G i).2 := fun i hi => by simp [hi]
  refine ⟨a, n, c, (List.range n).map (fun i => (G i).2), rfl, hnc, ⟨fun i => (G i).1, ?_, fun i hi => ?_⟩, fun i hi => ?_⟩
  · rw [List.length_map, List.length_range]
    refine hE.congr fun i j hi hj => ?_
    obtain rfl : j = 0 := by omega
    exact (hG i hi).1
  · rw [List.length_map, List.length_range] at hi
    rw [e i hi]
    exact (hG i hi).2.1
  · rw [List.length_map, List.length_range] at hi
    rw [e i hi]
    exact (hG i hi).2.2
end Go.Proofs.YtfooplicnjjipaaDoor
