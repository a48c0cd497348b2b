/- Rows of bytes that a call makes: what comes back; a text's bytes. No function of the program in it. No law is proved here. -/
import Derived.Test.YtfooplicnjjipaaDoorBytes
import Derived.Test.YtfooplicnjjipaaDoorPackMath
import Derived.WalkKit
import Derived.WalkSpells
import Derived.WalkLawsBesides
import Derived.Laws.BitsAllLaws
import Derived.Lib.Hide
namespace Go.Proofs.YtfooplicnjjipaaDoor
open Go.RowKit

theorem info_u8 : (Tryd.prog.info? 5).map (fun i => (i.zero, i.size, i.bytes)) = some (some (.int .u8 0), 1, 1) := by kernel_rfl
theorem elem_bytes : Tryd.prog.underlying 22 = some (.slice (Tryd.prog.elem 22)) := by kernel_rfl
theorem size_bytes (w : World) : (sizeOf (Tryd.prog.elem 22)).run Tryd.prog w = .ok 1 w := by kernel_rfl

/-- A slice without its spare room. -/
theorem piece_full {W : World} {a : Option Addr} {n c : Nat} {zs : List Int} (hB : Bytes W (.slice a n c) zs) (hn : n = zs.length) (hnc : n ≤ c) :
    ∃ a', (∀ w, (Instr.slice 22 (.slice a n c) none (some (.int .i64 (n : Int))) (some (.int .i64 (n : Int)))).run Tryd.prog w = .ok (.slice a' n n) w) ∧ Bytes W (.slice a' n n) zs := by
  refine ⟨if n = 0 then a else a.map (·.add 0), fun w => ?_, ?_⟩
  · rw [run_slice_hm w 22 a n c elem_bytes .i64 .i64 n n (by omega) (by omega) (by omega), size_bytes]
    simp [Result.andThen, sliced]
  · obtain ⟨h1, h2, ⟨a0, c0, h3, h4, rfl⟩ | ⟨b, off, c0, h3, h4⟩⟩ := hB
    · simp only [Value.slice.injEq] at h3
      obtain ⟨rfl, rfl, rfl⟩ := h3
      exact bytes_nil _ _ _ (fun h => rfl)
    · simp only [Value.slice.injEq] at h3
      obtain ⟨rfl, rfl, rfl⟩ := h3
      refine ⟨h1, h2, ?_⟩
      by_cases h0 : zs.length = 0
      · obtain rfl : zs = [] := List.eq_nil_of_length_eq_zero h0
        exact Or.inl ⟨_, 0, rfl, fun _ => rfl, rfl⟩
      · refine Or.inr ⟨b, off, zs.length, ?_, h4⟩
        simp [h0, Addr.add]

theorem or128 (r : Nat) : bits .or .u8 ((r : Int) % 256) 128 = ((r % 128 + 128 : Nat) : Int) := by
  rw [show (r : Int) % 256 = ((r % 256 : Nat) : Int) by omega]
  have e := u8_or_nat (r % 256) 128 (by omega) (by decide)
  rw [show ((128 : Nat) : Int) = 128 from rfl] at e
  rw [e]
  congr 1
  have h : ∀ y : Fin 256, y.val ||| 128 = y.val % 128 + 128 := by decide +kernel
  have := h ⟨r % 256, by omega⟩
  simp only at this
  rw [this]
  omega

/-- What comes back: these bytes, in a row of the call's own. -/
def Made (w : World) (zs : List Int) (e : Ending) (w' : World) : Prop := ∃ v, e = .returned v ∧ Below w.heap.size w w' ∧ Fresh w.heap.size 5 w' v zs

theorem fresh_empty (w : World) : Fresh w.heap.size 5 (w.alloc (.cells #[] 5)) (.slice (some ⟨w.heap.size, 0, none⟩) 0 0) [] :=
  ⟨World.ownsRow_made w #[] 0 (Nat.le_refl _) (by decide) rfl, by simp, fun _ h => by cases h⟩

/-- A text's bytes. -/
def textBytes (s : ByteArray) : List Int := PackMath.num s.size ++ nums s

theorem Fresh.args {B : Nat} {e : TypeId} {w : World} {v : Value} {zs : List Int} (h : Fresh B e w v zs) : ∃ a n c, v = .slice a n c ∧ n = zs.length ∧ n ≤ c := by
  obtain ⟨g, cap, rfl, _, _, h, _⟩ := h.form
  exact ⟨_, _, _, rfl, rfl, h⟩
theorem piece_upto {a : Option Addr} {n c hi : Nat} {zs : List Int} (hn : n = zs.length) (h2 : hi ≤ n) (h3 : n ≤ c) :
    ∃ v, (∀ w, (Instr.slice 22 (.slice a n c) none (some (.int .i64 (hi : Int))) none).run Tryd.prog w = .ok v w) ∧ (∀ W, Bytes W (.slice a n c) zs → Bytes W v (zs.take hi)) ∧ ∃ a' c', v = .slice a' hi c' ∧ hi ≤ c' := by
  refine ⟨sliced a 0 hi c 1, fun w => ?_, fun W hB => ?_, _, _, rfl, by omega⟩
  · rw [run_slice_h w 22 a n c elem_bytes .i64 hi (by omega) (by omega), size_bytes]
    simp [Result.andThen]
  · have := bytes_sliced hB hn (Nat.zero_le hi) h2 h3
    rwa [List.drop_zero] at this
theorem sliced_block {a : Option Addr} {lo hi c : Nat} {a' : Option Addr} {n c' : Nat} (h : sliced a lo hi c 1 = .slice a' n c') {b : Nat} (hb : a'.map (·.block) = some b) : a.map (·.block) = some b := by
  unfold sliced at h
  simp only [Value.slice.injEq] at h
  rw [← h.1] at hb
  cases a with
  | none => simp at hb
  | some x =>
    split at hb
    · exact hb
    · have e : ∀ k, (x.add k).block = x.block := fun k => by
        unfold Addr.add
        split <;> rfl
      simpa [e] using hb
end Go.Proofs.YtfooplicnjjipaaDoor
