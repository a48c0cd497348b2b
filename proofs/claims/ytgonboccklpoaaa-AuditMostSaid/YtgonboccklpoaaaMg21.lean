/- Merged texts: AuditOwn, AuditEnd. No law is proved here. -/
import Derived.Test.YtgonboccklpoaaaMg16
import Derived.Test.YtgonboccklpoaaaMg20
import Derived.Test.YtgonboccklpoaaaMg6
import Derived.Laws.MakeOwn
import Derived.OwnWalk
/- A slice of bools, an audit's lists, of the call's own. No function of the program in it. No law is proved here. -/
namespace Go.Proofs.Ytgonboccklpoaaa
open Go.ChangeShapes Go.WideShapes Go.ChangeAt Go.RowKit Go.Joins Go.Deep

theorem info_bool : (Try.prog.info? 4).map (fun i => (i.zero, i.size, i.bytes)) = some (some (.bool false), 1, 1) := by kernel_rfl
/-- a row of the call's own that holds bools -/
abbrev OwnT (w : World) (base : Nat) (v : Value) (l : List Bool) : Prop := w.ownsRow base 4 1 v l.length (flatCells 1 l.length fun i _ => .bool (l[i]?.getD false))
theorem OwnT.bools {w : World} {base : Nat} {v : Value} {l : List Bool} (h : OwnT w base v l) (hb : l.length ≤ 9223372036854775807) : ∃ A C, v = .slice A l.length C ∧ Bools w (.slice A l.length C) l := by
  obtain ⟨A, C, hv, _, he⟩ := elems_of_own h hb
  exact ⟨A, C, hv, he⟩
theorem ownT_nil (w : World) : OwnT (w.alloc (.cells #[] 4)) w.heap.size (.slice (some ⟨w.heap.size, 0, none⟩) 0 0) [] :=
  own_whole (cs := #[]) (Whole.made w _ _) (Nat.le_refl _) rfl (by decide)
/-- THE APPEND of bools to none -/
theorem run_append_bools {w : World} {base : Nat} {v : Value} {k : List Bool} {A : Option Addr} {m c : Nat} (hown : OwnT w base v []) (hE : Bools w (.slice A m c) k) (hm : m = k.length) (h : k.length ≤ 1000000) (hbase : base ≤ w.heap.size) :
    ∃ v' w', (Builtin.append_ #[30, 30] 30 #[v, .slice A m c]).run Try.prog w = .ok v' w' ∧ OwnT w' base v' k ∧ Below base w w' ∧ Grew w w' v v' := by
  subst hm
  obtain ⟨i5, hi, hz0, hz1, hz2⟩ := info_parts info_bool
  obtain ⟨v', w', h1, h2, h3, h4⟩ := run_append_elems (P := Try.prog) (w := w) 30 30 base 4 i5 _ 1 1 Try.underlying30 hi hz0 hz1 hz2 rfl (by decide)
    v 0 _ hown A k.length c _ hE (fun i j _ _ => rfl) (by unfold maxLen; omega) (by omega) hbase
  refine ⟨v', w', h1, ?_, h3, h4⟩
  rw [Nat.zero_add] at h2
  exact h2
theorem own_mono {w : World} {base B : Nat} {e : TypeId} {s n : Nat} {v : Value} {xs : List Value} (h : w.ownsRow base e s v n xs) (hB : B ≤ base) : w.ownsRow B e s v n xs := by
  obtain ⟨h1, h2 | ⟨g, cap, cur, hv, hb, h3⟩⟩ := h
  · exact ⟨h1, Or.inl h2⟩
  · exact ⟨h1, Or.inr ⟨g, cap, cur, hv, Nat.le_trans hB hb, h3⟩⟩
theorem own_at {w : World} {base : Nat} {e : TypeId} {sz n m c : Nat} {A : Option Addr} {xs : List Value} (h : w.ownsRow base e sz (.slice A m c) n xs) : ∀ ad, A = some ad → base ≤ ad.block ∧ ad.block < w.heap.size := fun ad had => by
  subst had
  exact h.lt _ rfl
/-- an audit whose lists are the call's own -/
def OwnAu (w : World) (B : Nat) (p : Al) (x : Au) : Prop :=
  (p.m1 = x.told.length ∧ OwnT w B (.slice p.a1 p.m1 p.c1) x.told) ∧ (p.m2 = x.use.length ∧ OwnN w B (.slice p.a2 p.m2 p.c2) x.use) ∧ (p.m3 = x.inc.length ∧ OwnN w B (.slice p.a3 p.m3 p.c3) x.inc) ∧ ∀ b, (Value.slice p.a2 p.m2 p.c2).ownBlock = some b → (Value.slice p.a3 p.m3 p.c3).ownBlock ≠ some b
theorem OwnAu.later {w w' : World} {B : Nat} {p : Al} {x : Au} (h : OwnAu w B p x) (hb : Below w.heap.size w w') : OwnAu w' B p x := ⟨⟨h.1.1, own_later h.1.2 hb⟩, ⟨h.2.1.1, own_later h.2.1.2 hb⟩, ⟨h.2.2.1.1, own_later h.2.2.1.2 hb⟩, h.2.2.2⟩
theorem OwnAu.mono {w : World} {B B' : Nat} {p : Al} {x : Au} (h : OwnAu w B p x) (hB : B' ≤ B) : OwnAu w B' p x := ⟨⟨h.1.1, own_mono h.1.2 hB⟩, ⟨h.2.1.1, own_mono h.2.1.2 hB⟩, ⟨h.2.2.1.1, own_mono h.2.2.1.2 hB⟩, h.2.2.2⟩
theorem OwnAu.low {w : World} {B : Nat} {p : Al} {x : Au} (h : OwnAu w B p x) {q : Addr} (hq : q.block < B) (u : Value) : OwnAu (w.setCell q u) B p x := ⟨⟨h.1.1, own_low h.1.2 hq u⟩, ⟨h.2.1.1, own_low h.2.1.2 hq u⟩, ⟨h.2.2.1.1, own_low h.2.2.1.2 hq u⟩, h.2.2.2⟩
theorem OwnAu.in {w : World} {B : Nat} {p : Al} {x : Au} (h : OwnAu w B p x) (hb : x.told.length ≤ 1000000 ∧ x.use.length ≤ 1000000 ∧ x.inc.length ≤ 1000000) : AuIn w p x := by
  obtain ⟨⟨h1, o1⟩, ⟨h2, o2⟩, ⟨h3, o3⟩, _⟩ := h
  refine ⟨⟨h1, ?_⟩, ⟨h2, ?_⟩, h3, ?_⟩
  · obtain ⟨A, C, hv, he⟩ := OwnT.bools o1 (by omega); rw [hv]; exact he
  · obtain ⟨A, C, hv, he⟩ := OwnN.nums o2 (by omega); rw [hv]; exact he
  · obtain ⟨A, C, hv, he⟩ := OwnN.nums o3 (by omega); rw [hv]; exact he
theorem OwnAu.off {w : World} {B : Nat} {p : Al} {x : Au} (h : OwnAu w B p x) {g : Nat} (hg : g < B ∨ w.heap.size ≤ g) : OffAl g p :=
  ⟨fun ad had => by have := own_at h.1.2 ad had; omega, fun ad had => by have := own_at h.2.1.2 ad had; omega, fun ad had => by have := own_at h.2.2.1.2 ad had; omega⟩
/-- an element of a list of the call's own written over: told, used, put in -/
theorem own_n_set {w : World} {base : Nat} {v : Value} {l : List Int} (h : OwnN w base v l) {i : Nat} (hi : i < l.length) (x : Int) :
    ∃ b cap, v = .slice (some ⟨b, 0, none⟩) l.length cap ∧ base ≤ b ∧ b < w.heap.size ∧ w.frozen? ⟨b, i, none⟩ = false ∧ w.cell? ⟨b, i, none⟩ = some (.int .i64 (l[i]?.getD 0)) ∧ OwnN (w.setCell ⟨b, i, none⟩ (.int .i64 x)) base v (l.set i x) := by
  obtain ⟨b, cap, hv, hb, hl, hf, hc, ho⟩ := own_set (f' := fun p _ => .int .i64 ((l.set i x)[p]?.getD 0)) (x := .int .i64 x) h hi (j := 0) (by decide) (fun p q hp hq => by
    obtain rfl : q = 0 := by omega
    by_cases e : p = i
    · subst e; rw [if_pos ⟨rfl, rfl⟩, List.getElem?_set_self hi]; rfl
    · rw [if_neg (fun h => e h.1), List.getElem?_set_ne (fun h => e h.symm)])
  have hc0 := hc i 0 hi (by decide)
  rw [Nat.mul_one, Nat.add_zero] at hc0 ho
  refine ⟨b, cap, hv, hb, hl, hf i, hc0, ?_⟩
  show World.ownsRow _ _ _ _ _ _ _
  rw [List.length_set]
  exact ho
theorem own_t_set {w : World} {base : Nat} {v : Value} {l : List Bool} (h : OwnT w base v l) {i : Nat} (hi : i < l.length) (x : Bool) :
    ∃ b cap, v = .slice (some ⟨b, 0, none⟩) l.length cap ∧ base ≤ b ∧ b < w.heap.size ∧ w.frozen? ⟨b, i, none⟩ = false ∧ w.cell? ⟨b, i, none⟩ = some (.bool (l[i]?.getD false)) ∧ OwnT (w.setCell ⟨b, i, none⟩ (.bool x)) base v (l.set i x) := by
  obtain ⟨b, cap, hv, hb, hl, hf, hc, ho⟩ := own_set (f' := fun p _ => .bool ((l.set i x)[p]?.getD false)) (x := .bool x) h hi (j := 0) (by decide) (fun p q hp hq => by
    obtain rfl : q = 0 := by omega
    by_cases e : p = i
    · subst e; rw [if_pos ⟨rfl, rfl⟩, List.getElem?_set_self hi]; rfl
    · rw [if_neg (fun h => e h.1), List.getElem?_set_ne (fun h => e h.symm)])
  have hc0 := hc i 0 hi (by decide)
  rw [Nat.mul_one, Nat.add_zero] at hc0 ho
  refine ⟨b, cap, hv, hb, hl, hf i, hc0, ?_⟩
  show World.ownsRow _ _ _ _ _ _ _
  rw [List.length_set]
  exact ho
/-- a row of the call's own stays where another block is written -/
theorem own_other {w : World} {base : Nat} {e : TypeId} {s n : Nat} {v : Value} {xs : List Value} (h : w.ownsRow base e s v n xs) {q : Addr} (hq : v.ownBlock ≠ some q.block) (u : Value) : (w.setCell q u).ownsRow base e s v n xs :=
  h.kept (grownBy_set w q u) (.inr hq)
end Go.Proofs.Ytgonboccklpoaaa

/- An audit answered: made lists, none, what doesn't lie in a block. No function of the program in it. No law is proved here. -/
namespace Go.Proofs.Ytgonboccklpoaaa
open Go.ChangeShapes Go.WideShapes Go.ChangeAt Go.RowKit Go.Joins Go.Deep

theorem made_at {v : Value} {m j : Nat} (h : j < m) : (madeCells #[v] m)[j]? = some v := by
  unfold madeCells
  rw [Array.getElem?_map, Array.getElem?_range, if_pos h]
  show some ((#[v])[j % 1]!) = _
  rw [Nat.mod_one]; rfl
theorem made_flat1 {v : Value} {m : Nat} {f : Nat → Nat → Value} (hf : ∀ i, i < m → f i 0 = v) : (madeCells #[v] m).toList = flatCells 1 m f := by
  apply List.ext_getElem?
  intro n
  by_cases hn : n < m
  · have h := flat_at 1 m f n 0 hn (by decide)
    rw [Nat.mul_one, Nat.add_zero] at h
    rw [h, hf n hn, Array.getElem?_toList]
    exact made_at hn
  · rw [List.getElem?_eq_none (by rw [Array.length_toList, size_madeCells]; omega), List.getElem?_eq_none (by rw [flat_length]; omega)]
theorem run_make_bools {w : World} {m : Nat} (h16 : m ≤ 1000) : (Instr.makeSlice 30 (.int .i64 (m : Int)) (.int .i64 (m : Int))).run Try.prog w = .ok (.slice (some ⟨w.heap.size, 0, none⟩) m m) (w.alloc (.cells (madeCells #[.bool false] m) 4)) := by
  obtain ⟨i0, hi, hz0, hz1, hz2⟩ := info_parts info_bool
  have := run_make (P := Try.prog) w 30 4 i0 (.bool false) Try.underlying30 hi hz0 .i64 .i64 (m : Int) (m : Int) (by omega) (by omega) (by rw [hz2]; omega) (by omega)
  simpa [hz1, show (Value.bool false).cells = #[.bool false] from rfl] using this
theorem run_make_n64 {w : World} {m : Nat} (h16 : m ≤ 1000) : (Instr.makeSlice 31 (.int .i64 (m : Int)) (.int .i64 (m : Int))).run Try.prog w = .ok (.slice (some ⟨w.heap.size, 0, none⟩) m m) (w.alloc (.cells (madeCells #[.int .i64 0] m) 2)) := by
  obtain ⟨i0, hi, hz0, hz1, hz2⟩ := info_parts info_n64
  have := run_make (P := Try.prog) w 31 2 i0 (.int .i64 0) Try.underlying31 hi hz0 .i64 .i64 (m : Int) (m : Int) (by omega) (by omega) (by rw [hz2]; omega) (by omega)
  simpa [hz1, show (Value.int .i64 0).cells = #[.int .i64 0] from rfl] using this
theorem own_made_t {w : World} {N B : Nat} (h : N ≤ 1000) (hB : B ≤ w.heap.size) : OwnT (w.alloc (.cells (madeCells #[.bool false] N) 4)) B (.slice (some ⟨w.heap.size, 0, none⟩) N N) (List.replicate N false) := by
  show World.ownsRow _ _ _ _ _ _ _
  rw [List.length_replicate]
  exact own_whole (Whole.made w _ _) hB (made_flat1 fun i hi => by rw [List.getElem?_replicate, if_pos hi]; rfl) (by unfold maxLen; omega)
theorem own_made_n {w : World} {N B : Nat} (h : N ≤ 1000) (hB : B ≤ w.heap.size) : OwnN (w.alloc (.cells (madeCells #[.int .i64 0] N) 2)) B (.slice (some ⟨w.heap.size, 0, none⟩) N N) (List.replicate N 0) := by
  show World.ownsRow _ _ _ _ _ _ _
  rw [List.length_replicate]
  exact own_whole (Whole.made w _ _) hB (made_flat1 fun i hi => by rw [List.getElem?_replicate, if_pos hi]; rfl) (by unfold maxLen; omega)
/-- six cells written below a row of the call's own, beside a block -/
theorem own_six {w : World} {base : Nat} {e : TypeId} {s n : Nat} {v : Value} {xs : List Value} (h : w.ownsRow base e s v n xs) {g : Nat} (hg : g < base) (y : Au) (p : Al) : (au6 w g y p).ownsRow base e s v n xs :=
  own_low (own_low (own_low (own_low (own_low (own_low h (p := ⟨g, 0, none⟩) hg _) (p := ⟨g, 1, none⟩) hg _) (p := ⟨g, 2, none⟩) hg _) (p := ⟨g, 3, none⟩) hg _) (p := ⟨g, 4, none⟩) hg _) (p := ⟨g, 5, none⟩) hg _
theorem whole_six {w : World} {g h : Nat} {T : TypeId} {cs : Array Value} (hw : Whole w g T cs) (hne : g ≠ h) (y : Au) (p : Al) : Whole (au6 w h y p) g T cs :=
  (((((hw.other (p := ⟨h, 0, none⟩) hne _).other (p := ⟨h, 1, none⟩) hne _).other (p := ⟨h, 2, none⟩) hne _).other (p := ⟨h, 3, none⟩) hne _).other (p := ⟨h, 4, none⟩) hne _).other (p := ⟨h, 5, none⟩) hne _
theorem OwnAu.six {w : World} {B : Nat} {q : Al} {x : Au} (h : OwnAu w B q x) {g : Nat} (hg : g < B) (y : Au) (p : Al) : OwnAu (au6 w g y p) B q x :=
  ⟨⟨h.1.1, own_six h.1.2 hg y p⟩, ⟨h.2.1.1, own_six h.2.1.2 hg y p⟩, ⟨h.2.2.1.1, own_six h.2.2.1.2 hg y p⟩, h.2.2.2⟩
/-- no audit -/
theorem au_in_none (w : World) : AuIn w ⟨none, 0, 0, none, 0, 0, none, 0, 0⟩ au0 := ⟨⟨rfl, elems_nil w none 0 1 _ (fun _ => rfl)⟩, ⟨rfl, elems_nil w none 0 1 _ (fun _ => rfl)⟩, rfl, elems_nil w none 0 1 _ (fun _ => rfl)⟩
theorem off_none (g : Nat) : OffAl g ⟨none, 0, 0, none, 0, 0, none, 0, 0⟩ := ⟨(by intro _ h; cases h), (by intro _ h; cases h), (by intro _ h; cases h)⟩
theorem own_off_low {w w0 : World} {base : Nat} {e : TypeId} {s n m c : Nat} {A : Option Addr} {xs : List Value} (h : w.ownsRow base e s (.slice A m c) n xs) {g : Nat} (hg : g < w0.heap.size ∨ w.heap.size ≤ g) (hb : w0.heap.size ≤ base := by omega) : ∀ ad, A = some ad → ad.block ≠ g := fun ad had => by
  have := own_at h ad had
  omega
theorem au_in_own {w : World} {B N g4 g7 g10 : Nat} {tr : Int} (h4 : OwnT w B (.slice (some ⟨g4, 0, none⟩) N N) (List.replicate N false)) (h7 : OwnN w B (.slice (some ⟨g7, 0, none⟩) N N) (List.replicate N 0)) (h10 : OwnN w B (.slice (some ⟨g10, 0, none⟩) N N) (List.replicate N 0)) (hN : N ≤ 1000) :
    AuIn w ⟨some ⟨g4, 0, none⟩, N, N, some ⟨g7, 0, none⟩, N, N, some ⟨g10, 0, none⟩, N, N⟩ ⟨tr, 1, List.replicate N false, List.replicate N 0, List.replicate N 0, false⟩ := by
  refine ⟨⟨by simp, ?_⟩, ⟨by simp, ?_⟩, by simp, ?_⟩
  · obtain ⟨A, C, hv, he⟩ := OwnT.bools h4 (by rw [List.length_replicate]; omega); rw [hv]; exact he
  · obtain ⟨A, C, hv, he⟩ := OwnN.nums h7 (by rw [List.length_replicate]; omega); rw [hv]; exact he
  · obtain ⟨A, C, hv, he⟩ := OwnN.nums h10 (by rw [List.length_replicate]; omega); rw [hv]; exact he
end Go.Proofs.Ytgonboccklpoaaa
