/- Slices of bytes that a call makes and lengthens; bytes as a string and a string as bytes. No law is proved here. -/
import Derived.Test.YtfooplicnjjipaaDoorLaw
import Derived.ArgAppend
import Derived.Laws.BytesArg
import Derived.Lib.AppendStr
import Derived.Lib.ConvBytes
import Derived.Deep.Draws
namespace Go.Proofs.YtfooplicnjjipaaDoor
open Go.ChangeShapes Go.WideShapes Go.ChangeAt Go.RowKit

/-- A row of the call's own, from block B on, that holds these bytes. -/
def Fresh (B : Nat) (e : TypeId) (w : World) (v : Value) (zs : List Int) : Prop :=
  w.ownsRow B e 1 v zs.length (zs.map (Value.int .u8)) ∧ v ≠ .slice none 0 0 ∧ ∀ c ∈ zs, 0 ≤ c ∧ c < 256

theorem Fresh.form {B : Nat} {e : TypeId} {w : World} {v : Value} {zs : List Int} (h : Fresh B e w v zs) :
    ∃ g cap, v = .slice (some ⟨g, 0, none⟩) zs.length cap ∧ B ≤ g ∧ g < w.heap.size ∧ zs.length ≤ cap ∧ zs.length ≤ 9223372036854775807 := by
  rcases h.1.2 with ⟨h1, _⟩ | ⟨g, cap, cur, rfl, hg, hh, hn, hm, _⟩
  · exact absurd h1 h.2.1
  · exact ⟨g, cap, rfl, hg, (Array.getElem?_eq_some_iff.1 hh).1, hn, by unfold maxLen at hm; omega⟩
theorem Fresh.bytes {B : Nat} {e : TypeId} {w : World} {v : Value} {zs : List Int} (h : Fresh B e w v zs) : Bytes w v zs := by
  obtain ⟨g, cap, _, _, _, _, hm⟩ := h.form
  obtain ⟨_, _, _, _, _, _, hb⟩ := bytes_of_own h.1 h.2.1 hm h.2.2
  exact hb
theorem Fresh.mono {B B' : Nat} {e : TypeId} {w : World} {v : Value} {zs : List Int} (h : Fresh B e w v zs) (hB : B' ≤ B) : Fresh B' e w v zs :=
  ⟨⟨h.1.1, h.1.2.imp id fun ⟨g, cap, cur, h1, h2, h3⟩ => ⟨g, cap, cur, h1, Nat.le_trans hB h2, h3⟩⟩, h.2⟩
theorem Fresh.later {B : Nat} {e : TypeId} {w w' : World} {v : Value} {zs : List Int} (h : Fresh B e w v zs) (hb : Below w.heap.size w w') : Fresh B e w' v zs :=
  ⟨h.1.kept (row := none) ⟨hb.os, hb.tape, hb.output, hb.size, fun k hk _ => hb.block k hk⟩ (by cases v.ownBlock <;> simp), h.2⟩
theorem Fresh.drewN {B : Nat} {e : TypeId} {w : World} {v : Value} {zs : List Int} (h : Fresh B e w v zs) (n : Nat) : Fresh B e (w.drewN n) v zs := h

/-- What may be appended to without writing over what came in: a slice without room, or a row of the call's own. -/
def Tail (B : Nat) (e : TypeId) (w : World) (v : Value) (zs : List Int) : Prop :=
  (∃ a, v = .slice a zs.length zs.length ∧ Bytes w v zs) ∨ Fresh B e w v zs

theorem Tail.later {B : Nat} {e : TypeId} {w w' : World} {v : Value} {zs : List Int} (h : Tail B e w v zs) (hb : Below w.heap.size w w') : Tail B e w' v zs :=
  h.imp (fun ⟨a, h1, h2⟩ => ⟨a, h1, h2.later hb⟩) (fun h => h.later hb)
theorem Tail.alloc {B : Nat} {e : TypeId} {w : World} {v : Value} {zs : List Int} (h : Tail B e w v zs) (o : Obj) : Tail B e (w.alloc o) v zs := h.later ((Below.refl _ _).alloc (Nat.le_refl _) _)
theorem Tail.small {B : Nat} {e : TypeId} {w : World} {v : Value} {zs : List Int} (h : Tail B e w v zs) : ∀ c ∈ zs, 0 ≤ c ∧ c < 256 := by
  rcases h with ⟨_, _, h⟩ | h
  · exact h.2.1
  · exact h.2.2

/-- A cell of a new block. -/
theorem cell_new (w : World) (C : Array Value) (T : TypeId) (m : Nat × Nat) (j : Nat) (v : Value) (h : C[j]? = some v) : (w.alloc (.cells C T m)).cell? ⟨w.heap.size, j, none⟩ = some v := by
  have e : (w.alloc (.cells C T m)).heap[w.heap.size]? = some (.cells C T m) := by
    show (w.heap.push _)[w.heap.size]? = _
    simp
  unfold World.cell?
  rw [e]
  exact h

/-- ONE BYTE MORE. -/
theorem wpList_append_byte {P : Program} {w : World} {ops : Array Oper} {rest : List Oper} {o : Oper} {a : Act} {Q : Exit → Act → World → Prop} (hgd : o.guard = none) (s x : Operand) (t : TypeId)
    (ho : o.op = .call { callee := .builtin .append, args := #[s, x], argTypes := #[t, t] })
    (B : Nat) (e : TypeId) (i : TypeInfo) (ht : P.underlying t = some (.slice e)) (hi : P.info? e = some i) (hz : i.zero = some (.int .u8 0)) (hsize : i.size = 1) (hby : i.bytes = 1)
    (v : Value) (zs : List Int) (hs : a.eval s = v) (hT : Tail B e w v zs) (c : Int) (hc : 0 ≤ c ∧ c < 256)
    (ad : Addr) (cp : Nat) (hx : a.eval x = .slice (some ad) 1 cp) (hnew : w.cell? ad = some (.int .u8 c)) (h63 : zs.length + 1 ≤ 140737488355328) (hB : B ≤ w.heap.size)
    (h : ∀ v' w', Fresh B e w' v' (zs ++ [c]) → Below B w w' → wpList P ops Q rest (a.put o.dst v') w') : wpList P ops Q (o :: rest) a w := by
  have hmax : zs.length + 1 ≤ maxLen := by unfold maxLen; omega
  have hsm := hT.small
  have hnews : ∀ j u, [Value.int IntKind.u8 c][j]? = some u → w.cell? (ad.add j) = some u := by
    intro j u hu
    have hj : j = 0 := by
      rcases Nat.eq_zero_or_pos j with h0 | h0
      · exact h0
      · rw [List.getElem?_eq_none (by simp; omega)] at hu; cases hu
    subst hj
    rw [show ad.add 0 = ad by cases ad; simp [Addr.add], hnew]
    simpa using hu
  have h1 : ∀ u ∈ [Value.int IntKind.u8 c], u.oneCell' = true := fun u hu => by rw [List.mem_singleton.1 hu]; rfl
  have hsm2 : ∀ d ∈ zs ++ [c], 0 ≤ d ∧ d < 256 := fun d hd => by
    rcases List.mem_append.1 hd with hd | hd
    · exact hsm d hd
    · rw [List.mem_singleton.1 hd]; exact hc
  rcases hT with ⟨ao, hv, hb⟩ | hF
  · refine wpList_append_grows w hgd s x t ho e i (.int .u8 0) 1 1 ht hi hz hsize hby rfl (by decide) ao zs.length zs.length (zs.map (Value.int .u8)) (hs.trans hv) ?_ (by simp) ?_ ad 1 cp [.int .u8 c] hx rfl hnews h1 (by omega) hmax (by omega) ?_
    · intro hn
      obtain ⟨_, _, hb | ⟨b, off, cap, hv', _⟩⟩ := hb
      · obtain ⟨_, _, _, _, rfl⟩ := hb; exact ⟨rfl, rfl⟩
      · rw [hv] at hv'; simp only [Value.slice.injEq] at hv'; rw [hn] at hv'; cases hv'.1
    · intro b hbo j u hu
      have hj : j < zs.length := by
        have := (List.getElem?_eq_some_iff.1 hu).1
        simpa using this
      obtain ⟨_, _, hb | ⟨b', off, cap, hv', hcell⟩⟩ := hb
      · obtain ⟨_, _, _, _, rfl⟩ := hb; simp at hj
      · rw [hv] at hv'
        simp only [Value.slice.injEq] at hv'
        rw [hbo] at hv'
        obtain ⟨e1, _⟩ := hv'
        injection e1 with e1
        subst e1
        rw [add_plain, hcell j hj]
        simp [List.getElem?_map, List.getElem?_eq_getElem hj] at hu
        simp [List.getD_eq_getElem?_getD, List.getElem?_eq_getElem hj, hu]
    · intro v' w' g1 g2
      refine h v' w' ⟨?_, ?_, hsm2⟩ ((Below.refl _ _).grown g2 hB (fun k hk => by cases hk))
      · have e1 : (zs ++ [c]).length = zs.length + 1 := by simp
        rw [e1, List.map_append]
        exact ⟨g1.1, g1.2.imp id fun ⟨g, cap, cur, k1, k2, k3⟩ => ⟨g, cap, cur, k1, Nat.le_trans hB k2, k3⟩⟩
      · rintro rfl
        rcases g1.2 with ⟨_, hn⟩ | ⟨g, cap, cur, k1, _⟩
        · omega
        · cases k1
  · refine wpList_append_own w hgd s x t ho B e i (.int .u8 0) 1 1 ht hi hz hsize hby rfl (by decide) v zs.length (zs.map (Value.int .u8)) hs hF.1 ad 1 cp [.int .u8 c] hx rfl hnews h1 hmax (by omega) hB ?_
    intro v' w' g1 g2 g3
    refine h v' w' ⟨?_, ?_, hsm2⟩ ((Below.refl _ _).grown g2 hB (fun k hk => (hF.1.lt k hk).1))
    · have e1 : (zs ++ [c]).length = zs.length + 1 := by simp
      rw [e1, List.map_append]
      exact g1
    · intro e0
      have := (g3.1 e0).2
      omega

/-- MANY BYTES MORE, to a row of the call's own. -/
theorem wpList_append_more {P : Program} {w : World} {ops : Array Oper} {rest : List Oper} {o : Oper} {a : Act} {Q : Exit → Act → World → Prop} (hgd : o.guard = none) (s x : Operand) (t : TypeId)
    (ho : o.op = .call { callee := .builtin .append, args := #[s, x], argTypes := #[t, t] })
    (B : Nat) (e : TypeId) (i : TypeInfo) (ht : P.underlying t = some (.slice e)) (hi : P.info? e = some i) (hz : i.zero = some (.int .u8 0)) (hsize : i.size = 1) (hby : i.bytes = 1)
    (v : Value) (zs : List Int) (hs : a.eval s = v) (hF : Fresh B e w v zs) (xv : Value) (xs : List Int) (hx : a.eval x = xv) (hX : Bytes w xv xs) (h63 : zs.length + xs.length ≤ 140737488355328) (hB : B ≤ w.heap.size)
    (h : ∀ v' w', Fresh B e w' v' (zs ++ xs) → Below B w w' → wpList P ops Q rest (a.put o.dst v') w') : wpList P ops Q (o :: rest) a w := by
  refine wpList_append_bytes hgd s x t ho B e i ht hi hz hsize hby v zs.length (zs.map (Value.int .u8)) hs hF.1 xv xs hx hX h63 hB ?_
  intro v' w' g1 g2 g3
  refine h v' w' ⟨?_, fun e0 => hF.2.1 (g3 e0), fun d hd => ?_⟩ ((Below.refl _ _).grown g2 hB (fun k hk => (hF.1.lt k hk).1))
  · rw [List.length_append, List.map_append]; exact g1
  · rcases List.mem_append.1 hd with hd | hd
    · exact hF.2.2 d hd
    · exact hX.2.1 d hd

/-- A string's bytes. -/
def nums (s : ByteArray) : List Int := s.data.toList.map fun b => (b.toNat : Int)
theorem nums_length (s : ByteArray) : (nums s).length = s.size := by
  rw [nums, List.length_map, Array.length_toList]; rfl
theorem nums_small (s : ByteArray) : ∀ c ∈ nums s, 0 ≤ c ∧ c < 256 := by
  intro c hc
  simp only [nums, List.mem_map] at hc
  obtain ⟨b, _, rfl⟩ := hc
  have := b.toNat_lt
  omega
theorem nums_cells (s : ByteArray) : Lib.strCells s = (nums s).map (Value.int .u8) := by
  simp [Lib.strCells, nums, Function.comp_def]
theorem strOf_nums (s : ByteArray) : strOfNums (nums s) = s := by
  have : (strOfNums (nums s)).data = s.data := by
    apply Array.ext'
    simp only [strOfNums, nums, List.map_map]
    conv => rhs; rw [← List.map_id s.data.toList]
    exact List.map_congr_left fun c _ => by simp
  cases s; exact congrArg ByteArray.mk this
theorem nums_strOf {zs : List Int} (h : ∀ c ∈ zs, 0 ≤ c ∧ c < 256) : nums (strOfNums zs) = zs := by
  simp only [nums, strOfNums_data, List.map_map]
  conv => rhs; rw [← List.map_id zs]
  refine List.map_congr_left fun c hc => ?_
  have := h c hc
  simp [UInt8.toNat_ofNat']
  omega
theorem strOf_inj {x y : List Int} (hx : ∀ c ∈ x, 0 ≤ c ∧ c < 256) (hy : ∀ c ∈ y, 0 ≤ c ∧ c < 256) (h : strOfNums x = strOfNums y) : x = y := by
  rw [← nums_strOf hx, ← nums_strOf hy, h]
theorem strOf_append (x y : List Int) : strOfNums (x ++ y) = strOfNums x ++ strOfNums y := by
  have : (strOfNums (x ++ y)).data = (strOfNums x ++ strOfNums y).data := by
    apply Array.ext'
    simp [strOfNums]
  exact congrArg ByteArray.mk this

/-- 'string(b)'. -/
theorem run_string {P : Program} {w : World} {v : Value} {zs : List Int} (hB : Bytes w v zs) {src e dst : TypeId} (hs : P.underlying src = some (.slice e)) (he : P.underlying e = some (.int .u8)) (hd : P.underlying dst = some .string) :
    (convert src dst v).run P w = .ok (.string (strOfNums zs)) w := by
  obtain ⟨_, _, ⟨a, cap, rfl, _, rfl⟩ | ⟨b, off, cap, rfl, hc⟩⟩ := hB
  · rw [run_convert_bytes_string w src dst e a 0 cap hs he hd]
    cases a <;> simp [Conv.bytesToString, loadCells]
    all_goals rfl
  · exact run_convert_bytes_arg w src e hs he b off zs.length cap zs rfl hc dst hd

/-- A STRING'S BYTES MORE, to a row of the call's own. -/
theorem wpList_append_text {P : Program} {w : World} {ops : Array Oper} {rest : List Oper} {o : Oper} {a : Act} {Q : Exit → Act → World → Prop} (hgd : o.guard = none) (s x : Operand) (t u : TypeId)
    (ho : o.op = .call { callee := .builtin .append, args := #[s, x], argTypes := #[t, u] })
    (B : Nat) (e : TypeId) (i : TypeInfo) (ht : P.underlying t = some (.slice e)) (hu : P.underlying u = some .string) (hi : P.info? e = some i) (hz : i.zero = some (.int .u8 0)) (hsize : i.size = 1) (hby : i.bytes = 1)
    (v : Value) (zs : List Int) (hs : a.eval s = v) (hF : Fresh B e w v zs) (xs : ByteArray) (hx : a.eval x = .string xs) (h63 : zs.length + xs.size ≤ 140737488355328) (hB : B ≤ w.heap.size)
    (h : ∀ v' w', Fresh B e w' v' (zs ++ nums xs) → Below B w w' → wpList P ops Q rest (a.put o.dst v') w') : wpList P ops Q (o :: rest) a w := by
  refine Lib.wpList_append_own_string w hgd s x t u ho B e i ht hu hi hz hsize hby v zs.length (zs.map (Value.int .u8)) hs hF.1 xs hx (by unfold maxLen; omega) h63 hB ?_
  intro v' w' g1 g2 g3
  refine h v' w' ⟨?_, fun e0 => hF.2.1 (g3.1 e0).1, fun d hd => ?_⟩ ((Below.refl _ _).grown g2 hB (fun k hk => (hF.1.lt k hk).1))
  · rw [List.length_append, nums_length, List.map_append, ← nums_cells]; exact g1
  · rcases List.mem_append.1 hd with hd | hd
    · exact hF.2.2 d hd
    · exact nums_small xs d hd

/-- '[]byte(s)': the new slice reads as the string's bytes. -/
theorem bytes_of_text (w : World) (e : TypeId) (s : ByteArray) (hm : s.size ≤ 9223372036854775807) : Bytes (Lib.bytesWorld w e s) (.slice (some ⟨w.heap.size, 0, none⟩) s.size (grownCap w s.size 0 e)) (nums s) := by
  refine ⟨by rw [nums_length]; exact hm, nums_small s, Or.inr ⟨w.heap.size, 0, grownCap w s.size 0 e, by rw [nums_length], fun j hj => ?_⟩⟩
  rw [nums_length] at hj
  rw [Nat.zero_add, Lib.bytesWorld_cell w e s j hj]
  have hj' : j < s.data.toList.length := by simpa using hj
  simp [nums, List.getD_eq_getElem?_getD, List.getElem?_map, List.getElem?_eq_getElem hj']
theorem below_text (w : World) (e : TypeId) (s : ByteArray) : Below w.heap.size w (Lib.bytesWorld w e s) :=
  ⟨rfl, rfl, rfl, by rw [Lib.bytesWorld_size]; omega, fun k hk => Lib.bytesWorld_at_old w e s k hk⟩

theorem str_ne {s t : ByteArray} (h : s ≠ t) : (s.toList == t.toList) = false := by
  rw [ByteArray.toList_eq, ByteArray.toList_eq]
  refine beq_eq_false_iff_ne.2 fun e => h ?_
  have : s.data = t.data := Array.toList_inj.1 e
  cases s; cases t; exact congrArg ByteArray.mk this
theorem str_same {s t : ByteArray} (h : s = t) : (s.toList == t.toList) = true := by rw [h]; exact beq_self_eq_true _
end Go.Proofs.YtfooplicnjjipaaDoor
