/- Parts, as far as BookApartCards reaches them, of: Each, EachFar, RefBookLoop1, RefBookLoop3, RefBookLoop4, RefBookLoop2, BookEnd, Bytes, PackWords, PackTakeWords, PackRefPut, PackRefTake, BytesRun, PaintWords, RefMailSome, RefBookCount, PaintTakeMath. No law is proved here. -/
import Derived.Orders
import Derived.RegionTactic
import Derived.Lib.Hide
import Derived.Test.YtnkgakhnlbifdaaGreatAp8
import Derived.Test.YtnkgakhnlbifdaaGreatAp1
import Derived.IntWalk
import Derived.BigRegion
import Derived.WalkSmall
import Derived.Test.YtnkgakhnlbifdaaGreatAp0
import Derived.ArgAppend
import Derived.Laws.BytesArg
import Derived.Lib.AppendStr
import Derived.Lib.ConvBytes
import Derived.Deep.Draws
import Derived.Test.YtnkgakhnlbifdaaGreatAp4
import Derived.WalkKit
import Derived.WalkSpells
import Derived.WalkLawsBesides
import Derived.Laws.BitsAllLaws
import Derived.Deep.QuietTactic
import Derived.BigQuiet
import Derived.Deep.RegionHeld3
import Derived.LoopTactic
namespace Go.Proofs.YtnkgakhnlbifdaaGreat
open Go
section
variable {P : Program} {ops : Array Oper} {Q : Exit → Act → World → Prop}
def backward (ops : Array Oper) : Bool := (List.range ops.size).all fun i => match ops[i]? with
 | some o => o.after.all fun e => !Region.binds .any e || decide (e.on < i)
 | none => true
def waitsFor (ops : Array Oper) (i : Nat) : List Nat := match ops[i]? with
 | some o => (o.after.toList.filter (Region.binds .any)).map (·.on)
 | none => []
def oneMore (d : Nat → Bool) (i : Nat) : Nat → Bool := fun k => k == i || d k
theorem oneMore_same (d : Nat → Bool) (i : Nat) : oneMore d i i = true := by simp [oneMore]
theorem oneMore_other {d : Nat → Bool} {i k : Nat} (h : k ≠ i) : oneMore d i k = d k := by simp [oneMore, h]
def still (n : Nat) (d : Nat → Bool) : Nat := ((List.range n).filter fun k => !d k).length
theorem still_more {n : Nat} {d : Nat → Bool} {i : Nat} (hi : i < n) (hd : d i = false) : still n (oneMore d i) < still n d := by
 unfold still
 induction n with
 | zero => omega
 | succ n ih =>
   rw [List.range_succ, List.filter_append, List.filter_append, List.length_append, List.length_append]
   by_cases h : i = n
   · subst h
     have e1 : (List.range i).filter (fun k => !oneMore d i k) = (List.range i).filter (fun k => !d k) := by
      apply List.filter_congr
      intro k hk
      rw [oneMore_other (by have := List.mem_range.1 hk; omega)]
     rw [e1]
     simp [oneMore_same, hd]
   · have := ih (by omega)
     have e2 : [n].filter (fun k => !oneMore d i k) = [n].filter (fun k => !d k) := by
      apply List.filter_congr
      intro k hk
      rw [oneMore_other (by have := List.mem_singleton.1 hk; omega)]
     rw [e2]
     omega
theorem wpAny_each (hb : backward ops = true) (J : (Nat → Bool) → Act → World → Prop)
 (hstep : ∀ (i : Nat) (d : Nat → Bool) (a : Act) (w : World), i < ops.size → J d a w → d i = false → (∀ k ∈ waitsFor ops i, d k = true) → wpOp P ops Q i (fun a' w' => J (oneMore d i) a' w') a w)
 (hend : ∀ (d : Nat → Bool) (a : Act) (w : World), J d a w → (∀ i, i < ops.size → d i = true) → Q .normal a w) :
 ∀ (fuel : Nat) (listed : Array Bool) (d : Nat → Bool) (a : Act) (w : World), listed.size = ops.size → (∀ i, i < ops.size → listed[i]? = some (d i)) → still ops.size d ≤ fuel → J d a w → wpAny P .any ops Q fuel listed a w := by
 intro fuel
 induction fuel with
 | zero =>
   intro listed d a w hs hl hf hJ
   have hall : ∀ i, i < ops.size → d i = true := by
    intro i hi
    cases h : d i with
    | true => rfl
    | false =>
      have hlen : 0 < ((List.range ops.size).filter fun k => !d k).length := List.length_pos_of_mem (a := i) (List.mem_filter.2 ⟨List.mem_range.2 hi, by simp [h]⟩)
      unfold still at hf
      omega
   refine ⟨?_, hend d a w hJ hall⟩
   by_cases hr : Region.ready .any ops listed = []
   · exact hr
   · obtain ⟨j, hj⟩ := List.exists_mem_of_ne_nil _ hr
     obtain ⟨h1, o, ho, _⟩ := mem_ready.1 hj
     have hjs : j < ops.size := (Array.getElem?_eq_some_iff.1 ho).1
     rw [Array.getD_eq_getD_getElem?, hl j hjs, hall j hjs] at h1
     simp at h1
 | succ fuel ih =>
   intro listed d a w hs hl hf hJ
   refine ⟨fun hr => hend d a w hJ ?_, fun i hi => ?_⟩
   · intro i
     induction i using Nat.strongRecOn with
     | ind i ihi =>
       intro hi
       cases h : d i with
       | true => rfl
       | false =>
         have : i ∈ Region.ready .any ops listed := by
          refine mem_ready.2 ⟨by rw [Array.getD_eq_getD_getElem?, hl i hi, h]; rfl, ops[i], Array.getElem?_eq_getElem hi, fun e he hbe => ?_⟩
          have hlt : e.on < i := by
           have h2 := List.all_eq_true.1 hb i (List.mem_range.2 hi)
           simp only [Array.getElem?_eq_getElem hi] at h2
           have h3 := Array.all_eq_true_iff_forall_mem.1 h2 e he
           rw [hbe, Bool.not_true, Bool.false_or] at h3
           exact of_decide_eq_true h3
          have := ihi e.on hlt (by omega)
          rw [Array.getD_eq_getD_getElem?, hl e.on (by omega), this]; rfl
         rw [hr] at this
         cases this
   · obtain ⟨h1, o, ho, hdep⟩ := mem_ready.1 hi
     have his : i < ops.size := (Array.getElem?_eq_some_iff.1 ho).1
     have hdi : d i = false := by
      rw [Array.getD_eq_getD_getElem?, hl i his] at h1
      simpa using h1
     refine wpOp_mono (fun a' w' hJ' => ih (listed.setIfInBounds i true) (oneMore d i) a' w' (by simpa using hs) ?_ ?_ hJ') (hstep i d a w his hJ hdi ?_)
     · intro k hk
       by_cases e : k = i
       · subst e
         rw [oneMore_same, Array.getElem?_setIfInBounds_self_of_lt (by omega)]
       · rw [oneMore_other e, Array.getElem?_setIfInBounds_ne (fun h => e h.symm)]
         exact hl k hk
     · have := still_more his hdi
       omega
     · intro k hk
       unfold waitsFor at hk
       rw [ho] at hk
       obtain ⟨e, he, rfl⟩ := List.mem_map.1 hk
       obtain ⟨he1, he2⟩ := List.mem_filter.1 he
       have h3 := hdep e (Array.mem_toList_iff.1 he1) he2
       have hes : e.on < ops.size := by
        have h2 := List.all_eq_true.1 hb i (List.mem_range.2 his)
        simp only [ho] at h2
        have h3 := Array.all_eq_true_iff_forall_mem.1 h2 e (Array.mem_toList_iff.1 he1)
        rw [he2, Bool.not_true, Bool.false_or] at h3
        have := of_decide_eq_true h3
        omega
       rw [Array.getD_eq_getD_getElem?, hl e.on hes] at h3
       simpa using h3
theorem wp_region_each {id : Nat} {a : Act} {w : World} (hm : P.follows .mixedOrders = true) (hb : backward ops = true) (J : (Nat → Bool) → Act → World → Prop) (h0 : J (fun _ => false) a w.drew)
 (hstep : ∀ (i : Nat) (d : Nat → Bool) (a : Act) (w : World), i < ops.size → J d a w → d i = false → (∀ k ∈ waitsFor ops i, d k = true) → wpOp P ops Q i (fun a' w' => J (oneMore d i) a' w') a w)
 (hend : ∀ (d : Nat → Bool) (a : Act) (w : World), J d a w → (∀ i, i < ops.size → d i = true) → Q .normal a w) : (Code.region id ops true).wp P Q a w := by
 refine wp_region_any hm (wpAny_each hb J hstep hend ops.size _ (fun _ => false) a _ (by simp) (fun i hi => by simp [hi]) ?_ h0)
 exact Nat.le_trans (List.length_filter_le _ _) (by simp)
theorem wp_region_each_at {id : Nat} {a : Act} {w : World} (hm : P.follows .mixedOrders = true) (hb : backward ops = true) (J : Act → (Nat → Bool) → Act → World → Prop) (h0 : J a (fun _ => false) a w.drew)
 (hstep : ∀ (i : Nat) (d : Nat → Bool) (a' : Act) (w' : World), i < ops.size → J a d a' w' → d i = false → (∀ k ∈ waitsFor ops i, d k = true) → wpOp P ops Q i (fun a'' w'' => J a (oneMore d i) a'' w'') a' w')
 (hend : ∀ (d : Nat → Bool) (a' : Act) (w' : World), J a d a' w' → (∀ i, i < ops.size → d i = true) → Q .normal a' w') : (Code.region id ops true).wp P Q a w :=
 wp_region_each hm hb (J a) h0 hstep hend
theorem wpOp_at {i : Nat} {o : Oper} {rest : List Oper} {K : Act → World → Prop} {a : Act} {w : World} (ho : ops.toList.drop i = o :: rest)
 (h : ∀ K' : Act → World → Prop, (∀ a w, K a w → K' a w) → if Region.wanted o (yielded ops a.tmps) = true then Oper.wp P o a w K' Q else K' (a.put o.dst undef) w) : wpOp P ops Q i K a w := by
 refine wpOp_step (o := o) ?_ h
 have h1 : (ops.toList.drop i)[0]? = ops.toList[i]? := by rw [List.getElem?_drop, Nat.add_zero]
 rw [ho] at h1
 rw [← Array.getElem?_toList, ← h1]; rfl
def putAll (a : Act) : List (Nat × Value) → Act
 | [] => a
 | (k, v) :: l => putAll (a.put (some k) v) l
end
end Go.Proofs.YtnkgakhnlbifdaaGreat
namespace Go.Proofs.YtnkgakhnlbifdaaGreat
open Go.ChangeShapes Go.WideShapes Go.ChangeAt Go.RowKit
def Fresh (B : Nat) (e : TypeId) (w : World) (v : Value) (zs : List Int) : Prop :=
 w.ownsRow B e 1 v zs.length (zs.map (Value.int .u8)) ∧ v ≠ .slice none 0 0 ∧ ∀ c ∈ zs, 0 ≤ c ∧ c < 256
theorem Fresh.form {B : Nat} {e : TypeId} {w : World} {v : Value} {zs : List Int} (h : Fresh B e w v zs) :
 ∃ g cap, v = .slice (some ⟨g, 0, none⟩) zs.length cap ∧ B ≤ g ∧ g < w.heap.size ∧ zs.length ≤ cap ∧ zs.length ≤ 9223372036854775807 := by
 rcases h.1.2 with ⟨h1, _⟩ | ⟨g, cap, cur, rfl, hg, hh, hn, hm, _⟩
 · exact absurd h1 h.2.1
 · exact ⟨g, cap, rfl, hg, (Array.getElem?_eq_some_iff.1 hh).1, hn, by unfold maxLen at hm; omega⟩
theorem Fresh.bytes {B : Nat} {e : TypeId} {w : World} {v : Value} {zs : List Int} (h : Fresh B e w v zs) : Bytes w v zs := by
 obtain ⟨g, cap, _, _, _, _, hm⟩ := h.form
 obtain ⟨_, _, _, _, _, _, hb⟩ := bytes_of_own h.1 h.2.1 hm h.2.2
 exact hb
theorem Fresh.mono {B B' : Nat} {e : TypeId} {w : World} {v : Value} {zs : List Int} (h : Fresh B e w v zs) (hB : B' ≤ B) : Fresh B' e w v zs :=
 ⟨⟨h.1.1, h.1.2.imp id fun ⟨g, cap, cur, h1, h2, h3⟩ => ⟨g, cap, cur, h1, Nat.le_trans hB h2, h3⟩⟩, h.2⟩
theorem Fresh.later {B : Nat} {e : TypeId} {w w' : World} {v : Value} {zs : List Int} (h : Fresh B e w v zs) (hb : Below w.heap.size w w') : Fresh B e w' v zs :=
 ⟨h.1.kept (row := none) ⟨hb.os, hb.tape, hb.output, hb.size, fun k hk _ => hb.block k hk⟩ (by cases v.ownBlock <;> simp), h.2⟩
def Tail (B : Nat) (e : TypeId) (w : World) (v : Value) (zs : List Int) : Prop :=
 (∃ a, v = .slice a zs.length zs.length ∧ Bytes w v zs) ∨ Fresh B e w v zs
theorem Tail.later {B : Nat} {e : TypeId} {w w' : World} {v : Value} {zs : List Int} (h : Tail B e w v zs) (hb : Below w.heap.size w w') : Tail B e w' v zs :=
 h.imp (fun ⟨a, h1, h2⟩ => ⟨a, h1, h2.later hb⟩) (fun h => h.later hb)
theorem Tail.alloc {B : Nat} {e : TypeId} {w : World} {v : Value} {zs : List Int} (h : Tail B e w v zs) (o : Obj) : Tail B e (w.alloc o) v zs := h.later ((Below.refl _ _).alloc (Nat.le_refl _) _)
theorem Tail.small {B : Nat} {e : TypeId} {w : World} {v : Value} {zs : List Int} (h : Tail B e w v zs) : ∀ c ∈ zs, 0 ≤ c ∧ c < 256 := by
 rcases h with ⟨_, _, h⟩ | h
 · exact h.2.1
 · exact h.2.2
theorem cell_new (w : World) (C : Array Value) (T : TypeId) (m : Nat × Nat) (j : Nat) (v : Value) (h : C[j]? = some v) : (w.alloc (.cells C T m)).cell? ⟨w.heap.size, j, none⟩ = some v := by
 have e : (w.alloc (.cells C T m)).heap[w.heap.size]? = some (.cells C T m) := by
  show (w.heap.push _)[w.heap.size]? = _
  simp
 unfold World.cell?
 rw [e]
 exact h
theorem wpList_append_byte {P : Program} {w : World} {ops : Array Oper} {rest : List Oper} {o : Oper} {a : Act} {Q : Exit → Act → World → Prop} (hgd : o.guard = none) (s x : Operand) (t : TypeId)
 (ho : o.op = .call { callee := .builtin .append, args := #[s, x], argTypes := #[t, t] })
 (B : Nat) (e : TypeId) (i : TypeInfo) (ht : P.underlying t = some (.slice e)) (hi : P.info? e = some i) (hz : i.zero = some (.int .u8 0)) (hsize : i.size = 1) (hby : i.bytes = 1)
 (v : Value) (zs : List Int) (hs : a.eval s = v) (hT : Tail B e w v zs) (c : Int) (hc : 0 ≤ c ∧ c < 256)
 (ad : Addr) (cp : Nat) (hx : a.eval x = .slice (some ad) 1 cp) (hnew : w.cell? ad = some (.int .u8 c)) (h63 : zs.length + 1 ≤ 140737488355328) (hB : B ≤ w.heap.size)
 (h : ∀ v' w', Fresh B e w' v' (zs ++ [c]) → Below B w w' → wpList P ops Q rest (a.put o.dst v') w') : wpList P ops Q (o :: rest) a w := by
 have hmax : zs.length + 1 ≤ maxLen := by unfold maxLen; omega
 have hsm := hT.small
 have hnews : ∀ j u, [Value.int IntKind.u8 c][j]? = some u → w.cell? (ad.add j) = some u := by
  intro j u hu
  have hj : j = 0 := by
   rcases Nat.eq_zero_or_pos j with h0 | h0
   · exact h0
   · rw [List.getElem?_eq_none (by simp; omega)] at hu; cases hu
  subst hj
  rw [show ad.add 0 = ad by cases ad; simp [Addr.add], hnew]
  simpa using hu
 have h1 : ∀ u ∈ [Value.int IntKind.u8 c], u.oneCell' = true := fun u hu => by rw [List.mem_singleton.1 hu]; rfl
 have hsm2 : ∀ d ∈ zs ++ [c], 0 ≤ d ∧ d < 256 := fun d hd => by
  rcases List.mem_append.1 hd with hd | hd
  · exact hsm d hd
  · rw [List.mem_singleton.1 hd]; exact hc
 rcases hT with ⟨ao, hv, hb⟩ | hF
 · refine wpList_append_grows w hgd s x t ho e i (.int .u8 0) 1 1 ht hi hz hsize hby rfl (by decide) ao zs.length zs.length (zs.map (Value.int .u8)) (hs.trans hv) ?_ (by simp) ?_ ad 1 cp [.int .u8 c] hx rfl hnews h1 (by omega) hmax (by omega) ?_
   · intro hn
     obtain ⟨_, _, hb | ⟨b, off, cap, hv', _⟩⟩ := hb
     · obtain ⟨_, _, _, _, rfl⟩ := hb; exact ⟨rfl, rfl⟩
     · rw [hv] at hv'; simp only [Value.slice.injEq] at hv'; rw [hn] at hv'; cases hv'.1
   · intro b hbo j u hu
     have hj : j < zs.length := by
      have := (List.getElem?_eq_some_iff.1 hu).1
      simpa using this
     obtain ⟨_, _, hb | ⟨b', off, cap, hv', hcell⟩⟩ := hb
     · obtain ⟨_, _, _, _, rfl⟩ := hb; simp at hj
     · rw [hv] at hv'
       simp only [Value.slice.injEq] at hv'
       rw [hbo] at hv'
       obtain ⟨e1, _⟩ := hv'
       injection e1 with e1
       subst e1
       rw [add_plain, hcell j hj]
       simp [List.getElem?_map, List.getElem?_eq_getElem hj] at hu
       simp [List.getD_eq_getElem?_getD, List.getElem?_eq_getElem hj, hu]
   · intro v' w' g1 g2
     refine h v' w' ⟨?_, ?_, hsm2⟩ ((Below.refl _ _).grown g2 hB (fun k hk => by cases hk))
     · have e1 : (zs ++ [c]).length = zs.length + 1 := by simp
       rw [e1, List.map_append]
       exact ⟨g1.1, g1.2.imp id fun ⟨g, cap, cur, k1, k2, k3⟩ => ⟨g, cap, cur, k1, Nat.le_trans hB k2, k3⟩⟩
     · rintro rfl
       rcases g1.2 with ⟨_, hn⟩ | ⟨g, cap, cur, k1, _⟩
       · omega
       · cases k1
 · refine wpList_append_own w hgd s x t ho B e i (.int .u8 0) 1 1 ht hi hz hsize hby rfl (by decide) v zs.length (zs.map (Value.int .u8)) hs hF.1 ad 1 cp [.int .u8 c] hx rfl hnews h1 hmax (by omega) hB ?_
   intro v' w' g1 g2 g3
   refine h v' w' ⟨?_, ?_, hsm2⟩ ((Below.refl _ _).grown g2 hB (fun k hk => (hF.1.lt k hk).1))
   · have e1 : (zs ++ [c]).length = zs.length + 1 := by simp
     rw [e1, List.map_append]
     exact g1
   · intro e0
     have := (g3.1 e0).2
     omega
def nums (s : ByteArray) : List Int := s.data.toList.map fun b => (b.toNat : Int)
theorem nums_strOf {zs : List Int} (h : ∀ c ∈ zs, 0 ≤ c ∧ c < 256) : nums (strOfNums zs) = zs := by
 simp only [nums, strOfNums_data, List.map_map]
 conv => rhs; rw [← List.map_id zs]
 refine List.map_congr_left fun c hc => ?_
 have := h c hc
 simp [UInt8.toNat_ofNat']
 omega
theorem strOf_inj {x y : List Int} (hx : ∀ c ∈ x, 0 ≤ c ∧ c < 256) (hy : ∀ c ∈ y, 0 ≤ c ∧ c < 256) (h : strOfNums x = strOfNums y) : x = y := by
 rw [← nums_strOf hx, ← nums_strOf hy, h]
theorem run_string {P : Program} {w : World} {v : Value} {zs : List Int} (hB : Bytes w v zs) {src e dst : TypeId} (hs : P.underlying src = some (.slice e)) (he : P.underlying e = some (.int .u8)) (hd : P.underlying dst = some .string) :
 (convert src dst v).run P w = .ok (.string (strOfNums zs)) w := by
 obtain ⟨_, _, ⟨a, cap, rfl, _, rfl⟩ | ⟨b, off, cap, rfl, hc⟩⟩ := hB
 · rw [run_convert_bytes_string w src dst e a 0 cap hs he hd]
   cases a <;> simp [Conv.bytesToString, loadCells]
   all_goals rfl
 · exact run_convert_bytes_arg w src e hs he b off zs.length cap zs rfl hc dst hd
theorem str_ne {s t : ByteArray} (h : s ≠ t) : (s.toList == t.toList) = false := by
 rw [ByteArray.toList_eq, ByteArray.toList_eq]
 refine beq_eq_false_iff_ne.2 fun e => h ?_
 have : s.data = t.data := Array.toList_inj.1 e
 cases s; cases t; exact congrArg ByteArray.mk this
theorem str_same {s t : ByteArray} (h : s = t) : (s.toList == t.toList) = true := by rw [h]; exact beq_self_eq_true _
end Go.Proofs.YtnkgakhnlbifdaaGreat
namespace Go.Proofs.YtnkgakhnlbifdaaGreat
open Go.RowKit
theorem info_u8 : (Tryz.prog.info? 5).map (fun i => (i.zero, i.size, i.bytes)) = some (some (.int .u8 0), 1, 1) := by kernel_rfl
theorem elem_bytes : Tryz.prog.underlying 24 = some (.slice (Tryz.prog.elem 24)) := by kernel_rfl
theorem size_bytes (w : World) : (sizeOf (Tryz.prog.elem 24)).run Tryz.prog w = .ok 1 w := by kernel_rfl
theorem piece_full {W : World} {a : Option Addr} {n c : Nat} {zs : List Int} (hB : Bytes W (.slice a n c) zs) (hn : n = zs.length) (hnc : n ≤ c) :
 ∃ a', (∀ w, (Instr.slice 24 (.slice a n c) none (some (.int .i64 (n : Int))) (some (.int .i64 (n : Int)))).run Tryz.prog w = .ok (.slice a' n n) w) ∧ Bytes W (.slice a' n n) zs := by
 refine ⟨if n = 0 then a else a.map (·.add 0), fun w => ?_, ?_⟩
 · rw [run_slice_hm w 24 a n c elem_bytes .i64 .i64 n n (by omega) (by omega) (by omega), size_bytes]
   simp [Result.andThen, sliced]
 · obtain ⟨h1, h2, ⟨a0, c0, h3, h4, rfl⟩ | ⟨b, off, c0, h3, h4⟩⟩ := hB
   · simp only [Value.slice.injEq] at h3
     obtain ⟨rfl, rfl, rfl⟩ := h3
     exact bytes_nil _ _ _ (fun h => rfl)
   · simp only [Value.slice.injEq] at h3
     obtain ⟨rfl, rfl, rfl⟩ := h3
     refine ⟨h1, h2, ?_⟩
     by_cases h0 : zs.length = 0
     · obtain rfl : zs = [] := List.eq_nil_of_length_eq_zero h0
       exact Or.inl ⟨_, 0, rfl, fun _ => rfl, rfl⟩
     · refine Or.inr ⟨b, off, zs.length, ?_, h4⟩
       simp [h0, Addr.add]
theorem or128 (r : Nat) : bits .or .u8 ((r : Int) % 256) 128 = ((r % 128 + 128 : Nat) : Int) := by
 rw [show (r : Int) % 256 = ((r % 256 : Nat) : Int) by omega]
 have e := u8_or_nat (r % 256) 128 (by omega) (by decide)
 rw [show ((128 : Nat) : Int) = 128 from rfl] at e
 rw [e]
 congr 1
 have h : ∀ y : Fin 256, y.val ||| 128 = y.val % 128 + 128 := by decide +kernel
 have := h ⟨r % 256, by omega⟩
 simp only at this
 rw [this]
 omega
def Made (w : World) (zs : List Int) (e : Ending) (w' : World) : Prop := ∃ v, e = .returned v ∧ Below w.heap.size w w' ∧ Fresh w.heap.size 5 w' v zs
theorem fresh_empty (w : World) : Fresh w.heap.size 5 (w.alloc (.cells #[] 5)) (.slice (some ⟨w.heap.size, 0, none⟩) 0 0) [] :=
 ⟨World.ownsRow_made w #[] 0 (Nat.le_refl _) (by decide) rfl, by simp, fun _ h => by cases h⟩
theorem Fresh.args {B : Nat} {e : TypeId} {w : World} {v : Value} {zs : List Int} (h : Fresh B e w v zs) : ∃ a n c, v = .slice a n c ∧ n = zs.length ∧ n ≤ c := by
 obtain ⟨g, cap, rfl, _, _, h, _⟩ := h.form
 exact ⟨_, _, _, rfl, rfl, h⟩
theorem piece_upto {a : Option Addr} {n c hi : Nat} {zs : List Int} (hn : n = zs.length) (h2 : hi ≤ n) (h3 : n ≤ c) :
 ∃ v, (∀ w, (Instr.slice 24 (.slice a n c) none (some (.int .i64 (hi : Int))) none).run Tryz.prog w = .ok v w) ∧ (∀ W, Bytes W (.slice a n c) zs → Bytes W v (zs.take hi)) ∧ ∃ a' c', v = .slice a' hi c' ∧ hi ≤ c' := by
 refine ⟨sliced a 0 hi c 1, fun w => ?_, fun W hB => ?_, _, _, rfl, by omega⟩
 · rw [run_slice_h w 24 a n c elem_bytes .i64 hi (by omega) (by omega), size_bytes]
   simp [Result.andThen]
 · have := bytes_sliced hB hn (Nat.zero_le hi) h2 h3
   rwa [List.drop_zero] at this
end Go.Proofs.YtnkgakhnlbifdaaGreat
namespace Go.Proofs.YtnkgakhnlbifdaaGreat
open Go.RowKit
theorem bytes_cap {W : World} {a : Option Addr} {n c : Nat} {zs : List Int} (hB : Bytes W (.slice a n c) zs) : Bytes W (.slice a n n) zs := by
 obtain ⟨h1, h2, ⟨a0, c0, h3, h4, rfl⟩ | ⟨b, off, c0, h3, h4⟩⟩ := hB
 · simp only [Value.slice.injEq] at h3
   obtain ⟨rfl, rfl, rfl⟩ := h3
   exact bytes_nil _ _ _ (fun _ => rfl)
 · simp only [Value.slice.injEq] at h3
   obtain ⟨rfl, rfl, rfl⟩ := h3
   exact ⟨h1, h2, Or.inr ⟨b, off, zs.length, rfl, h4⟩⟩
theorem piece_after {a : Option Addr} {n c lo : Nat} {zs : List Int} (hn : n = zs.length) (h1 : lo ≤ n) (h3 : n ≤ c) :
 ∃ v, (∀ w, (Instr.slice 24 (.slice a n c) (some (.int .i64 (lo : Int))) (some (.int .i64 (n : Int))) (some (.int .i64 (n : Int)))).run Tryz.prog w = .ok v w) ∧ (∀ W', Bytes W' (.slice a n c) zs → Bytes W' v (zs.drop lo)) ∧ ∃ a', v = .slice a' (n - lo) (n - lo) := by
 have hrun : ∀ w, (Instr.slice 24 (.slice a n c) (some (.int .i64 (lo : Int))) (some (.int .i64 (n : Int))) (some (.int .i64 (n : Int)))).run Tryz.prog w = .ok (sliced a lo n n 1) w := fun w => by
  rw [run_slice_lhm w 24 a n c elem_bytes .i64 .i64 .i64 lo n n (by omega) (by omega) (by omega) (by omega), size_bytes]
  simp [Result.andThen]
 refine ⟨_, hrun, fun W' hB' => ?_, _, rfl⟩
 have := bytes_sliced (bytes_cap hB') hn h1 (Nat.le_refl n) (Nat.le_refl n)
 rwa [hn, List.take_length, ← hn] at this
theorem or_shift (m k d : Nat) (hm : m < 128 ^ k) (h : m + 128 ^ k * d < 18446744073709551616) : bits .or .u64 (m : Int) (IntKind.u64.wrap ((d : Int) * 2 ^ (7 * k))) = ((m + 128 ^ k * d : Nat) : Int) := by
 have e : (d : Int) * 2 ^ (7 * k) = ((128 ^ k * d : Nat) : Int) := by
  rw [PackMath.pow7, Int.natCast_mul, Int.natCast_pow, Int.mul_comm]; rfl
 rw [e, IntKind.wrap_u64, Int.emod_eq_of_lt (by omega) (by omega), u64_or_nat _ _ (by omega) (by omega), PackMath.or_add m k d hm]
theorem getD_mid (p q : List Int) (y : Int) : (p ++ y :: q).getD p.length 0 = y := by
 simp [List.getD_eq_getElem?_getD]
def Going (zs rest : List Int) (x k m r : Nat) : Prop := ∃ p, p.length = k ∧ zs = p ++ PackMath.num r ++ rest ∧ x = m + 128 ^ k * r ∧ PackMath.Read p m ∧ (k = 0 ∨ 0 < r)
theorem Going.nine {zs rest : List Int} {x k m r : Nat} (h : Going zs rest x k m r) (hx : x < 18446744073709551616) (hk : k = 9) : r ≤ 1 := by
 obtain ⟨p, _, _, h3, _, _⟩ := h
 rw [hk, PackMath.pow9] at h3
 omega
theorem Going.more {zs rest : List Int} {x k m r : Nat} (h : Going zs rest x k m r) (hr : 128 ≤ r) :
 zs.getD k 0 = ((r % 128 + 128 : Nat) : Int) ∧ k + 1 < zs.length ∧ Going zs rest x (k + 1) (m + 128 ^ k * (r % 128)) (r / 128) := by
 obtain ⟨p, h1, h2, h3, h4, h5⟩ := h
 rw [PackMath.num_ge hr] at h2
 refine ⟨?_, ?_, p ++ [((r % 128 + 128 : Nat) : Int)], by simp [h1], by rw [h2]; simp, ?_, ?_, Or.inr (by omega)⟩
 · rw [h2, ← h1, List.append_assoc, List.cons_append, getD_mid]
 · have := PackMath.num_pos (r / 128)
   rw [h2]
   simp only [List.length_append, List.length_cons]
   omega
 · rw [h3, Nat.pow_succ, Nat.mul_assoc, Nat.add_assoc, ← Nat.mul_add]
   congr 2
   omega
 · rw [← h1]; exact h4.more (by omega)
theorem Going.last {zs rest : List Int} {x k m r : Nat} (h : Going zs rest x k m r) (hr : r < 128) :
 zs.getD k 0 = (r : Int) ∧ m < 128 ^ k ∧ x = m + 128 ^ k * r ∧ (PackMath.num x).length = k + 1 := by
 obtain ⟨p, h1, h2, h3, h4, h5⟩ := h
 refine ⟨?_, by rw [← h1]; exact h4.1, h3, ?_⟩
 · rw [h2, PackMath.num_lt hr, ← h1, List.append_assoc, List.singleton_append, getD_mid]
 · rw [h3, ← h1, h4.last hr (by rcases h5 with h5 | h5; · left; exact List.eq_nil_of_length_eq_zero (by omega)
                                · right; exact h5)]
   simp
theorem Going.fits {zs rest : List Int} {x k m r : Nat} (h : Going zs rest x k m r) : m + 128 ^ k * (r % 128) ≤ x := by
 obtain ⟨p, _, _, h3, _, _⟩ := h
 have : 128 ^ k * (r % 128) ≤ 128 ^ k * r := Nat.mul_le_mul_left _ (by omega)
 omega
theorem Going.low {zs rest : List Int} {x k m r : Nat} (h : Going zs rest x k m r) : m < 128 ^ k := by
 obtain ⟨p, h1, _, _, h4, _⟩ := h
 rw [← h1]; exact h4.1
theorem Going.zero {zs rest : List Int} {x k m r : Nat} (h : Going zs rest x k m r) : k = 0 ∨ 0 < r := h.choose_spec.2.2.2.2
def Vain (zs : List Int) (k m : Nat) : Prop := PackMath.Read (zs.take k) m ∧ k ≤ zs.length ∧ k ≤ 9
theorem Vain.at_ {zs : List Int} {k m : Nat} (h : Vain zs k m) (hb : PackMath.Bare zs) (hk : k < zs.length) (hs : ∀ c ∈ zs, 0 ≤ c ∧ c < 256) :
 ∃ c : Nat, zs.getD k 0 = (c : Int) ∧ c < 256 ∧ (c < 128 → (k = 9 ∧ 1 < c) ∨ (0 < k ∧ c = 0)) ∧ (k < 9 → 128 ≤ c → Vain zs (k + 1) (m + 128 ^ k * (c - 128))) := by
 have he : zs.getD k 0 = zs[k] := by simp [List.getD_eq_getElem?_getD, List.getElem?_eq_getElem hk]
 obtain ⟨h0, h1⟩ := hs zs[k] (List.getElem_mem hk)
 obtain ⟨c, hc⟩ := Int.eq_ofNat_of_zero_le h0
 have hlen : (zs.take k).length = k := by simp; omega
 have htk : zs.take (k + 1) = zs.take k ++ [(c : Int)] := by
  rw [List.take_succ_eq_append_getElem hk, hc]
 refine ⟨c, by rw [he, hc], by omega, fun hlt => ?_, fun hk9 hge => ?_⟩
 · by_cases h9 : k = 9 ∧ 1 < c
   · exact Or.inl h9
   · by_cases hk0 : 0 < k ∧ c = 0
     · exact Or.inr hk0
     · exfalso
       have hl := h.1.lt64 (d := c) (by rw [hlen]; exact h.2.2) hlt (by rw [hlen]; omega)
       have hn := h.1.last (d := c) hlt (by
        rcases Nat.eq_zero_or_pos k with h' | h'
        · left; rw [h']; rfl
        · right; omega)
       refine hb _ (zs.drop (k + 1)) hl ?_
       rw [hn, ← htk, List.take_append_drop]
 · refine ⟨?_, by omega, by omega⟩
   have := h.1.more (d := c - 128) (by omega)
   rw [hlen] at this
   rw [htk]
   rwa [show c - 128 + 128 = c by omega] at this
theorem Vain.start (zs : List Int) : Vain zs 0 0 := ⟨PackMath.read_nil, Nat.zero_le _, Nat.zero_le _⟩
theorem Vain.fits {zs : List Int} {k m c : Nat} (h : Vain zs k m) (hk : k < 9) (hc : c < 128) : m < 128 ^ k ∧ m + 128 ^ k * c < 18446744073709551616 := by
 have hlen : (zs.take k).length = k := by have := h.2.1; simp; omega
 have hm := h.1.1
 rw [hlen] at hm
 have hp := PackMath.pow_le9 (k := k) (by omega)
 have h2 : 128 ^ k * (c + 1) ≤ 128 ^ k * 128 := Nat.mul_le_mul_left _ (by omega)
 rw [Nat.mul_add] at h2
 exact ⟨hm, by omega⟩
end Go.Proofs.YtnkgakhnlbifdaaGreat
namespace Go.Proofs.YtnkgakhnlbifdaaGreat
open Go.RowKit
theorem str_any {w : World} {v : Value} {zs : List Int} (hB : Bytes w v zs) : (convert 24 9 v).run Tryz.prog w = .ok (.string (strOfNums zs)) w :=
 run_string hB Tryz.underlying24 Tryz.underlying5 Tryz.underlying9
end Go.Proofs.YtnkgakhnlbifdaaGreat
namespace Go.Proofs.YtnkgakhnlbifdaaGreat
open Go.RowKit
theorem flat_bytes (l : List Int) : l.map (Value.int .u8) = flatCells 1 l.length (fun i _ => .int .u8 (l[i]?.getD 0)) := by
 apply List.ext_getElem?
 intro i
 by_cases hi : i < l.length
 · have := flat_at 1 l.length (fun i _ => Value.int .u8 (l[i]?.getD 0)) i 0 hi (by decide)
   rw [Nat.mul_one, Nat.add_zero] at this
   rw [this]
   simp [List.getElem?_eq_getElem hi]
 · rw [List.getElem?_eq_none (by simp; omega), List.getElem?_eq_none (by rw [flat_length]; omega)]
theorem elems_of_bytes {w : World} {a : Option Addr} {n c : Nat} {zs : List Int} (hB : Bytes w (.slice a n c) zs) (hn : n = zs.length) (hnc : n ≤ c) : Elems w (.slice a n c) 1 n (fun i _ => .int .u8 (zs[i]?.getD 0)) := by
 obtain ⟨h1, _, ⟨a0, c0, h3, h4, h5⟩ | ⟨b, off, c0, h3, h4⟩⟩ := hB
 · simp only [Value.slice.injEq] at h3
   obtain ⟨rfl, h, rfl⟩ := h3
   exact ⟨by omega, Or.inl ⟨_, _, by rw [h], h4, h⟩⟩
 · simp only [Value.slice.injEq] at h3
   obtain ⟨rfl, h, rfl⟩ := h3
   refine ⟨by omega, Or.inr ⟨b, off, _, rfl, hnc, fun i j hi hj => ?_⟩⟩
   obtain rfl : j = 0 := by omega
   rw [Nat.mul_one, Nat.add_zero, h4 i (by omega)]
   simp [List.getD_eq_getElem?_getD]
end Go.Proofs.YtnkgakhnlbifdaaGreat
namespace Go.Proofs.YtnkgakhnlbifdaaGreat
open Go.RowKit
theorem elem_nums : Tryz.prog.underlying 33 = some (.slice (Tryz.prog.elem 33)) := by kernel_rfl
theorem size_nums (w : World) : (sizeOf (Tryz.prog.elem 33)).run Tryz.prog w = .ok 1 w := by kernel_rfl
def TookB (w : World) (x : Option (List Rw × List Int)) (e : Ending) (w' : World) : Prop :=
 (∃ l rest A C B D, x = some (l, rest) ∧ e = .returned (.tuple #[.slice A l.length C, .slice B rest.length D, .bool true]) ∧ Books w' (.slice A l.length C) l ∧ Bytes w' (.slice B rest.length D) rest ∧ rest.length ≤ D ∧ Below w.heap.size w w') ∨
 (x = none ∧ e = .returned (.tuple #[.slice none 0 0, .slice none 0 0, .bool false]) ∧ Below w.heap.size w w')
def TookBF (w : World) (x : Option (List Rw × List Int)) (e : Ending) (w' : World) : Prop :=
 (∃ l rest A C B D, x = some (l, rest) ∧ e = .returned (.tuple #[.slice A l.length C, .slice B rest.length D, .bool true]) ∧ BooksFar w.heap.size w' (.slice A l.length C) l ∧ Bytes w' (.slice B rest.length D) rest ∧ rest.length ≤ D ∧ Below w.heap.size w w') ∨
 (x = none ∧ e = .returned (.tuple #[.slice none 0 0, .slice none 0 0, .bool false]) ∧ Below w.heap.size w w')
theorem TookBF.took {w : World} {x : Option (List Rw × List Int)} {e : Ending} {w' : World} (h : TookBF w x e w') : TookB w x e w' := by
 rcases h with ⟨l, rest, A, C, B, D, h1, h2, h3, h4⟩ | h
 · exact Or.inl ⟨l, rest, A, C, B, D, h1, h2, h3.1, h4⟩
 · exact Or.inr h
set_option maxRecDepth 100000 in
theorem nums_push {w : World} {base : Nat} {v : Value} {P : List Int} {k : Nat} (x : Int) (hk : P.length = k) (hown : w.ownsRow base 2 1 v k (P.map (Value.int .i64))) (hb : base ≤ w.heap.size) (h : k ≤ 1000000) :
 ∃ v' w', (Builtin.append_ #[33, 33] 33 #[v, .slice (some ⟨w.heap.size, 0, none⟩) 1 1]).run Tryz.prog (w.alloc (.cells #[.int .i64 x] 2)) = .ok v' w' ∧
   w'.ownsRow base 2 1 v' (k + 1) ((P ++ [x]).map (Value.int .i64)) ∧ Below base w w' ∧ Grew (w.alloc (.cells #[.int .i64 x] 2)) w' v v' := by
 subst hk
 obtain ⟨i0, hi, hz0, hz1, hz2⟩ := info_parts info_int64
 have hb1 : Below w.heap.size w (w.alloc (.cells #[.int .i64 x] 2)) := below_box w _
 have e : P.map (Value.int .i64) = flatCells 1 P.length (fun i _ => .int .i64 ((P ++ [x])[i]?.getD 0)) := by
  rw [flat_one]
  unfold flatCells
  rw [List.flatMap_def, List.flatMap_def]
  congr 1
  apply List.map_congr_left
  intro i hi
  have := List.mem_range.1 hi
  simp [List.getElem?_append_left this]
 obtain ⟨v', w', hrun, q1, q2, q3⟩ := run_append_elems (P := Tryz.prog) (w := w.alloc (.cells #[.int .i64 x] 2)) 33 33 base 2 i0 _ 1 8 Tryz.underlying33 hi hz0 hz1 hz2 rfl (by decide)
  v P.length (fun i _ => .int .i64 ((P ++ [x])[i]?.getD 0)) (by rw [← e]; exact own_later hown hb1) (some ⟨w.heap.size, 0, none⟩) 1 1 (fun _ _ => .int .i64 x) (one_num (Whole.made w _ _)) (fun _ _ _ _ => rfl) (by unfold maxLen; omega) (by omega) (by have := hb1.size; omega)
 refine ⟨v', w', hrun, ?_, (hb1.mono hb).trans q2, q3⟩
 rw [flat_push (k := P.length) (f := fun i _ => .int .i64 ((P ++ [x])[i]?.getD 0)) (g := fun _ _ => .int .i64 x) (by simp)] at q1
 rw [flat_one, List.length_append, List.length_singleton]
 exact q1
theorem three {w : World} {base : Nat} {v : Value} {P : List Int} {k : Nat} (hown : w.ownsRow base 2 1 v k (P.map (Value.int .i64))) (hk : P.length = k) (h2 : 2 ≤ k) :
 ∃ g cap, v = .slice (some ⟨g, 0, none⟩) k cap ∧ base ≤ g ∧ g < w.heap.size ∧ k ≤ cap ∧ w.cell? ⟨g, 0, none⟩ = some (.int .i64 (P[0]?.getD 0)) ∧ w.cell? ⟨g, 1, none⟩ = some (.int .i64 (P[1]?.getD 0)) ∧ NumsAt w g 2 (P.drop 2) := by
 have hl := hown.1
 rcases hown.2 with ⟨_, h0⟩ | ⟨g, cap, cur, rfl, hg, hh, hn, hm, h5, h6⟩
 · omega
 · have hc : ∀ j, j < k → w.cell? ⟨g, j, none⟩ = some (.int .i64 (P[j]?.getD 0)) := by
    intro j hj
    rw [Whole.cell (w := w) (g := g) (t := 2) (cs := cur) hh]
    have : (cur.toList.take (k * 1))[j]? = (P.map (Value.int .i64))[j]? := by rw [h6]
    rw [List.getElem?_take_of_lt (by omega), Array.getElem?_toList] at this
    rw [this]
    simp [List.getElem?_eq_getElem (show j < P.length by omega)]
   refine ⟨g, cap, rfl, hg, (Array.getElem?_eq_some_iff.1 hh).1, hn, hc 0 (by omega), hc 1 (by omega), (Array.getElem?_eq_some_iff.1 hh).1, by rw [List.length_drop]; unfold maxLen at hm; omega, fun i hi => ?_⟩
   rw [List.length_drop] at hi
   rw [hc (2 + i) (by omega), List.getElem?_drop]
end Go.Proofs.YtnkgakhnlbifdaaGreat
namespace Go.Proofs.YtnkgakhnlbifdaaGreat
open Go.RowKit
def TookN (w : World) (x : Option (List Nat × List Int)) (e : Ending) (w' : World) : Prop :=
 (∃ ns rest A C B D, x = some (ns, rest) ∧ e = .returned (.tuple #[.slice A ns.length C, .slice B rest.length D, .bool true]) ∧ Nums w' (.slice A ns.length C) (ns.map fun v : Nat => (v : Int)) ∧ Bytes w' (.slice B rest.length D) rest ∧ rest.length ≤ D ∧ Below w.heap.size w w') ∨
 (x = none ∧ e = .returned (.tuple #[.slice none 0 0, .slice none 0 0, .bool false]) ∧ Below w.heap.size w w')
def TookNF (w : World) (x : Option (List Nat × List Int)) (e : Ending) (w' : World) : Prop :=
 (∃ ns rest A C B D, x = some (ns, rest) ∧ e = .returned (.tuple #[.slice A ns.length C, .slice B rest.length D, .bool true]) ∧ Nums w' (.slice A ns.length C) (ns.map fun v : Nat => (v : Int)) ∧ Bytes w' (.slice B rest.length D) rest ∧ rest.length ≤ D ∧ Below w.heap.size w w' ∧ ∀ ad, A = some ad → w.heap.size ≤ ad.block) ∨
 (x = none ∧ e = .returned (.tuple #[.slice none 0 0, .slice none 0 0, .bool false]) ∧ Below w.heap.size w w')
theorem TookNF.took {w w' : World} {x : Option (List Nat × List Int)} {e : Ending} (h : TookNF w x e w') : TookN w x e w' := by
 rcases h with ⟨ns, rest, A, C, B, D, h1, h2, h3, h4, h5, h6, _⟩ | h
 · exact Or.inl ⟨ns, rest, A, C, B, D, h1, h2, h3, h4, h5, h6⟩
 · exact Or.inr h
attribute [local go_sem ↓] run_fine
end Go.Proofs.YtnkgakhnlbifdaaGreat
namespace Go.Proofs.YtnkgakhnlbifdaaGreat
open Go.RowKit
theorem flat_count {N i k : Nat} {L : List Rw} {P : List Int} (hL : L.length = i) (hR : Rowed N L) (hP : P.length = k) (hi : i < N) (hk : k < N + 2) : ((flatR L ++ P).map u64n).length < N * (N + 2) := by
 rw [List.length_map, List.length_append, flatR_len hR, hL, hP]
 have := Nat.mul_le_mul_right (N + 2) (show i + 1 ≤ N by omega)
 rw [Nat.succ_mul] at this
 omega
theorem zs_flat {zs cur : List Int} {L : List Rw} {P : List Int} (h : zs = booksB L ++ (bytesN (P.map u64n) ++ cur)) : zs = bytesN ((flatR L ++ P).map u64n) ++ cur := by
 rw [h, List.map_append, bytesN_append, List.append_assoc]; rfl
theorem zs_more {zs cur rest : List Int} {L : List Rw} {P : List Int} {v : Nat} (h : zs = booksB L ++ (bytesN (P.map u64n) ++ cur)) (hb : PackMath.Begins cur v rest) : zs = booksB L ++ (bytesN ((P ++ [(v : Int)]).map u64n) ++ rest) := by
 rw [h, List.map_append, bytesN_append, List.map_singleton, bytesN_one, u64n_nat hb.1, hb.2, List.append_assoc]
theorem zs_row {zs cur : List Int} {L : List Rw} {P : List Int} (h : zs = booksB L ++ (bytesN (P.map u64n) ++ cur)) {r : Rw} (hr : rowN r = P) : zs = booksB (L ++ [r]) ++ cur := by
 rw [h, booksB_append, List.append_assoc]
 congr 2
 unfold booksB
 rw [flatR_one, hr]
theorem rowN_of {P : List Int} {N : Nat} (h : P.length = N + 2) : rowN ⟨P[0]?.getD 0, P[1]?.getD 0, P.drop 2⟩ = P := by
 match P, h with
 | x :: y :: r, _ => simp [rowN]
end Go.Proofs.YtnkgakhnlbifdaaGreat
