/- Merged texts: Each, MailNums. No law is proved here. -/
import Derived.Orders
import Derived.RegionTactic
import Derived.Test.YtfpadcfahfanoaaMg20
import Derived.Test.YtfpadcfahfanoaaMg4
import Derived.Test.YtfpadcfahfanoaaMg11
import Derived.Test.YtfpadcfahfanoaaMg9
import Derived.Test.YtfpadcfahfanoaaMg6
import Derived.Test.YtfpadcfahfanoaaMg2
import Derived.LoopTactic
import Derived.BigRegion
import Derived.Laws.EntriesVeiled
/- A region that draws its order, operation by operation: what holds of those that have come up. No function of the program in it. No law is proved here. -/
namespace Go.Proofs.Ytfpadcfahfanoaa
open Go

section
variable {P : Program} {ops : Array Oper} {Q : Exit → Act → World → Prop}

/-- each operation waits for elder ones alone (what does not bind is let go) -/
def backward (ops : Array Oper) : Bool := (List.range ops.size).all fun i => match ops[i]? with
  | some o => o.after.all fun e => !Region.binds .any e || decide (e.on < i)
  | none => true
/-- for which operations the one waits -/
def waitsFor (ops : Array Oper) (i : Nat) : List Nat := match ops[i]? with
  | some o => (o.after.toList.filter (Region.binds .any)).map (·.on)
  | none => []
/-- one more has come up -/
def oneMore (d : Nat → Bool) (i : Nat) : Nat → Bool := fun k => k == i || d k
theorem oneMore_same (d : Nat → Bool) (i : Nat) : oneMore d i i = true := by simp [oneMore]
theorem oneMore_other {d : Nat → Bool} {i k : Nat} (h : k ≠ i) : oneMore d i k = d k := by simp [oneMore, h]

/-- how many are still to come up -/
def still (n : Nat) (d : Nat → Bool) : Nat := ((List.range n).filter fun k => !d k).length
theorem still_more {n : Nat} {d : Nat → Bool} {i : Nat} (hi : i < n) (hd : d i = false) : still n (oneMore d i) < still n d := by
  unfold still
  induction n with
  | zero => omega
  | succ n ih =>
    rw [List.range_succ, List.filter_append, List.filter_append, List.length_append, List.length_append]
    by_cases h : i = n
    · subst h
      have e1 : (List.range i).filter (fun k => !oneMore d i k) = (List.range i).filter (fun k => !d k) := by
        apply List.filter_congr
        intro k hk
        rw [oneMore_other (by have := List.mem_range.1 hk; omega)]
      rw [e1]
      simp [oneMore_same, hd]
    · have := ih (by omega)
      have e2 : [n].filter (fun k => !oneMore d i k) = [n].filter (fun k => !d k) := by
        apply List.filter_congr
        intro k hk
        rw [oneMore_other (by have := List.mem_singleton.1 hk; omega)]
      rw [e2]
      omega

theorem wpAny_each (hb : backward ops = true) (J : (Nat → Bool) → Act → World → Prop)
    (hstep : ∀ (i : Nat) (d : Nat → Bool) (a : Act) (w : World), i < ops.size → J d a w → d i = false → (∀ k ∈ waitsFor ops i, d k = true) → wpOp P ops Q i (fun a' w' => J (oneMore d i) a' w') a w)
    (hend : ∀ (d : Nat → Bool) (a : Act) (w : World), J d a w → (∀ i, i < ops.size → d i = true) → Q .normal a w) :
    ∀ (fuel : Nat) (listed : Array Bool) (d : Nat → Bool) (a : Act) (w : World), listed.size = ops.size → (∀ i, i < ops.size → listed[i]? = some (d i)) → still ops.size d ≤ fuel → J d a w → wpAny P .any ops Q fuel listed a w := by
  intro fuel
  induction fuel with
  | zero =>
    intro listed d a w hs hl hf hJ
    have hall : ∀ i, i < ops.size → d i = true := by
      intro i hi
      cases h : d i with
      | true => rfl
      | false =>
        have hlen : 0 < ((List.range ops.size).filter fun k => !d k).length := List.length_pos_of_mem (a := i) (List.mem_filter.2 ⟨List.mem_range.2 hi, by simp [h]⟩)
        unfold still at hf
        omega
    refine ⟨?_, hend d a w hJ hall⟩
    by_cases hr : Region.ready .any ops listed = []
    · exact hr
    · obtain ⟨j, hj⟩ := List.exists_mem_of_ne_nil _ hr
      obtain ⟨h1, o, ho, _⟩ := mem_ready.1 hj
      have hjs : j < ops.size := (Array.getElem?_eq_some_iff.1 ho).1
      rw [Array.getD_eq_getD_getElem?, hl j hjs, hall j hjs] at h1
      simp at h1
  | succ fuel ih =>
    intro listed d a w hs hl hf hJ
    refine ⟨fun hr => hend d a w hJ ?_, fun i hi => ?_⟩
    · intro i
      induction i using Nat.strongRecOn with
      | ind i ihi =>
        intro hi
        cases h : d i with
        | true => rfl
        | false =>
          have : i ∈ Region.ready .any ops listed := by
            refine mem_ready.2 ⟨by rw [Array.getD_eq_getD_getElem?, hl i hi, h]; rfl, ops[i], Array.getElem?_eq_getElem hi, fun e he hbe => ?_⟩
            have hlt : e.on < i := by
              have h2 := List.all_eq_true.1 hb i (List.mem_range.2 hi)
              simp only [Array.getElem?_eq_getElem hi] at h2
              have h3 := Array.all_eq_true_iff_forall_mem.1 h2 e he
              rw [hbe, Bool.not_true, Bool.false_or] at h3
              exact of_decide_eq_true h3
            have := ihi e.on hlt (by omega)
            rw [Array.getD_eq_getD_getElem?, hl e.on (by omega), this]; rfl
          rw [hr] at this
          cases this
    · obtain ⟨h1, o, ho, hdep⟩ := mem_ready.1 hi
      have his : i < ops.size := (Array.getElem?_eq_some_iff.1 ho).1
      have hdi : d i = false := by
        rw [Array.getD_eq_getD_getElem?, hl i his] at h1
        simpa using h1
      refine wpOp_mono (fun a' w' hJ' => ih (listed.setIfInBounds i true) (oneMore d i) a' w' (by simpa using hs) ?_ ?_ hJ') (hstep i d a w his hJ hdi ?_)
      · intro k hk
        by_cases e : k = i
        · subst e
          rw [oneMore_same, Array.getElem?_setIfInBounds_self_of_lt (by omega)]
        · rw [oneMore_other e, Array.getElem?_setIfInBounds_ne (fun h => e h.symm)]
          exact hl k hk
      · have := still_more his hdi
        omega
      · intro k hk
        unfold waitsFor at hk
        rw [ho] at hk
        obtain ⟨e, he, rfl⟩ := List.mem_map.1 hk
        obtain ⟨he1, he2⟩ := List.mem_filter.1 he
        have h3 := hdep e (Array.mem_toList_iff.1 he1) he2
        have hes : e.on < ops.size := by
          have h2 := List.all_eq_true.1 hb i (List.mem_range.2 his)
          simp only [ho] at h2
          have h3 := Array.all_eq_true_iff_forall_mem.1 h2 e (Array.mem_toList_iff.1 he1)
          rw [he2, Bool.not_true, Bool.false_or] at h3
          have := of_decide_eq_true h3
          omega
        rw [Array.getD_eq_getD_getElem?, hl e.on hes] at h3
        simpa using h3

/-- A REGION, OPERATION BY OPERATION: J says what holds where those that d names have come up. -/
theorem wp_region_each {id : Nat} {a : Act} {w : World} (hm : P.follows .mixedOrders = true) (hb : backward ops = true) (J : (Nat → Bool) → Act → World → Prop) (h0 : J (fun _ => false) a w.drew)
    (hstep : ∀ (i : Nat) (d : Nat → Bool) (a : Act) (w : World), i < ops.size → J d a w → d i = false → (∀ k ∈ waitsFor ops i, d k = true) → wpOp P ops Q i (fun a' w' => J (oneMore d i) a' w') a w)
    (hend : ∀ (d : Nat → Bool) (a : Act) (w : World), J d a w → (∀ i, i < ops.size → d i = true) → Q .normal a w) : (Code.region id ops true).wp P Q a w := by
  refine wp_region_any hm (wpAny_each hb J hstep hend ops.size _ (fun _ => false) a _ (by simp) (fun i hi => by simp [hi]) ?_ h0)
  exact Nat.le_trans (List.length_filter_le _ _) (by simp)

/-- the same, J being told the frame in which the region begins -/
theorem wp_region_each_at {id : Nat} {a : Act} {w : World} (hm : P.follows .mixedOrders = true) (hb : backward ops = true) (J : Act → (Nat → Bool) → Act → World → Prop) (h0 : J a (fun _ => false) a w.drew)
    (hstep : ∀ (i : Nat) (d : Nat → Bool) (a' : Act) (w' : World), i < ops.size → J a d a' w' → d i = false → (∀ k ∈ waitsFor ops i, d k = true) → wpOp P ops Q i (fun a'' w'' => J a (oneMore d i) a'' w'') a' w')
    (hend : ∀ (d : Nat → Bool) (a' : Act) (w' : World), J a d a' w' → (∀ i, i < ops.size → d i = true) → Q .normal a' w') : (Code.region id ops true).wp P Q a w :=
  wp_region_each hm hb (J a) h0 hstep hend
/-- the step of one operation, which is given written out -/
theorem wpOp_at {i : Nat} {o : Oper} {rest : List Oper} {K : Act → World → Prop} {a : Act} {w : World} (ho : ops.toList.drop i = o :: rest)
    (h : ∀ K' : Act → World → Prop, (∀ a w, K a w → K' a w) → if Region.wanted o (yielded ops a.tmps) = true then Oper.wp P o a w K' Q else K' (a.put o.dst undef) w) : wpOp P ops Q i K a w := by
  refine wpOp_step (o := o) ?_ h
  have h1 : (ops.toList.drop i)[0]? = ops.toList[i]? := by rw [List.getElem?_drop, Nat.add_zero]
  rw [ho] at h1
  rw [← Array.getElem?_toList, ← h1]; rfl
/-- some slots of a frame, anew -/
def putAll (a : Act) : List (Nat × Value) → Act
  | [] => a
  | (k, v) :: l => putAll (a.put (some k) v) l
end
end Go.Proofs.Ytfpadcfahfanoaa

/- Package mail, walked: the closure that puts numbers over the bytes. No law is proved here. -/
namespace Go.Proofs.Ytfpadcfahfanoaa
open Go.RowKit

/-- a row of bytes of the call's own does not lie in a block of numbers -/
theorem own_ne {w : World} {base : Nat} {v : Value} {zs : List Int} (h : OwnB base w v zs) {g : Nat} {t : TypeId} {cs : Array Value} (hw : Whole w g t cs) (ht : t ≠ 5) : v.ownBlock ≠ some g := by
  intro hv
  rcases h.1.2 with ⟨rfl, _⟩ | ⟨g', cap, cur, rfl, _, hg, _⟩
  · simp [Value.ownBlock] at hv
  · obtain rfl : g' = g := by simpa [Value.ownBlock] using hv
    unfold Whole at hw
    rw [hg] at hw
    simp at hw
    exact ht hw.2.symm
/-- bytes so far, in a box: a message's box lies ahead of it, and a closure's behind it -/
def PutSt (w0 : World) (cs : Array Value) (w : World) (zs : List Int) : Prop :=
  Below w0.heap.size w0 w ∧ Whole w w0.heap.size 35 cs ∧ Whole w (w0.heap.size + 2) 62 #[.func (.func 23) #[] #[.pointer (some ⟨w0.heap.size + 1, 0, none⟩)]] ∧
    ∃ v, Whole w (w0.heap.size + 1) 24 #[v] ∧ OwnB (w0.heap.size + 3) w v zs
theorem PutSt.later {w0 w w' : World} {cs : Array Value} {zs : List Int} (h : PutSt w0 cs w zs) (hb : Below w.heap.size w w') : PutSt w0 cs w' zs := by
  obtain ⟨h1, h2, h3, v, h4, h5⟩ := h
  exact ⟨held_next h1 hb, h2.later hb h2.lt, h3.later hb h3.lt, v, h4.later hb h4.lt, h5.later hb⟩
theorem ownB_low {w : World} {base : Nat} {v : Value} {zs : List Int} (h : OwnB base w v zs) {p : Addr} (hp : p.block < base) (u : Value) : OwnB base (w.setCell p u) v zs :=
  ⟨h.1.kept (grownBy_set w p u) (.inr fun e => by have := (h.1.lt _ e).1; omega), h.2⟩
theorem PutSt.step {w0 w w' : World} {cs : Array Value} {v v' : Value} {zs : List Int} (h1 : Below w0.heap.size w0 w) (h2 : Whole w w0.heap.size 35 cs) (h3 : Whole w (w0.heap.size + 2) 62 #[.func (.func 23) #[] #[.pointer (some ⟨w0.heap.size + 1, 0, none⟩)]])
    (h4 : Whole w (w0.heap.size + 1) 24 #[v]) (h5 : OwnB (w0.heap.size + 3) w' v' zs) (hb : Below (w0.heap.size + 3) w w') : PutSt w0 cs (w'.setCell ⟨w0.heap.size + 1, 0, none⟩ v') zs := by
  refine ⟨(h1.trans (hb.mono (by omega))).setCell (p := ⟨w0.heap.size + 1, 0, none⟩) (by show _ ≤ w0.heap.size + 1; omega) _, (h2.later hb (by omega)).other (by show _ ≠ w0.heap.size + 1; omega) _, (h3.later hb (by omega)).other (by show _ ≠ w0.heap.size + 1; omega) _, v', (h4.later hb (by omega)).set 0 v', ownB_low h5 (by show w0.heap.size + 1 < _; omega) _⟩
/-- what stays while numbers are put -/
def PutK (w0 : World) (cs : Array Value) (h : Nat) (ns : List Int) (w : World) : Prop :=
  Whole w w0.heap.size 35 cs ∧ Whole w (w0.heap.size + 2) 62 #[.func (.func 23) #[] #[.pointer (some ⟨w0.heap.size + 1, 0, none⟩)]] ∧ Whole w h 2 (ns.map (Value.int .i64)).toArray
theorem PutK.later {w0 w w' : World} {cs : Array Value} {h : Nat} {ns : List Int} (k : PutK w0 cs h ns w) (hb : Below w.heap.size w w') : PutK w0 cs h ns w' := ⟨k.1.later hb k.1.lt, k.2.1.later hb k.2.1.lt, k.2.2.later hb k.2.2.lt⟩
theorem PutK.grown {w0 w w' : World} {cs : Array Value} {h : Nat} {ns zs : List Int} {v v' : Value} (k : PutK w0 cs h ns w) (hO : OwnB (w0.heap.size + 3) w v zs) (hb : Below (w0.heap.size + 3) w w') (hG : Grew w w' v v') (_ : w0.heap.size + 3 ≤ h) : PutK w0 cs h ns w' :=
  ⟨k.1.later hb (by omega), k.2.1.later hb (by omega), (hG.whole k.2.2 (own_ne hO k.2.2 (by decide))).1⟩
theorem PutK.set {w0 w : World} {cs : Array Value} {h : Nat} {ns : List Int} (k : PutK w0 cs h ns w) (hh : w0.heap.size + 3 ≤ h) (u : Value) : PutK w0 cs h ns (w.setCell ⟨w0.heap.size + 1, 0, none⟩ u) :=
  ⟨k.1.other (by show _ ≠ w0.heap.size + 1; omega) _, k.2.1.other (by show _ ≠ w0.heap.size + 1; omega) _, k.2.2.other (by show _ ≠ w0.heap.size + 1; omega) _⟩
attribute [local go_sem ↓] run_fine
set_option maxRecDepth 100000 in
set_option maxHeartbeats 8000000 in
theorem mnums_calls (w0 : World) (cs : Array Value) (h off m : Nat) (ns zs : List Int) (hm : m = ns.length) (hoff : off = 0) (hroom : zs.length + 10 * m ≤ 140737488355000) (w : World) (hS : PutSt w0 cs w zs) (hh : w0.heap.size + 3 ≤ h) (hN : Whole w h 2 (ns.map (Value.int .i64)).toArray) :
    Calls Try.prog 23 #[.slice (some ⟨h, off, none⟩) m m, .pointer (some ⟨w0.heap.size + 1, 0, none⟩)] w (fun e w' => e = .returned (.tuple #[]) ∧ PutSt w0 cs w' (zs ++ bytesN (ns.map u64n))) := by
  have HS := Lib.hid hS; clear hS
  have HN := Lib.hid hN; clear hN
  have Hm := Lib.hid hm; clear hm
  have Hoff := Lib.hid hoff; clear hoff
  have Hroom := Lib.hid hroom; clear hroom
  have hbm : m ≤ 9223372036854775807 := by have := Hroom.out; omega
  go_enter Try.func23, Try.ntmps23
  go_wp2_with fail
  go_loopw [7] (fun s7 wr => ∃ k : Nat, k ≤ m ∧ s7 = .int .i64 (k : Int) ∧ Hid (PutSt w0 cs wr (zs ++ bytesN ((ns.take k).map u64n))) ∧ Hid (Whole wr h 2 (ns.map (Value.int .i64)).toArray)) (fun s7 _ => m - (intOf s7).toNat)
  case atStart => exact ⟨0, Nat.zero_le _, rfl, by show PutSt _ _ _ _; simpa [bytesN] using HS.out, HN.out⟩
  case round =>
    obtain ⟨k, hk, rfl, HS, HW⟩ := hrel
    by_cases hkm : k < m
    · have hkn : k < ns.length := by have := Hm.out; omega
      obtain ⟨z, Hz⟩ : ∃ z, Hid (ns[k] = z) := ⟨_, Lib.hid rfl⟩
      have hcell : wr.cell? ⟨h, off + k, none⟩ = some (.int .i64 z) := by
        rw [Hoff.out, Nat.zero_add, HW.out.cell, ← Hz.out]
        simp [hkn]
      have hlt : h < wr.heap.size := HW.out.lt
      obtain ⟨hb0, hM, hC, lv, hBx, hO⟩ := HS.out
      have j0 : (0 : Int) ≤ (k : Int) := by omega
      have j1 : (k : Int) < (m : Int) := by omega
      have hw1 := wrap_u64n z
      have Hlv := Lib.hid hBx
      have HO := Lib.hid hO
      have HM := Lib.hid hM
      have HC := Lib.hid hC
      have Hb0 := Lib.hid hb0
      have HT : Hid (ns.take k ++ [z] = ns.take (k + 1)) := by
        show ns.take k ++ [z] = ns.take (k + 1)
        rw [List.take_succ_eq_append_getElem hkn, ← Hz.out]
      clear hb0 hM hC hBx hO
      have Hrm : Hid ((zs ++ bytesN ((ns.take k).map u64n)).length + (PackMath.num (u64n z)).length ≤ 140737488355300) := by
        show _ ≤ _
        have h1 := bytes_room zs (ns.take k)
        have h2 := PackMath.num_len_64 _ (u64n_lt z)
        have h4 := Hroom.out
        have h5 : (ns.take k).length ≤ k := by rw [List.length_take]; omega
        omega
      go_wp2_with fail
      refine wp_region_each_at ?hm ?hb (fun a0 d a' w' => ∃ (e0 e1 e2 e3 e4 : Value), a' = putAll a0 [(11, e0), (12, e1), (13, e2), (14, e3), (15, e4)] ∧ Below w0.heap.size w0 w' ∧ (d 0 = true → lv = e0) ∧ (d 1 = true → e1 = (.int .i64 z)) ∧ (d 2 = true → e2 = (.int .u64 ((u64n z : Nat) : Int))) ∧ (d 3 = true → (d 4 = false → ∃ A n C, e3 = .slice A n C ∧ n = (PackMath.num (u64n z)).length ∧ n ≤ C ∧ Bytes w' (.slice A n C) (PackMath.num (u64n z)))) ∧ (d 4 = true → (d 0 = true ∧ d 3 = true ∧ (d 5 = false → (∃ A n C, e4 = .slice A n C) ∧ Whole w' (w0.heap.size + 1) 24 #[lv] ∧ OwnB (w0.heap.size + 3) w' e4 ((zs ++ bytesN ((ns.take k).map u64n)) ++ (PackMath.num (u64n z)))))) ∧ (d 5 = true → (d 4 = true ∧ PutSt w0 cs w' ((zs ++ bytesN ((ns.take k).map u64n)) ++ (PackMath.num (u64n z))))) ∧ PutK w0 cs h ns w' ∧ (d 4 = false → Whole w' (w0.heap.size + 1) 24 #[lv] ∧ OwnB (w0.heap.size + 3) w' lv (zs ++ bytesN ((ns.take k).map u64n)))) ?h0 ?step ?ends
      case hm => kernel_rfl
      case hb => kernel_rfl
      case h0 =>
        refine ⟨u11, u12, u13, u14, u15, ?_, Hb0.out.drew, fun h => absurd h (by decide), fun h => absurd h (by decide), fun h => absurd h (by decide), fun h => absurd h (by decide), fun h => absurd h (by decide), fun h => absurd h (by decide), ⟨HM.out.drew, HC.out.drew, HW.out.drew⟩, fun _ => ⟨Hlv.out.drew, HO.out.later (Below.refl _ _).drew⟩⟩
        simp only [putAll, Act.put, List.setIfInBounds_toArray, List.set_cons_zero, List.set_cons_succ]
      case step =>
        intro i d a' w' hi hJ hd hk
        obtain ⟨e0, e1, e2, e3, e4, rfl, hC⟩ := hJ
        obtain ⟨hB, hC⟩ := hC
        obtain ⟨c0, hC⟩ := hC
        obtain ⟨c1, hC⟩ := hC
        obtain ⟨c2, hC⟩ := hC
        obtain ⟨c3, hC⟩ := hC
        obtain ⟨c4, hC⟩ := hC
        obtain ⟨c5, hC⟩ := hC
        obtain ⟨kK, hC⟩ := hC
        have kV := hC
        clear hC
        match i, hi, hd, hk with
        | 0, _, hd, hk =>
          have hd4 : d 4 = false := (Bool.eq_false_or_eq_true (d 4)).elim (fun h => absurd ((c4 h).1.symm.trans hd) (by decide)) id
          have hcb := (kV hd4).1.cell 0
          apply wpOp_at
          case ho => rfl
          intro K hK
          simp only [putAll, Act.put, List.setIfInBounds_toArray, List.set_cons_zero, List.set_cons_succ]
          go_simp
          refine hK _ _ ⟨lv, e1, e2, e3, e4, ?_, hB, fun _ => rfl, c1, c2, c3, fun h => ⟨rfl, (c4 h).2⟩, c5, kK, kV⟩
          simp only [putAll, Act.put, List.setIfInBounds_toArray, List.set_cons_zero, List.set_cons_succ]
        | 1, _, hd, hk =>
          apply wpOp_at
          case ho => rfl
          intro K hK
          simp only [putAll, Act.put, List.setIfInBounds_toArray, List.set_cons_zero, List.set_cons_succ]
          go_simp
          refine hK _ _ ⟨e0, (.int .i64 z), e2, e3, e4, ?_, hB, c0, fun _ => rfl, c2, c3, c4, c5, kK, kV⟩
          simp only [putAll, Act.put, List.setIfInBounds_toArray, List.set_cons_zero, List.set_cons_succ]
        | 2, _, hd, hk =>
          have h1 : d 1 = true := hk 1 (by decide +kernel)
          obtain rfl := c1 h1
          apply wpOp_at
          case ho => rfl
          intro K hK
          simp only [putAll, Act.put, List.setIfInBounds_toArray, List.set_cons_zero, List.set_cons_succ]
          go_simp
          refine hK _ _ ⟨e0, (.int .i64 z), (.int .u64 ((u64n z : Nat) : Int)), e3, e4, ?_, hB, c0, c1, fun _ => rfl, c3, c4, c5, kK, kV⟩
          simp only [putAll, Act.put, List.setIfInBounds_toArray, List.set_cons_zero, List.set_cons_succ]
        | 3, _, hd, hk =>
          have h2 : d 2 = true := hk 2 (by decide +kernel)
          obtain rfl := c2 h2
          apply wpOp_at
          case ho => rfl
          intro K hK
          simp only [putAll, Act.put, List.setIfInBounds_toArray, List.set_cons_zero, List.set_cons_succ]
          go_simp
          refine (put_calls none 0 0 [] (u64n z) (u64n_lt z) w' (bytes_nil _ _ _ (fun _ => rfl)) rfl (Nat.le_refl _) (by omega)).mono ?_
          rintro e w'' ⟨v4, rfl, hb, hF4⟩
          rw [List.nil_append] at hF4
          obtain ⟨A4, n4, x4, rfl, hn4, hnc4⟩ := hF4.args
          refine hK _ _ ⟨e0, e1, (.int .u64 ((u64n z : Nat) : Int)), .slice A4 n4 x4, e4, ?_, hB.trans (hb.mono hB.size), c0, c1, c2, fun _ => fun _ => ⟨A4, n4, x4, rfl, hn4, hnc4, hF4.bytes⟩, fun h => absurd ((c4 h).2.1.symm.trans hd) (by decide), fun h => absurd ((c4 (c5 h).1).2.1.symm.trans hd) (by decide), kK.later hb, fun h => ⟨(kV h).1.later hb (kV h).1.lt, (kV h).2.later hb⟩⟩
          simp only [putAll, Act.put, List.setIfInBounds_toArray, List.set_cons_zero, List.set_cons_succ]
        | 4, _, hd, hk =>
          have h0 : d 0 = true := hk 0 (by decide +kernel)
          have h3 : d 3 = true := hk 3 (by decide +kernel)
          obtain rfl := c0 h0
          obtain ⟨A4, n4, x4, rfl, hn4, hnc4, hB4⟩ := c3 h3 hd
          obtain ⟨hx4, hO4⟩ := kV hd
          obtain ⟨v5, w5, hrun5, q1, q2, q3⟩ := run_append_own hO4 (by have := kK.2.1.lt; omega) hB4 hn4 hnc4 Hrm.out
          have hf9 : ∃ A n C, v5 = .slice A n C := by obtain ⟨A9, C9, e9, _⟩ := q1.form (by rw [List.length_append]; have := Hrm.out; omega); exact ⟨A9, _, C9, e9⟩
          obtain ⟨hf5, hv5, hw5⟩ := fine_of hrun5
          clear hrun5 hn4 hnc4
          apply wpOp_at
          case ho => rfl
          intro K hK
          simp only [putAll, Act.put, List.setIfInBounds_toArray, List.set_cons_zero, List.set_cons_succ]
          go_simp
          refine hK _ _ ⟨lv, e1, e2, .slice A4 n4 x4, v5, ?_, hB.trans (q2.mono (by omega)), c0, c1, c2, fun _ h => Bool.noConfusion (show true = false from h), fun _ => ⟨h0, h3, fun _ => ⟨hf9, hx4.later q2 (by omega), q1⟩⟩, fun h => absurd ((c5 h).1.symm.trans hd) (by decide), kK.grown hO4 q2 q3 hh, fun h => Bool.noConfusion (show true = false from h)⟩
          simp only [putAll, Act.put, List.setIfInBounds_toArray, List.set_cons_zero, List.set_cons_succ]
        | 5, _, hd, hk =>
          have h4 : d 4 = true := hk 4 (by decide +kernel)
          obtain ⟨h0, h3, hp4⟩ := c4 h4
          obtain ⟨⟨A5, n5, C5, rfl⟩, hx4, hO4⟩ := hp4 hd
          have hcb := hx4.cell 0
          have hfb := hx4.free 0
          apply wpOp_at
          case ho => rfl
          intro K hK
          simp only [putAll, Act.put, List.setIfInBounds_toArray, List.set_cons_zero, List.set_cons_succ]
          go_simp
          refine hK _ _ ⟨e0, e1, e2, e3, .slice A5 n5 C5, ?_, hB.setCell (p := ⟨w0.heap.size + 1, 0, none⟩) (by show _ ≤ w0.heap.size + 1; omega) _, c0, c1, c2, fun _ h => absurd (h4.symm.trans h) (by decide), fun _ => ⟨h0, h3, fun h => Bool.noConfusion (show true = false from h)⟩, fun _ => ⟨h4, PutSt.step hB kK.1 kK.2.1 hx4 hO4 (Below.refl _ _)⟩, kK.set hh _, fun h => absurd (h4.symm.trans h) (by decide)⟩
          simp only [putAll, Act.put, List.setIfInBounds_toArray, List.set_cons_zero, List.set_cons_succ]
        | k + 6, hi, _, _ => exact absurd hi (by simp)
      case ends =>
        intro d a' w' hJ hall
        obtain ⟨e0, e1, e2, e3, e4, rfl, hC⟩ := hJ
        obtain ⟨hB, hC⟩ := hC
        obtain ⟨c0, hC⟩ := hC
        obtain ⟨c1, hC⟩ := hC
        obtain ⟨c2, hC⟩ := hC
        obtain ⟨c3, hC⟩ := hC
        obtain ⟨c4, hC⟩ := hC
        obtain ⟨c5, hC⟩ := hC
        obtain ⟨kK, hC⟩ := hC
        have kV := hC
        clear hC
        have HP' := Lib.hid (c5 (hall 5 (by decide +kernel))).2
        have HK' := Lib.hid kK.2.2
        obtain rfl := c0 (hall 0 (by decide +kernel))
        clear c0 c1 c2 c3 c4 c5 kK kV hall hB
        rw [bytes_more, HT.out] at HP'
        simp only [putAll, Act.put, List.setIfInBounds_toArray, List.set_cons_zero, List.set_cons_succ]
        go_wp2_with fail
        go_roundw
        case rel => exact ⟨k + 1, by omega, by go_num, HP'.out, HK'.out⟩
        case measure => simp [intOf]; omega
    · obtain rfl : k = m := by omega
      have HS' : Hid (PutSt w0 cs wr (zs ++ bytesN (ns.map u64n))) := by
        have h := HS.out
        rw [Hm.out, List.take_length] at h
        exact h
      go_wp2_with fail
      first | go_end0 | refine bodyPost_ret (results_none rfl _ _ _) rfl ?_
      exact ⟨rfl, HS'.out⟩
end Go.Proofs.Ytfpadcfahfanoaa
