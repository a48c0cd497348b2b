/- A region that draws its order, operation by operation: what holds of those that have come up. No function of the program in it. No law is proved here. -/
import Derived.Orders
import Derived.RegionTactic
namespace Go.Proofs.Ytgonboccklpoaaa
open Go

section
variable {P : Program} {ops : Array Oper} {Q : Exit → Act → World → Prop}

/-- each operation waits for elder ones alone (what does not bind is let go) -/
def backward (ops : Array Oper) : Bool := (List.range ops.size).all fun i => match ops[i]? with
  | some o => o.after.all fun e => !Region.binds .any e || decide (e.on < i)
  | none => true
/-- for which operations the one waits -/
def waitsFor (ops : Array Oper) (i : Nat) : List Nat := match ops[i]? with
  | some o => (o.after.toList.filter (Region.binds .any)).map (·.on)
  | none => []
/-- one more has come up -/
def oneMore (d : Nat → Bool) (i : Nat) : Nat → Bool := fun k => k == i || d k
theorem oneMore_same (d : Nat → Bool) (i : Nat) : oneMore d i i = true := by simp [oneMore]
theorem oneMore_other {d : Nat → Bool} {i k : Nat} (h : k ≠ i) : oneMore d i k = d k := by simp [oneMore, h]

/-- how many are still to come up -/
def still (n : Nat) (d : Nat → Bool) : Nat := ((List.range n).filter fun k => !d k).length
theorem still_more {n : Nat} {d : Nat → Bool} {i : Nat} (hi : i < n) (hd : d i = false) : still n (oneMore d i) < still n d := by
  unfold still
  induction n with
  | zero => omega
  | succ n ih =>
    rw [List.range_succ, List.filter_append, List.filter_append, List.length_append, List.length_append]
    by_cases h : i = n
    · subst h
      have e1 : (List.range i).filter (fun k => !oneMore d i k) = (List.range i).filter (fun k => !d k) := by
        apply List.filter_congr
        intro k hk
        rw [oneMore_other (by have := List.mem_range.1 hk; omega)]
      rw [e1]
      simp [oneMore_same, hd]
    · have := ih (by omega)
      have e2 : [n].filter (fun k => !oneMore d i k) = [n].filter (fun k => !d k) := by
        apply List.filter_congr
        intro k hk
        rw [oneMore_other (by have := List.mem_singleton.1 hk; omega)]
      rw [e2]
      omega

theorem wpAny_each (hb : backward ops = true) (J : (Nat → Bool) → Act → World → Prop)
    (hstep : ∀ (i : Nat) (d : Nat → Bool) (a : Act) (w : World), i < ops.size → J d a w → d i = false → (∀ k ∈ waitsFor ops i, d k = true) → wpOp P ops Q i (fun a' w' => J (oneMore d i) a' w') a w)
    (hend : ∀ (d : Nat → Bool) (a : Act) (w : World), J d a w → (∀ i, i < ops.size → d i = true) → Q .normal a w) :
    ∀ (fuel : Nat) (listed : Array Bool) (d : Nat → Bool) (a : Act) (w : World), listed.size = ops.size → (∀ i, i < ops.size → listed[i]? = some (d i)) → still ops.size d ≤ fuel → J d a w → wpAny P .any ops Q fuel listed a w := by
  intro fuel
  induction fuel with
  | zero =>
    intro listed d a w hs hl hf hJ
    have hall : ∀ i, i < ops.size → d i = true := by
      intro i hi
      cases h : d i with
      | true => rfl
      | false =>
        have hlen : 0 < ((List.range ops.size).filter fun k => !d k).length := List.length_pos_of_mem (a := i) (List.mem_filter.2 ⟨List.mem_range.2 hi, by simp [h]⟩)
        unfold still at hf
        omega
    refine ⟨?_, hend d a w hJ hall⟩
    by_cases hr : Region.ready .any ops listed = []
    · exact hr
    · obtain ⟨j, hj⟩ := List.exists_mem_of_ne_nil _ hr
      obtain ⟨h1, o, ho, _⟩ := mem_ready.1 hj
      have hjs : j < ops.size := (Array.getElem?_eq_some_iff.1 ho).1
      rw [Array.getD_eq_getD_getElem?, hl j hjs, hall j hjs] at h1
      simp at h1
  | succ fuel ih =>
    intro listed d a w hs hl hf hJ
    refine ⟨fun hr => hend d a w hJ ?_, fun i hi => ?_⟩
    · intro i
      induction i using Nat.strongRecOn with
      | ind i ihi =>
        intro hi
        cases h : d i with
        | true => rfl
        | false =>
          have : i ∈ Region.ready .any ops listed := by
            refine mem_ready.2 ⟨by rw [Array.getD_eq_getD_getElem?, hl i hi, h]; rfl, ops[i], Array.getElem?_eq_getElem hi, fun e he hbe => ?_⟩
            have hlt : e.on < i := by
              have h2 := List.all_eq_true.1 hb i (List.mem_range.2 hi)
              simp only [Array.getElem?_eq_getElem hi] at h2
              have h3 := Array.all_eq_true_iff_forall_mem.1 h2 e he
              rw [hbe, Bool.not_true, Bool.false_or] at h3
              exact of_decide_eq_true h3
            have := ihi e.on hlt (by omega)
            rw [Array.getD_eq_getD_getElem?, hl e.on (by omega), this]; rfl
          rw [hr] at this
          cases this
    · obtain ⟨h1, o, ho, hdep⟩ := mem_ready.1 hi
      have his : i < ops.size := (Array.getElem?_eq_some_iff.1 ho).1
      have hdi : d i = false := by
        rw [Array.getD_eq_getD_getElem?, hl i his] at h1
        simpa using h1
      refine wpOp_mono (fun a' w' hJ' => ih (listed.setIfInBounds i true) (oneMore d i) a' w' (by simpa using hs) ?_ ?_ hJ') (hstep i d a w his hJ hdi ?_)
      · intro k hk
        by_cases e : k = i
        · subst e
          rw [oneMore_same, Array.getElem?_setIfInBounds_self_of_lt (by omega)]
        · rw [oneMore_other e, Array.getElem?_setIfInBounds_ne (fun h => e h.symm)]
          exact hl k hk
      · have := still_more his hdi
        omega
      · intro k hk
        unfold waitsFor at hk
        rw [ho] at hk
        obtain ⟨e, he, rfl⟩ := List.mem_map.1 hk
        obtain ⟨he1, he2⟩ := List.mem_filter.1 he
        have h3 := hdep e (Array.mem_toList_iff.1 he1) he2
        have hes : e.on < ops.size := by
          have h2 := List.all_eq_true.1 hb i (List.mem_range.2 his)
          simp only [ho] at h2
          have h3 := Array.all_eq_true_iff_forall_mem.1 h2 e (Array.mem_toList_iff.1 he1)
          rw [he2, Bool.not_true, Bool.false_or] at h3
          have := of_decide_eq_true h3
          omega
        rw [Array.getD_eq_getD_getElem?, hl e.on hes] at h3
        simpa using h3

/-- A REGION, OPERATION BY OPERATION: J says what holds where those that d names have come up. -/
theorem wp_region_each {id : Nat} {a : Act} {w : World} (hm : P.follows .mixedOrders = true) (hb : backward ops = true) (J : (Nat → Bool) → Act → World → Prop) (h0 : J (fun _ => false) a w.drew)
    (hstep : ∀ (i : Nat) (d : Nat → Bool) (a : Act) (w : World), i < ops.size → J d a w → d i = false → (∀ k ∈ waitsFor ops i, d k = true) → wpOp P ops Q i (fun a' w' => J (oneMore d i) a' w') a w)
    (hend : ∀ (d : Nat → Bool) (a : Act) (w : World), J d a w → (∀ i, i < ops.size → d i = true) → Q .normal a w) : (Code.region id ops true).wp P Q a w := by
  refine wp_region_any hm (wpAny_each hb J hstep hend ops.size _ (fun _ => false) a _ (by simp) (fun i hi => by simp [hi]) ?_ h0)
  exact Nat.le_trans (List.length_filter_le _ _) (by simp)

/-- the same, J being told the frame in which the region begins -/
theorem wp_region_each_at {id : Nat} {a : Act} {w : World} (hm : P.follows .mixedOrders = true) (hb : backward ops = true) (J : Act → (Nat → Bool) → Act → World → Prop) (h0 : J a (fun _ => false) a w.drew)
    (hstep : ∀ (i : Nat) (d : Nat → Bool) (a' : Act) (w' : World), i < ops.size → J a d a' w' → d i = false → (∀ k ∈ waitsFor ops i, d k = true) → wpOp P ops Q i (fun a'' w'' => J a (oneMore d i) a'' w'') a' w')
    (hend : ∀ (d : Nat → Bool) (a' : Act) (w' : World), J a d a' w' → (∀ i, i < ops.size → d i = true) → Q .normal a' w') : (Code.region id ops true).wp P Q a w :=
  wp_region_each hm hb (J a) h0 hstep hend
/-- the step of one operation, which is given written out -/
theorem wpOp_at {i : Nat} {o : Oper} {rest : List Oper} {K : Act → World → Prop} {a : Act} {w : World} (ho : ops.toList.drop i = o :: rest)
    (h : ∀ K' : Act → World → Prop, (∀ a w, K a w → K' a w) → if Region.wanted o (yielded ops a.tmps) = true then Oper.wp P o a w K' Q else K' (a.put o.dst undef) w) : wpOp P ops Q i K a w := by
  refine wpOp_step (o := o) ?_ h
  have h1 : (ops.toList.drop i)[0]? = ops.toList[i]? := by rw [List.getElem?_drop, Nat.add_zero]
  rw [ho] at h1
  rw [← Array.getElem?_toList, ← h1]; rfl
/-- some slots of a frame, anew -/
def putAll (a : Act) : List (Nat × Value) → Act
  | [] => a
  | (k, v) :: l => putAll (a.put (some k) v) l
end
end Go.Proofs.Ytgonboccklpoaaa
