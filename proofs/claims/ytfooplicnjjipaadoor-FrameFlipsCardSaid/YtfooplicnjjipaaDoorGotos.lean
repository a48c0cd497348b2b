/- A scope in which the run jumps to several labels: what holds at each jump, and a measure that each pass lowers; then one label back and one ahead. No program in it. No law is proved here. -/
import Derived.Test.YtfooplicnjjipaaDoorKit
import Derived.ScopeJumps
import Derived.WalkMore
namespace Go.Proofs.YtfooplicnjjipaaDoor
open Go.RowKit

/-- As Q; by a goto: J. -/
def Exit.jumps (J : Nat → Act → World → Prop) (Q : Exit → Act → World → Prop) : Exit → Act → World → Prop
  | .goto l, a, w => J l a w
  | e, a, w => Q e a w
theorem jumps_ret {J : Nat → Act → World → Prop} {Q : Exit → Act → World → Prop} {a : Act} {w : World} : Exit.jumps J Q .ret a w = Q .ret a w := rfl
theorem jumps_goto {J : Nat → Act → World → Prop} {Q : Exit → Act → World → Prop} {l : Nat} {a : Act} {w : World} : Exit.jumps J Q (.goto l) a w = J l a w := rfl

theorem wp_scope_many {P : Program} {a : Act} {w : World} {Q : Exit → Act → World → Prop} {c : Code} (J : Nat → Act → World → Prop) (μ : Nat → Act → World → Nat)
    (pass : ∀ l a w, J l a w → ∃ rest, findLabel c l = some rest ∧ rest.wp P (Exit.jumps (fun l' a' w' => J l' a' w' ∧ μ l' a' w' < μ l a w) Q) a w)
    (first : c.wp P (Exit.jumps J Q) a w) : (Code.scope c).wp P Q a w := by
  intro b k cs
  have key : ∀ n l a w, μ l a w = n → J l a w → ∀ rest, findLabel c l = some rest → ∃ e a' w', Q e a' w' ∧ Arrives P (lone (b.at a (.code rest :: .inScope c :: k)) cs w) b k cs e a' w' := by
    intro n
    induction n using Nat.strongRecOn with
    | _ n ih =>
      intro l a w hn hJ rest hr
      obtain ⟨rest', hr', hp⟩ := pass l a w hJ
      obtain rfl : rest = rest' := Option.some.inj (hr.symm.trans hr')
      obtain ⟨e, a₁, w₁, hq, harr⟩ := hp b (.inScope c :: k) cs
      cases e with
      | normal => exact ⟨.normal, a₁, w₁, hq, Steps.trans harr (.one step_inScope)⟩
      | exit id => exact ⟨.exit id, a₁, w₁, hq, fun k' hk => harr k' (by simp [exitTo, hk])⟩
      | goto l' =>
        obtain ⟨hJ', hlt⟩ := hq
        obtain ⟨r2, hr2, _⟩ := pass l' a₁ w₁ hJ'
        have hg : gotoIn l' (.inScope c :: k) = some (.code r2 :: .inScope c :: k) := by simp [gotoIn, hr2]
        obtain ⟨e₂, a₂, w₂, hq₂, harr₂⟩ := ih _ (by omega) l' a₁ w₁ rfl hJ' r2 hr2
        exact ⟨e₂, a₂, w₂, hq₂, .of_steps (harr _ hg) harr₂⟩
      | ret => exact ⟨_, a₁, w₁, hq, harr⟩
      | panic ch => exact ⟨_, a₁, w₁, hq, harr⟩
      | outgrown => exact ⟨_, a₁, w₁, hq, harr⟩
  obtain ⟨e, a₁, w₁, hq, harr⟩ := first b (.inScope c :: k) cs
  cases e with
  | normal => exact ⟨.normal, a₁, w₁, hq, .head step_scope (Steps.trans harr (.one step_inScope))⟩
  | exit id => exact ⟨.exit id, a₁, w₁, hq, fun k' hk => .head step_scope (harr k' (by simp [exitTo, hk]))⟩
  | goto l' =>
    obtain ⟨r2, hr2, _⟩ := pass l' a₁ w₁ hq
    have hg : gotoIn l' (.inScope c :: k) = some (.code r2 :: .inScope c :: k) := by simp [gotoIn, hr2]
    obtain ⟨e₂, a₂, w₂, hq₂, harr₂⟩ := key _ l' a₁ w₁ rfl hq r2 hr2
    exact ⟨e₂, a₂, w₂, hq₂, .of_steps (.head step_scope (harr _ hg)) harr₂⟩
  | ret => exact ⟨_, a₁, w₁, hq, .of_steps (.one step_scope) harr⟩
  | panic ch => exact ⟨_, a₁, w₁, hq, .of_steps (.one step_scope) harr⟩
  | outgrown => exact ⟨_, a₁, w₁, hq, .of_steps (.one step_scope) harr⟩

/-- ONE LABEL BACK (lb: what holds there, Jb, with a measure), ONE AHEAD (la: what stands behind it is walked where the jump is taken) -/
theorem wp_scope_back_ahead {P : Program} {a : Act} {w : World} {Q : Exit → Act → World → Prop} {c rb ra : Code} (lb la : Nat) (Jb : Act → World → Prop) (μ : Act → World → Nat) (hb : findLabel c lb = some rb) (ha : findLabel c la = some ra) (hne : la ≠ lb)
    (first : ∀ Ja : Act → World → Prop, Hid (∀ a w, ra.wp P (Exit.jumps (fun _ _ _ => False) Q) a w → Ja a w) → c.wp P (Exit.jumps (fun l a w => (l = lb ∧ Jb a w) ∨ (l = la ∧ Ja a w)) Q) a w)
    (pass : ∀ Ja : Act → World → Prop, Hid (∀ a w, ra.wp P (Exit.jumps (fun _ _ _ => False) Q) a w → Ja a w) → ∀ a w, Jb a w → rb.wp P (Exit.jumps (fun l a' w' => (l = lb ∧ Jb a' w' ∧ μ a' w' < μ a w) ∨ (l = la ∧ Ja a' w')) Q) a w) : (Code.scope c).wp P Q a w := by
  have weak : ∀ (r : Code) (J K : Nat → Act → World → Prop) (a : Act) (w : World), (∀ l a w, J l a w → K l a w) → r.wp P (Exit.jumps J Q) a w → r.wp P (Exit.jumps K Q) a w := by
    intro r J K a w h hr b k cs
    obtain ⟨e, a', w', hq, harr⟩ := hr b k cs
    refine ⟨e, a', w', ?_, harr⟩
    cases e with
    | goto l' => exact h _ _ _ hq
    | normal => exact hq
    | exit id => exact hq
    | ret => exact hq
    | panic ch => exact hq
    | outgrown => exact hq
  refine wp_scope_many (fun l a w => (l = lb ∧ Jb a w) ∨ (l = la ∧ ra.wp P (Exit.jumps (fun _ _ _ => False) Q) a w)) (fun l a w => if l = lb then μ a w + 1 else 0) ?_ (first _ (fun _ _ h => h))
  rintro l a w (⟨rfl, hJ⟩ | ⟨rfl, hJ⟩)
  · refine ⟨rb, hb, weak _ _ _ _ _ ?_ (pass _ (fun _ _ h => h) a w hJ)⟩
    rintro l' a' w' (⟨rfl, h1, h2⟩ | ⟨rfl, h1⟩)
    · exact ⟨Or.inl ⟨rfl, h1⟩, by simp; exact h2⟩
    · refine ⟨Or.inr ⟨rfl, h1⟩, ?_⟩
      rw [if_neg hne]
      simp
  · exact ⟨ra, ha, weak _ _ _ _ _ (fun _ _ _ h => h.elim) hJ⟩
/-- A LABEL AT THE HEAD, TO WHICH THE RUN COMES BACK, AND ONE AHEAD -/
theorem wp_scope_rounds {P : Program} {a : Act} {w : World} {Q : Exit → Act → World → Prop} {c ra : Code} (lb la : Nat) (Jb : Act → World → Prop) (μ : Act → World → Nat) (hb : findLabel ((Code.label lb).seq c) lb = some (Code.skip.seq c)) (ha : findLabel ((Code.label lb).seq c) la = some ra) (hne : la ≠ lb) (start : Jb a w)
    (pass : ∀ Ja : Act → World → Prop, Hid (∀ a w, ra.wp P (Exit.jumps (fun _ _ _ => False) Q) a w → Ja a w) → ∀ a w, Jb a w → c.wp P (Exit.jumps (fun l a' w' => (l = lb ∧ Jb a' w' ∧ μ a' w' < μ a w) ∨ (l = la ∧ Ja a' w')) Q) a w) : (Code.scope ((Code.label lb).seq c)).wp P Q a w := by
  refine wp_scope_back_ahead lb la Jb μ hb ha hne (fun Ja hJ => ?_) (fun Ja hJ a w h => wp_seq (wp_skip (pass Ja hJ a w h)))
  have h := pass Ja hJ a w start
  refine wp_seq (wp_label ?_)
  intro b k cs
  obtain ⟨e, a', w', hq, harr⟩ := h b k cs
  refine ⟨e, a', w', ?_, harr⟩
  cases e with
  | goto l' => exact hq.imp (fun h => ⟨h.1, h.2.1⟩) id
  | normal => exact hq
  | exit id => exact hq
  | ret => exact hq
  | panic ch => exact hq
  | outgrown => exact hq
end Go.Proofs.YtfooplicnjjipaaDoor
