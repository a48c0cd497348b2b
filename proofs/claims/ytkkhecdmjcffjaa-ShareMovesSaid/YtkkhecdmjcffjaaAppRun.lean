/- An append that is known to run, under one name. No function of the program in it. No law is proved here. -/
import Derived.Test.YtkkhecdmjcffjaaAppend
import Derived.WalkKit
namespace Go.Proofs.Ytkkhecdmjcffjaa
open Go.RowKit

/-- an append that is known to run: what it answers, and the world behind it, under two names -/
def Fine (P : Program) (w : World) (ts : Array TypeId) (ty : TypeId) (args : Array Value) : Prop := ∃ v w', (Builtin.append_ ts ty args).run P w = .ok v w'
def okV : Result Value → Value
  | .ok v _ => v
  | _ => undef
def okW (w : World) : Result Value → World
  | .ok _ w' => w'
  | _ => w
noncomputable def appV (P : Program) (w : World) (ts : Array TypeId) (ty : TypeId) (args : Array Value) : Value := okV ((Builtin.append_ ts ty args).run P w)
noncomputable def appW (P : Program) (w : World) (ts : Array TypeId) (ty : TypeId) (args : Array Value) : World := okW w ((Builtin.append_ ts ty args).run P w)
theorem run_fine {P : Program} {w : World} {ρ : Operand → Value} {dst : Option Tmp} {ty t t2 : TypeId} {pos : String} {after : Array Edge} {guard : Option (Nat × Bool)} {s x : Operand}
    (h : Fine P w #[t, t2] ty #[ρ s, ρ x]) : (execOp ρ { dst, op := .call { callee := .builtin .append, args := #[s, x], argTypes := #[t, t2] }, type := ty, pos, after, guard }).run P w = .ok (.value (appV P w #[t, t2] ty #[ρ s, ρ x])) (appW P w #[t, t2] ty #[ρ s, ρ x]) := by
  obtain ⟨v, w', hr⟩ := h
  unfold execOp appV appW
  simp only [resolve, invoke, builtin, Sem.run_bind, Sem.run_pure, Result.andThen_ok, List.map_toArray, List.map_cons, List.map_nil, hr]
  rfl
theorem fine_of {P : Program} {w w' : World} {ts : Array TypeId} {ty : TypeId} {args : Array Value} {v : Value} (h : (Builtin.append_ ts ty args).run P w = .ok v w') : Fine P w ts ty args ∧ appV P w ts ty args = v ∧ appW P w ts ty args = w' :=
  ⟨⟨_, _, h⟩, by unfold appV; rw [h]; rfl, by unfold appW; rw [h]; rfl⟩
end Go.Proofs.Ytkkhecdmjcffjaa
