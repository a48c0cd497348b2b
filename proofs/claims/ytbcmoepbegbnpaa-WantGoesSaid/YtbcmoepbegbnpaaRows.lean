/-
  No cell of these rows narrows 'for every input' (looked for: loops, veiled, ifaces, maps, wideKeys, modest, calm, conditions, laid).
  DERIVED. THE GIVEN ROWS OF THIS SEAT. 3 by the template 'for every input the law returns true; each argument reads behind the call as it read before'; 0 by the template 'total and deterministic' (their statements: YtbcmoepbegbnpaaTotals.lean).
  GIVEN WITH THE SEED: the statements are not yours to turn. If you find one false, say at which input.
  Laid BY PROGRAM, IN A SANDBOX (cutbox-rows.mjs): the forced cells as the released guide's own fill.sh prints them over the translation fe4b45906ba6a103… (all of the seat's roots in one cut). By AI agents, Wed Nov 11 2026. No macro, syntax, notation, axiom, sorry.
-/
import Derived.Test.YtbcmoepbegbnpaaChecked
import GoSem.Claim
import GoSem.ClaimJoined
import GoSem.ClaimMapViews
import Derived.JoinedTies
import Derived.KernelRfl
namespace Go.Proofs.Ytbcmoepbegbnpaa
/- THE CELL 'sum', in the pinned program and in every row, IS THE sha256 OF THE DUMP (.gsa) THAT YtbcmoepbegbnpaaProg.lean LOADS. Nothing in Lean hashes anything: it is a label: what it is worth is what the hold of that sum in a sandbox is worth. -/
noncomputable def Try.pinned : Pinned := { name := "ytbcmoepbegbnpaa", sum := "fe4b45906ba6a103d701f5114e0e26d8f47ab5e307c25d56501762b0bd773dcd", checked := Try.checked }
namespace Rows
def none {H : Type} : Left H := { results := [], args := [] }

/-- 'cofferslaw12.WantTells': WHATEVER THE INPUT: true; the input reads as it did. -/
def wantTellsSpec : ChangeSpec := { name := "wantTells", fn := fun _ => fun
  | [d1, d2] => { results := [.lit (.bool true)], args := [d1, d2] }
  | _ => none }
def wantTellsRow : OpenClaim := { program := "ytbcmoepbegbnpaa", sum := "fe4b45906ba6a103d701f5114e0e26d8f47ab5e307c25d56501762b0bd773dcd", func := "coffers/cofferslaw12.WantTells", spec := "wantTells", inPlace := ["math.archFloor", "math.Float64bits", "math.Float64frombits", "math.archTrunc"], apart := false }
def WantTellsSaid : Prop := wantTellsRow.holds Try.pinned (OpenSpec.ofChange wantTellsSpec)

/-- ITS FALSE NEIGHBOUR: 'it returns false'. Refute it at one input. -/
def wantTellsWrong : ChangeSpec := { name := "wantTells", fn := fun _ => fun
  | [d1, d2] => { results := [.lit (.bool false)], args := [d1, d2] }
  | _ => none }
def WantTellsWrongFalsely : Prop := wantTellsRow.holds Try.pinned (OpenSpec.ofChange wantTellsWrong)

/-- 'cofferslaw12.WantGoes': WHATEVER THE INPUT: true; the input reads as it did. -/
def wantGoesSpec : ChangeSpec := { name := "wantGoes", fn := fun _ => fun
  | [d] => { results := [.lit (.bool true)], args := [d] }
  | _ => none }
def wantGoesRow : OpenClaim := { program := "ytbcmoepbegbnpaa", sum := "fe4b45906ba6a103d701f5114e0e26d8f47ab5e307c25d56501762b0bd773dcd", func := "coffers/cofferslaw12.WantGoes", spec := "wantGoes", inPlace := ["math.archFloor", "math.Float64bits", "math.Float64frombits", "math.archTrunc"], apart := false }
def WantGoesSaid : Prop := wantGoesRow.holds Try.pinned (OpenSpec.ofChange wantGoesSpec)

/-- ITS FALSE NEIGHBOUR: 'it returns false'. Refute it at one input. -/
def wantGoesWrong : ChangeSpec := { name := "wantGoes", fn := fun _ => fun
  | [d] => { results := [.lit (.bool false)], args := [d] }
  | _ => none }
def WantGoesWrongFalsely : Prop := wantGoesRow.holds Try.pinned (OpenSpec.ofChange wantGoesWrong)

/-- 'cofferslaw12.WantMore': WHATEVER THE INPUT: true; the input reads as it did. -/
def wantMoreSpec : ChangeSpec := { name := "wantMore", fn := fun _ => fun
  | [d1, d2] => { results := [.lit (.bool true)], args := [d1, d2] }
  | _ => none }
def wantMoreRow : OpenClaim := { program := "ytbcmoepbegbnpaa", sum := "fe4b45906ba6a103d701f5114e0e26d8f47ab5e307c25d56501762b0bd773dcd", func := "coffers/cofferslaw12.WantMore", spec := "wantMore", inPlace := ["math.archFloor", "math.Float64bits", "math.Float64frombits", "math.archTrunc"], apart := false }
def WantMoreSaid : Prop := wantMoreRow.holds Try.pinned (OpenSpec.ofChange wantMoreSpec)

/-- ITS FALSE NEIGHBOUR: 'it returns false'. Refute it at one input. -/
def wantMoreWrong : ChangeSpec := { name := "wantMore", fn := fun _ => fun
  | [d1, d2] => { results := [.lit (.bool false)], args := [d1, d2] }
  | _ => none }
def WantMoreWrongFalsely : Prop := wantMoreRow.holds Try.pinned (OpenSpec.ofChange wantMoreWrong)

/- THE SECOND FORM. 'bulk': how many values and letters a reading holds, each counted each time it is reached (what is shared counts as often as it is met; a slice's spare places count too). A statement '..UptoSaid' is the law's where the arguments, and the package variables that the reading takes, are together of bulk at most 1048576: NARROWER than '..Said'. Prove '..Said' where nothing that the law and all that it calls make is longer than what came in: it says more and counts as full. Else prove '..UptoSaid'. A law counts once. -/
mutual
def uptoBulk {H : Type} : DataW H → Nat
  | .lit (.string bytes) => bytes.length + 1
  | .lit _ => 1
  | .nil => 1
  | .ptr d => uptoBulk d + 1
  | .slice elems spare => uptoBulkAll elems + uptoBulkAll spare + 1
  | .agg parts => uptoBulkAll parts + 1
  | .iface _ d => uptoBulk d + 1
  | .map entries => uptoBulkEntries entries + 1
  | .held _ => 1
def uptoBulkAll {H : Type} : List (DataW H) → Nat
  | [] => 0
  | d :: r => uptoBulk d + uptoBulkAll r
def uptoBulkEntries {H : Type} : List (Lit × DataW H) → Nat
  | [] => 0
  | x :: r => uptoBulkEntry x + uptoBulkEntries r
def uptoBulkEntry {H : Type} : Lit × DataW H → Nat
  | (.string bytes, d) => bytes.length + uptoBulk d + 1
  | (_, d) => uptoBulk d + 1
 end
def uptoSmall : (H : Type) → List (DataW H) → Bool := fun _ ds => decide (uptoBulkAll ds ≤ 1048576)
def OpenSpec.upto (s : _root_.Go.ChangeSpec) : _root_.Go.OpenSpec := { _root_.Go.OpenSpec.ofChange s with cond := some uptoSmall }

/-- 'cofferslaw12.WantTells', WHERE WHAT IT READS IS OF BULK AT MOST 1048576: true; the input reads as it did. -/
def wantTellsUptoRow : OpenClaim := { program := "ytbcmoepbegbnpaa", sum := "fe4b45906ba6a103d701f5114e0e26d8f47ab5e307c25d56501762b0bd773dcd", func := "coffers/cofferslaw12.WantTells", spec := "wantTells", inPlace := ["math.archFloor", "math.Float64bits", "math.Float64frombits", "math.archTrunc"], apart := false, narrowed := true }
def WantTellsUptoSaid : Prop := wantTellsUptoRow.holds Try.pinned (OpenSpec.upto wantTellsSpec)

/-- 'cofferslaw12.WantGoes', WHERE WHAT IT READS IS OF BULK AT MOST 1048576: true; the input reads as it did. -/
def wantGoesUptoRow : OpenClaim := { program := "ytbcmoepbegbnpaa", sum := "fe4b45906ba6a103d701f5114e0e26d8f47ab5e307c25d56501762b0bd773dcd", func := "coffers/cofferslaw12.WantGoes", spec := "wantGoes", inPlace := ["math.archFloor", "math.Float64bits", "math.Float64frombits", "math.archTrunc"], apart := false, narrowed := true }
def WantGoesUptoSaid : Prop := wantGoesUptoRow.holds Try.pinned (OpenSpec.upto wantGoesSpec)

/-- 'cofferslaw12.WantMore', WHERE WHAT IT READS IS OF BULK AT MOST 1048576: true; the input reads as it did. -/
def wantMoreUptoRow : OpenClaim := { program := "ytbcmoepbegbnpaa", sum := "fe4b45906ba6a103d701f5114e0e26d8f47ab5e307c25d56501762b0bd773dcd", func := "coffers/cofferslaw12.WantMore", spec := "wantMore", inPlace := ["math.archFloor", "math.Float64bits", "math.Float64frombits", "math.archTrunc"], apart := false, narrowed := true }
def WantMoreUptoSaid : Prop := wantMoreUptoRow.holds Try.pinned (OpenSpec.upto wantMoreSpec)

end Rows
end Go.Proofs.Ytbcmoepbegbnpaa
