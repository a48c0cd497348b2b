/-
  No cell of these rows narrows 'for every input' (looked for: loops, veiled, ifaces, maps, wideKeys, modest, calm, conditions, laid).
  DERIVED. THE GIVEN ROWS OF THIS SEAT. 3 by the template 'for every input the law returns true; each argument reads behind the call as it read before'; 0 by the template 'total and deterministic' (their statements: YtbpmonbehibgdaaTotals.lean).
  GIVEN WITH THE SEED: the statements are not yours to turn. If you find one false, say at which input.
  Laid BY PROGRAM, IN A SANDBOX (cutbox-rows.mjs): the forced cells as the released guide's own fill.sh prints them over the translation cc9be5b994da5cf3… (all of the seat's roots in one cut). By AI agents, Wed Nov 11 2026. No macro, syntax, notation, axiom, sorry.
-/
import Derived.Test.YtbpmonbehibgdaaChecked
import GoSem.Claim
import GoSem.ClaimJoined
import GoSem.ClaimMapViews
import Derived.JoinedTies
import Derived.KernelRfl
namespace Go.Proofs.Ytbpmonbehibgdaa
/- THE CELL 'sum', in the pinned program and in every row, IS THE sha256 OF THE DUMP (.gsa) THAT YtbpmonbehibgdaaProg.lean LOADS. Nothing in Lean hashes anything: it is a label: what it is worth is what the hold of that sum in a sandbox is worth. -/
noncomputable def Try.pinned : Pinned := { name := "ytbpmonbehibgdaa", sum := "cc9be5b994da5cf35340a19ae9985340dee2083ebdf3ad641f652363a2473cdf", checked := Try.checked }
namespace Rows
def none {H : Type} : Left H := { results := [], args := [] }

/-- 'cofferslaw14.ClaimHears': WHATEVER THE INPUT: true; the input reads as it did. -/
def claimHearsSpec : ChangeSpec := { name := "claimHears", fn := fun _ => fun
  | [d1, d2, d3, d4] => { results := [.lit (.bool true)], args := [d1, d2, d3, d4] }
  | _ => none }
def claimHearsRow : OpenClaim := { program := "ytbpmonbehibgdaa", sum := "cc9be5b994da5cf35340a19ae9985340dee2083ebdf3ad641f652363a2473cdf", func := "coffers/cofferslaw14.ClaimHears", spec := "claimHears", unfollowed := true, recurses := true, apart := false }
def ClaimHearsSaid : Prop := claimHearsRow.holds Try.pinned (OpenSpec.ofChange claimHearsSpec)

/-- ITS FALSE NEIGHBOUR: 'it returns false'. Refute it at one input. -/
def claimHearsWrong : ChangeSpec := { name := "claimHears", fn := fun _ => fun
  | [d1, d2, d3, d4] => { results := [.lit (.bool false)], args := [d1, d2, d3, d4] }
  | _ => none }
def ClaimHearsWrongFalsely : Prop := claimHearsRow.holds Try.pinned (OpenSpec.ofChange claimHearsWrong)

/-- 'cofferslaw14.ClaimStays': WHATEVER THE INPUT: true; the input reads as it did. -/
def claimStaysSpec : ChangeSpec := { name := "claimStays", fn := fun _ => fun
  | [d1, d2, d3, d4, d5] => { results := [.lit (.bool true)], args := [d1, d2, d3, d4, d5] }
  | _ => none }
def claimStaysRow : OpenClaim := { program := "ytbpmonbehibgdaa", sum := "cc9be5b994da5cf35340a19ae9985340dee2083ebdf3ad641f652363a2473cdf", func := "coffers/cofferslaw14.ClaimStays", spec := "claimStays", unfollowed := true, recurses := true, apart := false }
def ClaimStaysSaid : Prop := claimStaysRow.holds Try.pinned (OpenSpec.ofChange claimStaysSpec)

/-- ITS FALSE NEIGHBOUR: 'it returns false'. Refute it at one input. -/
def claimStaysWrong : ChangeSpec := { name := "claimStays", fn := fun _ => fun
  | [d1, d2, d3, d4, d5] => { results := [.lit (.bool false)], args := [d1, d2, d3, d4, d5] }
  | _ => none }
def ClaimStaysWrongFalsely : Prop := claimStaysRow.holds Try.pinned (OpenSpec.ofChange claimStaysWrong)

/-- 'cofferslaw14.ClaimTurns': WHATEVER THE INPUT: true; the input reads as it did. -/
def claimTurnsSpec : ChangeSpec := { name := "claimTurns", fn := fun _ => fun
  | [d1, d2, d3] => { results := [.lit (.bool true)], args := [d1, d2, d3] }
  | _ => none }
def claimTurnsRow : OpenClaim := { program := "ytbpmonbehibgdaa", sum := "cc9be5b994da5cf35340a19ae9985340dee2083ebdf3ad641f652363a2473cdf", func := "coffers/cofferslaw14.ClaimTurns", spec := "claimTurns", unfollowed := true, recurses := true, apart := false }
def ClaimTurnsSaid : Prop := claimTurnsRow.holds Try.pinned (OpenSpec.ofChange claimTurnsSpec)

/-- ITS FALSE NEIGHBOUR: 'it returns false'. Refute it at one input. -/
def claimTurnsWrong : ChangeSpec := { name := "claimTurns", fn := fun _ => fun
  | [d1, d2, d3] => { results := [.lit (.bool false)], args := [d1, d2, d3] }
  | _ => none }
def ClaimTurnsWrongFalsely : Prop := claimTurnsRow.holds Try.pinned (OpenSpec.ofChange claimTurnsWrong)

/- THE SECOND FORM. 'bulk': how many values and letters a reading holds, each counted each time it is reached (what is shared counts as often as it is met; a slice's spare places count too). A statement '..UptoSaid' is the law's where the arguments, and the package variables that the reading takes, are together of bulk at most 1048576: NARROWER than '..Said'. Prove '..Said' where nothing that the law and all that it calls make is longer than what came in: it says more and counts as full. Else prove '..UptoSaid'. A law counts once. -/
mutual
def uptoBulk {H : Type} : DataW H → Nat
  | .lit (.string bytes) => bytes.length + 1
  | .lit _ => 1
  | .nil => 1
  | .ptr d => uptoBulk d + 1
  | .slice elems spare => uptoBulkAll elems + uptoBulkAll spare + 1
  | .agg parts => uptoBulkAll parts + 1
  | .iface _ d => uptoBulk d + 1
  | .map entries => uptoBulkEntries entries + 1
  | .held _ => 1
def uptoBulkAll {H : Type} : List (DataW H) → Nat
  | [] => 0
  | d :: r => uptoBulk d + uptoBulkAll r
def uptoBulkEntries {H : Type} : List (Lit × DataW H) → Nat
  | [] => 0
  | x :: r => uptoBulkEntry x + uptoBulkEntries r
def uptoBulkEntry {H : Type} : Lit × DataW H → Nat
  | (.string bytes, d) => bytes.length + uptoBulk d + 1
  | (_, d) => uptoBulk d + 1
 end
def uptoSmall : (H : Type) → List (DataW H) → Bool := fun _ ds => decide (uptoBulkAll ds ≤ 1048576)
def OpenSpec.upto (s : _root_.Go.ChangeSpec) : _root_.Go.OpenSpec := { _root_.Go.OpenSpec.ofChange s with cond := some uptoSmall }

/-- 'cofferslaw14.ClaimHears', WHERE WHAT IT READS IS OF BULK AT MOST 1048576: true; the input reads as it did. -/
def claimHearsUptoRow : OpenClaim := { program := "ytbpmonbehibgdaa", sum := "cc9be5b994da5cf35340a19ae9985340dee2083ebdf3ad641f652363a2473cdf", func := "coffers/cofferslaw14.ClaimHears", spec := "claimHears", unfollowed := true, recurses := true, apart := false, narrowed := true }
def ClaimHearsUptoSaid : Prop := claimHearsUptoRow.holds Try.pinned (OpenSpec.upto claimHearsSpec)

/-- 'cofferslaw14.ClaimStays', WHERE WHAT IT READS IS OF BULK AT MOST 1048576: true; the input reads as it did. -/
def claimStaysUptoRow : OpenClaim := { program := "ytbpmonbehibgdaa", sum := "cc9be5b994da5cf35340a19ae9985340dee2083ebdf3ad641f652363a2473cdf", func := "coffers/cofferslaw14.ClaimStays", spec := "claimStays", unfollowed := true, recurses := true, apart := false, narrowed := true }
def ClaimStaysUptoSaid : Prop := claimStaysUptoRow.holds Try.pinned (OpenSpec.upto claimStaysSpec)

/-- 'cofferslaw14.ClaimTurns', WHERE WHAT IT READS IS OF BULK AT MOST 1048576: true; the input reads as it did. -/
def claimTurnsUptoRow : OpenClaim := { program := "ytbpmonbehibgdaa", sum := "cc9be5b994da5cf35340a19ae9985340dee2083ebdf3ad641f652363a2473cdf", func := "coffers/cofferslaw14.ClaimTurns", spec := "claimTurns", unfollowed := true, recurses := true, apart := false, narrowed := true }
def ClaimTurnsUptoSaid : Prop := claimTurnsUptoRow.holds Try.pinned (OpenSpec.upto claimTurnsSpec)

end Rows
end Go.Proofs.Ytbpmonbehibgdaa
