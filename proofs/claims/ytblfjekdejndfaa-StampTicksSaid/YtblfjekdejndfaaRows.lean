/-
  No cell of these rows narrows 'for every input' (looked for: loops, veiled, ifaces, maps, wideKeys, modest, calm, conditions, laid).
  DERIVED. THE GIVEN ROWS OF THIS SEAT. 4 by the template 'for every input the law returns true; each argument reads behind the call as it read before'; 0 by the template 'total and deterministic' (their statements: YtblfjekdejndfaaTotals.lean).
  GIVEN WITH THE SEED: the statements are not yours to turn. If you find one false, say at which input.
  Laid BY PROGRAM, IN A SANDBOX (cutbox-rows.mjs): the forced cells as the released guide's own fill.sh prints them over the translation b392f951f9a86be6… (all of the seat's roots in one cut). By AI agents, Wed Nov 11 2026. No macro, syntax, notation, axiom, sorry.
-/
import Derived.Test.YtblfjekdejndfaaChecked
import GoSem.Claim
import GoSem.ClaimJoined
import GoSem.ClaimMapViews
import Derived.JoinedTies
import Derived.KernelRfl
namespace Go.Proofs.Ytblfjekdejndfaa
/- THE CELL 'sum', in the pinned program and in every row, IS THE sha256 OF THE DUMP (.gsa) THAT YtblfjekdejndfaaProg.lean LOADS. Nothing in Lean hashes anything: it is a label: what it is worth is what the hold of that sum in a sandbox is worth. -/
noncomputable def Try.pinned : Pinned := { name := "ytblfjekdejndfaa", sum := "b392f951f9a86be694a23905065fa709d8da9ab1acc2595461dfa35b0f3880fd", checked := Try.checked }
namespace Rows
def none {H : Type} : Left H := { results := [], args := [] }

/-- 'cofferslaw03.StampOrder': WHATEVER THE INPUT: true; the input reads as it did. -/
def stampOrderSpec : ChangeSpec := { name := "stampOrder", fn := fun _ => fun
  | [d1, d2, d3, d4] => { results := [.lit (.bool true)], args := [d1, d2, d3, d4] }
  | _ => none }
def stampOrderRow : OpenClaim := { program := "ytblfjekdejndfaa", sum := "b392f951f9a86be694a23905065fa709d8da9ab1acc2595461dfa35b0f3880fd", func := "coffers/cofferslaw03.StampOrder", spec := "stampOrder", apart := false }
def StampOrderSaid : Prop := stampOrderRow.holds Try.pinned (OpenSpec.ofChange stampOrderSpec)

/-- ITS FALSE NEIGHBOUR: 'it returns false'. Refute it at one input. -/
def stampOrderWrong : ChangeSpec := { name := "stampOrder", fn := fun _ => fun
  | [d1, d2, d3, d4] => { results := [.lit (.bool false)], args := [d1, d2, d3, d4] }
  | _ => none }
def StampOrderWrongFalsely : Prop := stampOrderRow.holds Try.pinned (OpenSpec.ofChange stampOrderWrong)

/-- 'cofferslaw03.StampTicks': WHATEVER THE INPUT: true; the input reads as it did. -/
def stampTicksSpec : ChangeSpec := { name := "stampTicks", fn := fun _ => fun
  | [d1, d2] => { results := [.lit (.bool true)], args := [d1, d2] }
  | _ => none }
def stampTicksRow : OpenClaim := { program := "ytblfjekdejndfaa", sum := "b392f951f9a86be694a23905065fa709d8da9ab1acc2595461dfa35b0f3880fd", func := "coffers/cofferslaw03.StampTicks", spec := "stampTicks", apart := false }
def StampTicksSaid : Prop := stampTicksRow.holds Try.pinned (OpenSpec.ofChange stampTicksSpec)

/-- ITS FALSE NEIGHBOUR: 'it returns false'. Refute it at one input. -/
def stampTicksWrong : ChangeSpec := { name := "stampTicks", fn := fun _ => fun
  | [d1, d2] => { results := [.lit (.bool false)], args := [d1, d2] }
  | _ => none }
def StampTicksWrongFalsely : Prop := stampTicksRow.holds Try.pinned (OpenSpec.ofChange stampTicksWrong)

/-- 'cofferslaw03.StampOldest': WHATEVER THE INPUT: true; the input reads as it did. -/
def stampOldestSpec : ChangeSpec := { name := "stampOldest", fn := fun _ => fun
  | [d] => { results := [.lit (.bool true)], args := [d] }
  | _ => none }
def stampOldestRow : OpenClaim := { program := "ytblfjekdejndfaa", sum := "b392f951f9a86be694a23905065fa709d8da9ab1acc2595461dfa35b0f3880fd", func := "coffers/cofferslaw03.StampOldest", spec := "stampOldest", unfollowed := true, recurses := true, apart := false }
def StampOldestSaid : Prop := stampOldestRow.holds Try.pinned (OpenSpec.ofChange stampOldestSpec)

/-- ITS FALSE NEIGHBOUR: 'it returns false'. Refute it at one input. -/
def stampOldestWrong : ChangeSpec := { name := "stampOldest", fn := fun _ => fun
  | [d] => { results := [.lit (.bool false)], args := [d] }
  | _ => none }
def StampOldestWrongFalsely : Prop := stampOldestRow.holds Try.pinned (OpenSpec.ofChange stampOldestWrong)

/-- 'cofferslaw03.StampLeast': WHATEVER THE INPUT: true; the input reads as it did. -/
def stampLeastSpec : ChangeSpec := { name := "stampLeast", fn := fun _ => fun
  | [d1, d2] => { results := [.lit (.bool true)], args := [d1, d2] }
  | _ => none }
def stampLeastRow : OpenClaim := { program := "ytblfjekdejndfaa", sum := "b392f951f9a86be694a23905065fa709d8da9ab1acc2595461dfa35b0f3880fd", func := "coffers/cofferslaw03.StampLeast", spec := "stampLeast", unfollowed := true, recurses := true, apart := false }
def StampLeastSaid : Prop := stampLeastRow.holds Try.pinned (OpenSpec.ofChange stampLeastSpec)

/-- ITS FALSE NEIGHBOUR: 'it returns false'. Refute it at one input. -/
def stampLeastWrong : ChangeSpec := { name := "stampLeast", fn := fun _ => fun
  | [d1, d2] => { results := [.lit (.bool false)], args := [d1, d2] }
  | _ => none }
def StampLeastWrongFalsely : Prop := stampLeastRow.holds Try.pinned (OpenSpec.ofChange stampLeastWrong)

/- THE SECOND FORM. 'bulk': how many values and letters a reading holds, each counted each time it is reached (what is shared counts as often as it is met; a slice's spare places count too). A statement '..UptoSaid' is the law's where the arguments, and the package variables that the reading takes, are together of bulk at most 1048576: NARROWER than '..Said'. Prove '..Said' where nothing that the law and all that it calls make is longer than what came in: it says more and counts as full. Else prove '..UptoSaid'. A law counts once. -/
mutual
def uptoBulk {H : Type} : DataW H → Nat
  | .lit (.string bytes) => bytes.length + 1
  | .lit _ => 1
  | .nil => 1
  | .ptr d => uptoBulk d + 1
  | .slice elems spare => uptoBulkAll elems + uptoBulkAll spare + 1
  | .agg parts => uptoBulkAll parts + 1
  | .iface _ d => uptoBulk d + 1
  | .map entries => uptoBulkEntries entries + 1
  | .held _ => 1
def uptoBulkAll {H : Type} : List (DataW H) → Nat
  | [] => 0
  | d :: r => uptoBulk d + uptoBulkAll r
def uptoBulkEntries {H : Type} : List (Lit × DataW H) → Nat
  | [] => 0
  | x :: r => uptoBulkEntry x + uptoBulkEntries r
def uptoBulkEntry {H : Type} : Lit × DataW H → Nat
  | (.string bytes, d) => bytes.length + uptoBulk d + 1
  | (_, d) => uptoBulk d + 1
 end
def uptoSmall : (H : Type) → List (DataW H) → Bool := fun _ ds => decide (uptoBulkAll ds ≤ 1048576)
def OpenSpec.upto (s : _root_.Go.ChangeSpec) : _root_.Go.OpenSpec := { _root_.Go.OpenSpec.ofChange s with cond := some uptoSmall }

/-- 'cofferslaw03.StampOrder', WHERE WHAT IT READS IS OF BULK AT MOST 1048576: true; the input reads as it did. -/
def stampOrderUptoRow : OpenClaim := { program := "ytblfjekdejndfaa", sum := "b392f951f9a86be694a23905065fa709d8da9ab1acc2595461dfa35b0f3880fd", func := "coffers/cofferslaw03.StampOrder", spec := "stampOrder", apart := false, narrowed := true }
def StampOrderUptoSaid : Prop := stampOrderUptoRow.holds Try.pinned (OpenSpec.upto stampOrderSpec)

/-- 'cofferslaw03.StampTicks', WHERE WHAT IT READS IS OF BULK AT MOST 1048576: true; the input reads as it did. -/
def stampTicksUptoRow : OpenClaim := { program := "ytblfjekdejndfaa", sum := "b392f951f9a86be694a23905065fa709d8da9ab1acc2595461dfa35b0f3880fd", func := "coffers/cofferslaw03.StampTicks", spec := "stampTicks", apart := false, narrowed := true }
def StampTicksUptoSaid : Prop := stampTicksUptoRow.holds Try.pinned (OpenSpec.upto stampTicksSpec)

/-- 'cofferslaw03.StampOldest', WHERE WHAT IT READS IS OF BULK AT MOST 1048576: true; the input reads as it did. -/
def stampOldestUptoRow : OpenClaim := { program := "ytblfjekdejndfaa", sum := "b392f951f9a86be694a23905065fa709d8da9ab1acc2595461dfa35b0f3880fd", func := "coffers/cofferslaw03.StampOldest", spec := "stampOldest", unfollowed := true, recurses := true, apart := false, narrowed := true }
def StampOldestUptoSaid : Prop := stampOldestUptoRow.holds Try.pinned (OpenSpec.upto stampOldestSpec)

/-- 'cofferslaw03.StampLeast', WHERE WHAT IT READS IS OF BULK AT MOST 1048576: true; the input reads as it did. -/
def stampLeastUptoRow : OpenClaim := { program := "ytblfjekdejndfaa", sum := "b392f951f9a86be694a23905065fa709d8da9ab1acc2595461dfa35b0f3880fd", func := "coffers/cofferslaw03.StampLeast", spec := "stampLeast", unfollowed := true, recurses := true, apart := false, narrowed := true }
def StampLeastUptoSaid : Prop := stampLeastUptoRow.holds Try.pinned (OpenSpec.upto stampLeastSpec)

end Rows
end Go.Proofs.Ytblfjekdejndfaa
