/-
  No cell of these rows narrows 'for every input' (looked for: loops, veiled, ifaces, maps, wideKeys, modest, calm, conditions, laid).
  DERIVED. THE GIVEN ROWS OF THIS SEAT. 6 by the template 'for every input the law returns true; each argument reads behind the call as it read before'; 0 by the template 'total and deterministic' (their statements: YtecjnkokdnmhlaaGreatTotals.lean).
  GIVEN WITH THE SEED: the statements are not yours to turn. If you find one false, say at which input.
  Laid BY PROGRAM, IN A SANDBOX (cutbox-rows.mjs): the forced cells as the released guide's own fill.sh prints them over the translation 52cea53a914ed541… (all of the seat's roots in one cut). By AI agents, Wed Nov 11 2026. No macro, syntax, notation, axiom, sorry.
-/
import Derived.Test.YtecjnkokdnmhlaaGreatChecked
import GoSem.Claim
import GoSem.ClaimJoined
import GoSem.ClaimMapViews
import Derived.JoinedTies
import Derived.KernelRfl
namespace Go.Proofs.YtecjnkokdnmhlaaGreat
/- THE CELL 'sum', in the pinned program and in every row, IS THE sha256 OF THE DUMP (.gsa) THAT YtecjnkokdnmhlaaGreatProg.lean LOADS. Nothing in Lean hashes anything: it is a label: what it is worth is what the hold of that sum in a sandbox is worth. -/
noncomputable def Tryz.pinned : Pinned := { name := "ytecjnkokdnmhlaagreat", sum := "52cea53a914ed5411ab78a86a4c03480f8ca173f9c323b75aa6be6d864d66819", checked := Tryz.checked }
namespace Rows
def none {H : Type} : Left H := { results := [], args := [] }

/-- 'cofferslaw18.NodeCalls': WHATEVER THE INPUT: true; the input reads as it did. -/
def nodeCallsSpec : ChangeSpec := { name := "nodeCalls", fn := fun _ => fun
  | [d1, d2, d3, d4] => { results := [.lit (.bool true)], args := [d1, d2, d3, d4] }
  | _ => none }
def nodeCallsRow : OpenClaim := { program := "ytecjnkokdnmhlaagreat", sum := "52cea53a914ed5411ab78a86a4c03480f8ca173f9c323b75aa6be6d864d66819", func := "coffers/cofferslaw18.NodeCalls", spec := "nodeCalls", inPlace := ["math.archFloor", "math.Float64bits", "math.Float64frombits", "math.archTrunc"], unfollowed := true, recurses := true, apart := false }
def NodeCallsSaid : Prop := nodeCallsRow.holds Tryz.pinned (OpenSpec.ofChange nodeCallsSpec)

/-- ITS FALSE NEIGHBOUR: 'it returns false'. Refute it at one input. -/
def nodeCallsWrong : ChangeSpec := { name := "nodeCalls", fn := fun _ => fun
  | [d1, d2, d3, d4] => { results := [.lit (.bool false)], args := [d1, d2, d3, d4] }
  | _ => none }
def NodeCallsWrongFalsely : Prop := nodeCallsRow.holds Tryz.pinned (OpenSpec.ofChange nodeCallsWrong)

/-- 'cofferslaw18.NodeHears': WHATEVER THE INPUT: true; the input reads as it did. -/
def nodeHearsSpec : ChangeSpec := { name := "nodeHears", fn := fun _ => fun
  | [d1, d2, d3, d4] => { results := [.lit (.bool true)], args := [d1, d2, d3, d4] }
  | _ => none }
def nodeHearsRow : OpenClaim := { program := "ytecjnkokdnmhlaagreat", sum := "52cea53a914ed5411ab78a86a4c03480f8ca173f9c323b75aa6be6d864d66819", func := "coffers/cofferslaw18.NodeHears", spec := "nodeHears", inPlace := ["math.archFloor", "math.Float64bits", "math.Float64frombits", "math.archTrunc"], unfollowed := true, recurses := true, apart := false }
def NodeHearsSaid : Prop := nodeHearsRow.holds Tryz.pinned (OpenSpec.ofChange nodeHearsSpec)

/-- ITS FALSE NEIGHBOUR: 'it returns false'. Refute it at one input. -/
def nodeHearsWrong : ChangeSpec := { name := "nodeHears", fn := fun _ => fun
  | [d1, d2, d3, d4] => { results := [.lit (.bool false)], args := [d1, d2, d3, d4] }
  | _ => none }
def NodeHearsWrongFalsely : Prop := nodeHearsRow.holds Tryz.pinned (OpenSpec.ofChange nodeHearsWrong)

/-- 'cofferslaw18.NodeStays': WHATEVER THE INPUT: true; the input reads as it did. -/
def nodeStaysSpec : ChangeSpec := { name := "nodeStays", fn := fun _ => fun
  | [d1, d2, d3, d4, d5, d6] => { results := [.lit (.bool true)], args := [d1, d2, d3, d4, d5, d6] }
  | _ => none }
def nodeStaysRow : OpenClaim := { program := "ytecjnkokdnmhlaagreat", sum := "52cea53a914ed5411ab78a86a4c03480f8ca173f9c323b75aa6be6d864d66819", func := "coffers/cofferslaw18.NodeStays", spec := "nodeStays", inPlace := ["math.archFloor", "math.Float64bits", "math.Float64frombits", "math.archTrunc"], unfollowed := true, recurses := true, apart := false }
def NodeStaysSaid : Prop := nodeStaysRow.holds Tryz.pinned (OpenSpec.ofChange nodeStaysSpec)

/-- ITS FALSE NEIGHBOUR: 'it returns false'. Refute it at one input. -/
def nodeStaysWrong : ChangeSpec := { name := "nodeStays", fn := fun _ => fun
  | [d1, d2, d3, d4, d5, d6] => { results := [.lit (.bool false)], args := [d1, d2, d3, d4, d5, d6] }
  | _ => none }
def NodeStaysWrongFalsely : Prop := nodeStaysRow.holds Tryz.pinned (OpenSpec.ofChange nodeStaysWrong)

/-- 'cofferslaw18.NodeAtOnce': WHATEVER THE INPUT: true; the input reads as it did. -/
def nodeAtOnceSpec : ChangeSpec := { name := "nodeAtOnce", fn := fun _ => fun
  | [d1, d2, d3, d4] => { results := [.lit (.bool true)], args := [d1, d2, d3, d4] }
  | _ => none }
def nodeAtOnceRow : OpenClaim := { program := "ytecjnkokdnmhlaagreat", sum := "52cea53a914ed5411ab78a86a4c03480f8ca173f9c323b75aa6be6d864d66819", func := "coffers/cofferslaw18.NodeAtOnce", spec := "nodeAtOnce", inPlace := ["math.archFloor", "math.Float64bits", "math.Float64frombits", "math.archTrunc"], unfollowed := true, recurses := true, apart := false }
def NodeAtOnceSaid : Prop := nodeAtOnceRow.holds Tryz.pinned (OpenSpec.ofChange nodeAtOnceSpec)

/-- ITS FALSE NEIGHBOUR: 'it returns false'. Refute it at one input. -/
def nodeAtOnceWrong : ChangeSpec := { name := "nodeAtOnce", fn := fun _ => fun
  | [d1, d2, d3, d4] => { results := [.lit (.bool false)], args := [d1, d2, d3, d4] }
  | _ => none }
def NodeAtOnceWrongFalsely : Prop := nodeAtOnceRow.holds Tryz.pinned (OpenSpec.ofChange nodeAtOnceWrong)

/-- 'cofferslaw18.NodeYields': WHATEVER THE INPUT: true; the input reads as it did. -/
def nodeYieldsSpec : ChangeSpec := { name := "nodeYields", fn := fun _ => fun
  | [d1, d2, d3, d4, d5] => { results := [.lit (.bool true)], args := [d1, d2, d3, d4, d5] }
  | _ => none }
def nodeYieldsRow : OpenClaim := { program := "ytecjnkokdnmhlaagreat", sum := "52cea53a914ed5411ab78a86a4c03480f8ca173f9c323b75aa6be6d864d66819", func := "coffers/cofferslaw18.NodeYields", spec := "nodeYields", inPlace := ["math.archFloor", "math.Float64bits", "math.Float64frombits", "math.archTrunc"], unfollowed := true, recurses := true, apart := false }
def NodeYieldsSaid : Prop := nodeYieldsRow.holds Tryz.pinned (OpenSpec.ofChange nodeYieldsSpec)

/-- ITS FALSE NEIGHBOUR: 'it returns false'. Refute it at one input. -/
def nodeYieldsWrong : ChangeSpec := { name := "nodeYields", fn := fun _ => fun
  | [d1, d2, d3, d4, d5] => { results := [.lit (.bool false)], args := [d1, d2, d3, d4, d5] }
  | _ => none }
def NodeYieldsWrongFalsely : Prop := nodeYieldsRow.holds Tryz.pinned (OpenSpec.ofChange nodeYieldsWrong)

/-- 'cofferslaw18.NodeValue': WHATEVER THE INPUT: true; the input reads as it did. -/
def nodeValueSpec : ChangeSpec := { name := "nodeValue", fn := fun _ => fun
  | [d1, d2, d3, d4, d5] => { results := [.lit (.bool true)], args := [d1, d2, d3, d4, d5] }
  | _ => none }
def nodeValueRow : OpenClaim := { program := "ytecjnkokdnmhlaagreat", sum := "52cea53a914ed5411ab78a86a4c03480f8ca173f9c323b75aa6be6d864d66819", func := "coffers/cofferslaw18.NodeValue", spec := "nodeValue", inPlace := ["math.archFloor", "math.Float64bits", "math.Float64frombits", "math.archTrunc"], unfollowed := true, recurses := true, apart := false }
def NodeValueSaid : Prop := nodeValueRow.holds Tryz.pinned (OpenSpec.ofChange nodeValueSpec)

/-- ITS FALSE NEIGHBOUR: 'it returns false'. Refute it at one input. -/
def nodeValueWrong : ChangeSpec := { name := "nodeValue", fn := fun _ => fun
  | [d1, d2, d3, d4, d5] => { results := [.lit (.bool false)], args := [d1, d2, d3, d4, d5] }
  | _ => none }
def NodeValueWrongFalsely : Prop := nodeValueRow.holds Tryz.pinned (OpenSpec.ofChange nodeValueWrong)

/- THE SECOND FORM. 'bulk': how many values and letters a reading holds, each counted each time it is reached (what is shared counts as often as it is met; a slice's spare places count too). A statement '..UptoSaid' is the law's where the arguments, and the package variables that the reading takes, are together of bulk at most 1048576: NARROWER than '..Said'. Prove '..Said' where nothing that the law and all that it calls make is longer than what came in: it says more and counts as full. Else prove '..UptoSaid'. A law counts once. -/
mutual
def uptoBulk {H : Type} : DataW H → Nat
  | .lit (.string bytes) => bytes.length + 1
  | .lit _ => 1
  | .nil => 1
  | .ptr d => uptoBulk d + 1
  | .slice elems spare => uptoBulkAll elems + uptoBulkAll spare + 1
  | .agg parts => uptoBulkAll parts + 1
  | .iface _ d => uptoBulk d + 1
  | .map entries => uptoBulkEntries entries + 1
  | .held _ => 1
def uptoBulkAll {H : Type} : List (DataW H) → Nat
  | [] => 0
  | d :: r => uptoBulk d + uptoBulkAll r
def uptoBulkEntries {H : Type} : List (Lit × DataW H) → Nat
  | [] => 0
  | x :: r => uptoBulkEntry x + uptoBulkEntries r
def uptoBulkEntry {H : Type} : Lit × DataW H → Nat
  | (.string bytes, d) => bytes.length + uptoBulk d + 1
  | (_, d) => uptoBulk d + 1
 end
def uptoSmall : (H : Type) → List (DataW H) → Bool := fun _ ds => decide (uptoBulkAll ds ≤ 1048576)
def OpenSpec.upto (s : _root_.Go.ChangeSpec) : _root_.Go.OpenSpec := { _root_.Go.OpenSpec.ofChange s with cond := some uptoSmall }

/-- 'cofferslaw18.NodeCalls', WHERE WHAT IT READS IS OF BULK AT MOST 1048576: true; the input reads as it did. -/
def nodeCallsUptoRow : OpenClaim := { program := "ytecjnkokdnmhlaagreat", sum := "52cea53a914ed5411ab78a86a4c03480f8ca173f9c323b75aa6be6d864d66819", func := "coffers/cofferslaw18.NodeCalls", spec := "nodeCalls", inPlace := ["math.archFloor", "math.Float64bits", "math.Float64frombits", "math.archTrunc"], unfollowed := true, recurses := true, apart := false, narrowed := true }
def NodeCallsUptoSaid : Prop := nodeCallsUptoRow.holds Tryz.pinned (OpenSpec.upto nodeCallsSpec)

/-- 'cofferslaw18.NodeHears', WHERE WHAT IT READS IS OF BULK AT MOST 1048576: true; the input reads as it did. -/
def nodeHearsUptoRow : OpenClaim := { program := "ytecjnkokdnmhlaagreat", sum := "52cea53a914ed5411ab78a86a4c03480f8ca173f9c323b75aa6be6d864d66819", func := "coffers/cofferslaw18.NodeHears", spec := "nodeHears", inPlace := ["math.archFloor", "math.Float64bits", "math.Float64frombits", "math.archTrunc"], unfollowed := true, recurses := true, apart := false, narrowed := true }
def NodeHearsUptoSaid : Prop := nodeHearsUptoRow.holds Tryz.pinned (OpenSpec.upto nodeHearsSpec)

/-- 'cofferslaw18.NodeStays', WHERE WHAT IT READS IS OF BULK AT MOST 1048576: true; the input reads as it did. -/
def nodeStaysUptoRow : OpenClaim := { program := "ytecjnkokdnmhlaagreat", sum := "52cea53a914ed5411ab78a86a4c03480f8ca173f9c323b75aa6be6d864d66819", func := "coffers/cofferslaw18.NodeStays", spec := "nodeStays", inPlace := ["math.archFloor", "math.Float64bits", "math.Float64frombits", "math.archTrunc"], unfollowed := true, recurses := true, apart := false, narrowed := true }
def NodeStaysUptoSaid : Prop := nodeStaysUptoRow.holds Tryz.pinned (OpenSpec.upto nodeStaysSpec)

/-- 'cofferslaw18.NodeAtOnce', WHERE WHAT IT READS IS OF BULK AT MOST 1048576: true; the input reads as it did. -/
def nodeAtOnceUptoRow : OpenClaim := { program := "ytecjnkokdnmhlaagreat", sum := "52cea53a914ed5411ab78a86a4c03480f8ca173f9c323b75aa6be6d864d66819", func := "coffers/cofferslaw18.NodeAtOnce", spec := "nodeAtOnce", inPlace := ["math.archFloor", "math.Float64bits", "math.Float64frombits", "math.archTrunc"], unfollowed := true, recurses := true, apart := false, narrowed := true }
def NodeAtOnceUptoSaid : Prop := nodeAtOnceUptoRow.holds Tryz.pinned (OpenSpec.upto nodeAtOnceSpec)

/-- 'cofferslaw18.NodeYields', WHERE WHAT IT READS IS OF BULK AT MOST 1048576: true; the input reads as it did. -/
def nodeYieldsUptoRow : OpenClaim := { program := "ytecjnkokdnmhlaagreat", sum := "52cea53a914ed5411ab78a86a4c03480f8ca173f9c323b75aa6be6d864d66819", func := "coffers/cofferslaw18.NodeYields", spec := "nodeYields", inPlace := ["math.archFloor", "math.Float64bits", "math.Float64frombits", "math.archTrunc"], unfollowed := true, recurses := true, apart := false, narrowed := true }
def NodeYieldsUptoSaid : Prop := nodeYieldsUptoRow.holds Tryz.pinned (OpenSpec.upto nodeYieldsSpec)

/-- 'cofferslaw18.NodeValue', WHERE WHAT IT READS IS OF BULK AT MOST 1048576: true; the input reads as it did. -/
def nodeValueUptoRow : OpenClaim := { program := "ytecjnkokdnmhlaagreat", sum := "52cea53a914ed5411ab78a86a4c03480f8ca173f9c323b75aa6be6d864d66819", func := "coffers/cofferslaw18.NodeValue", spec := "nodeValue", inPlace := ["math.archFloor", "math.Float64bits", "math.Float64frombits", "math.archTrunc"], unfollowed := true, recurses := true, apart := false, narrowed := true }
def NodeValueUptoSaid : Prop := nodeValueUptoRow.holds Tryz.pinned (OpenSpec.upto nodeValueSpec)

end Rows
end Go.Proofs.YtecjnkokdnmhlaaGreat
