/- Words of layer 15: an audit, how it begins, is told, goes on, ends. No function in it; no law is proved here. -/
import Derived.Test.YtgonboccklpoaaaClaimWords
namespace Go.Proofs.Ytgonboccklpoaaa
open Go.RowKit

/-- an audit: which try, which phase, who told, what each had used, and put in, and whether something moved -/
structure Au where
  try_ : Int
  ph : Int
  told : List Bool
  use : List Int
  inc : List Int
  moved : Bool
deriving DecidableEq
abbrev auV (x : Au) (tv uv iv : Value) : Value := .agg #[.int .i64 x.try_, .int .i64 x.ph, tv, uv, iv, .bool x.moved]
abbrev auCells (x : Au) (tv uv iv : Value) : Array Value := #[.int .i64 x.try_, .int .i64 x.ph, tv, uv, iv, .bool x.moved]
/-- a slice of bools -/
def Bools (w : World) (v : Value) (l : List Bool) : Prop := Elems w v 1 l.length (fun i _ => .bool (l[i]?.getD false))
theorem Bools.later {w w' : World} {v : Value} {l : List Bool} (h : Bools w v l) (hb : Below w.heap.size w w') : Bools w' v l := Elems.later h hb
theorem Bools.at {w : World} {a : Option Addr} {m c : Nat} {l : List Bool} (h : Bools w (.slice a m c) l) {i : Nat} (hi : i < l.length) :
    ∃ b off, a = some ⟨b, off, none⟩ ∧ w.cell? ⟨b, off + i, none⟩ = some (.bool (l[i]?.getD false)) := by
  obtain ⟨b, off, e, hc⟩ := Elems.at h hi
  have := hc 0 (by omega)
  rw [Nat.mul_one, Nat.add_zero] at this
  exact ⟨b, off, e, this⟩
/-- where an audit's lists lie -/
structure Al where
  a1 : Option Addr
  m1 : Nat
  c1 : Nat
  a2 : Option Addr
  m2 : Nat
  c2 : Nat
  a3 : Option Addr
  m3 : Nat
  c3 : Nat
/-- an audit whose lists lie there -/
abbrev auAt (x : Au) (p : Al) : Value := auV x (.slice p.a1 p.m1 p.c1) (.slice p.a2 p.m2 p.c2) (.slice p.a3 p.m3 p.c3)
def AuIn (w : World) (p : Al) (x : Au) : Prop :=
  (p.m1 = x.told.length ∧ Bools w (.slice p.a1 p.m1 p.c1) x.told) ∧ (p.m2 = x.use.length ∧ Nums w (.slice p.a2 p.m2 p.c2) x.use) ∧ (p.m3 = x.inc.length ∧ Nums w (.slice p.a3 p.m3 p.c3) x.inc)
theorem AuIn.later {w w' : World} {p : Al} {x : Au} (h : AuIn w p x) (hb : Below w.heap.size w w') : AuIn w' p x := ⟨⟨h.1.1, h.1.2.later hb⟩, ⟨h.2.1.1, h.2.1.2.later hb⟩, h.2.2.1, h.2.2.2.later hb⟩
abbrev au0 : Au := ⟨0, 0, [], [], [], false⟩
def noneA (x : Au) : Bool := decide (x = au0)
/-- it runs -/
def runsOk (c : Cf) (who : Int) (x : Au) : Prop :=
  (0 < x.try_ ∧ x.try_ ≤ 1125899906842624) ∧ (x.ph = 1 ∨ x.ph = 2) ∧ (x.told.length : Int) = c.n ∧ (x.use.length : Int) = c.n ∧ (x.inc.length : Int) = c.n ∧ x.told[who.toNat]?.getD false = false ∧
  ∀ i, i < x.told.length → (0 ≤ x.use[i]?.getD 0 ∧ x.use[i]?.getD 0 ≤ 1099511627776) ∧ (0 ≤ x.inc[i]?.getD 0 ∧ x.inc[i]?.getD 0 ≤ 1099511627776)
instance (c : Cf) (who : Int) (x : Au) : Decidable (runsOk c who x) := by unfold runsOk; exact inferInstance
/-- may it be an audit of who? -/
def auOk (c : Cf) (who : Int) (x : Au) : Prop := cfOk c ∧ (0 ≤ who ∧ who < c.n) ∧ (x = au0 ∨ runsOk c who x)
instance (c : Cf) (who : Int) (x : Au) : Decidable (auOk c who x) := by unfold auOk; exact inferInstance
def auB (c : Cf) (who : Int) (x : Au) : Bool := decide (auOk c who x)
theorem auB_no {c : Cf} {who : Int} {x : Au} (h : ¬ auOk c who x) : auB c who x = false := decide_eq_false h
/-- an audit begins, and the code -/
def beginA (c : Cf) (who tr : Int) : Au × Int :=
  if cfOk c ∧ (0 ≤ who ∧ who < c.n) ∧ (1 ≤ tr ∧ tr ≤ 1125899906842624) then (⟨tr, 1, List.replicate c.n.toNat false, List.replicate c.n.toNat 0, List.replicate c.n.toNat 0, false⟩, 0) else (au0, 1)
/-- the row of one in a message -/
def rowOf (m : Ml) : Rw := at_ m.rows m.fr.toNat
/-- does the message tell the audit anything? -/
def hearsA (who : Int) (x : Au) (m : Ml) : Bool :=
  !noneA x && (decide ((lkAt m.echo who.toNat).1 = x.try_ ∧ (lkAt m.echo who.toNat).2 = x.ph) && !(x.told[m.fr.toNat]?.getD false))
/-- it is told by a message that tells it something -/
def toldA (x : Au) (m : Ml) : Au :=
  if x.ph = 1 then ⟨x.try_, x.ph, x.told.set m.fr.toNat true, x.use.set m.fr.toNat (rowOf m).use, x.inc, x.moved⟩
  else ⟨x.try_, x.ph, x.told.set m.fr.toNat true, x.use, x.inc.set m.fr.toNat (rowOf m).inc, x.moved || decide ((rowOf m).use ≠ x.use[m.fr.toNat]?.getD 0)⟩
/-- an audit told by a message, and the code -/
def tellA (c : Cf) (who : Int) (x : Au) (m : Ml) : Au × Int :=
  if auOk c who x ∧ mailOk c m ∧ m.to = who then (if hearsA who x m then toldA x m else x, 0) else (au0, 1)
/-- all but who told -/
def allA (who : Int) (x : Au) : Prop := 0 < x.told.length ∧ ∀ i, i < x.told.length → x.told[i]?.getD false = true ∨ (i : Int) = who
instance (who : Int) (x : Au) : Decidable (allA who x) := by unfold allA; exact inferInstance
/-- the next phase, and whether it goes on -/
def nextA (c : Cf) (who : Int) (x : Au) (l : List Rw) : Au × Bool :=
  if auOk c who x ∧ rightOk c l then (if x.ph = 1 ∧ allA who x then (⟨x.try_, 2, List.replicate x.told.length false, x.use.set who.toNat (at_ l who.toNat).use, x.inc, x.moved⟩, true) else (x, false)) else (au0, false)
/-- all that the others put in, less what they used, of the first k -/
def otherA (who : Int) (x : Au) : Nat → Int
  | 0 => 0
  | k + 1 => otherA who x k + if (k : Int) = who then 0 else x.inc[k]?.getD 0 - x.use[k]?.getD 0
/-- what there is at most, whether that is sure, and whether it ends -/
def endsA (c : Cf) (who : Int) (x : Au) (l : List Rw) : Int × Bool × Bool :=
  if auOk c who x ∧ rightOk c l ∧ x.ph = 2 ∧ allA who x then
    (if x.moved = true ∨ (at_ l who.toNat).use ≠ x.use[who.toNat]?.getD 0 then (0, false, true) else (c.k + (at_ l who.toNat).inc - x.use[who.toNat]?.getD 0 + otherA who x x.told.length, true, true))
  else (0, false, false)
/-- an audit that a call answers, and a code -/
def GaveA (w : World) (x : Au × Int) (e : Ending) (w' : World) : Prop := ∃ p : Al, e = .returned (.tuple #[auAt x.1 p, .int .i64 x.2]) ∧ AuIn w' p x.1 ∧ Below w.heap.size w w'
/-- an audit that a call answers, and whether it goes on -/
def GoesA (w : World) (x : Au × Bool) (e : Ending) (w' : World) : Prop := ∃ p : Al, e = .returned (.tuple #[auAt x.1 p, .bool x.2]) ∧ AuIn w' p x.1 ∧ Below w.heap.size w w'
/-- what an audit ends with -/
def EndsA (w : World) (x : Int × Bool × Bool) (e : Ending) (w' : World) : Prop := e = .returned (.tuple #[.int .i64 x.1, .bool x.2.1, .bool x.2.2]) ∧ Below w.heap.size w w'
end Go.Proofs.Ytgonboccklpoaaa
