/- A request, and a slice of requests, that came in. No law is proved here. -/
import Derived.Test.YtefekkfocogghaaLineWords
import Derived.Test.YtefekkfocogghaaElems
import Derived.ChangeSame
namespace Go.Proofs.Ytefekkfocogghaa
open Go.ChangeShapes Go.WideShapes Go.ChangeAt Go.RowKit Go.Deep

theorem cells_request : Try.prog.cellsOf 28 = 3 := by kernel_rfl
/-- three cells that are a request -/
theorem trod_request {H : Type} {enc : TypeId × Value → H} {W : World} {fuel : Nat} {a b c : Value} {x : DataW H × List MemPlace}
    (h : DataW.trod enc Try.prog W 0 (fun _ => true) true fuel 28 [a, b, c] = some x) : ∃ q : Rq, a = .int .i64 q.t ∧ b = .int .i64 q.a ∧ c = .int .i64 q.m := by
  obtain ⟨y0, y1, n, _, _, h0, h1⟩ := trod_struct2 Try.underlying28 h
  obtain ⟨z0, z1, n2, _, _, k0, k1⟩ := trod_struct2 Try.underlying26 h0
  obtain ⟨t, e0, _⟩ := DataW.trod_int Try.underlying2 k0
  obtain ⟨u, e1, _⟩ := DataW.trod_int Try.underlying3 k1
  obtain ⟨v, e2, _⟩ := DataW.trod_int Try.underlying2 h1
  have e0' : [a] = [Value.int .i64 t] := e0
  have e1' : [b] = [Value.int .i64 u] := e1
  have e2' : [c] = [Value.int .i64 v] := e2
  simp only [List.cons.injEq, and_true] at e0' e1' e2'
  exact ⟨⟨t, u, v⟩, e0', e1', e2'⟩
theorem open_request {H : Type} {enc : TypeId × Value → H} {W : World} {base : Nat} {v : Value} {d : DataW H} {p : List MemPlace} (hv : Value.okWide Try.prog W .any base 28 v)
    (h : DataW.Trod enc Try.prog W 0 (fun _ => true) true 28 v d p) : ∃ q : Rq, v = rqV q := by
  obtain ⟨cs, rfl, hsz⟩ := okWide_struct Try.underlying28 hv
  obtain ⟨fuel, hf⟩ := h
  rw [cells_request] at hsz
  obtain ⟨l⟩ := cs
  match l, hsz with
  | [a, b, c], _ =>
    obtain ⟨q, rfl, rfl, rfl⟩ := trod_request hf
    exact ⟨q, rfl⟩
/-- the number of a cell -/
def cellInt : Value → Int
  | .int _ x => x
  | _ => 0
theorem open_requests {H : Type} {enc : TypeId × Value → H} {W : World} {base : Nat} {v : Value} {d : DataW H} {p : List MemPlace} (hv : Value.okWide Try.prog W .any base 24 v)
    (h : DataW.Trod enc Try.prog W 0 (fun _ => true) true 24 v d p) : ∃ a n c l, v = .slice a n c ∧ n = l.length ∧ n ≤ c ∧ Line W (.slice a n c) l := by
  obtain ⟨a, n, c, f, rfl, hnc, _, hE, hf⟩ := open_elems Try.underlying24 cells_request (by decide) hv h
  refine ⟨a, n, c, (List.range n).map (fun i => ⟨cellInt (f i 0), cellInt (f i 1), cellInt (f i 2)⟩), rfl, by simp, hnc, ?_⟩
  unfold Line
  rw [List.length_map, List.length_range]
  refine hE.congr fun i j hi hj => ?_
  obtain ⟨fu, x, hx⟩ := hf i hi
  have hr : (List.range 3).map (f i) = [f i 0, f i 1, f i 2] := rfl
  rw [hr] at hx
  obtain ⟨q, e0, e1, e2⟩ := trod_request hx
  have e : rqAt ((List.range n).map (fun i => (⟨cellInt (f i 0), cellInt (f i 1), cellInt (f i 2)⟩ : Rq))) i = q := by
    unfold rqAt
    rw [List.getElem?_map, List.getElem?_range hi]
    simp only [Option.map_some, Option.getD_some, e0, e1, e2]
    rfl
  rw [e]
  match j, hj with
  | 0, _ => exact e0
  | 1, _ => exact e1
  | 2, _ => exact e2
end Go.Proofs.Ytefekkfocogghaa
