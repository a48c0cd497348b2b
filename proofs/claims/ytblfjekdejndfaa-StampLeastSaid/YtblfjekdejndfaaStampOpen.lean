/- A stamp, and a slice of stamps, that came in. -/
import Derived.Test.YtblfjekdejndfaaStampRows
import Derived.Lib.SmallJoins
namespace Go.Proofs.Ytblfjekdejndfaa
open Go.ChangeShapes Go.WideShapes Go.ChangeAt Go.RowKit Go.Joins Go.Deep

theorem cells_stamp : Try.prog.cellsOf 23 = 2 := by kernel_rfl

theorem open_stamp {H : Type} {enc : TypeId × Value → H} {W : World} {base : Nat} {v : Value} {d : DataW H} {p : List MemPlace} (hv : Value.okWide Try.prog W .any base 23 v)
    (h : DataW.Trod enc Try.prog W 0 (fun _ => true) true 23 v d p) : ∃ t a, v = stampV t a := by
  obtain ⟨v0, v1, y0, y1, n, rfl, _, _, h0, h1⟩ := open_agg2 Try.underlying23 (by kernel_rfl) cells_stamp hv h
  obtain ⟨t, e0, _⟩ := DataW.trod_int Try.underlying2 h0
  obtain ⟨a, e1, _⟩ := DataW.trod_int Try.underlying3 h1
  simp only [List.cons.injEq, and_true] at e0 e1
  exact ⟨t, a, by rw [e0, e1]⟩

/-- the number of a cell -/
def cellInt : Value → Int
  | .int _ x => x
  | _ => 0

theorem open_stamps {H : Type} {enc : TypeId × Value → H} {W : World} {base : Nat} {v : Value} {d : DataW H} {p : List MemPlace} (hv : Value.okWide Try.prog W .any base 34 v)
    (h : DataW.Trod enc Try.prog W 0 (fun _ => true) true 34 v d p) : ∃ a n c l, v = .slice a n c ∧ n = l.length ∧ Stamps W (.slice a n c) l := by
  obtain ⟨a, n, c, f, rfl, _, _, hE, hf⟩ := open_elems Try.underlying34 cells_stamp (by decide) hv h
  refine ⟨a, n, c, (List.range n).map (fun i => (cellInt (f i 0), cellInt (f i 1))), rfl, by simp, ?_⟩
  unfold Stamps
  rw [List.length_map, List.length_range]
  refine hE.congr fun i j hi hj => ?_
  obtain ⟨fu, x, hx⟩ := hf i hi
  obtain ⟨xs, m, _, _, _, hlen, hat⟩ := DataW.trod_struct Try.underlying23 hx
  have e : ((List.range n).map (fun i => (cellInt (f i 0), cellInt (f i 1)))).getD i (0, 0) = (cellInt (f i 0), cellInt (f i 1)) := by
    simp [List.getD_eq_getElem?_getD, hi]
  rw [e]
  have hr : (List.range 2).map (f i) = [f i 0, f i 1] := rfl
  match j, hj with
  | 0, _ =>
    have h0 := hat 0 _ rfl
    rw [hr] at h0
    have hl0 : 0 < xs.length := by rw [hlen]; decide
    rw [List.getElem?_eq_getElem hl0] at h0
    obtain ⟨t, e0, _⟩ := DataW.trod_int Try.underlying2 h0
    have e1 : [f i 0] = [Value.int .i64 t] := e0
    simp only [List.cons.injEq, and_true] at e1
    rw [e1]; rfl
  | 1, _ =>
    have h0 := hat 1 _ rfl
    rw [hr] at h0
    have hl0 : 1 < xs.length := by rw [hlen]; decide
    rw [List.getElem?_eq_getElem hl0] at h0
    obtain ⟨t, e0, _⟩ := DataW.trod_int Try.underlying3 h0
    have e1 : [f i 1] = [Value.int .i64 t] := e0
    simp only [List.cons.injEq, and_true] at e1
    rw [e1]; rfl
end Go.Proofs.Ytblfjekdejndfaa
