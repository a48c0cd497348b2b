/- Looks, a message, that came in. No law is proved here. -/
import Derived.Test.YtbpmonbehibgdaaClaimWords
import Derived.Test.YtbpmonbehibgdaaMg13
import Derived.Test.YtbpmonbehibgdaaElems
import Derived.Lib.SmallJoins
namespace Go.Proofs.Ytbpmonbehibgdaa
open Go.ChangeShapes Go.WideShapes Go.ChangeAt Go.RowKit Go.Joins Go.Deep

theorem cells_look : Try.prog.cellsOf 31 = 2 := by kernel_rfl
theorem cells_mail : Try.prog.cellsOf 34 = 11 := by kernel_rfl
section
variable {H : Type} {enc : TypeId × Value → H} {W : World} {fuel : Nat} {x : DataW H × List MemPlace}
theorem one_int64 {v : Value} (h : DataW.trod enc Try.prog W 0 (fun _ => true) true fuel 2 [v] = some x) : ∃ t, v = .int .i64 t := by
  obtain ⟨t, e, _⟩ := DataW.trod_int Try.underlying2 h
  simp only [List.cons.injEq, and_true] at e
  exact ⟨t, e⟩
theorem one_int {v : Value} (h : DataW.trod enc Try.prog W 0 (fun _ => true) true fuel 3 [v] = some x) : ∃ t, v = .int .i64 t := by
  obtain ⟨t, e, _⟩ := DataW.trod_int Try.underlying3 h
  simp only [List.cons.injEq, and_true] at e
  exact ⟨t, e⟩
theorem two_stamp {a b : Value} (h : DataW.trod enc Try.prog W 0 (fun _ => true) true fuel 27 [a, b] = some x) : ∃ t u, a = .int .i64 t ∧ b = .int .i64 u := by
  obtain ⟨y0, y1, n, _, _, h0, h1⟩ := trod_struct2 Try.underlying27 h
  obtain ⟨t, e0⟩ := one_int64 (v := a) h0
  obtain ⟨u, e1⟩ := one_int (v := b) h1
  exact ⟨t, u, e0, e1⟩
theorem two_look {a b : Value} (h : DataW.trod enc Try.prog W 0 (fun _ => true) true fuel 31 [a, b] = some x) : ∃ t u, a = .int .i64 t ∧ b = .int .i64 u := by
  obtain ⟨y0, y1, n, _, _, h0, h1⟩ := trod_struct2 Try.underlying31 h
  obtain ⟨t, e0⟩ := one_int64 (v := a) h0
  obtain ⟨u, e1⟩ := one_int (v := b) h1
  exact ⟨t, u, e0, e1⟩
theorem three_request {a b c : Value} (h : DataW.trod enc Try.prog W 0 (fun _ => true) true fuel 29 [a, b, c] = some x) : ∃ t u v, a = .int .i64 t ∧ b = .int .i64 u ∧ c = .int .i64 v := by
  obtain ⟨y0, y1, n, _, _, h0, h1⟩ := trod_struct2 Try.underlying29 h
  obtain ⟨t, u, e0, e1⟩ := two_stamp (a := a) (b := b) h0
  obtain ⟨v, e2⟩ := one_int64 (v := c) h1
  exact ⟨t, u, v, e0, e1, e2⟩
end
/-- the number of a cell -/
def cellInt' : Value → Int
  | .int _ x => x
  | _ => 0
theorem open_looks_in {H : Type} {enc : TypeId × Value → H} {W : World} {v : Value} {d : DataW H} {p : List MemPlace} (hv : ∃ a len cap, v = .slice a len cap)
    (h : DataW.Trod enc Try.prog W 0 (fun _ => true) true 32 v d p) : ∃ a n c l, v = .slice a n c ∧ n = l.length ∧ Looks W (.slice a n c) l := by
  obtain ⟨a, n, c, f, rfl, hnc, _, hE, hf⟩ := open_elems_in Try.underlying32 cells_look (by decide) hv h
  refine ⟨a, n, c, (List.range n).map (fun i => (cellInt' (f i 0), cellInt' (f i 1))), rfl, by simp, ?_⟩
  unfold Looks
  rw [List.length_map, List.length_range]
  refine hE.congr fun i j hi hj => ?_
  obtain ⟨fu, x, hx⟩ := hf i hi
  have hr : (List.range 2).map (f i) = [f i 0, f i 1] := rfl
  rw [hr] at hx
  obtain ⟨t, u, e0, e1⟩ := two_look hx
  have e : lkAt ((List.range n).map (fun i => (cellInt' (f i 0), cellInt' (f i 1)))) i = (t, u) := by
    unfold lkAt
    rw [List.getElem?_map, List.getElem?_range hi]
    simp only [Option.map_some, Option.getD_some, e0, e1]
    rfl
  rw [e]
  match j, hj with
  | 0, _ => exact e0
  | 1, _ => exact e1
/-- a message that came in; its rows are no more than memory can hold -/
theorem open_mail {H : Type} {enc : TypeId × Value → H} {W : World} {base : Nat} {v : Value} {d : DataW H} {p : List MemPlace} (hv : Value.okWide Try.prog W .any base 34 v)
    (h : DataW.Trod enc Try.prog W 0 (fun _ => true) true 34 v d p) (hw : Held 34 d) :
    ∃ (x : Ml) (a1 : Option Addr) (m1 c1 : Nat) (a2 : Option Addr) (m2 c2 : Nat), v = mlV x (.slice a1 m1 c1) (.slice a2 m2 c2) ∧ MailIn W a1 m1 c1 a2 m2 c2 x ∧ Reach x.rows := by
  obtain ⟨cs, rfl, hsz⟩ := okWide_struct Try.underlying34 hv
  obtain ⟨fuel, hf⟩ := h
  obtain ⟨xs, m, _, hxe, _, hlen, hat⟩ := DataW.trod_struct Try.underlying34 hf
  rw [cells_mail] at hsz
  obtain ⟨l⟩ := cs
  match l, hsz with
  | [v0, v1, v2, v3, v4, v5, v6, v7, v8, v9, v10], _ =>
    have hl8 : xs.length = 8 := hlen
    have E : ∀ j, (hj : j < 8) → xs[j]? = some (xs[j]'(by omega)) := fun j hj => List.getElem?_eq_getElem (by omega)
    have h0 := hat 0 _ rfl
    have h1 := hat 1 _ rfl
    have h2 := hat 2 _ rfl
    have h3 := hat 3 _ rfl
    have h4 := hat 4 _ rfl
    have h5 := hat 5 _ rfl
    have h6 := hat 6 _ rfl
    have h7 := hat 7 _ rfl
    rw [E 0 (by decide)] at h0
    rw [E 1 (by decide)] at h1
    rw [E 2 (by decide)] at h2
    rw [E 3 (by decide)] at h3
    rw [E 4 (by decide)] at h4
    rw [E 5 (by decide)] at h5
    rw [E 6 (by decide)] at h6
    rw [E 7 (by decide)] at h7
    obtain ⟨fr, rfl⟩ := one_int (v := v0) h0
    obtain ⟨tg, rfl⟩ := one_int (v := v1) h1
    obtain ⟨clk, rfl⟩ := one_int64 (v := v2) h2
    obtain ⟨b1, n1, k1, rfl⟩ := slice_of_trod (v := v3) Try.underlying25 h3
    obtain ⟨t, a, mm, rfl, rfl, rfl⟩ := three_request (a := v4) (b := v5) (c := v6) h4
    obtain ⟨asks, rfl⟩ := one_int (v := v7) h5
    obtain ⟨tr, ph, rfl, rfl⟩ := two_look (a := v8) (b := v9) h6
    obtain ⟨b2, n2, k2, rfl⟩ := slice_of_trod (v := v10) Try.underlying32 h7
    have hy : d = _ := congrArg Prod.fst hxe
    obtain ⟨a1, m1, c1, rows, e1, hm1, hB1, hR⟩ := open_books_in ⟨b1, n1, k1, rfl⟩ ⟨_, h3⟩ fun q hq => hw q (by
      rw [hy]
      simp only [DataW.weights, Try.underlying34]
      exact DataW.weights_mem_each (j := 3) rfl (by rw [List.getElem?_map, E 3 (by decide)]; rfl) q hq)
    obtain ⟨a2, m2, c2, echo, e2, hm2, hB2⟩ := open_looks_in ⟨b2, n2, k2, rfl⟩ ⟨_, h7⟩
    rw [e1, e2]
    exact ⟨⟨fr, tg, clk, rows, t, a, mm, asks, tr, ph, echo⟩, a1, m1, c1, a2, m2, c2, rfl, ⟨hm1, hB1, hm2, hB2⟩, hR⟩
end Go.Proofs.Ytbpmonbehibgdaa
