/- Merged texts: MailOpen, Mails, MailsOpen. No law is proved here. -/
import Derived.Test.YtgonboccklpoaaaClaimWords
import Derived.Test.YtgonboccklpoaaaMg10
import Derived.Test.YtgonboccklpoaaaMg1
import Derived.Lib.SmallJoins
/- Looks, a message, that came in. No law is proved here. -/
namespace Go.Proofs.Ytgonboccklpoaaa
open Go.ChangeShapes Go.WideShapes Go.ChangeAt Go.RowKit Go.Joins Go.Deep

theorem cells_look : Try.prog.cellsOf 29 = 2 := by kernel_rfl
theorem cells_mail : Try.prog.cellsOf 40 = 11 := by kernel_rfl
section
variable {H : Type} {enc : TypeId × Value → H} {W : World} {fuel : Nat} {x : DataW H × List MemPlace}
theorem one_int64 {v : Value} (h : DataW.trod enc Try.prog W 0 (fun _ => true) true fuel 2 [v] = some x) : ∃ t, v = .int .i64 t := by
  obtain ⟨t, e, _⟩ := DataW.trod_int Try.underlying2 h
  simp only [List.cons.injEq, and_true] at e
  exact ⟨t, e⟩
theorem one_int {v : Value} (h : DataW.trod enc Try.prog W 0 (fun _ => true) true fuel 3 [v] = some x) : ∃ t, v = .int .i64 t := by
  obtain ⟨t, e, _⟩ := DataW.trod_int Try.underlying3 h
  simp only [List.cons.injEq, and_true] at e
  exact ⟨t, e⟩
theorem two_stamp {a b : Value} (h : DataW.trod enc Try.prog W 0 (fun _ => true) true fuel 35 [a, b] = some x) : ∃ t u, a = .int .i64 t ∧ b = .int .i64 u := by
  obtain ⟨y0, y1, n, _, _, h0, h1⟩ := trod_struct2 Try.underlying35 h
  obtain ⟨t, e0⟩ := one_int64 (v := a) h0
  obtain ⟨u, e1⟩ := one_int (v := b) h1
  exact ⟨t, u, e0, e1⟩
theorem two_look {a b : Value} (h : DataW.trod enc Try.prog W 0 (fun _ => true) true fuel 29 [a, b] = some x) : ∃ t u, a = .int .i64 t ∧ b = .int .i64 u := by
  obtain ⟨y0, y1, n, _, _, h0, h1⟩ := trod_struct2 Try.underlying29 h
  obtain ⟨t, e0⟩ := one_int64 (v := a) h0
  obtain ⟨u, e1⟩ := one_int (v := b) h1
  exact ⟨t, u, e0, e1⟩
theorem three_request {a b c : Value} (h : DataW.trod enc Try.prog W 0 (fun _ => true) true fuel 37 [a, b, c] = some x) : ∃ t u v, a = .int .i64 t ∧ b = .int .i64 u ∧ c = .int .i64 v := by
  obtain ⟨y0, y1, n, _, _, h0, h1⟩ := trod_struct2 Try.underlying37 h
  obtain ⟨t, u, e0, e1⟩ := two_stamp (a := a) (b := b) h0
  obtain ⟨v, e2⟩ := one_int64 (v := c) h1
  exact ⟨t, u, v, e0, e1, e2⟩
end
/-- the number of a cell -/
def cellInt' : Value → Int
  | .int _ x => x
  | _ => 0
theorem open_looks_in {H : Type} {enc : TypeId × Value → H} {W : World} {v : Value} {d : DataW H} {p : List MemPlace} (hv : ∃ a len cap, v = .slice a len cap)
    (h : DataW.Trod enc Try.prog W 0 (fun _ => true) true 38 v d p) : ∃ a n c l, v = .slice a n c ∧ n = l.length ∧ Looks W (.slice a n c) l := by
  obtain ⟨a, n, c, f, rfl, hnc, _, hE, hf⟩ := open_elems_in Try.underlying38 cells_look (by decide) hv h
  refine ⟨a, n, c, (List.range n).map (fun i => (cellInt' (f i 0), cellInt' (f i 1))), rfl, by simp, ?_⟩
  unfold Looks
  rw [List.length_map, List.length_range]
  refine hE.congr fun i j hi hj => ?_
  obtain ⟨fu, x, hx⟩ := hf i hi
  have hr : (List.range 2).map (f i) = [f i 0, f i 1] := rfl
  rw [hr] at hx
  obtain ⟨t, u, e0, e1⟩ := two_look hx
  have e : lkAt ((List.range n).map (fun i => (cellInt' (f i 0), cellInt' (f i 1)))) i = (t, u) := by
    unfold lkAt
    rw [List.getElem?_map, List.getElem?_range hi]
    simp only [Option.map_some, Option.getD_some, e0, e1]
    rfl
  rw [e]
  match j, hj with
  | 0, _ => exact e0
  | 1, _ => exact e1
/-- a message that came in; its rows are no more than memory can hold -/
theorem open_mail {H : Type} {enc : TypeId × Value → H} {W : World} {base : Nat} {v : Value} {d : DataW H} {p : List MemPlace} (hv : Value.okWide Try.prog W .any base 40 v)
    (h : DataW.Trod enc Try.prog W 0 (fun _ => true) true 40 v d p) (hw : Held 40 d) :
    ∃ (x : Ml) (a1 : Option Addr) (m1 c1 : Nat) (a2 : Option Addr) (m2 c2 : Nat), v = mlV x (.slice a1 m1 c1) (.slice a2 m2 c2) ∧ MailIn W a1 m1 c1 a2 m2 c2 x ∧ Reach x.rows := by
  obtain ⟨cs, rfl, hsz⟩ := okWide_struct Try.underlying40 hv
  obtain ⟨fuel, hf⟩ := h
  obtain ⟨xs, m, _, hxe, _, hlen, hat⟩ := DataW.trod_struct Try.underlying40 hf
  rw [cells_mail] at hsz
  obtain ⟨l⟩ := cs
  match l, hsz with
  | [v0, v1, v2, v3, v4, v5, v6, v7, v8, v9, v10], _ =>
    have hl8 : xs.length = 8 := hlen
    have E : ∀ j, (hj : j < 8) → xs[j]? = some (xs[j]'(by omega)) := fun j hj => List.getElem?_eq_getElem (by omega)
    have h0 := hat 0 _ rfl
    have h1 := hat 1 _ rfl
    have h2 := hat 2 _ rfl
    have h3 := hat 3 _ rfl
    have h4 := hat 4 _ rfl
    have h5 := hat 5 _ rfl
    have h6 := hat 6 _ rfl
    have h7 := hat 7 _ rfl
    rw [E 0 (by decide)] at h0
    rw [E 1 (by decide)] at h1
    rw [E 2 (by decide)] at h2
    rw [E 3 (by decide)] at h3
    rw [E 4 (by decide)] at h4
    rw [E 5 (by decide)] at h5
    rw [E 6 (by decide)] at h6
    rw [E 7 (by decide)] at h7
    obtain ⟨fr, rfl⟩ := one_int (v := v0) h0
    obtain ⟨tg, rfl⟩ := one_int (v := v1) h1
    obtain ⟨clk, rfl⟩ := one_int64 (v := v2) h2
    obtain ⟨b1, n1, k1, rfl⟩ := slice_of_trod (v := v3) Try.underlying24 h3
    obtain ⟨t, a, mm, rfl, rfl, rfl⟩ := three_request (a := v4) (b := v5) (c := v6) h4
    obtain ⟨asks, rfl⟩ := one_int (v := v7) h5
    obtain ⟨tr, ph, rfl, rfl⟩ := two_look (a := v8) (b := v9) h6
    obtain ⟨b2, n2, k2, rfl⟩ := slice_of_trod (v := v10) Try.underlying38 h7
    have hy : d = _ := congrArg Prod.fst hxe
    obtain ⟨a1, m1, c1, rows, e1, hm1, hB1, hR⟩ := open_books_in ⟨b1, n1, k1, rfl⟩ ⟨_, h3⟩ fun q hq => hw q (by
      rw [hy]
      simp only [DataW.weights, Try.underlying40]
      exact DataW.weights_mem_each (j := 3) rfl (by rw [List.getElem?_map, E 3 (by decide)]; rfl) q hq)
    obtain ⟨a2, m2, c2, echo, e2, hm2, hB2⟩ := open_looks_in ⟨b2, n2, k2, rfl⟩ ⟨_, h7⟩
    rw [e1, e2]
    exact ⟨⟨fr, tg, clk, rows, t, a, mm, asks, tr, ph, echo⟩, a1, m1, c1, a2, m2, c2, rfl, ⟨hm1, hB1, hm2, hB2⟩, hR⟩
end Go.Proofs.Ytgonboccklpoaaa

/- A slice of messages that came in. No function of the program in it. No law is proved here. -/
namespace Go.Proofs.Ytgonboccklpoaaa
open Go.RowKit

/-- a message, and where its lists lie -/
structure Mx where
  x : Ml
  a1 : Option Addr
  m1 : Nat
  c1 : Nat
  a2 : Option Addr
  m2 : Nat
  c2 : Nat
abbrev mx0 : Mx := ⟨⟨0, 0, 0, [], 0, 0, 0, 0, 0, 0, []⟩, none, 0, 0, none, 0, 0⟩
def mxAt (l : List Mx) (i : Nat) : Mx := l[i]?.getD mx0
def mxc (q : Mx) (j : Nat) : Value := (mlCells q.x (.slice q.a1 q.m1 q.c1) (.slice q.a2 q.m2 q.c2))[j]?.getD (.int .i64 0)
/-- a slice of messages; nil and empty in one -/
def Mails (w : World) (v : Value) (l : List Mx) : Prop := Elems w v 11 l.length (fun i j => mxc (mxAt l i) j) ∧ ∀ i, i < l.length → MailIn w (mxAt l i).a1 (mxAt l i).m1 (mxAt l i).c1 (mxAt l i).a2 (mxAt l i).m2 (mxAt l i).c2 (mxAt l i).x
theorem Mails.later {w w' : World} {v : Value} {l : List Mx} (h : Mails w v l) (hb : Below w.heap.size w w') : Mails w' v l := ⟨Elems.later h.1 hb, fun i hi => (h.2 i hi).later hb⟩
/-- none of their rows is more than memory can hold -/
def ReachM (l : List Mx) : Prop := ∀ i, i < l.length → Reach (mxAt l i).x.rows
/-- a message, where it lies -/
def MlAt (w : World) (b o : Nat) (q : Mx) : Prop :=
  (w.cell? ⟨b, o, none⟩ = some (.int .i64 q.x.fr) ∧ w.cell? ⟨b, o + 1, none⟩ = some (.int .i64 q.x.to) ∧ w.cell? ⟨b, o + 2, none⟩ = some (.int .i64 q.x.clk) ∧ w.cell? ⟨b, o + 3, none⟩ = some (.slice q.a1 q.m1 q.c1)) ∧
  (w.cell? ⟨b, o + 4, none⟩ = some (.int .i64 q.x.t) ∧ w.cell? ⟨b, o + 5, none⟩ = some (.int .i64 q.x.a) ∧ w.cell? ⟨b, o + 6, none⟩ = some (.int .i64 q.x.m) ∧ w.cell? ⟨b, o + 7, none⟩ = some (.int .i64 q.x.asks)) ∧
  w.cell? ⟨b, o + 8, none⟩ = some (.int .i64 q.x.try_) ∧ w.cell? ⟨b, o + 9, none⟩ = some (.int .i64 q.x.ph) ∧ w.cell? ⟨b, o + 10, none⟩ = some (.slice q.a2 q.m2 q.c2)
theorem MlAt.later {w w' : World} {b o : Nat} {q : Mx} (h : MlAt w b o q) (hb : Below w.heap.size w w') : MlAt w' b o q := by
  obtain ⟨⟨h0, h1, h2, h3⟩, ⟨h4, h5, h6, h7⟩, h8, h9, h10⟩ := h
  exact ⟨⟨cell_later hb h0, cell_later hb h1, cell_later hb h2, cell_later hb h3⟩, ⟨cell_later hb h4, cell_later hb h5, cell_later hb h6, cell_later hb h7⟩, cell_later hb h8, cell_later hb h9, cell_later hb h10⟩
theorem Mails.at {w : World} {a : Option Addr} {m c : Nat} {l : List Mx} (h : Mails w (.slice a m c) l) {i : Nat} (hi : i < l.length) : ∃ b off, a = some ⟨b, off, none⟩ ∧ MlAt w b (off + i * 11) (mxAt l i) := by
  obtain ⟨b, off, rfl, hc⟩ := Elems.at h.1 hi
  have g : ∀ j, j < 11 → w.cell? ⟨b, off + i * 11 + j, none⟩ = some (mxc (mxAt l i) j) := fun j hj => by rw [Nat.add_assoc]; exact hc j hj
  exact ⟨b, off, rfl, ⟨g 0 (by omega), g 1 (by omega), g 2 (by omega), g 3 (by omega)⟩, ⟨g 4 (by omega), g 5 (by omega), g 6 (by omega), g 7 (by omega)⟩, g 8 (by omega), g 9 (by omega), g 10 (by omega)⟩
theorem Mails.big {w : World} {v : Value} {l : List Mx} (h : Mails w v l) : l.length ≤ 9223372036854775807 := h.1.1
end Go.Proofs.Ytgonboccklpoaaa

/- Messages that came in, in a slice. No law is proved here. -/
namespace Go.Proofs.Ytgonboccklpoaaa
open Go.ChangeShapes Go.WideShapes Go.ChangeAt Go.RowKit Go.Joins Go.Deep

/-- the eleven cells of a message -/
theorem eleven_mail {H : Type} {enc : TypeId × Value → H} {W : World} {fuel : Nat} {y : DataW H × List MemPlace} {v0 v1 v2 v3 v4 v5 v6 v7 v8 v9 v10 : Value}
    (hf : DataW.trod enc Try.prog W 0 (fun _ => true) true fuel 40 [v0, v1, v2, v3, v4, v5, v6, v7, v8, v9, v10] = some y) (hw : Held 40 y.1) :
    ∃ q : Mx, [v0, v1, v2, v3, v4, v5, v6, v7, v8, v9, v10] = (mlCells q.x (.slice q.a1 q.m1 q.c1) (.slice q.a2 q.m2 q.c2)).toList ∧ MailIn W q.a1 q.m1 q.c1 q.a2 q.m2 q.c2 q.x ∧ Reach q.x.rows := by
  obtain ⟨xs, m, _, hxe, _, hlen, hat⟩ := DataW.trod_struct Try.underlying40 hf
  have hl8 : xs.length = 8 := hlen
  have E : ∀ j, (hj : j < 8) → xs[j]? = some (xs[j]'(by omega)) := fun j hj => List.getElem?_eq_getElem (by omega)
  have h0 := hat 0 _ rfl
  have h1 := hat 1 _ rfl
  have h2 := hat 2 _ rfl
  have h3 := hat 3 _ rfl
  have h4 := hat 4 _ rfl
  have h5 := hat 5 _ rfl
  have h6 := hat 6 _ rfl
  have h7 := hat 7 _ rfl
  rw [E 0 (by decide)] at h0
  rw [E 1 (by decide)] at h1
  rw [E 2 (by decide)] at h2
  rw [E 3 (by decide)] at h3
  rw [E 4 (by decide)] at h4
  rw [E 5 (by decide)] at h5
  rw [E 6 (by decide)] at h6
  rw [E 7 (by decide)] at h7
  obtain ⟨fr, rfl⟩ := one_int (v := v0) h0
  obtain ⟨tg, rfl⟩ := one_int (v := v1) h1
  obtain ⟨clk, rfl⟩ := one_int64 (v := v2) h2
  obtain ⟨b1, n1, k1, rfl⟩ := slice_of_trod (v := v3) Try.underlying24 h3
  obtain ⟨t, a, mm, rfl, rfl, rfl⟩ := three_request (a := v4) (b := v5) (c := v6) h4
  obtain ⟨asks, rfl⟩ := one_int (v := v7) h5
  obtain ⟨tr, ph, rfl, rfl⟩ := two_look (a := v8) (b := v9) h6
  obtain ⟨b2, n2, k2, rfl⟩ := slice_of_trod (v := v10) Try.underlying38 h7
  obtain ⟨hy, _⟩ := Prod.mk.inj hxe
  obtain ⟨a1, m1, c1, rows, e1, hm1, hB1, hR⟩ := open_books_in ⟨b1, n1, k1, rfl⟩ ⟨_, h3⟩ fun q hq => hw q (by
    rw [hy]
    simp only [DataW.weights, Try.underlying40]
    exact DataW.weights_mem_each (j := 3) rfl (by rw [List.getElem?_map, E 3 (by decide)]; rfl) q hq)
  obtain ⟨a2, m2, c2, echo, e2, hm2, hB2⟩ := open_looks_in ⟨b2, n2, k2, rfl⟩ ⟨_, h7⟩
  exact ⟨⟨⟨fr, tg, clk, rows, t, a, mm, asks, tr, ph, echo⟩, a1, m1, c1, a2, m2, c2⟩, by rw [e1, e2], ⟨hm1, hB1, hm2, hB2⟩, hR⟩
theorem open_mails {H : Type} {enc : TypeId × Value → H} {W : World} {base : Nat} {v : Value} {d : DataW H} {p : List MemPlace} (hv : Value.okWide Try.prog W .any base 25 v)
    (h : DataW.Trod enc Try.prog W 0 (fun _ => true) true 25 v d p) (hw : Held 25 d) : ∃ a m c l, v = .slice a m c ∧ m = l.length ∧ Mails W (.slice a m c) l ∧ ReachM l := by
  obtain ⟨a, n, c, f, D, S, rfl, _, _, hE, hd, hf⟩ := open_elems_data Try.underlying25 cells_mail (by decide) hv h
  have hD : ∀ i, i < n → Held 40 (D i) := fun i hi q hq => hw q (by
    rw [hd (by omega)]
    simp only [DataW.weights, Try.underlying25]
    exact List.mem_cons_of_mem _ (List.mem_append_left _ (weightsAll_mem (List.mem_map.2 ⟨i, List.mem_range.2 hi, rfl⟩) q hq)))
  have hex : ∀ i, ∃ q : Mx, i < n → ((List.range 11).map (f i) = (mlCells q.x (.slice q.a1 q.m1 q.c1) (.slice q.a2 q.m2 q.c2)).toList ∧ MailIn W q.a1 q.m1 q.c1 q.a2 q.m2 q.c2 q.x ∧ Reach q.x.rows) := by
    intro i
    by_cases hi : i < n
    · obtain ⟨fu, pl, hx⟩ := hf i hi
      have hr : (List.range 11).map (f i) = [f i 0, f i 1, f i 2, f i 3, f i 4, f i 5, f i 6, f i 7, f i 8, f i 9, f i 10] := rfl
      rw [hr] at hx ⊢
      obtain ⟨q, h1, h2, h3⟩ := eleven_mail hx (hD i hi)
      exact ⟨q, fun _ => ⟨h1, h2, h3⟩⟩
    · exact ⟨mx0, fun h => absurd h hi⟩
  obtain ⟨G, hG⟩ := Classical.axiomOfChoice hex
  have e : ∀ i, i < n → mxAt ((List.range n).map G) i = G i := fun i hi => by simp [mxAt, hi]
  refine ⟨a, n, c, (List.range n).map G, rfl, by simp, ⟨?_, fun i hi => ?_⟩, fun i hi => ?_⟩
  · rw [List.length_map, List.length_range]
    refine hE.congr fun i j hi hj => ?_
    rw [e i hi]
    have h1 : some (f i j) = (mlCells (G i).x (.slice (G i).a1 (G i).m1 (G i).c1) (.slice (G i).a2 (G i).m2 (G i).c2)).toList[j]? := by
      rw [← (hG i hi).1, List.getElem?_map, List.getElem?_range hj]; rfl
    unfold mxc
    rw [← Array.getElem?_toList, ← h1]; rfl
  · rw [List.length_map, List.length_range] at hi
    rw [e i hi]; exact (hG i hi).2.1
  · rw [List.length_map, List.length_range] at hi
    rw [e i hi]; exact (hG i hi).2.2
end Go.Proofs.Ytgonboccklpoaaa
