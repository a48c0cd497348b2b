/- Parts, as far as BookTakesCards reaches them, of: BookAudit. No law is proved here. -/
import Derived.Test.YtnkgakhnlbifdaaGreatTb21
import Derived.Test.YtnkgakhnlbifdaaGreatTb5
import Derived.Test.YtnkgakhnlbifdaaGreatTb22
import Derived.Test.YtnkgakhnlbifdaaGreatTb1
import Derived.Test.YtnkgakhnlbifdaaGreatTb24
import Derived.Test.YtnkgakhnlbifdaaGreatTb0
import Derived.Test.YtnkgakhnlbifdaaGreatTb6
import Derived.LoopTactic
import Derived.Test.YtnkgakhnlbifdaaGreatTbQ
namespace Go.Proofs.YtnkgakhnlbifdaaGreat
open Go.RowKit
structure AuP (w0 : World) (gr : Nat) (W : World) (g4 g5 : Nat) (z : List Int) (tr ph : Int) (F : Nat → Bool × Int × Int) (ct cu ci tv uv iv : Value) (a b c : Nat) (w : World) : Prop where
 bl : Below w0.heap.size w0 w
 bg : ButG gr W w
 rd : Rd w0 gr z w
 r4 : Whole w g4 35 #[.int .i64 0, .int .i64 0, .slice none 0 0, .slice none 0 0, .slice none 0 0, .bool false]
 r5 : Whole w g5 35 #[.int .i64 tr, .int .i64 ph, ct, cu, ci, .bool false]
 ot : w.ownsRow (g5 + 1) 4 1 tv a (flatCells 1 a (fun i _ => .bool (F i).1))
 ou : w.ownsRow (g5 + 1) 2 1 uv b (flatCells 1 b (fun i _ => .int .i64 (F i).2.1))
 oi : w.ownsRow (g5 + 1) 2 1 iv c (flatCells 1 c (fun i _ => .int .i64 (F i).2.2))
 ap : ApartV uv iv
 lt : gr < g4 ∧ g4 < g5 ∧ w0.heap.size ≤ gr ∧ W.heap.size ≤ g4
section
variable {w0 : World} {gr : Nat} {W : World} {g4 g5 : Nat} {z z' : List Int} {tr ph : Int} {F : Nat → Bool × Int × Int} {ct cu ci tv uv iv v' : Value} {a b c : Nat} {w w' : World}
theorem AuP.later (h : AuP w0 gr W g4 g5 z tr ph F ct cu ci tv uv iv a b c w) (hb : Below w.heap.size w w') : AuP w0 gr W g4 g5 z tr ph F ct cu ci tv uv iv a b c w' :=
 ⟨held_next h.bl hb, h.bg.next hb, h.rd.later hb, h.r4.later hb h.r4.lt, h.r5.later hb h.r5.lt, own_later h.ot hb, own_later h.ou hb, own_later h.oi hb, h.ap, h.lt⟩
theorem AuP.read (h : AuP w0 gr W g4 g5 z tr ph F ct cu ci tv uv iv a b c w) (hb : ButG gr w w') (hr : Rd w0 gr z' w') : AuP w0 gr W g4 g5 z' tr ph F ct cu ci tv uv iv a b c w' := by
 obtain ⟨h1, h2, h3, _⟩ := h.lt
 exact ⟨hb.from h.bl h3, h.bg.trans hb, hr, h.r4.butG hb (by omega), h.r5.butG hb (by omega), own_butG h.ot hb (by omega), own_butG h.ou hb (by omega), own_butG h.oi hb (by omega), h.ap, h.lt⟩
theorem AuP.low (h : AuP w0 gr W g4 g5 z tr ph F ct cu ci tv uv iv a b c w) (hb : Below (g5 + 1) w w') : Below w0.heap.size w0 w' ∧ ButG gr W w' ∧ Rd w0 gr z w' ∧ Whole w' g4 35 #[.int .i64 0, .int .i64 0, .slice none 0 0, .slice none 0 0, .slice none 0 0, .bool false] ∧ Whole w' g5 35 #[.int .i64 tr, .int .i64 ph, ct, cu, ci, .bool false] := by
 obtain ⟨h1, h2, h3, h4⟩ := h.lt
 have hW := h.bg.size
 refine ⟨h.bl.trans (hb.mono (by omega)), h.bg.grown (hb.mono (by omega)), ?_, h.r4.later hb (by omega), h.r5.later hb (by omega)⟩
 obtain ⟨v, r1, r2⟩ := h.rd
 exact ⟨v, r1.later hb (by omega), r2⟩
theorem AuP.pushT {a' : Nat} (h : AuP w0 gr W g4 g5 z tr ph F ct cu ci tv uv iv a b c w) (q1 : w'.ownsRow (g5 + 1) 4 1 v' a' (flatCells 1 a' (fun i _ => .bool (F i).1))) (q2 : Below (g5 + 1) w w') (q3 : Grew w w' tv v') : AuP w0 gr W g4 g5 z tr ph F ct cu ci v' uv iv a' b c w' := by
 obtain ⟨e1, e2, e3, e4, e5⟩ := h.low q2
 exact ⟨e1, e2, e3, e4, e5, q1, (q3.beside h.ou (own_sides h.ou h.ot (by decide))).1, (q3.beside h.oi (own_sides h.oi h.ot (by decide))).1, h.ap, h.lt⟩
theorem AuP.pushU {b' : Nat} (h : AuP w0 gr W g4 g5 z tr ph F ct cu ci tv uv iv a b c w) (q1 : w'.ownsRow (g5 + 1) 2 1 v' b' (flatCells 1 b' (fun i _ => .int .i64 (F i).2.1))) (q2 : Below (g5 + 1) w w') (q3 : Grew w w' uv v') : AuP w0 gr W g4 g5 z tr ph F ct cu ci tv v' iv a b' c w' := by
 obtain ⟨e1, e2, e3, e4, e5⟩ := h.low q2
 have hi := q3.beside h.oi h.ap.symm
 exact ⟨e1, e2, e3, e4, e5, (q3.beside h.ot (own_sides h.ot h.ou (by decide))).1, q1, hi.1, hi.2.symm, h.lt⟩
theorem AuP.pushI {c' : Nat} (h : AuP w0 gr W g4 g5 z tr ph F ct cu ci tv uv iv a b c w) (q1 : w'.ownsRow (g5 + 1) 2 1 v' c' (flatCells 1 c' (fun i _ => .int .i64 (F i).2.2))) (q2 : Below (g5 + 1) w w') (q3 : Grew w w' iv v') : AuP w0 gr W g4 g5 z tr ph F ct cu ci tv uv v' a b c' w' := by
 obtain ⟨e1, e2, e3, e4, e5⟩ := h.low q2
 have hi := q3.beside h.ou h.ap
 exact ⟨e1, e2, e3, e4, e5, (q3.beside h.ot (own_sides h.ot h.oi (by decide))).1, hi.1, q1, hi.2, h.lt⟩
theorem AuP.set (h : AuP w0 gr W g4 g5 z tr ph F ct cu ci tv uv iv a b c w) {i : Nat} {u : Value} {ct' cu' ci' : Value} (he : (#[.int .i64 tr, .int .i64 ph, ct, cu, ci, .bool false] : Array Value).setIfInBounds i u = #[.int .i64 tr, .int .i64 ph, ct', cu', ci', .bool false]) : AuP w0 gr W g4 g5 z tr ph F ct' cu' ci' tv uv iv a b c (w.setCell ⟨g5, i, none⟩ u) := by
 obtain ⟨h1, h2, h3, h4⟩ := h.lt
 have low : ∀ {t : TypeId} {v : Value} {n : Nat} {l : List Value}, w.ownsRow (g5 + 1) t 1 v n l → (w.setCell ⟨g5, i, none⟩ u).ownsRow (g5 + 1) t 1 v n l := fun {t v n l} ho => ho.kept (grownBy_set w ⟨g5, i, none⟩ u) (.inr fun e => by have := (ho.lt _ e).1; simp only at this; omega)
 have h5 := h.r5.set i u
 rw [he] at h5
 exact ⟨h.bl.setCell (p := ⟨g5, i, none⟩) (by show _ ≤ g5; omega) _, h.bg.own (p := ⟨g5, i, none⟩) (by show _ ≤ g5; omega) _, h.rd.set (p := ⟨g5, i, none⟩) (by show g5 ≠ gr; omega) _, h.r4.other (p := ⟨g5, i, none⟩) (by show g4 ≠ g5; omega) _, h5, low h.ot, low h.ou, low h.oi, h.ap, h.lt⟩
end
theorem rdF_flag {s : List Int × Bool} (h : s.2 = true) : (rdF s).2.2 = true := by
 have h1 : (rdS s 1).2 = true := rdS_flag h
 unfold rdF
 split
 · rfl
 · exact h1
theorem rdT_flag {s : List Int × Bool} (h : (rdF s).2.2 = true) : (rdT s).2.2 = true := rdS_flag (s := (rdF s).2) h
theorem tS_flag {s : List Int × Bool} {k m : Nat} (h : (tS s k).2 = true) (hk : k ≤ m) : (tS s m).2 = true := by
 obtain ⟨d, rfl⟩ : ∃ d, m = k + d := ⟨m - k, by omega⟩
 clear hk
 induction d with
 | zero => exact h
 | succ d ih => exact rdT_flag (rdF_flag ih)
theorem range_mk_len {α : Type} (F : Nat → α) (N : Nat) : ((List.range N).map F).length = N := by rw [List.length_map, List.length_range]
theorem elems_mk {w : World} {A : Option Addr} {n c sz m : Nat} {f g : Nat → Nat → Value} (h : Elems w (.slice A n c) sz m f) (hf : ∀ i j, i < m → j < sz → f i j = g i j) : Elems w (.slice A n c) sz m g := by
 obtain ⟨h1, h2⟩ := h
 refine ⟨h1, ?_⟩
 rcases h2 with h2 | ⟨b, off, cap, hv, hn, hc⟩
 · exact Or.inl h2
 · exact Or.inr ⟨b, off, cap, hv, hn, fun i j hi hj => by rw [← hf i j hi hj]; exact hc i j hi hj⟩
theorem bools_mk {w : World} {A : Option Addr} {n c N : Nat} {F : Nat → Bool} (h : Elems w (.slice A n c) 1 N (fun i _ => .bool (F i))) : Bools w (.slice A n c) ((List.range N).map F) := by
 unfold Bools
 rw [range_mk_len]
 exact elems_mk h fun i j hi _ => by rw [getD_range F hi]
theorem nums_mk {w : World} {A : Option Addr} {n c N : Nat} {F : Nat → Int} (h : Elems w (.slice A n c) 1 N (fun i _ => .int .i64 (F i))) : Nums w (.slice A n c) ((List.range N).map F) := by
 unfold Nums
 rw [range_mk_len]
 exact elems_mk h fun i j hi _ => by rw [getD_range F hi]
def ReadsA (w0 : World) (gr N : Nat) (z : List Int) (W : World) (e : Ending) (w' : World) : Prop :=
 ButG gr W w' ∧ (((goAu N (z, false)).2.2 = false ∧ (∃ p : Al, e = .returned (auAt (goAu N (z, false)).1 p) ∧ AuIn w' p (goAu N (z, false)).1 ∧ (∀ ad, p.a1 = some ad → W.heap.size ≤ ad.block) ∧ (∀ ad, p.a2 = some ad → W.heap.size ≤ ad.block) ∧ (∀ ad, p.a3 = some ad → W.heap.size ≤ ad.block)) ∧ Rd w0 gr (goAu N (z, false)).2.1 w') ∨ ((goAu N (z, false)).2.2 = true ∧ e = wrongE))
attribute [local go_sem ↓] run_fine
set_option maxRecDepth 100000 in
set_option maxHeartbeats 16000000 in
theorem kaudit_calls (w0 : World) (gr N : Nat) (z : List Int) (W : World) (hR : Rd w0 gr z W) (hb : Below w0.heap.size w0 W) (hg : w0.heap.size ≤ gr) (hN : N ≤ 16) :
 Calls Tryz.prog 67 #[.pointer (some ⟨gr, 0, none⟩), .int .i64 (N : Int)] W (ReadsA w0 gr N z W) := by
 unfold ReadsA
 obtain ⟨res, Hres⟩ : ∃ q, Hid (q = goAu N (z, false)) := ⟨_, rfl⟩
 rw [← Hres.out]
 have hgr : gr < W.heap.size := hR.lt
 have hb1 := below_box W (.cells #[.int .i64 0, .int .i64 0, .slice none 0 0, .slice none 0 0, .slice none 0 0, .bool false] 35)
 have HW4 := Lib.hid (Whole.made W 35 #[.int .i64 0, .int .i64 0, .slice none 0 0, .slice none 0 0, .slice none 0 0, .bool false])
 have hlk := klook_calls w0 gr z _ (hR.later hb1) (held_next hb hb1) hg
 have HLK := Lib.hid hlk
 have HB1 := Lib.hid (ButG.of (G := gr) hb1 : ButG gr W _)
 have Hbl1 := Lib.hid (held_next hb hb1)
 clear hlk hR hb hb1
 go_enter Tryz.func67, Tryz.ntmps67
 go_wp2_with fail
 refine HLK.out.mono ?_
 rintro e w1 ⟨hG, ⟨hs, rfl, hR1⟩ | ⟨hs, rfl⟩⟩
 rotate_left 1
 · have hf : res.2.2 = true := by
    rw [Hres.out]
    unfold goAu
    split
    · exact hs
    · exact rdF_flag (tS_flag (k := 0) hs (Nat.zero_le _))
   have HB9 := Lib.hid (HB1.out.trans hG)
   clear hs hG HLK
   go_wp2_with fail
   exact ⟨rfl, HB9.out, Or.inr ⟨hf, rfl⟩⟩
 have Hs := Lib.hid hs
 have HR1 := Lib.hid hR1
 have HB2 := Lib.hid (HB1.out.trans hG)
 have Hbl2 := Lib.hid (hG.from Hbl1.out hg)
 have HW4' := Lib.hid (HW4.out.butG hG (by omega))
 have hsz1 : W.heap.size < w1.heap.size := HW4'.out.lt
 clear hs hR1 hG HLK HB1 Hbl1 HW4
 obtain ⟨tr, Htr⟩ : ∃ q, Hid (rdX (z, false) 0 = q) := ⟨_, rfl⟩
 obtain ⟨ph, Hph⟩ : ∃ q, Hid (rdX (z, false) 1 = q) := ⟨_, rfl⟩
 rw [Htr.out, Hph.out]
 by_cases h0 : tr = 0 ∧ ph = 0
 · obtain ⟨rfl, rfl⟩ := h0
   have heq : ∀ w : World, (binOp .eql 31 (.agg #[.int .i64 0, .int .i64 0]) (.agg #[.int .i64 0, .int .i64 0])).run Tryz.prog w = .ok (.bool true) w := fun w => run_eql_lk w 0 0 0 0
   have he : Hid (res = (au0, rdS (z, false) 2)) := by show _ = _; rw [Hres.out]; unfold goAu; rw [if_pos ⟨Htr.out, Hph.out⟩]
   have k0 := HW4'.out.cell 0; have k1 := HW4'.out.cell 1; have k2 := HW4'.out.cell 2; have k3 := HW4'.out.cell 3; have k4 := HW4'.out.cell 4; have k5 := HW4'.out.cell 5
   have f0 := HW4'.out.free 0; have f1 := HW4'.out.free 1; have f2 := HW4'.out.free 2; have f3 := HW4'.out.free 3; have f4 := HW4'.out.free 4; have f5 := HW4'.out.free 5
   go_wp2_with fail
   have hr9 := (((((((HW4'.out.set 0 (.int .i64 0)).set 1 (.int .i64 0)).set 2 (.slice none 0 0)).set 3 (.slice none 0 0)).set 4 (.slice none 0 0)).set 5 (.bool false))).later (below_box _ (.cells #[.int .i64 0, .int .i64 0, .slice none 0 0, .slice none 0 0, .slice none 0 0, .bool false] 35)) (by simp; exact hsz1)
   have q0 := hr9.cell 0; have q1 := hr9.cell 1; have q2 := hr9.cell 2; have q3 := hr9.cell 3; have q4 := hr9.cell 4; have q5 := hr9.cell 5
   clear hr9 k0 k1 k2 k3 k4 k5 f0 f1 f2 f3 f4 f5
   refine bodyPost_ret (v := auAt au0 (⟨none, 0, 0, none, 0, 0, none, 0, 0⟩ : Al)) (by simp [results, Tryz.results67, go_sem, q0, q1, q2, q3, q4, q5]) rfl ⟨?_, Or.inl ⟨by rw [he.out]; exact Hs.out, ⟨(⟨none, 0, 0, none, 0, 0, none, 0, 0⟩ : Al), by rw [he.out], by rw [he.out]; exact au_in0 _, (fun ad h => by cases h), (fun ad h => by cases h), (fun ad h => by cases h)⟩, ?_⟩⟩
   · exact ((((((HB2.out.own (p := ⟨W.heap.size, 0, none⟩) (Nat.le_refl _) _).own (p := ⟨W.heap.size, 1, none⟩) (Nat.le_refl _) _).own (p := ⟨W.heap.size, 2, none⟩) (Nat.le_refl _) _).own (p := ⟨W.heap.size, 3, none⟩) (Nat.le_refl _) _).own (p := ⟨W.heap.size, 4, none⟩) (Nat.le_refl _) _).own (p := ⟨W.heap.size, 5, none⟩) (Nat.le_refl _) _).next (below_box _ _)
   · rw [he.out]
     have hne : W.heap.size ≠ gr := by omega
     exact ((((((HR1.out.set (p := ⟨W.heap.size, 0, none⟩) hne _).set (p := ⟨W.heap.size, 1, none⟩) hne _).set (p := ⟨W.heap.size, 2, none⟩) hne _).set (p := ⟨W.heap.size, 3, none⟩) hne _).set (p := ⟨W.heap.size, 4, none⟩) hne _).set (p := ⟨W.heap.size, 5, none⟩) hne _).later (below_box _ _)
 have heq : ∀ w : World, (binOp .eql 31 (.agg #[.int .i64 tr, .int .i64 ph]) (.agg #[.int .i64 0, .int .i64 0])).run Tryz.prog w = .ok (.bool false) w := fun w => (run_eql_lk w tr ph 0 0).trans (by rw [decide_eq_false h0])
 have he : Hid (res = (⟨tr, ph, (List.range N).map fun i => (tX (rdS (z, false) 2) i).1, (List.range N).map fun i => (tX (rdS (z, false) 2) i).2.1, (List.range N).map fun i => (tX (rdS (z, false) 2) i).2.2, (rdF (tS (rdS (z, false) 2) N)).1⟩, (rdF (tS (rdS (z, false) 2) N)).2)) := by
  show _ = _
  rw [Hres.out]; unfold goAu
  rw [if_neg (fun h => h0 ⟨Htr.out.symm.trans h.1, Hph.out.symm.trans h.2⟩), Htr.out, Hph.out]
 obtain ⟨s1, Hs1⟩ : ∃ q, Hid (q = rdS (z, false) 2) := ⟨_, rfl⟩
 rw [← Hs1.out] at Hs HR1 he
 obtain ⟨F, HF⟩ : ∃ q : Nat → Bool × Int × Int, Hid (q = tX s1) := ⟨_, rfl⟩
 rw [← HF.out] at he
 have HS0 : Hid (AuP w0 gr W W.heap.size w1.heap.size s1.1 tr ph F (.slice none 0 0) (.slice none 0 0) (.slice none 0 0) (.slice none 0 0) (.slice none 0 0) (.slice none 0 0) 0 0 0 (w1.alloc (.cells #[.int .i64 tr, .int .i64 ph, .slice none 0 0, .slice none 0 0, .slice none 0 0, .bool false] 35))) :=
  ⟨held_next Hbl2.out (below_box w1 _), HB2.out.next (below_box w1 _), HR1.out.later (below_box w1 _), HW4'.out.later (below_box w1 _) HW4'.out.lt, Whole.made w1 35 _, World.ownsRow_nil _ _ _ _, World.ownsRow_nil _ _ _ _, World.ownsRow_nil _ _ _ _, apart_nil _ none rfl 0, hgr, hsz1, hg, Nat.le_refl _⟩
 clear h0 HR1 HB2 Hbl2 HW4' Htr Hph
 go_wp2_with fail
 go_loopw [15] (fun s15 wr => ∃ (k : Nat) (tv uv iv : Value), k ≤ N ∧ s15 = .int .i64 (k : Int) ∧ Hid ((tS s1 k).2 = false) ∧ Hid (AuP w0 gr W W.heap.size w1.heap.size (tS s1 k).1 tr ph F tv uv iv tv uv iv k k k wr)) (fun s15 _ => N - (intOf s15).toNat)
 case atStart => exact ⟨0, _, _, _, Nat.zero_le _, rfl, Hs.out, HS0.out⟩
 case round =>
  clear HS0
  obtain ⟨k, tv, uv, iv, hk, rfl, HS, HP⟩ := hrel
  by_cases hkN : k < N
  · obtain ⟨sk, Hsk⟩ : ∃ q, Hid (q = tS s1 k) := ⟨_, rfl⟩
    rw [← Hsk.out] at HS HP
    obtain ⟨⟨f, s2⟩, HF2⟩ : ∃ q, Hid (rdF sk = q) := ⟨_, rfl⟩
    obtain ⟨u, Hu⟩ : ∃ q, Hid (rdX s2 0 = q) := ⟨_, rfl⟩
    obtain ⟨i9, Hi⟩ : ∃ q, Hid (rdX s2 1 = q) := ⟨_, rfl⟩
    have HFk : Hid (F k = (f, u, i9)) := by
     show F k = _
     rw [HF.out]
     show (rdT (tS s1 k)).1 = _
     rw [← Hsk.out]
     unfold rdT
     rw [HF2.out]
     simp only
     rw [Hu.out, Hi.out]
    have HT : Hid (tS s1 (k + 1) = rdS s2 2) := by
     show (rdT (tS s1 k)).2 = _
     rw [← Hsk.out]
     unfold rdT
     rw [HF2.out]
    have Bad : Hid ((rdS s2 2).2 = true → res.2.2 = true) := fun h => by
     rw [he.out]
     exact rdF_flag (tS_flag (k := k + 1) (by rw [HT.out]; exact h) hkN)
    have hF1 : (fun i => (F i).1) k = f := by simp only; rw [HFk.out]
    have hF2 : (fun i => (F i).2.1) k = u := by simp only; rw [HFk.out]
    have hF3 : (fun i => (F i).2.2) k = i9 := by simp only; rw [HFk.out]
    have HF1 := Lib.hid hF1; have HF2' := Lib.hid hF2; have HF3 := Lib.hid hF3
    clear hF1 hF2 hF3
    have j1 : (k : Int) < (N : Int) := by omega
    go_wp2_with fail
    refine wp_region_each_at ?hm ?hb (fun a0 d a' w' => ∃ (e0 e1 e2 e3 e4 e5 e6 : Value), a' = putAll a0 [(17, e0), (18, e1), (19, e2), (20, e3), (21, e4), (22, e5), (23, e6)] ∧ Below w0.heap.size w0 w' ∧ (d 0 = true → e0 = (.pointer (some ⟨w1.heap.size, 2, none⟩))) ∧ (d 1 = true → tv = e1) ∧ (d 2 = true → e2 = (.pointer (some ⟨gr, 0, none⟩))) ∧ (d 3 = true → (s2.2 = false ∧ e3 = (.bool f) ∧ (d 4 = false → AuP w0 gr W W.heap.size w1.heap.size s2.1 tr ph F tv uv iv tv uv iv k k k w'))) ∧ (d 4 = true → (d 3 = true ∧ (d 5 = false → ∃ gb, e4 = .slice (some ⟨gb, 0, none⟩) 1 1 ∧ Whole w' gb 4 #[(.bool f)] ∧ w1.heap.size + 1 ≤ w'.heap.size ∧ AuP w0 gr W W.heap.size w1.heap.size s2.1 tr ph F tv uv iv tv uv iv k k k w'))) ∧ (d 5 = true → (d 1 = true ∧ d 3 = true ∧ d 4 = true ∧ ∃ A C, e5 = .slice A (k + 1) C ∧ (d 7 = false → AuP w0 gr W W.heap.size w1.heap.size s2.1 tr ph F tv uv iv (.slice A (k + 1) C) uv iv (k + 1) k k w'))) ∧ (d 6 = true → e6 = (.pointer (some ⟨w1.heap.size, 2, none⟩))) ∧ (d 7 = true → (d 1 = true ∧ d 3 = true ∧ d 4 = true ∧ d 5 = true ∧ ∃ A C, AuP w0 gr W W.heap.size w1.heap.size s2.1 tr ph F (.slice A (k + 1) C) uv iv (.slice A (k + 1) C) uv iv (k + 1) k k w')) ∧ (d 3 = false → AuP w0 gr W W.heap.size w1.heap.size sk.1 tr ph F tv uv iv tv uv iv k k k w') ∧ (d 7 = false → Whole w' w1.heap.size 35 #[.int .i64 tr, .int .i64 ph, tv, uv, iv, .bool false])) ?h0 ?step ?ends
    case hm => kernel_rfl
    case hb => kernel_rfl
    case h0 =>
     refine ⟨u17, u18, u19, u20, u21, u22, u23, ?_, (HP.out.bl).drew, fun h => absurd h (by decide), fun h => absurd h (by decide), fun h => absurd h (by decide), fun h => absurd h (by decide), fun h => absurd h (by decide), fun h => absurd h (by decide), fun h => absurd h (by decide), fun h => absurd h (by decide), fun _ => HP.out.later (Below.refl _ _).drew, fun _ => (HP.out.later (Below.refl _ _).drew).r5⟩
     simp only [putAll, Act.put, qA, qB, qC]
    case step =>
     intro i d a' w' hi hJ hd hk
     obtain ⟨e0, e1, e2, e3, e4, e5, e6, rfl, hC⟩ := hJ
     obtain ⟨hB, hC⟩ := hC
     obtain ⟨c0, hC⟩ := hC
     obtain ⟨c1, hC⟩ := hC
     obtain ⟨c2, hC⟩ := hC
     obtain ⟨c3, hC⟩ := hC
     obtain ⟨c4, hC⟩ := hC
     obtain ⟨c5, hC⟩ := hC
     obtain ⟨c6, hC⟩ := hC
     obtain ⟨c7, hC⟩ := hC
     obtain ⟨kS, hC⟩ := hC
     have kA := hC
     clear hC
     match i, hi, hd, hk with
     | 0, _, hd, hk =>
       apply wpOp_at
       case ho => rfl
       intro K hK
       simp only [putAll, Act.put, qA, qB, qC]
       go_simp
       refine hK _ _ ⟨(.pointer (some ⟨w1.heap.size, 2, none⟩)), e1, e2, e3, e4, e5, e6, ?_, hB, fun _ => rfl, c1, c2, c3, c4, c5, c6, c7, kS, kA⟩
       simp only [putAll, Act.put, qA, qB, qC]
       all_goals rfl
     | 1, _, hd, hk =>
       have h0 : d 0 = true := hk 0 (by decide +kernel)
       obtain rfl := c0 h0
       have hd7 : d 7 = false := (Bool.eq_false_or_eq_true (d 7)).elim (fun h => absurd ((c7 h).1.symm.trans hd) (by decide)) id
       have hcc := (kA hd7).cell 2
       apply wpOp_at
       case ho => rfl
       intro K hK
       simp only [putAll, Act.put, qA, qB, qC]
       go_simp
       refine hK _ _ ⟨(.pointer (some ⟨w1.heap.size, 2, none⟩)), tv, e2, e3, e4, e5, e6, ?_, hB, c0, fun _ => rfl, c2, c3, c4, fun h => absurd ((c5 h).1.symm.trans hd) (by decide), c6, fun h => absurd ((c7 h).1.symm.trans hd) (by decide), kS, kA⟩
       simp only [putAll, Act.put, qA, qB, qC]
       all_goals rfl
     | 2, _, hd, hk =>
       apply wpOp_at
       case ho => rfl
       intro K hK
       simp only [putAll, Act.put, qA, qB, qC]
       go_simp
       refine hK _ _ ⟨e0, e1, (.pointer (some ⟨gr, 0, none⟩)), e3, e4, e5, e6, ?_, hB, c0, c1, fun _ => rfl, c3, c4, c5, c6, c7, kS, kA⟩
       simp only [putAll, Act.put, qA, qB, qC]
       all_goals rfl
     | 3, _, hd, hk =>
       have h2 : d 2 = true := hk 2 (by decide +kernel)
       obtain rfl := c2 h2
       apply wpOp_at
       case ho => rfl
       intro K hK
       simp only [putAll, Act.put, qA, qB, qC]
       go_simp
       have hlk := kflag_calls w0 gr sk.1 w' (kS hd).rd hB
       rw [show (sk.1, false) = sk from Prod.ext rfl HS.out.symm, HF2.out] at hlk
       refine hlk.mono ?_
       clear hlk
       rintro e w'' ⟨hG, ⟨hs, rfl, hR⟩ | ⟨hs, rfl⟩⟩
       rotate_left 1
       · have hf := Bad.out (rdS_flag (s := s2) hs)
         exact ⟨rfl, (kS hd).bg.trans hG, Or.inr ⟨hf, rfl⟩⟩
       have hBb := hG.from hB hg
       have hP3 := (kS hd).read hG hR
       refine hK _ _ ⟨e0, e1, (.pointer (some ⟨gr, 0, none⟩)), (.bool f), e4, e5, e6, ?_, hBb, c0, c1, c2, fun _ => ⟨hs, rfl, fun _ => hP3⟩, fun h => absurd ((c4 h).1.symm.trans hd) (by decide), fun h => absurd ((c5 h).2.1.symm.trans hd) (by decide), c6, fun h => absurd ((c7 h).2.1.symm.trans hd) (by decide), fun h => Bool.noConfusion (show true = false from h), fun _ => hP3.r5⟩
       simp only [putAll, Act.put, qA, qB, qC]
       all_goals rfl
     | 4, _, hd, hk =>
       have h3 : d 3 = true := hk 3 (by decide +kernel)
       obtain ⟨hs3, rfl, hP3⟩ := c3 h3
       have hP := hP3 hd
       apply wpOp_at
       case ho => rfl
       intro K hK
       simp only [putAll, Act.put, qA, qB, qC]
       go_simp
       have hb := below_box w' (.cells #[(.bool f)] 4)
       have hMb := Whole.made w' 4 #[(.bool f)]
       have hPb := hP.later hb
       refine hK _ _ ⟨e0, e1, e2, (.bool f), .slice (some ⟨w'.heap.size, 0, none⟩) 1 1, e5, e6, ?_, hB.trans (hb.mono hB.size), c0, c1, c2, fun _ => ⟨hs3, rfl, fun h => Bool.noConfusion (show true = false from h)⟩, fun _ => ⟨h3, fun _ => ⟨_, rfl, hMb, hPb.r5.lt, hPb⟩⟩, fun h => absurd ((c5 h).2.2.1.symm.trans hd) (by decide), c6, fun h => absurd ((c7 h).2.2.1.symm.trans hd) (by decide), fun h => absurd (h3.symm.trans h) (by decide), fun _ => hPb.r5⟩
       simp only [putAll, Act.put, qA, qB, qC]
       all_goals rfl
     | 5, _, hd, hk =>
       have h1 : d 1 = true := hk 1 (by decide +kernel)
       have h3 : d 3 = true := hk 3 (by decide +kernel)
       have h4 : d 4 = true := hk 4 (by decide +kernel)
       obtain rfl := c1 h1
       obtain ⟨-, hp4⟩ := c4 h4
       obtain ⟨gb, rfl, hMb, hgb, hP⟩ := hp4 hd
       obtain ⟨A9, C9, w9, hrun, q1, q2, q3⟩ := flag_push_at (E := fun i => (F i).1) (k := k) (x := f) HF1.out hP.ot hMb (by omega) hgb
       obtain ⟨hf5, hv5, hw5⟩ := fine_of hrun
       have hP9 := hP.pushT q1 q2 q3
       have hs3 := (c3 h3).1
       obtain rfl := (c3 h3).2.1
       clear hrun hp4 hMb
       apply wpOp_at
       case ho => rfl
       intro K hK
       simp only [putAll, Act.put, qA, qB, qC]
       go_simp
       refine hK _ _ ⟨e0, tv, e2, (.bool f), .slice (some ⟨gb, 0, none⟩) 1 1, .slice A9 (k + 1) C9, e6, ?_, hP9.bl, c0, c1, c2, fun _ => ⟨hs3, rfl, fun h => absurd (h4.symm.trans h) (by decide)⟩, fun _ => ⟨h3, fun h => Bool.noConfusion (show true = false from h)⟩, fun _ => ⟨h1, h3, h4, A9, C9, rfl, fun _ => hP9⟩, c6, fun h => absurd ((c7 h).2.2.2.1.symm.trans hd) (by decide), fun h => absurd (h3.symm.trans h) (by decide), fun _ => hP9.r5⟩
       simp only [putAll, Act.put, qA, qB, qC]
       all_goals rfl
     | 6, _, hd, hk =>
       have h0 : d 0 = true := hk 0 (by decide +kernel)
       have h1 : d 1 = true := hk 1 (by decide +kernel)
       have h2 : d 2 = true := hk 2 (by decide +kernel)
       have h3 : d 3 = true := hk 3 (by decide +kernel)
       have h4 : d 4 = true := hk 4 (by decide +kernel)
       have h5 : d 5 = true := hk 5 (by decide +kernel)
       obtain rfl := c0 h0
       obtain rfl := c1 h1
       obtain rfl := c2 h2
       have hs3 := (c3 h3).1
       obtain rfl := (c3 h3).2.1
       apply wpOp_at
       case ho => rfl
       intro K hK
       simp only [putAll, Act.put, qA, qB, qC]
       go_simp
       refine hK _ _ ⟨(.pointer (some ⟨w1.heap.size, 2, none⟩)), tv, (.pointer (some ⟨gr, 0, none⟩)), (.bool f), e4, e5, (.pointer (some ⟨w1.heap.size, 2, none⟩)), ?_, hB, c0, c1, c2, fun _ => ⟨hs3, rfl, fun h => absurd (h4.symm.trans h) (by decide)⟩, c4, c5, fun _ => rfl, c7, kS, kA⟩
       simp only [putAll, Act.put, qA, qB, qC]
       all_goals rfl
     | 7, _, hd, hk =>
       have h0 : d 0 = true := hk 0 (by decide +kernel)
       have h1 : d 1 = true := hk 1 (by decide +kernel)
       have h2 : d 2 = true := hk 2 (by decide +kernel)
       have h3 : d 3 = true := hk 3 (by decide +kernel)
       have h4 : d 4 = true := hk 4 (by decide +kernel)
       have h5 : d 5 = true := hk 5 (by decide +kernel)
       have h6 : d 6 = true := hk 6 (by decide +kernel)
       obtain rfl := c0 h0
       obtain rfl := c1 h1
       obtain rfl := c2 h2
       obtain rfl := c6 h6
       obtain ⟨-, -, -, A5, C5, rfl, hp5⟩ := c5 h5
       have hP := hp5 hd
       have hcc := hP.r5.cell 2
       have hff := hP.r5.free 2
       have hs3 := (c3 h3).1
       obtain rfl := (c3 h3).2.1
       have hP9 := hP.set (i := 2) (u := .slice A5 (k + 1) C5) (ct' := (.slice A5 (k + 1) C5)) (cu' := uv) (ci' := iv) (by simp only [List.setIfInBounds_toArray, List.set_cons_zero, List.set_cons_succ])
       apply wpOp_at
       case ho => rfl
       intro K hK
       simp only [putAll, Act.put, qA, qB, qC]
       go_simp
       refine hK _ _ ⟨(.pointer (some ⟨w1.heap.size, 2, none⟩)), tv, (.pointer (some ⟨gr, 0, none⟩)), (.bool f), e4, .slice A5 (k + 1) C5, (.pointer (some ⟨w1.heap.size, 2, none⟩)), ?_, hP9.bl, c0, c1, c2, fun _ => ⟨hs3, rfl, fun h => absurd (h4.symm.trans h) (by decide)⟩, fun _ => ⟨h3, fun h => absurd (h5.symm.trans h) (by decide)⟩, fun _ => ⟨h1, h3, h4, A5, C5, rfl, fun h => Bool.noConfusion (show true = false from h)⟩, c6, fun _ => ⟨h1, h3, h4, h5, A5, C5, hP9⟩, fun h => absurd (h3.symm.trans h) (by decide), fun h => Bool.noConfusion (show true = false from h)⟩
       simp only [putAll, Act.put, qA, qB, qC]
       all_goals rfl
     | k + 8, hi, _, _ => exact absurd hi (by simp)
    case ends =>
     intro d a' wa hJ hall
     obtain ⟨e0, e1, e2, e3, e4, e5, e6, rfl, hC⟩ := hJ
     obtain ⟨hB, hC⟩ := hC
     obtain ⟨c0, hC⟩ := hC
     obtain ⟨c1, hC⟩ := hC
     obtain ⟨c2, hC⟩ := hC
     obtain ⟨c3, hC⟩ := hC
     obtain ⟨c4, hC⟩ := hC
     obtain ⟨c5, hC⟩ := hC
     obtain ⟨c6, hC⟩ := hC
     obtain ⟨c7, hC⟩ := hC
     obtain ⟨kS, hC⟩ := hC
     have kA := hC
     clear hC
     obtain ⟨-, -, -, -, A1, C1, hP6⟩ := c7 (hall 7 (by decide +kernel))
     have hs2 := (c3 (hall 3 (by decide +kernel))).1
     have HP6 := Lib.hid hP6
     have HS2 := Lib.hid hs2
     clear hP6 hs2
     clear c0 c1 c2 c3 c4 c5 c6 c7 kS kA hall hB
     simp only [putAll, Act.put, qA, qB, qC]
     go_wp2_with fail
     refine wp_region_each_at ?hm ?hb (fun a0 d a' w' => ∃ (e0 e1 e2 e3 e4 e5 e6 : Value), a' = putAll a0 [(24, e0), (25, e1), (26, e2), (27, e3), (28, e4), (29, e5), (30, e6)] ∧ Below w0.heap.size w0 w' ∧ (d 0 = true → e0 = (.pointer (some ⟨w1.heap.size, 3, none⟩))) ∧ (d 1 = true → uv = e1) ∧ (d 2 = true → e2 = (.pointer (some ⟨gr, 0, none⟩))) ∧ (d 3 = true → ((rdS s2 1).2 = false ∧ e3 = (.int .i64 u) ∧ (d 4 = false → AuP w0 gr W W.heap.size w1.heap.size (rdS s2 1).1 tr ph F (.slice A1 (k + 1) C1) uv iv (.slice A1 (k + 1) C1) uv iv (k + 1) k k w'))) ∧ (d 4 = true → (d 3 = true ∧ (d 5 = false → ∃ gb, e4 = .slice (some ⟨gb, 0, none⟩) 1 1 ∧ Whole w' gb 2 #[(.int .i64 u)] ∧ w1.heap.size + 1 ≤ w'.heap.size ∧ AuP w0 gr W W.heap.size w1.heap.size (rdS s2 1).1 tr ph F (.slice A1 (k + 1) C1) uv iv (.slice A1 (k + 1) C1) uv iv (k + 1) k k w'))) ∧ (d 5 = true → (d 1 = true ∧ d 3 = true ∧ d 4 = true ∧ ∃ A C, e5 = .slice A (k + 1) C ∧ (d 7 = false → AuP w0 gr W W.heap.size w1.heap.size (rdS s2 1).1 tr ph F (.slice A1 (k + 1) C1) uv iv (.slice A1 (k + 1) C1) (.slice A (k + 1) C) iv (k + 1) (k + 1) k w'))) ∧ (d 6 = true → e6 = (.pointer (some ⟨w1.heap.size, 3, none⟩))) ∧ (d 7 = true → (d 1 = true ∧ d 3 = true ∧ d 4 = true ∧ d 5 = true ∧ ∃ A C, AuP w0 gr W W.heap.size w1.heap.size (rdS s2 1).1 tr ph F (.slice A1 (k + 1) C1) (.slice A (k + 1) C) iv (.slice A1 (k + 1) C1) (.slice A (k + 1) C) iv (k + 1) (k + 1) k w')) ∧ (d 3 = false → AuP w0 gr W W.heap.size w1.heap.size s2.1 tr ph F (.slice A1 (k + 1) C1) uv iv (.slice A1 (k + 1) C1) uv iv (k + 1) k k w') ∧ (d 7 = false → Whole w' w1.heap.size 35 #[.int .i64 tr, .int .i64 ph, (.slice A1 (k + 1) C1), uv, iv, .bool false])) ?h0 ?step ?ends
     case hm => kernel_rfl
     case hb => kernel_rfl
     case h0 =>
      refine ⟨u24, u25, u26, u27, u28, u29, u30, ?_, (HP6.out.bl).drew, fun h => absurd h (by decide), fun h => absurd h (by decide), fun h => absurd h (by decide), fun h => absurd h (by decide), fun h => absurd h (by decide), fun h => absurd h (by decide), fun h => absurd h (by decide), fun h => absurd h (by decide), fun _ => HP6.out.later (Below.refl _ _).drew, fun _ => (HP6.out.later (Below.refl _ _).drew).r5⟩
      simp only [putAll, Act.put, qA, qB, qC]
     case step =>
      intro i d a' w' hi hJ hd hk
      obtain ⟨e0, e1, e2, e3, e4, e5, e6, rfl, hC⟩ := hJ
      obtain ⟨hB, hC⟩ := hC
      obtain ⟨c0, hC⟩ := hC
      obtain ⟨c1, hC⟩ := hC
      obtain ⟨c2, hC⟩ := hC
      obtain ⟨c3, hC⟩ := hC
      obtain ⟨c4, hC⟩ := hC
      obtain ⟨c5, hC⟩ := hC
      obtain ⟨c6, hC⟩ := hC
      obtain ⟨c7, hC⟩ := hC
      obtain ⟨kS, hC⟩ := hC
      have kA := hC
      clear hC
      match i, hi, hd, hk with
      | 0, _, hd, hk =>
        apply wpOp_at
        case ho => rfl
        intro K hK
        simp only [putAll, Act.put, qA, qB, qC]
        go_simp
        refine hK _ _ ⟨(.pointer (some ⟨w1.heap.size, 3, none⟩)), e1, e2, e3, e4, e5, e6, ?_, hB, fun _ => rfl, c1, c2, c3, c4, c5, c6, c7, kS, kA⟩
        simp only [putAll, Act.put, qA, qB, qC]
        all_goals rfl
      | 1, _, hd, hk =>
        have h0 : d 0 = true := hk 0 (by decide +kernel)
        obtain rfl := c0 h0
        have hd7 : d 7 = false := (Bool.eq_false_or_eq_true (d 7)).elim (fun h => absurd ((c7 h).1.symm.trans hd) (by decide)) id
        have hcc := (kA hd7).cell 3
        apply wpOp_at
        case ho => rfl
        intro K hK
        simp only [putAll, Act.put, qA, qB, qC]
        go_simp
        refine hK _ _ ⟨(.pointer (some ⟨w1.heap.size, 3, none⟩)), uv, e2, e3, e4, e5, e6, ?_, hB, c0, fun _ => rfl, c2, c3, c4, fun h => absurd ((c5 h).1.symm.trans hd) (by decide), c6, fun h => absurd ((c7 h).1.symm.trans hd) (by decide), kS, kA⟩
        simp only [putAll, Act.put, qA, qB, qC]
        all_goals rfl
      | 2, _, hd, hk =>
        apply wpOp_at
        case ho => rfl
        intro K hK
        simp only [putAll, Act.put, qA, qB, qC]
        go_simp
        refine hK _ _ ⟨e0, e1, (.pointer (some ⟨gr, 0, none⟩)), e3, e4, e5, e6, ?_, hB, c0, c1, fun _ => rfl, c3, c4, c5, c6, c7, kS, kA⟩
        simp only [putAll, Act.put, qA, qB, qC]
        all_goals rfl
      | 3, _, hd, hk =>
        have h2 : d 2 = true := hk 2 (by decide +kernel)
        obtain rfl := c2 h2
        apply wpOp_at
        case ho => rfl
        intro K hK
        simp only [putAll, Act.put, qA, qB, qC]
        go_simp
        have hlk := knum_at w0 gr s2 0 w' HS2.out (kS hd).rd hB
        rw [Hu.out] at hlk
        refine hlk.mono ?_
        clear hlk
        rintro e w'' ⟨hG, ⟨hs, rfl, hR⟩ | ⟨hs, rfl⟩⟩
        rotate_left 1
        · have hf := Bad.out (rdS_flag_le (k := 1) hs (by decide))
          exact ⟨rfl, (kS hd).bg.trans hG, Or.inr ⟨hf, rfl⟩⟩
        have hBb := hG.from hB hg
        have hP3 := (kS hd).read hG hR
        refine hK _ _ ⟨e0, e1, (.pointer (some ⟨gr, 0, none⟩)), (.int .i64 u), e4, e5, e6, ?_, hBb, c0, c1, c2, fun _ => ⟨hs, rfl, fun _ => hP3⟩, fun h => absurd ((c4 h).1.symm.trans hd) (by decide), fun h => absurd ((c5 h).2.1.symm.trans hd) (by decide), c6, fun h => absurd ((c7 h).2.1.symm.trans hd) (by decide), fun h => Bool.noConfusion (show true = false from h), fun _ => hP3.r5⟩
        simp only [putAll, Act.put, qA, qB, qC]
        all_goals rfl
      | 4, _, hd, hk =>
        have h3 : d 3 = true := hk 3 (by decide +kernel)
        obtain ⟨hs3, rfl, hP3⟩ := c3 h3
        have hP := hP3 hd
        apply wpOp_at
        case ho => rfl
        intro K hK
        simp only [putAll, Act.put, qA, qB, qC]
        go_simp
        have hb := below_box w' (.cells #[(.int .i64 u)] 2)
        have hMb := Whole.made w' 2 #[(.int .i64 u)]
        have hPb := hP.later hb
        refine hK _ _ ⟨e0, e1, e2, (.int .i64 u), .slice (some ⟨w'.heap.size, 0, none⟩) 1 1, e5, e6, ?_, hB.trans (hb.mono hB.size), c0, c1, c2, fun _ => ⟨hs3, rfl, fun h => Bool.noConfusion (show true = false from h)⟩, fun _ => ⟨h3, fun _ => ⟨_, rfl, hMb, hPb.r5.lt, hPb⟩⟩, fun h => absurd ((c5 h).2.2.1.symm.trans hd) (by decide), c6, fun h => absurd ((c7 h).2.2.1.symm.trans hd) (by decide), fun h => absurd (h3.symm.trans h) (by decide), fun _ => hPb.r5⟩
        simp only [putAll, Act.put, qA, qB, qC]
        all_goals rfl
      | 5, _, hd, hk =>
        have h1 : d 1 = true := hk 1 (by decide +kernel)
        have h3 : d 3 = true := hk 3 (by decide +kernel)
        have h4 : d 4 = true := hk 4 (by decide +kernel)
        obtain rfl := c1 h1
        obtain ⟨-, hp4⟩ := c4 h4
        obtain ⟨gb, rfl, hMb, hgb, hP⟩ := hp4 hd
        obtain ⟨A9, C9, w9, hrun, q1, q2, q3⟩ := num_push_at (E := fun i => (F i).2.1) (k := k) (x := u) HF2'.out hP.ou hMb (by omega) hgb
        obtain ⟨hf5, hv5, hw5⟩ := fine_of hrun
        have hP9 := hP.pushU q1 q2 q3
        have hs3 := (c3 h3).1
        obtain rfl := (c3 h3).2.1
        clear hrun hp4 hMb
        apply wpOp_at
        case ho => rfl
        intro K hK
        simp only [putAll, Act.put, qA, qB, qC]
        go_simp
        refine hK _ _ ⟨e0, uv, e2, (.int .i64 u), .slice (some ⟨gb, 0, none⟩) 1 1, .slice A9 (k + 1) C9, e6, ?_, hP9.bl, c0, c1, c2, fun _ => ⟨hs3, rfl, fun h => absurd (h4.symm.trans h) (by decide)⟩, fun _ => ⟨h3, fun h => Bool.noConfusion (show true = false from h)⟩, fun _ => ⟨h1, h3, h4, A9, C9, rfl, fun _ => hP9⟩, c6, fun h => absurd ((c7 h).2.2.2.1.symm.trans hd) (by decide), fun h => absurd (h3.symm.trans h) (by decide), fun _ => hP9.r5⟩
        simp only [putAll, Act.put, qA, qB, qC]
        all_goals rfl
      | 6, _, hd, hk =>
        have h0 : d 0 = true := hk 0 (by decide +kernel)
        have h1 : d 1 = true := hk 1 (by decide +kernel)
        have h2 : d 2 = true := hk 2 (by decide +kernel)
        have h3 : d 3 = true := hk 3 (by decide +kernel)
        have h4 : d 4 = true := hk 4 (by decide +kernel)
        have h5 : d 5 = true := hk 5 (by decide +kernel)
        obtain rfl := c0 h0
        obtain rfl := c1 h1
        obtain rfl := c2 h2
        have hs3 := (c3 h3).1
        obtain rfl := (c3 h3).2.1
        apply wpOp_at
        case ho => rfl
        intro K hK
        simp only [putAll, Act.put, qA, qB, qC]
        go_simp
        refine hK _ _ ⟨(.pointer (some ⟨w1.heap.size, 3, none⟩)), uv, (.pointer (some ⟨gr, 0, none⟩)), (.int .i64 u), e4, e5, (.pointer (some ⟨w1.heap.size, 3, none⟩)), ?_, hB, c0, c1, c2, fun _ => ⟨hs3, rfl, fun h => absurd (h4.symm.trans h) (by decide)⟩, c4, c5, fun _ => rfl, c7, kS, kA⟩
        simp only [putAll, Act.put, qA, qB, qC]
        all_goals rfl
      | 7, _, hd, hk =>
        have h0 : d 0 = true := hk 0 (by decide +kernel)
        have h1 : d 1 = true := hk 1 (by decide +kernel)
        have h2 : d 2 = true := hk 2 (by decide +kernel)
        have h3 : d 3 = true := hk 3 (by decide +kernel)
        have h4 : d 4 = true := hk 4 (by decide +kernel)
        have h5 : d 5 = true := hk 5 (by decide +kernel)
        have h6 : d 6 = true := hk 6 (by decide +kernel)
        obtain rfl := c0 h0
        obtain rfl := c1 h1
        obtain rfl := c2 h2
        obtain rfl := c6 h6
        obtain ⟨-, -, -, A5, C5, rfl, hp5⟩ := c5 h5
        have hP := hp5 hd
        have hcc := hP.r5.cell 3
        have hff := hP.r5.free 3
        have hs3 := (c3 h3).1
        obtain rfl := (c3 h3).2.1
        have hP9 := hP.set (i := 3) (u := .slice A5 (k + 1) C5) (ct' := (.slice A1 (k + 1) C1)) (cu' := (.slice A5 (k + 1) C5)) (ci' := iv) (by simp only [List.setIfInBounds_toArray, List.set_cons_zero, List.set_cons_succ])
        apply wpOp_at
        case ho => rfl
        intro K hK
        simp only [putAll, Act.put, qA, qB, qC]
        go_simp
        refine hK _ _ ⟨(.pointer (some ⟨w1.heap.size, 3, none⟩)), uv, (.pointer (some ⟨gr, 0, none⟩)), (.int .i64 u), e4, .slice A5 (k + 1) C5, (.pointer (some ⟨w1.heap.size, 3, none⟩)), ?_, hP9.bl, c0, c1, c2, fun _ => ⟨hs3, rfl, fun h => absurd (h4.symm.trans h) (by decide)⟩, fun _ => ⟨h3, fun h => absurd (h5.symm.trans h) (by decide)⟩, fun _ => ⟨h1, h3, h4, A5, C5, rfl, fun h => Bool.noConfusion (show true = false from h)⟩, c6, fun _ => ⟨h1, h3, h4, h5, A5, C5, hP9⟩, fun h => absurd (h3.symm.trans h) (by decide), fun h => Bool.noConfusion (show true = false from h)⟩
        simp only [putAll, Act.put, qA, qB, qC]
        all_goals rfl
      | k + 8, hi, _, _ => exact absurd hi (by simp)
     case ends =>
      intro d a' wb hJ hall
      obtain ⟨e0, e1, e2, e3, e4, e5, e6, rfl, hC⟩ := hJ
      obtain ⟨hB, hC⟩ := hC
      obtain ⟨c0, hC⟩ := hC
      obtain ⟨c1, hC⟩ := hC
      obtain ⟨c2, hC⟩ := hC
      obtain ⟨c3, hC⟩ := hC
      obtain ⟨c4, hC⟩ := hC
      obtain ⟨c5, hC⟩ := hC
      obtain ⟨c6, hC⟩ := hC
      obtain ⟨c7, hC⟩ := hC
      obtain ⟨kS, hC⟩ := hC
      have kA := hC
      clear hC
      obtain ⟨-, -, -, -, A2, C2, hP7⟩ := c7 (hall 7 (by decide +kernel))
      have hs3 := (c3 (hall 3 (by decide +kernel))).1
      have HP7 := Lib.hid hP7
      have HS3 := Lib.hid hs3
      clear hP7 hs3
      clear c0 c1 c2 c3 c4 c5 c6 c7 kS kA hall hB
      simp only [putAll, Act.put, qA, qB, qC]
      go_wp2_with fail
      refine wp_region_each_at ?hm ?hb (fun a0 d a' w' => ∃ (e0 e1 e2 e3 e4 e5 e6 : Value), a' = putAll a0 [(31, e0), (32, e1), (33, e2), (34, e3), (35, e4), (36, e5), (37, e6)] ∧ Below w0.heap.size w0 w' ∧ (d 0 = true → e0 = (.pointer (some ⟨w1.heap.size, 4, none⟩))) ∧ (d 1 = true → iv = e1) ∧ (d 2 = true → e2 = (.pointer (some ⟨gr, 0, none⟩))) ∧ (d 3 = true → ((rdS s2 2).2 = false ∧ e3 = (.int .i64 i9) ∧ (d 4 = false → AuP w0 gr W W.heap.size w1.heap.size (rdS s2 2).1 tr ph F (.slice A1 (k + 1) C1) (.slice A2 (k + 1) C2) iv (.slice A1 (k + 1) C1) (.slice A2 (k + 1) C2) iv (k + 1) (k + 1) k w'))) ∧ (d 4 = true → (d 3 = true ∧ (d 5 = false → ∃ gb, e4 = .slice (some ⟨gb, 0, none⟩) 1 1 ∧ Whole w' gb 2 #[(.int .i64 i9)] ∧ w1.heap.size + 1 ≤ w'.heap.size ∧ AuP w0 gr W W.heap.size w1.heap.size (rdS s2 2).1 tr ph F (.slice A1 (k + 1) C1) (.slice A2 (k + 1) C2) iv (.slice A1 (k + 1) C1) (.slice A2 (k + 1) C2) iv (k + 1) (k + 1) k w'))) ∧ (d 5 = true → (d 1 = true ∧ d 3 = true ∧ d 4 = true ∧ ∃ A C, e5 = .slice A (k + 1) C ∧ (d 7 = false → AuP w0 gr W W.heap.size w1.heap.size (rdS s2 2).1 tr ph F (.slice A1 (k + 1) C1) (.slice A2 (k + 1) C2) iv (.slice A1 (k + 1) C1) (.slice A2 (k + 1) C2) (.slice A (k + 1) C) (k + 1) (k + 1) (k + 1) w'))) ∧ (d 6 = true → e6 = (.pointer (some ⟨w1.heap.size, 4, none⟩))) ∧ (d 7 = true → (d 1 = true ∧ d 3 = true ∧ d 4 = true ∧ d 5 = true ∧ ∃ A C, AuP w0 gr W W.heap.size w1.heap.size (rdS s2 2).1 tr ph F (.slice A1 (k + 1) C1) (.slice A2 (k + 1) C2) (.slice A (k + 1) C) (.slice A1 (k + 1) C1) (.slice A2 (k + 1) C2) (.slice A (k + 1) C) (k + 1) (k + 1) (k + 1) w')) ∧ (d 3 = false → AuP w0 gr W W.heap.size w1.heap.size (rdS s2 1).1 tr ph F (.slice A1 (k + 1) C1) (.slice A2 (k + 1) C2) iv (.slice A1 (k + 1) C1) (.slice A2 (k + 1) C2) iv (k + 1) (k + 1) k w') ∧ (d 7 = false → Whole w' w1.heap.size 35 #[.int .i64 tr, .int .i64 ph, (.slice A1 (k + 1) C1), (.slice A2 (k + 1) C2), iv, .bool false])) ?h0 ?step ?ends
      case hm => kernel_rfl
      case hb => kernel_rfl
      case h0 =>
       refine ⟨u31, u32, u33, u34, u35, u36, u37, ?_, (HP7.out.bl).drew, fun h => absurd h (by decide), fun h => absurd h (by decide), fun h => absurd h (by decide), fun h => absurd h (by decide), fun h => absurd h (by decide), fun h => absurd h (by decide), fun h => absurd h (by decide), fun h => absurd h (by decide), fun _ => HP7.out.later (Below.refl _ _).drew, fun _ => (HP7.out.later (Below.refl _ _).drew).r5⟩
       simp only [putAll, Act.put, qA, qB, qC]
      case step =>
       intro i d a' w' hi hJ hd hk
       obtain ⟨e0, e1, e2, e3, e4, e5, e6, rfl, hC⟩ := hJ
       obtain ⟨hB, hC⟩ := hC
       obtain ⟨c0, hC⟩ := hC
       obtain ⟨c1, hC⟩ := hC
       obtain ⟨c2, hC⟩ := hC
       obtain ⟨c3, hC⟩ := hC
       obtain ⟨c4, hC⟩ := hC
       obtain ⟨c5, hC⟩ := hC
       obtain ⟨c6, hC⟩ := hC
       obtain ⟨c7, hC⟩ := hC
       obtain ⟨kS, hC⟩ := hC
       have kA := hC
       clear hC
       match i, hi, hd, hk with
       | 0, _, hd, hk =>
         apply wpOp_at
         case ho => rfl
         intro K hK
         simp only [putAll, Act.put, qA, qB, qC]
         go_simp
         refine hK _ _ ⟨(.pointer (some ⟨w1.heap.size, 4, none⟩)), e1, e2, e3, e4, e5, e6, ?_, hB, fun _ => rfl, c1, c2, c3, c4, c5, c6, c7, kS, kA⟩
         simp only [putAll, Act.put, qA, qB, qC]
         all_goals rfl
       | 1, _, hd, hk =>
         have h0 : d 0 = true := hk 0 (by decide +kernel)
         obtain rfl := c0 h0
         have hd7 : d 7 = false := (Bool.eq_false_or_eq_true (d 7)).elim (fun h => absurd ((c7 h).1.symm.trans hd) (by decide)) id
         have hcc := (kA hd7).cell 4
         apply wpOp_at
         case ho => rfl
         intro K hK
         simp only [putAll, Act.put, qA, qB, qC]
         go_simp
         refine hK _ _ ⟨(.pointer (some ⟨w1.heap.size, 4, none⟩)), iv, e2, e3, e4, e5, e6, ?_, hB, c0, fun _ => rfl, c2, c3, c4, fun h => absurd ((c5 h).1.symm.trans hd) (by decide), c6, fun h => absurd ((c7 h).1.symm.trans hd) (by decide), kS, kA⟩
         simp only [putAll, Act.put, qA, qB, qC]
         all_goals rfl
       | 2, _, hd, hk =>
         apply wpOp_at
         case ho => rfl
         intro K hK
         simp only [putAll, Act.put, qA, qB, qC]
         go_simp
         refine hK _ _ ⟨e0, e1, (.pointer (some ⟨gr, 0, none⟩)), e3, e4, e5, e6, ?_, hB, c0, c1, fun _ => rfl, c3, c4, c5, c6, c7, kS, kA⟩
         simp only [putAll, Act.put, qA, qB, qC]
         all_goals rfl
       | 3, _, hd, hk =>
         have h2 : d 2 = true := hk 2 (by decide +kernel)
         obtain rfl := c2 h2
         apply wpOp_at
         case ho => rfl
         intro K hK
         simp only [putAll, Act.put, qA, qB, qC]
         go_simp
         have hlk := knum_at w0 gr s2 1 w' HS3.out (kS hd).rd hB
         rw [Hi.out] at hlk
         refine hlk.mono ?_
         clear hlk
         rintro e w'' ⟨hG, ⟨hs, rfl, hR⟩ | ⟨hs, rfl⟩⟩
         rotate_left 1
         · have hf := Bad.out hs
           exact ⟨rfl, (kS hd).bg.trans hG, Or.inr ⟨hf, rfl⟩⟩
         have hBb := hG.from hB hg
         have hP3 := (kS hd).read hG hR
         refine hK _ _ ⟨e0, e1, (.pointer (some ⟨gr, 0, none⟩)), (.int .i64 i9), e4, e5, e6, ?_, hBb, c0, c1, c2, fun _ => ⟨hs, rfl, fun _ => hP3⟩, fun h => absurd ((c4 h).1.symm.trans hd) (by decide), fun h => absurd ((c5 h).2.1.symm.trans hd) (by decide), c6, fun h => absurd ((c7 h).2.1.symm.trans hd) (by decide), fun h => Bool.noConfusion (show true = false from h), fun _ => hP3.r5⟩
         simp only [putAll, Act.put, qA, qB, qC]
         all_goals rfl
       | 4, _, hd, hk =>
         have h3 : d 3 = true := hk 3 (by decide +kernel)
         obtain ⟨hs3, rfl, hP3⟩ := c3 h3
         have hP := hP3 hd
         apply wpOp_at
         case ho => rfl
         intro K hK
         simp only [putAll, Act.put, qA, qB, qC]
         go_simp
         have hb := below_box w' (.cells #[(.int .i64 i9)] 2)
         have hMb := Whole.made w' 2 #[(.int .i64 i9)]
         have hPb := hP.later hb
         refine hK _ _ ⟨e0, e1, e2, (.int .i64 i9), .slice (some ⟨w'.heap.size, 0, none⟩) 1 1, e5, e6, ?_, hB.trans (hb.mono hB.size), c0, c1, c2, fun _ => ⟨hs3, rfl, fun h => Bool.noConfusion (show true = false from h)⟩, fun _ => ⟨h3, fun _ => ⟨_, rfl, hMb, hPb.r5.lt, hPb⟩⟩, fun h => absurd ((c5 h).2.2.1.symm.trans hd) (by decide), c6, fun h => absurd ((c7 h).2.2.1.symm.trans hd) (by decide), fun h => absurd (h3.symm.trans h) (by decide), fun _ => hPb.r5⟩
         simp only [putAll, Act.put, qA, qB, qC]
         all_goals rfl
       | 5, _, hd, hk =>
         have h1 : d 1 = true := hk 1 (by decide +kernel)
         have h3 : d 3 = true := hk 3 (by decide +kernel)
         have h4 : d 4 = true := hk 4 (by decide +kernel)
         obtain rfl := c1 h1
         obtain ⟨-, hp4⟩ := c4 h4
         obtain ⟨gb, rfl, hMb, hgb, hP⟩ := hp4 hd
         obtain ⟨A9, C9, w9, hrun, q1, q2, q3⟩ := num_push_at (E := fun i => (F i).2.2) (k := k) (x := i9) HF3.out hP.oi hMb (by omega) hgb
         obtain ⟨hf5, hv5, hw5⟩ := fine_of hrun
         have hP9 := hP.pushI q1 q2 q3
         have hs3 := (c3 h3).1
         obtain rfl := (c3 h3).2.1
         clear hrun hp4 hMb
         apply wpOp_at
         case ho => rfl
         intro K hK
         simp only [putAll, Act.put, qA, qB, qC]
         go_simp
         refine hK _ _ ⟨e0, iv, e2, (.int .i64 i9), .slice (some ⟨gb, 0, none⟩) 1 1, .slice A9 (k + 1) C9, e6, ?_, hP9.bl, c0, c1, c2, fun _ => ⟨hs3, rfl, fun h => absurd (h4.symm.trans h) (by decide)⟩, fun _ => ⟨h3, fun h => Bool.noConfusion (show true = false from h)⟩, fun _ => ⟨h1, h3, h4, A9, C9, rfl, fun _ => hP9⟩, c6, fun h => absurd ((c7 h).2.2.2.1.symm.trans hd) (by decide), fun h => absurd (h3.symm.trans h) (by decide), fun _ => hP9.r5⟩
         simp only [putAll, Act.put, qA, qB, qC]
         all_goals rfl
       | 6, _, hd, hk =>
         have h0 : d 0 = true := hk 0 (by decide +kernel)
         have h1 : d 1 = true := hk 1 (by decide +kernel)
         have h2 : d 2 = true := hk 2 (by decide +kernel)
         have h3 : d 3 = true := hk 3 (by decide +kernel)
         have h4 : d 4 = true := hk 4 (by decide +kernel)
         have h5 : d 5 = true := hk 5 (by decide +kernel)
         obtain rfl := c0 h0
         obtain rfl := c1 h1
         obtain rfl := c2 h2
         have hs3 := (c3 h3).1
         obtain rfl := (c3 h3).2.1
         apply wpOp_at
         case ho => rfl
         intro K hK
         simp only [putAll, Act.put, qA, qB, qC]
         go_simp
         refine hK _ _ ⟨(.pointer (some ⟨w1.heap.size, 4, none⟩)), iv, (.pointer (some ⟨gr, 0, none⟩)), (.int .i64 i9), e4, e5, (.pointer (some ⟨w1.heap.size, 4, none⟩)), ?_, hB, c0, c1, c2, fun _ => ⟨hs3, rfl, fun h => absurd (h4.symm.trans h) (by decide)⟩, c4, c5, fun _ => rfl, c7, kS, kA⟩
         simp only [putAll, Act.put, qA, qB, qC]
         all_goals rfl
       | 7, _, hd, hk =>
         have h0 : d 0 = true := hk 0 (by decide +kernel)
         have h1 : d 1 = true := hk 1 (by decide +kernel)
         have h2 : d 2 = true := hk 2 (by decide +kernel)
         have h3 : d 3 = true := hk 3 (by decide +kernel)
         have h4 : d 4 = true := hk 4 (by decide +kernel)
         have h5 : d 5 = true := hk 5 (by decide +kernel)
         have h6 : d 6 = true := hk 6 (by decide +kernel)
         obtain rfl := c0 h0
         obtain rfl := c1 h1
         obtain rfl := c2 h2
         obtain rfl := c6 h6
         obtain ⟨-, -, -, A5, C5, rfl, hp5⟩ := c5 h5
         have hP := hp5 hd
         have hcc := hP.r5.cell 4
         have hff := hP.r5.free 4
         have hs3 := (c3 h3).1
         obtain rfl := (c3 h3).2.1
         have hP9 := hP.set (i := 4) (u := .slice A5 (k + 1) C5) (ct' := (.slice A1 (k + 1) C1)) (cu' := (.slice A2 (k + 1) C2)) (ci' := (.slice A5 (k + 1) C5)) (by simp only [List.setIfInBounds_toArray, List.set_cons_zero, List.set_cons_succ])
         apply wpOp_at
         case ho => rfl
         intro K hK
         simp only [putAll, Act.put, qA, qB, qC]
         go_simp
         refine hK _ _ ⟨(.pointer (some ⟨w1.heap.size, 4, none⟩)), iv, (.pointer (some ⟨gr, 0, none⟩)), (.int .i64 i9), e4, .slice A5 (k + 1) C5, (.pointer (some ⟨w1.heap.size, 4, none⟩)), ?_, hP9.bl, c0, c1, c2, fun _ => ⟨hs3, rfl, fun h => absurd (h4.symm.trans h) (by decide)⟩, fun _ => ⟨h3, fun h => absurd (h5.symm.trans h) (by decide)⟩, fun _ => ⟨h1, h3, h4, A5, C5, rfl, fun h => Bool.noConfusion (show true = false from h)⟩, c6, fun _ => ⟨h1, h3, h4, h5, A5, C5, hP9⟩, fun h => absurd (h3.symm.trans h) (by decide), fun h => Bool.noConfusion (show true = false from h)⟩
         simp only [putAll, Act.put, qA, qB, qC]
         all_goals rfl
       | k + 8, hi, _, _ => exact absurd hi (by simp)
      case ends =>
       intro d a' wc hJ hall
       obtain ⟨e0, e1, e2, e3, e4, e5, e6, rfl, hC⟩ := hJ
       obtain ⟨hB, hC⟩ := hC
       obtain ⟨c0, hC⟩ := hC
       obtain ⟨c1, hC⟩ := hC
       obtain ⟨c2, hC⟩ := hC
       obtain ⟨c3, hC⟩ := hC
       obtain ⟨c4, hC⟩ := hC
       obtain ⟨c5, hC⟩ := hC
       obtain ⟨c6, hC⟩ := hC
       obtain ⟨c7, hC⟩ := hC
       obtain ⟨kS, hC⟩ := hC
       have kA := hC
       clear hC
       obtain ⟨-, -, -, -, A3, C3, hP8⟩ := c7 (hall 7 (by decide +kernel))
       have hs4 := (c3 (hall 3 (by decide +kernel))).1
       have HP8 := Lib.hid hP8
       have HS4 := Lib.hid hs4
       clear hP8 hs4
       clear c0 c1 c2 c3 c4 c5 c6 c7 kS kA hall hB
       simp only [putAll, Act.put, qA, qB, qC]
       go_wp2_with fail
       go_roundw
       case rel => exact ⟨k + 1, _, _, _, by omega, by go_num, by show (tS s1 (k + 1)).2 = false; rw [HT.out]; exact HS4.out, by show AuP _ _ _ _ _ (tS s1 (k + 1)).1 _ _ _ _ _ _ _ _ _ _ _ _ _; rw [HT.out]; exact HP8.out⟩
       case measure => simp [intOf]; omega
  · obtain rfl : k = N := by omega
    obtain ⟨⟨mv, se⟩, HFe⟩ : ∃ q, Hid (rdF (tS s1 k) = q) := ⟨_, rfl⟩
    have hlk := kflag_calls w0 gr (tS s1 k).1 wr HP.out.rd HP.out.bl
    rw [show ((tS s1 k).1, false) = tS s1 k from Prod.ext rfl HS.out.symm, HFe.out] at hlk
    have HLK := Lib.hid hlk
    clear hlk
    obtain ⟨A1, C1, e1, E1, g1⟩ := own_bounds HP.out.ot (by omega)
    obtain ⟨A2, C2, e2, E2, g2⟩ := own_bounds HP.out.ou (by omega)
    obtain ⟨A3, C3, e3, E3, g3⟩ := own_bounds HP.out.oi (by omega)
    subst e1; subst e2; subst e3
    clear E1 E2 E3
    have G1 := Lib.hid g1; have G2 := Lib.hid g2; have G3 := Lib.hid g3
    clear g1 g2 g3
    go_wp2_with fail
    refine HLK.out.mono ?_
    rintro e w3 ⟨hG, ⟨hs, rfl, hR⟩ | ⟨hs, rfl⟩⟩
    rotate_left 1
    · have hf : res.2.2 = true := by rw [he.out, HFe.out]; exact hs
      have HB9 := Lib.hid (HP.out.bg.trans hG)
      clear hs hG HLK
      go_wp2_with fail
      exact ⟨rfl, HB9.out, Or.inr ⟨hf, rfl⟩⟩
    have HP3 := Lib.hid (HP.out.read hG hR)
    have HSe := Lib.hid hs
    clear hs hG hR HLK HP
    have a0 := HP3.out.r5.cell 0; have a1 := HP3.out.r5.cell 1; have a2 := HP3.out.r5.cell 2; have a3 := HP3.out.r5.cell 3; have a4 := HP3.out.r5.cell 4; have a5 := HP3.out.r5.cell 5
    have b0 := HP3.out.r4.cell 0; have b1 := HP3.out.r4.cell 1; have b2 := HP3.out.r4.cell 2; have b3 := HP3.out.r4.cell 3; have b4 := HP3.out.r4.cell 4; have b5 := HP3.out.r4.cell 5
    have f0 := HP3.out.r4.free 0; have f1 := HP3.out.r4.free 1; have f2 := HP3.out.r4.free 2; have f3 := HP3.out.r4.free 3; have f4 := HP3.out.r4.free 4; have f5 := HP3.out.r4.free 5; have f6 := HP3.out.r5.free 5
    have hne : W.heap.size ≠ w1.heap.size := by omega
    have hne' : w1.heap.size ≠ W.heap.size := by omega
    go_wp2_with fail
    have hr4 := ((((((HP3.out.r4.other (p := ⟨w1.heap.size, 5, none⟩) hne (.bool mv)).set 0 (.int .i64 tr)).set 1 (.int .i64 ph)).set 2 (.slice A1 k C1)).set 3 (.slice A2 k C2)).set 4 (.slice A3 k C3)).set 5 (.bool mv)
    simp only [List.setIfInBounds_toArray, List.set_cons_zero, List.set_cons_succ] at hr4
    have q0 := hr4.cell 0; have q1 := hr4.cell 1; have q2 := hr4.cell 2; have q3 := hr4.cell 3; have q4 := hr4.cell 4; have q5 := hr4.cell 5
    have ET := own_bounds (own_low (own_low (own_low (own_low (own_low (own_low (own_low HP3.out.ot (p := ⟨w1.heap.size, 5, none⟩) (by show w1.heap.size < w1.heap.size + 1; omega) (.bool mv)) (p := ⟨W.heap.size, 0, none⟩) (by show W.heap.size < w1.heap.size + 1; omega) (.int .i64 tr)) (p := ⟨W.heap.size, 1, none⟩) (by show W.heap.size < w1.heap.size + 1; omega) (.int .i64 ph)) (p := ⟨W.heap.size, 2, none⟩) (by show W.heap.size < w1.heap.size + 1; omega) (.slice A1 k C1)) (p := ⟨W.heap.size, 3, none⟩) (by show W.heap.size < w1.heap.size + 1; omega) (.slice A2 k C2)) (p := ⟨W.heap.size, 4, none⟩) (by show W.heap.size < w1.heap.size + 1; omega) (.slice A3 k C3)) (p := ⟨W.heap.size, 5, none⟩) (by show W.heap.size < w1.heap.size + 1; omega) (.bool mv)) (by omega)
    have EU := own_bounds (own_low (own_low (own_low (own_low (own_low (own_low (own_low HP3.out.ou (p := ⟨w1.heap.size, 5, none⟩) (by show w1.heap.size < w1.heap.size + 1; omega) (.bool mv)) (p := ⟨W.heap.size, 0, none⟩) (by show W.heap.size < w1.heap.size + 1; omega) (.int .i64 tr)) (p := ⟨W.heap.size, 1, none⟩) (by show W.heap.size < w1.heap.size + 1; omega) (.int .i64 ph)) (p := ⟨W.heap.size, 2, none⟩) (by show W.heap.size < w1.heap.size + 1; omega) (.slice A1 k C1)) (p := ⟨W.heap.size, 3, none⟩) (by show W.heap.size < w1.heap.size + 1; omega) (.slice A2 k C2)) (p := ⟨W.heap.size, 4, none⟩) (by show W.heap.size < w1.heap.size + 1; omega) (.slice A3 k C3)) (p := ⟨W.heap.size, 5, none⟩) (by show W.heap.size < w1.heap.size + 1; omega) (.bool mv)) (by omega)
    have EI := own_bounds (own_low (own_low (own_low (own_low (own_low (own_low (own_low HP3.out.oi (p := ⟨w1.heap.size, 5, none⟩) (by show w1.heap.size < w1.heap.size + 1; omega) (.bool mv)) (p := ⟨W.heap.size, 0, none⟩) (by show W.heap.size < w1.heap.size + 1; omega) (.int .i64 tr)) (p := ⟨W.heap.size, 1, none⟩) (by show W.heap.size < w1.heap.size + 1; omega) (.int .i64 ph)) (p := ⟨W.heap.size, 2, none⟩) (by show W.heap.size < w1.heap.size + 1; omega) (.slice A1 k C1)) (p := ⟨W.heap.size, 3, none⟩) (by show W.heap.size < w1.heap.size + 1; omega) (.slice A2 k C2)) (p := ⟨W.heap.size, 4, none⟩) (by show W.heap.size < w1.heap.size + 1; omega) (.slice A3 k C3)) (p := ⟨W.heap.size, 5, none⟩) (by show W.heap.size < w1.heap.size + 1; omega) (.bool mv)) (by omega)
    clear hr4 a0 a1 a2 a3 a4 a5 b0 b1 b2 b3 b4 b5 f0 f1 f2 f3 f4 f5 f6
    obtain ⟨A1', C1', e1, E1, -⟩ := ET
    obtain ⟨A2', C2', e2, E2, -⟩ := EU
    obtain ⟨A3', C3', e3, E3, -⟩ := EI
    simp only [Value.slice.injEq, true_and] at e1 e2 e3
    obtain ⟨rfl, rfl⟩ := e1
    obtain ⟨rfl, rfl⟩ := e2
    obtain ⟨rfl, rfl⟩ := e3
    refine bodyPost_ret (v := auAt (⟨tr, ph, (List.range k).map fun i => (F i).1, (List.range k).map fun i => (F i).2.1, (List.range k).map fun i => (F i).2.2, mv⟩ : Au) (⟨A1, k, C1, A2, k, C2, A3, k, C3⟩ : Al)) (by simp [results, Tryz.results67, go_sem, q0, q1, q2, q3, q4, q5]) rfl ⟨(((((((HP3.out.bg.own (p := ⟨w1.heap.size, 5, none⟩) (by show W.heap.size ≤ w1.heap.size; omega) _).own (p := ⟨W.heap.size, 0, none⟩) (by show W.heap.size ≤ W.heap.size; omega) _).own (p := ⟨W.heap.size, 1, none⟩) (by show W.heap.size ≤ W.heap.size; omega) _).own (p := ⟨W.heap.size, 2, none⟩) (by show W.heap.size ≤ W.heap.size; omega) _).own (p := ⟨W.heap.size, 3, none⟩) (by show W.heap.size ≤ W.heap.size; omega) _).own (p := ⟨W.heap.size, 4, none⟩) (by show W.heap.size ≤ W.heap.size; omega) _).own (p := ⟨W.heap.size, 5, none⟩) (by show W.heap.size ≤ W.heap.size; omega) _), Or.inl ⟨by rw [he.out, HFe.out]; exact HSe.out, ⟨(⟨A1, k, C1, A2, k, C2, A3, k, C3⟩ : Al), by rw [he.out, HFe.out, HF.out], ?_, fun ad h => Nat.le_trans (by omega) (G1.out ad h), fun ad h => Nat.le_trans (by omega) (G2.out ad h), fun ad h => Nat.le_trans (by omega) (G3.out ad h)⟩, by rw [he.out, HFe.out]; exact (((((((HP3.out.rd.set (p := ⟨w1.heap.size, 5, none⟩) (by show w1.heap.size ≠ gr; omega) _).set (p := ⟨W.heap.size, 0, none⟩) (by show W.heap.size ≠ gr; omega) _).set (p := ⟨W.heap.size, 1, none⟩) (by show W.heap.size ≠ gr; omega) _).set (p := ⟨W.heap.size, 2, none⟩) (by show W.heap.size ≠ gr; omega) _).set (p := ⟨W.heap.size, 3, none⟩) (by show W.heap.size ≠ gr; omega) _).set (p := ⟨W.heap.size, 4, none⟩) (by show W.heap.size ≠ gr; omega) _).set (p := ⟨W.heap.size, 5, none⟩) (by show W.heap.size ≠ gr; omega) _)⟩⟩
    rw [he.out, HFe.out]
    exact ⟨⟨(range_mk_len _ _).symm, bools_mk E1⟩, ⟨(range_mk_len _ _).symm, nums_mk E2⟩, (range_mk_len _ _).symm, nums_mk E3⟩
end Go.Proofs.YtnkgakhnlbifdaaGreat
