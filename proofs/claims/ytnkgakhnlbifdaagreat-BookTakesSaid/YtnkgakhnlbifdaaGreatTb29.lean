/- Parts, as far as BookTakesCards reaches them, of: BookBook. No law is proved here. -/
import Derived.Test.YtnkgakhnlbifdaaGreatTb25
import Derived.Test.YtnkgakhnlbifdaaGreatTb28
import Derived.Test.YtnkgakhnlbifdaaGreatTb24
import Derived.Test.YtnkgakhnlbifdaaGreatTb2
import Derived.Laws.EntriesVeiled
import Derived.Test.YtnkgakhnlbifdaaGreatTbQ
namespace Go.Proofs.YtnkgakhnlbifdaaGreat
open Go.RowKit
def FarB (B L : Nat) (rows : List Rw) (v : Value) (w : World) : Prop := ∃ A C, v = .slice A L C ∧ L = rows.length ∧ BooksFar B w (.slice A L C) rows
def FarQ (B n : Nat) (l : List Rq) (v : Value) (w : World) : Prop := ∃ A C, v = .slice A n C ∧ n = l.length ∧ Line w (.slice A n C) l ∧ ∀ ad, A = some ad → B ≤ ad.block
def FarN (B n : Nat) (l : List Nt) (v : Value) (w : World) : Prop := ∃ A C, v = .slice A n C ∧ n = l.length ∧ Notes w (.slice A n C) l ∧ ∀ ad, A = some ad → B ≤ ad.block
def AuFar (B : Nat) (x : Au) (p : Al) (w : World) : Prop := AuIn w p x ∧ (∀ ad, p.a1 = some ad → B ≤ ad.block) ∧ (∀ ad, p.a2 = some ad → B ≤ ad.block) ∧ (∀ ad, p.a3 = some ad → B ≤ ad.block)
def FarA (B : Nat) (x : Au) (v : Value) (w : World) : Prop := ∃ p : Al, v = auAt x p ∧ AuFar B x p w
section
variable {gr B n : Nat} {v : Value} {w w' : World}
theorem far_ne {A : Option Addr} (h : ∀ ad, A = some ad → B ≤ ad.block) (hg : gr < B) : ∀ ad, A = some ad → ad.block ≠ gr := fun ad ha => by have := h ad ha; omega
theorem BooksFar.butG {l : List Rw} (h : BooksFar B w v l) (k : ButG gr w w') (hg : gr < B) : BooksFar B w' v l :=
 ⟨h.2 w' k.size fun g h1 h2 => k.2 g h2 (by omega), fun W hs hW => h.2 W (Nat.le_trans k.size hs) fun g h1 h2 => (hW g h1 (Nat.lt_of_lt_of_le h2 k.size)).trans (k.2 g h2 (by omega))⟩
theorem FarB.butG {l : List Rw} (h : FarB B n l v w) (k : ButG gr w w') (hg : gr < B) : FarB B n l v w' := by
 obtain ⟨A, C, h1, h2, h3⟩ := h
 exact ⟨A, C, h1, h2, h3.butG k hg⟩
theorem FarQ.butG {l : List Rq} (h : FarQ B n l v w) (k : ButG gr w w') (hg : gr < B) : FarQ B n l v w' := by
 obtain ⟨A, C, h1, h2, h3, h4⟩ := h
 exact ⟨A, C, h1, h2, Elems.butG h3 k (far_ne h4 hg), h4⟩
theorem FarN.butG {l : List Nt} (h : FarN B n l v w) (k : ButG gr w w') (hg : gr < B) : FarN B n l v w' := by
 obtain ⟨A, C, h1, h2, h3, h4⟩ := h
 exact ⟨A, C, h1, h2, Elems.butG h3 k (far_ne h4 hg), h4⟩
theorem bk12_but {g : Nat} {W : World} {x : Bk} {rv lv ov nv tv uv iv : Value} (h : ButG gr W w) (hg : W.heap.size ≤ g) : ButG gr W (bk12 w g x rv lv ov nv tv uv iv) :=
 ((((((((((((h.own (p := ⟨g, 0, none⟩) hg _).own (p := ⟨g, 1, none⟩) hg _).own (p := ⟨g, 2, none⟩) hg _).own (p := ⟨g, 3, none⟩) hg _).own (p := ⟨g, 4, none⟩) hg _).own (p := ⟨g, 5, none⟩) hg _).own (p := ⟨g, 6, none⟩) hg _).own (p := ⟨g, 7, none⟩) hg _).own (p := ⟨g, 8, none⟩) hg _).own (p := ⟨g, 9, none⟩) hg _).own (p := ⟨g, 10, none⟩) hg _).own (p := ⟨g, 11, none⟩) hg _)
theorem bk12_rd {w0 : World} {z : List Int} {g : Nat} {x : Bk} {rv lv ov nv tv uv iv : Value} (h : Rd w0 gr z w) (hg : g ≠ gr) : Rd w0 gr z (bk12 w g x rv lv ov nv tv uv iv) :=
 ((((((((((((h.set (p := ⟨g, 0, none⟩) hg _).set (p := ⟨g, 1, none⟩) hg _).set (p := ⟨g, 2, none⟩) hg _).set (p := ⟨g, 3, none⟩) hg _).set (p := ⟨g, 4, none⟩) hg _).set (p := ⟨g, 5, none⟩) hg _).set (p := ⟨g, 6, none⟩) hg _).set (p := ⟨g, 7, none⟩) hg _).set (p := ⟨g, 8, none⟩) hg _).set (p := ⟨g, 9, none⟩) hg _).set (p := ⟨g, 10, none⟩) hg _).set (p := ⟨g, 11, none⟩) hg _)
end
theorem rdB_len {c : Cf} {s : List Int × Bool} : (rdB c s).2.1.length ≤ s.1.length := by
 obtain ⟨z, b⟩ := s
 rcases hx : takeB c z with _ | ⟨l, rest⟩
 · rw [rdB_no hx]; exact Nat.zero_le _
 · rw [rdB_yes hx]
   have h := congrArg List.length (takeB_some hx).2
   rw [List.length_append] at h
   simp only
   omega
theorem rdB_flag {c : Cf} {s : List Int × Bool} (h : s.2 = true) : (rdB c s).2.2 = true := by
 obtain ⟨z, b⟩ := s
 simp only at h
 subst h
 rcases hx : takeB c z with _ | ⟨l, rest⟩
 · rw [rdB_no hx]
 · rw [rdB_yes hx]
theorem goAu_flag {N : Nat} {s : List Int × Bool} (h : s.2 = true) : (goAu N s).2.2 = true := by
 unfold goAu
 split
 · exact rdS_flag h
 · exact rdF_flag (tS_flag (k := 0) (rdS_flag h) (Nat.zero_le _))
theorem fst_same {s : List Int × Bool} (h : s.2 = false) : (s.1, false) = s := Prod.ext rfl h.symm
def ReadsK (w0 : World) (gr : Nat) (c : Cf) (who : Int) (z : List Int) (W : World) (e : Ending) (w' : World) : Prop :=
 ButG gr W w' ∧ (((goR c c.n.toNat z).2 = false ∧ (∃ p : Bl, e = .returned (bkAt (goK c who c.n.toNat z) p) ∧ BkHeld W.heap.size w' p (goK c who c.n.toNat z)) ∧ Rd w0 gr (goR c c.n.toNat z).1 w') ∨ ((goR c c.n.toNat z).2 = true ∧ e = wrongE))
set_option maxRecDepth 100000 in
set_option maxHeartbeats 16000000 in
theorem kbook_calls (w0 : World) (gr : Nat) (c : Cf) (who : Int) (z : List Int) (W : World) (hR : Rd w0 gr z W) (hb : Below w0.heap.size w0 W) (hg : w0.heap.size ≤ gr) (hlen : z.length ≤ 1000000000000) :
 Calls Tryz.prog 20 #[.pointer (some ⟨gr, 0, none⟩), cfV c, .int .i64 who] W (ReadsK w0 gr c who z W) := by
 obtain ⟨nn, q, r, p, kk, cc⟩ := c
 unfold ReadsK
 simp only
 obtain ⟨N, HNt⟩ : ∃ x, Hid (nn.toNat = x) := ⟨_, rfl⟩
 rw [HNt.out]
 obtain ⟨K, HK⟩ : ∃ x, Hid (x = goK ⟨nn, q, r, p, kk, cc⟩ who N z) := ⟨_, rfl⟩
 obtain ⟨s9, HR9⟩ : ∃ x, Hid (x = goR ⟨nn, q, r, p, kk, cc⟩ N z) := ⟨_, rfl⟩
 rw [← HK.out, ← HR9.out]
 obtain ⟨clk, Hclk⟩ : ∃ x, Hid (rdX (z, false) 0 = x) := ⟨_, rfl⟩
 obtain ⟨s1, Hs1⟩ : ∃ x, Hid (x = g1 z) := ⟨_, rfl⟩
 obtain ⟨⟨rows, s2⟩, HRB⟩ : ∃ x, Hid (rdB ⟨nn, q, r, p, kk, cc⟩ s1 = x) := ⟨_, rfl⟩
 obtain ⟨L1, HL1⟩ : ∃ x, Hid (x = rows.length) := ⟨_, rfl⟩
 obtain ⟨n1, Hn1⟩ : ∃ x, Hid (u64n (rdX s2 0) = x) := ⟨_, rfl⟩
 obtain ⟨s3, Hs3⟩ : ∃ x, Hid (x = rdS s2 1) := ⟨_, rfl⟩
 obtain ⟨s4, Hs4⟩ : ∃ x, Hid (x = rdS s3 (2 * n1)) := ⟨_, rfl⟩
 obtain ⟨line, Hline⟩ : ∃ x, Hid (x = mkP who (rdX s3) n1) := ⟨_, rfl⟩
 obtain ⟨m1, Hm1⟩ : ∃ x, Hid (u64n (rdX s4 0) = x) := ⟨_, rfl⟩
 obtain ⟨s5, Hs5⟩ : ∃ x, Hid (x = rdS s4 1) := ⟨_, rfl⟩
 obtain ⟨s6, Hs6⟩ : ∃ x, Hid (x = rdS s5 (2 * m1)) := ⟨_, rfl⟩
 obtain ⟨outs, Houts⟩ : ∃ x, Hid (x = mkP who (rdX s5) m1) := ⟨_, rfl⟩
 obtain ⟨asks, Hasks⟩ : ∃ x, Hid (rdX s6 0 = x) := ⟨_, rfl⟩
 obtain ⟨s7, Hs7⟩ : ∃ x, Hid (x = rdS s6 1) := ⟨_, rfl⟩
 obtain ⟨s8, Hs8⟩ : ∃ x, Hid (x = rdS s7 (7 * N)) := ⟨_, rfl⟩
 obtain ⟨notes, Hnotes⟩ : ∃ x, Hid (x = mkT (rdX s7) N) := ⟨_, rfl⟩
 have e2 : g2 ⟨nn, q, r, p, kk, cc⟩ z = s2 := by show (rdB ⟨nn, q, r, p, kk, cc⟩ (g1 z)).2 = s2; rw [← Hs1.out, HRB.out]
 have en : gn ⟨nn, q, r, p, kk, cc⟩ z = n1 := by show u64n (rdX (g2 ⟨nn, q, r, p, kk, cc⟩ z) 0) = n1; rw [e2]; exact Hn1.out
 have e3 : g3 ⟨nn, q, r, p, kk, cc⟩ z = s3 := by show rdS (g2 ⟨nn, q, r, p, kk, cc⟩ z) 1 = s3; rw [e2]; exact Hs3.out.symm
 have e4 : g4 ⟨nn, q, r, p, kk, cc⟩ z = s4 := by show rdS (g3 ⟨nn, q, r, p, kk, cc⟩ z) (2 * gn ⟨nn, q, r, p, kk, cc⟩ z) = s4; rw [e3, en]; exact Hs4.out.symm
 have em : gm ⟨nn, q, r, p, kk, cc⟩ z = m1 := by show u64n (rdX (g4 ⟨nn, q, r, p, kk, cc⟩ z) 0) = m1; rw [e4]; exact Hm1.out
 have e5 : g5 ⟨nn, q, r, p, kk, cc⟩ z = s5 := by show rdS (g4 ⟨nn, q, r, p, kk, cc⟩ z) 1 = s5; rw [e4]; exact Hs5.out.symm
 have e6 : g6 ⟨nn, q, r, p, kk, cc⟩ z = s6 := by show rdS (g5 ⟨nn, q, r, p, kk, cc⟩ z) (2 * gm ⟨nn, q, r, p, kk, cc⟩ z) = s6; rw [e5, em]; exact Hs6.out.symm
 have e7 : g7 ⟨nn, q, r, p, kk, cc⟩ z = s7 := by show rdS (g6 ⟨nn, q, r, p, kk, cc⟩ z) 1 = s7; rw [e6]; exact Hs7.out.symm
 have e8 : g8 ⟨nn, q, r, p, kk, cc⟩ N z = s8 := by show rdS (g7 ⟨nn, q, r, p, kk, cc⟩ z) (7 * N) = s8; rw [e7]; exact Hs8.out.symm
 obtain ⟨au, Hau⟩ : ∃ x, Hid (goAu N s8 = (x, s9)) := ⟨(goAu N s8).1, by show _ = _; rw [HR9.out]; unfold goR; rw [e8]⟩
 have HKe : Hid (K = ⟨clk, rows, line, outs, asks, notes, au⟩) := by
  show K = _
  rw [HK.out]
  unfold goK
  rw [e3, en, e5, em, e6, e7, e8, Hau.out, Hclk.out, ← Hs1.out, HRB.out, Hline.out, Houts.out, Hasks.out, Hnotes.out]
 clear e2 en e3 e4 em e5 e6 e7 e8
 have B8 : Hid (s8.2 = true → s9.2 = true) := fun h => by have := goAu_flag (N := N) h; rw [Hau.out] at this; exact this
 have B7 : Hid (s7.2 = true → s9.2 = true) := fun h => B8.out (by rw [Hs8.out]; exact rdS_flag h)
 have B6 : Hid (s6.2 = true → s9.2 = true) := fun h => B7.out (by rw [Hs7.out]; exact rdS_flag h)
 have B5 : Hid (s5.2 = true → s9.2 = true) := fun h => B6.out (by rw [Hs6.out]; exact rdS_flag h)
 have B4 : Hid (s4.2 = true → s9.2 = true) := fun h => B5.out (by rw [Hs5.out]; exact rdS_flag h)
 have B3 : Hid (s3.2 = true → s9.2 = true) := fun h => B4.out (by rw [Hs4.out]; exact rdS_flag h)
 have B2 : Hid (s2.2 = true → s9.2 = true) := fun h => B3.out (by rw [Hs3.out]; exact rdS_flag h)
 have B1 : Hid (s1.2 = true → s9.2 = true) := fun h => B2.out (by have := rdB_flag (c := ⟨nn, q, r, p, kk, cc⟩) h; rw [HRB.out] at this; exact this)
 have l1 : s1.1.length ≤ 1000000000000 := by rw [Hs1.out]; exact Nat.le_trans (rdS_len (z, false) 1) hlen
 have l2 : s2.1.length ≤ 1000000000000 := by have := rdB_len (c := ⟨nn, q, r, p, kk, cc⟩) (s := s1); rw [HRB.out] at this; exact Nat.le_trans this l1
 have l3 : s3.1.length ≤ 1000000000000 := by rw [Hs3.out]; exact Nat.le_trans (rdS_len _ _) l2
 have l4 : s4.1.length ≤ 1000000000000 := by rw [Hs4.out]; exact Nat.le_trans (rdS_len _ _) l3
 have l5 : s5.1.length ≤ 1000000000000 := by rw [Hs5.out]; exact Nat.le_trans (rdS_len _ _) l4
 have l6 : s6.1.length ≤ 1000000000000 := by rw [Hs6.out]; exact Nat.le_trans (rdS_len _ _) l5
 have l7 : s7.1.length ≤ 1000000000000 := by rw [Hs7.out]; exact Nat.le_trans (rdS_len _ _) l6
 have HL3 := Lib.hid l3; have HL5 := Lib.hid l5; have HL7 := Lib.hid l7
 clear l1 l2 l3 l4 l5 l6 l7 hlen
 have HN : Hid (s2.2 = false → nn = (N : Int) ∧ N ≤ 16 ∧ u64n nn = N) := fun h => by
  have hb := rdB_back (c := ⟨nn, q, r, p, kk, cc⟩) (z := s1.1) (b := s1.2)
  rw [show (s1.1, s1.2) = s1 from rfl, HRB.out] at hb
  have hc := (hb h).2.2.1
  have h1 : 1 ≤ nn := hc.1
  have h2 : nn ≤ 16 := hc.2.1
  have h3 : nn.toNat = N := HNt.out
  have h4 : nn = (N : Int) := by omega
  exact ⟨h4, by omega, by rw [h4]; exact u64n_nat (by omega)⟩
 have hn64 : n1 < 18446744073709551616 := by rw [← Hn1.out]; exact u64n_lt _
 have hm64 : m1 < 18446744073709551616 := by rw [← Hm1.out]; exact u64n_lt _
 have Hn64 := Lib.hid hn64; have Hm64 := Lib.hid hm64
 clear hn64 hm64
 have hgr : gr < W.heap.size := hR.lt
 obtain ⟨V1, HV1⟩ : ∃ x, Hid (x = W.alloc (.cells #[.pointer (some ⟨gr, 0, none⟩)] 95)) := ⟨_, rfl⟩
 obtain ⟨V2, HV2⟩ : ∃ x, Hid (x = V1.alloc (.cells (cfCells ⟨nn, q, r, p, kk, cc⟩) 23)) := ⟨_, rfl⟩
 obtain ⟨V3, HV3⟩ : ∃ x, Hid (x = V2.alloc (.cells #[.int .i64 who] 3)) := ⟨_, rfl⟩
 obtain ⟨V4, HV4⟩ : ∃ x, Hid (x = V3.alloc (.cells (bkCells bk0 (.slice none 0 0) (.slice none 0 0) (.slice none 0 0) (.slice none 0 0) (.slice none 0 0) (.slice none 0 0) (.slice none 0 0)) 37)) := ⟨_, rfl⟩
 obtain ⟨WS, HWS⟩ : ∃ x, Hid (x = V4.alloc (.cells #[.func (.func 57) #[] #[.pointer (some ⟨W.heap.size + 1 + 1, 0, none⟩)]] 96)) := ⟨_, rfl⟩
 have z1 : V1.heap.size = W.heap.size + 1 := by rw [HV1.out]; simp
 have z2 : V2.heap.size = W.heap.size + 1 + 1 := by rw [HV2.out]; simp; exact z1
 have z3 : V3.heap.size = W.heap.size + 1 + 1 + 1 := by rw [HV3.out]; simp; exact z2
 have z4 : V4.heap.size = W.heap.size + 1 + 1 + 1 + 1 := by rw [HV4.out]; simp; exact z3
 have z5 : WS.heap.size = W.heap.size + 1 + 1 + 1 + 1 + 1 := by rw [HWS.out]; simp; exact z4
 have w1 : Whole V1 W.heap.size 95 #[.pointer (some ⟨gr, 0, none⟩)] := by rw [HV1.out]; exact Whole.made _ _ _
 have w2 : Whole V2 (W.heap.size + 1) 23 (cfCells ⟨nn, q, r, p, kk, cc⟩) := by rw [HV2.out, ← z1]; exact Whole.made _ _ _
 have w3 : Whole V3 (W.heap.size + 1 + 1) 3 #[.int .i64 who] := by rw [HV3.out, ← z2]; exact Whole.made _ _ _
 have w4 : Whole V4 (W.heap.size + 1 + 1 + 1) 37 (bkCells bk0 (.slice none 0 0) (.slice none 0 0) (.slice none 0 0) (.slice none 0 0) (.slice none 0 0) (.slice none 0 0) (.slice none 0 0)) := by rw [HV4.out, ← z3]; exact Whole.made _ _ _
 have w5 : Whole WS (W.heap.size + 1 + 1 + 1 + 1) 96 #[.func (.func 57) #[] #[.pointer (some ⟨W.heap.size + 1 + 1, 0, none⟩)]] := by rw [HWS.out, ← z4]; exact Whole.made _ _ _
 have b1 : Below W.heap.size W V1 := by rw [HV1.out]; exact below_box _ _
 have b2 : Below V1.heap.size V1 V2 := by rw [HV2.out]; exact below_box _ _
 have b3 : Below V2.heap.size V2 V3 := by rw [HV3.out]; exact below_box _ _
 have b4 : Below V3.heap.size V3 V4 := by rw [HV4.out]; exact below_box _ _
 have b5 : Below V4.heap.size V4 WS := by rw [HWS.out]; exact below_box _ _
 have b25 := held_next (held_next b3 b4) b5
 have b15 := held_next (held_next (held_next b2 b3) b4) b5
 have bW := held_next (held_next (held_next (held_next b1 b2) b3) b4) b5
 have HE : Hid (EnvK gr W.heap.size (W.heap.size + 1 + 1) (W.heap.size + 1 + 1 + 1 + 1) who WS) := ⟨⟨by omega, by omega, by omega⟩, w1.later b15 w1.lt, w3.later (held_next b4 b5) w3.lt, w5⟩
 have HC : Hid (Whole WS (W.heap.size + 1) 23 (cfCells ⟨nn, q, r, p, kk, cc⟩)) := w2.later b25 w2.lt
 have HZ : Hid (Whole WS (W.heap.size + 1 + 1 + 1) 37 (bkCells bk0 (.slice none 0 0) (.slice none 0 0) (.slice none 0 0) (.slice none 0 0) (.slice none 0 0) (.slice none 0 0) (.slice none 0 0))) := w4.later b5 w4.lt
 have HB : Hid (ButG gr W WS) := ButG.of bW
 have HBl : Hid (Below w0.heap.size w0 WS) := held_next hb bW
 have HR0 : Hid (Rd w0 gr z WS) := hR.later bW
 clear z1 z2 z3 z4 w1 w2 w3 w4 w5 b1 b2 b3 b4 b5 b25 b15 bW hR hb
 have h0W : w0.heap.size ≤ W.heap.size := by omega
 go_enter Tryz.func20, Tryz.ntmps20
 go_wp2_with fail
 show Code.wp _ _ _ _ (((((W.alloc (.cells #[.pointer (some ⟨gr, 0, none⟩)] 95)).alloc (.cells (cfCells ⟨nn, q, r, p, kk, cc⟩) 23)).alloc (.cells #[.int .i64 who] 3)).alloc (.cells (bkCells bk0 (.slice none 0 0) (.slice none 0 0) (.slice none 0 0) (.slice none 0 0) (.slice none 0 0) (.slice none 0 0) (.slice none 0 0)) 37)).alloc (.cells #[.func (.func 57) #[] #[.pointer (some ⟨W.heap.size + 1 + 1, 0, none⟩)]] 96))
 rw [← HV1.out, ← HV2.out, ← HV3.out, ← HV4.out, ← HWS.out]
 clear HV1 HV2 HV3 HV4 HWS V1 V2 V3 V4
 obtain ⟨B, HBB⟩ : ∃ x, Hid (x = WS.heap.size) := ⟨_, rfl⟩
 have hgB : gr < B := by rw [HBB.out, z5]; omega
 have hzB : W.heap.size + 1 + 1 + 1 < B := by rw [HBB.out, z5]; omega
 clear z5
 refine wp_region_each_at ?hm ?hb (fun a0 d a' w' => ∃ (e0 e1 e2 e3 e4 e5 e6 e7 e8 e9 e10 e11 e12 e13 e14 e15 e16 e17 e18 e19 e20 e21 e22 e23 e24 e25 : Value), a' = putAll a0 [(13, e0), (14, e1), (15, e2), (16, e3), (17, e4), (18, e5), (19, e6), (20, e7), (21, e8), (22, e9), (23, e10), (24, e11), (25, e12), (26, e13), (27, e14), (28, e15), (29, e16), (30, e17), (31, e18), (32, e19), (33, e20), (34, e21), (35, e22), (36, e23), (37, e24), (38, e25)] ∧ Below w0.heap.size w0 w' ∧ (d 0 = true → e0 = (.pointer (some ⟨gr, 0, none⟩))) ∧ (d 1 = true → (True ∧ s1.2 = false ∧ e1 = .int .i64 clk)) ∧ (d 2 = true → e2 = (.pointer (some ⟨gr, 0, none⟩))) ∧ (d 3 = true → e3 = (.agg #[.int .i64 nn, .int .i64 q, .int .i64 r, .int .i64 p, .int .i64 kk, .int .i64 cc])) ∧ (d 4 = true → (d 1 = true ∧ s2.2 = false ∧ (d 26 = false → FarB B L1 rows e4 w'))) ∧ (d 5 = true → e5 = (.pointer (some ⟨gr, 0, none⟩))) ∧ (d 6 = true → (d 4 = true ∧ s3.2 = false ∧ e6 = .int .u64 (n1 : Int))) ∧ (d 7 = true → e7 = (.func (.func 58) #[] #[.pointer (some ⟨W.heap.size + 1 + 1 + 1 + 1, 0, none⟩), .pointer (some ⟨W.heap.size, 0, none⟩)])) ∧ (d 8 = true → (d 6 = true ∧ s4.2 = false ∧ (d 26 = false → FarQ B n1 line e8 w'))) ∧ (d 9 = true → e9 = (.pointer (some ⟨gr, 0, none⟩))) ∧ (d 10 = true → (d 8 = true ∧ s5.2 = false ∧ e10 = .int .u64 (m1 : Int))) ∧ (d 11 = true → e11 = (.func (.func 60) #[] #[.pointer (some ⟨W.heap.size + 1 + 1 + 1 + 1, 0, none⟩), .pointer (some ⟨W.heap.size, 0, none⟩)])) ∧ (d 12 = true → (d 10 = true ∧ s6.2 = false ∧ (d 26 = false → FarQ B m1 outs e12 w'))) ∧ (d 13 = true → e13 = (.pointer (some ⟨gr, 0, none⟩))) ∧ (d 14 = true → (d 12 = true ∧ d 13 = true ∧ s7.2 = false ∧ e14 = .int .i64 asks)) ∧ (d 15 = true → e15 = (.pointer (some ⟨W.heap.size + 1, 0, none⟩))) ∧ (d 16 = true → e16 = (.int .i64 nn)) ∧ (d 17 = true → (d 16 = true ∧ e17 = (.int .u64 ((u64n nn : Nat) : Int)))) ∧ (d 18 = true → e18 = (.pointer (some ⟨gr, 0, none⟩))) ∧ (d 19 = true → (d 18 = true ∧ e19 = (.func (.func 66) #[.pointer (some ⟨gr, 0, none⟩)] #[]))) ∧ (d 20 = true → (d 14 = true ∧ d 17 = true ∧ d 19 = true ∧ s8.2 = false ∧ (d 26 = false → FarN B N notes e20 w'))) ∧ (d 21 = true → e21 = (.pointer (some ⟨gr, 0, none⟩))) ∧ (d 22 = true → e22 = (.pointer (some ⟨W.heap.size + 1, 0, none⟩))) ∧ (d 23 = true → e23 = (.int .i64 nn)) ∧ (d 24 = true → (d 20 = true ∧ d 21 = true ∧ d 23 = true ∧ s9.2 = false ∧ (d 26 = false → FarA B au e24 w'))) ∧ (d 25 = true → (d 24 = true ∧ (d 26 = false → ∃ A1 C1 A2 C2 A3 C3 A4 C4 pl, e25 = (.agg #[.int .i64 clk, .slice A1 L1 C1, .slice A2 n1 C2, .slice A3 m1 C3, .int .i64 asks, .slice A4 N C4, .int .i64 au.try_, .int .i64 au.ph, .slice pl.a1 pl.m1 pl.c1, .slice pl.a2 pl.m2 pl.c2, .slice pl.a3 pl.m3 pl.c3, .bool au.moved]) ∧ FarB B L1 rows (.slice A1 L1 C1) w' ∧ FarQ B n1 line (.slice A2 n1 C2) w' ∧ FarQ B m1 outs (.slice A3 m1 C3) w' ∧ FarN B N notes (.slice A4 N C4) w' ∧ AuFar B au pl w'))) ∧ (d 26 = true → (d 24 = true ∧ d 0 = true ∧ d 2 = true ∧ d 3 = true ∧ d 5 = true ∧ d 9 = true ∧ d 25 = true ∧ s9.2 = false ∧ ∃ A1 C1 A2 C2 A3 C3 A4 C4 pl wp, w' = bk12 wp (W.heap.size + 1 + 1 + 1) ⟨clk, rows, line, outs, asks, notes, au⟩ (.slice A1 L1 C1) (.slice A2 n1 C2) (.slice A3 m1 C3) (.slice A4 N C4) (.slice pl.a1 pl.m1 pl.c1) (.slice pl.a2 pl.m2 pl.c2) (.slice pl.a3 pl.m3 pl.c3) ∧ FarB B L1 rows (.slice A1 L1 C1) wp ∧ FarQ B n1 line (.slice A2 n1 C2) wp ∧ FarQ B m1 outs (.slice A3 m1 C3) wp ∧ FarN B N notes (.slice A4 N C4) wp ∧ AuFar B au pl wp ∧ ButG gr W wp ∧ Whole wp (W.heap.size + 1 + 1 + 1) 37 (bkCells bk0 (.slice none 0 0) (.slice none 0 0) (.slice none 0 0) (.slice none 0 0) (.slice none 0 0) (.slice none 0 0) (.slice none 0 0)) ∧ Rd w0 gr s9.1 wp)) ∧ (d 26 = false → EnvK gr W.heap.size (W.heap.size + 1 + 1) (W.heap.size + 1 + 1 + 1 + 1) who w' ∧ ButG gr W w' ∧ Whole w' (W.heap.size + 1) 23 (cfCells ⟨nn, q, r, p, kk, cc⟩) ∧ Whole w' (W.heap.size + 1 + 1 + 1) 37 (bkCells bk0 (.slice none 0 0) (.slice none 0 0) (.slice none 0 0) (.slice none 0 0) (.slice none 0 0) (.slice none 0 0) (.slice none 0 0)) ∧ B ≤ w'.heap.size) ∧ (d 1 = false → Rd w0 gr z w') ∧ (d 1 = true → d 4 = false → Rd w0 gr s1.1 w') ∧ (d 4 = true → d 6 = false → Rd w0 gr s2.1 w') ∧ (d 6 = true → d 8 = false → Rd w0 gr s3.1 w') ∧ (d 8 = true → d 10 = false → Rd w0 gr s4.1 w') ∧ (d 10 = true → d 12 = false → Rd w0 gr s5.1 w') ∧ (d 12 = true → d 14 = false → Rd w0 gr s6.1 w') ∧ (d 14 = true → d 20 = false → Rd w0 gr s7.1 w') ∧ (d 20 = true → d 24 = false → Rd w0 gr s8.1 w') ∧ (d 24 = true → d 26 = false → Rd w0 gr s9.1 w')) ?h0 ?step ?ends
 case hm => kernel_rfl
 case hb => kernel_rfl
 case h0 =>
  refine ⟨undef, undef, undef, undef, undef, undef, undef, undef, undef, undef, undef, undef, undef, undef, undef, undef, undef, undef, undef, undef, undef, undef, undef, undef, undef, undef, ?_, HBl.out.drew, fun h => absurd h (by decide), fun h => absurd h (by decide), fun h => absurd h (by decide), fun h => absurd h (by decide), fun h => absurd h (by decide), fun h => absurd h (by decide), fun h => absurd h (by decide), fun h => absurd h (by decide), fun h => absurd h (by decide), fun h => absurd h (by decide), fun h => absurd h (by decide), fun h => absurd h (by decide), fun h => absurd h (by decide), fun h => absurd h (by decide), fun h => absurd h (by decide), fun h => absurd h (by decide), fun h => absurd h (by decide), fun h => absurd h (by decide), fun h => absurd h (by decide), fun h => absurd h (by decide), fun h => absurd h (by decide), fun h => absurd h (by decide), fun h => absurd h (by decide), fun h => absurd h (by decide), fun h => absurd h (by decide), fun h => absurd h (by decide), fun h => absurd h (by decide), fun _ => ⟨HE.out.later (Below.refl _ _).drew, HB.out.next (Below.refl _ _).drew, HC.out.drew, HZ.out.drew, by rw [HBB.out]; exact (Below.refl 0 WS).drew.size⟩, fun _ => HR0.out.later (Below.refl _ _).drew, fun h => absurd h (by decide), fun h => absurd h (by decide), fun h => absurd h (by decide), fun h => absurd h (by decide), fun h => absurd h (by decide), fun h => absurd h (by decide), fun h => absurd h (by decide), fun h => absurd h (by decide), fun h => absurd h (by decide)⟩
  simp only [putAll, Act.put, qA, qB, qC]
 case step =>
  intro i d a' w' hi hJ hd hk
  obtain ⟨e0, e1, e2, e3, e4, e5, e6, e7, e8, e9, e10, e11, e12, e13, e14, e15, e16, e17, e18, e19, e20, e21, e22, e23, e24, e25, rfl, hC⟩ := hJ
  obtain ⟨hB, hC⟩ := hC
  obtain ⟨c0, hC⟩ := hC
  obtain ⟨c1, hC⟩ := hC
  obtain ⟨c2, hC⟩ := hC
  obtain ⟨c3, hC⟩ := hC
  obtain ⟨c4, hC⟩ := hC
  obtain ⟨c5, hC⟩ := hC
  obtain ⟨c6, hC⟩ := hC
  obtain ⟨c7, hC⟩ := hC
  obtain ⟨c8, hC⟩ := hC
  obtain ⟨c9, hC⟩ := hC
  obtain ⟨c10, hC⟩ := hC
  obtain ⟨c11, hC⟩ := hC
  obtain ⟨c12, hC⟩ := hC
  obtain ⟨c13, hC⟩ := hC
  obtain ⟨c14, hC⟩ := hC
  obtain ⟨c15, hC⟩ := hC
  obtain ⟨c16, hC⟩ := hC
  obtain ⟨c17, hC⟩ := hC
  obtain ⟨c18, hC⟩ := hC
  obtain ⟨c19, hC⟩ := hC
  obtain ⟨c20, hC⟩ := hC
  obtain ⟨c21, hC⟩ := hC
  obtain ⟨c22, hC⟩ := hC
  obtain ⟨c23, hC⟩ := hC
  obtain ⟨c24, hC⟩ := hC
  obtain ⟨c25, hC⟩ := hC
  obtain ⟨c26, hC⟩ := hC
  obtain ⟨kX, hC⟩ := hC
  obtain ⟨kR0, hC⟩ := hC
  obtain ⟨kR1, hC⟩ := hC
  obtain ⟨kR4, hC⟩ := hC
  obtain ⟨kR6, hC⟩ := hC
  obtain ⟨kR8, hC⟩ := hC
  obtain ⟨kR10, hC⟩ := hC
  obtain ⟨kR12, hC⟩ := hC
  obtain ⟨kR14, hC⟩ := hC
  obtain ⟨kR20, hC⟩ := hC
  have kR24 := hC
  clear hC
  have Xc0 := Lib.hid c0; clear c0
  have Xc1 := Lib.hid c1; clear c1
  have Xc2 := Lib.hid c2; clear c2
  have Xc3 := Lib.hid c3; clear c3
  have Xc4 := Lib.hid c4; clear c4
  have Xc5 := Lib.hid c5; clear c5
  have Xc6 := Lib.hid c6; clear c6
  have Xc7 := Lib.hid c7; clear c7
  have Xc8 := Lib.hid c8; clear c8
  have Xc9 := Lib.hid c9; clear c9
  have Xc10 := Lib.hid c10; clear c10
  have Xc11 := Lib.hid c11; clear c11
  have Xc12 := Lib.hid c12; clear c12
  have Xc13 := Lib.hid c13; clear c13
  have Xc14 := Lib.hid c14; clear c14
  have Xc15 := Lib.hid c15; clear c15
  have Xc16 := Lib.hid c16; clear c16
  have Xc17 := Lib.hid c17; clear c17
  have Xc18 := Lib.hid c18; clear c18
  have Xc19 := Lib.hid c19; clear c19
  have Xc20 := Lib.hid c20; clear c20
  have Xc21 := Lib.hid c21; clear c21
  have Xc22 := Lib.hid c22; clear c22
  have Xc23 := Lib.hid c23; clear c23
  have Xc24 := Lib.hid c24; clear c24
  have Xc25 := Lib.hid c25; clear c25
  have Xc26 := Lib.hid c26; clear c26
  have XkX := Lib.hid kX; clear kX
  have XkR0 := Lib.hid kR0; clear kR0
  have XkR1 := Lib.hid kR1; clear kR1
  have XkR4 := Lib.hid kR4; clear kR4
  have XkR6 := Lib.hid kR6; clear kR6
  have XkR8 := Lib.hid kR8; clear kR8
  have XkR10 := Lib.hid kR10; clear kR10
  have XkR12 := Lib.hid kR12; clear kR12
  have XkR14 := Lib.hid kR14; clear kR14
  have XkR20 := Lib.hid kR20; clear kR20
  have XkR24 := Lib.hid kR24; clear kR24
  match i, hi, hd, hk with
  | 0, _, hd, hk =>
    have c26 := Xc26.out
    have kX := XkX.out
    have f26 : d 26 = false := (Bool.eq_false_or_eq_true (d 26)).elim (fun h => absurd (((c26 h).2.1).symm.trans hd) (by decide)) id
    obtain ⟨xE, xB, xC, xZ, xS⟩ := kX f26
    have hc0 := xE.2.1.cell 0
    clear c26 kX
    apply wpOp_at
    case ho => rfl
    intro K hK
    simp only [putAll, Act.put, qA, qB, qC]
    go_simp
    refine hK _ _ ⟨(.pointer (some ⟨gr, 0, none⟩)), e1, e2, e3, e4, e5, e6, e7, e8, e9, e10, e11, e12, e13, e14, e15, e16, e17, e18, e19, e20, e21, e22, e23, e24, e25, ?_, hB, fun _ => rfl, Xc1.out, Xc2.out, Xc3.out, Xc4.out, Xc5.out, Xc6.out, Xc7.out, Xc8.out, Xc9.out, Xc10.out, Xc11.out, Xc12.out, Xc13.out, Xc14.out, Xc15.out, Xc16.out, Xc17.out, Xc18.out, Xc19.out, Xc20.out, Xc21.out, Xc22.out, Xc23.out, Xc24.out, Xc25.out, fun h => absurd (f26.symm.trans h) (by decide), XkX.out, XkR0.out, XkR1.out, XkR4.out, XkR6.out, XkR8.out, XkR10.out, XkR12.out, XkR14.out, XkR20.out, XkR24.out⟩
    simp only [putAll, Act.put, qA, qB, qC]
    all_goals rfl
  | 1, _, hd, hk =>
    have h0 : d 0 = true := hk 0 (by decide +kernel)
    have c0 := Xc0.out
    have c4 := Xc4.out
    have c6 := Xc6.out
    have c8 := Xc8.out
    have c10 := Xc10.out
    have c12 := Xc12.out
    have c14 := Xc14.out
    have c20 := Xc20.out
    have c24 := Xc24.out
    have c26 := Xc26.out
    have kX := XkX.out
    obtain rfl := c0 h0
    have f4 : d 4 = false := (Bool.eq_false_or_eq_true (d 4)).elim (fun h => absurd ((c4 h).1.symm.trans hd) (by decide)) id
    have f6 : d 6 = false := (Bool.eq_false_or_eq_true (d 6)).elim (fun h => absurd ((c6 h).1.symm.trans f4) (by decide)) id
    have f8 : d 8 = false := (Bool.eq_false_or_eq_true (d 8)).elim (fun h => absurd ((c8 h).1.symm.trans f6) (by decide)) id
    have f10 : d 10 = false := (Bool.eq_false_or_eq_true (d 10)).elim (fun h => absurd ((c10 h).1.symm.trans f8) (by decide)) id
    have f12 : d 12 = false := (Bool.eq_false_or_eq_true (d 12)).elim (fun h => absurd ((c12 h).1.symm.trans f10) (by decide)) id
    have f14 : d 14 = false := (Bool.eq_false_or_eq_true (d 14)).elim (fun h => absurd ((c14 h).1.symm.trans f12) (by decide)) id
    have f20 : d 20 = false := (Bool.eq_false_or_eq_true (d 20)).elim (fun h => absurd ((c20 h).1.symm.trans f14) (by decide)) id
    have f24 : d 24 = false := (Bool.eq_false_or_eq_true (d 24)).elim (fun h => absurd ((c24 h).1.symm.trans f20) (by decide)) id
    have f26 : d 26 = false := (Bool.eq_false_or_eq_true (d 26)).elim (fun h => absurd ((c26 h).1.symm.trans f24) (by decide)) id
    obtain ⟨xE, xB, xC, xZ, xS⟩ := kX f26
    clear c0 c4 c6 c8 c10 c12 c14 c20 c24 c26 kX
    apply wpOp_at
    case ho => rfl
    intro K hK
    simp only [putAll, Act.put, qA, qB, qC]
    go_simp
    have c25 := Xc25.out
    have kR0 := XkR0.out
    have hlk := knum_at w0 gr (z, false) 0 w' rfl (kR0 hd) hB
    rw [Hclk.out, show rdS (z, false) (0 + 1) = s1 from Hs1.out.symm] at hlk
    refine hlk.mono ?_
    clear hlk
    rintro e w'' ⟨hG, ⟨hs, rfl, hR⟩ | ⟨hs, rfl⟩⟩
    rotate_left 1
    · exact ⟨rfl, xB.trans hG, Or.inr ⟨B1.out hs, rfl⟩⟩
    have hBb := hG.from hB hg
    refine hK _ _ ⟨(.pointer (some ⟨gr, 0, none⟩)), .int .i64 clk, e2, e3, e4, e5, e6, e7, e8, e9, e10, e11, e12, e13, e14, e15, e16, e17, e18, e19, e20, e21, e22, e23, e24, e25, ?_, hBb, Xc0.out, fun _ => ⟨trivial, hs, rfl⟩, Xc2.out, Xc3.out, fun h => absurd (f4.symm.trans h) (by decide), Xc5.out, fun h => absurd (f6.symm.trans h) (by decide), Xc7.out, fun h => absurd (f8.symm.trans h) (by decide), Xc9.out, fun h => absurd (f10.symm.trans h) (by decide), Xc11.out, fun h => absurd (f12.symm.trans h) (by decide), Xc13.out, fun h => absurd (f14.symm.trans h) (by decide), Xc15.out, Xc16.out, Xc17.out, Xc18.out, Xc19.out, fun h => absurd (f20.symm.trans h) (by decide), Xc21.out, Xc22.out, Xc23.out, fun h => absurd (f24.symm.trans h) (by decide), fun h => absurd ((c25 h).1.symm.trans f24) (by decide), fun h => absurd (f26.symm.trans h) (by decide), fun _ => ⟨xE.butG hG, xB.trans hG, xC.butG hG (by omega), xZ.butG hG (by omega), Nat.le_trans xS hG.size⟩, fun h => Bool.noConfusion (show true = false from h), fun _ _ => hR, fun h => absurd (f4.symm.trans h) (by decide), fun h => absurd (f6.symm.trans h) (by decide), fun h => absurd (f8.symm.trans h) (by decide), fun h => absurd (f10.symm.trans h) (by decide), fun h => absurd (f12.symm.trans h) (by decide), fun h => absurd (f14.symm.trans h) (by decide), fun h => absurd (f20.symm.trans h) (by decide), fun h => absurd (f24.symm.trans h) (by decide)⟩
    simp only [putAll, Act.put, qA, qB, qC]
    all_goals rfl
  | 2, _, hd, hk =>
    have c26 := Xc26.out
    have kX := XkX.out
    have f26 : d 26 = false := (Bool.eq_false_or_eq_true (d 26)).elim (fun h => absurd (((c26 h).2.2.1).symm.trans hd) (by decide)) id
    obtain ⟨xE, xB, xC, xZ, xS⟩ := kX f26
    have hc0 := xE.2.1.cell 0
    clear c26 kX
    apply wpOp_at
    case ho => rfl
    intro K hK
    simp only [putAll, Act.put, qA, qB, qC]
    go_simp
    refine hK _ _ ⟨e0, e1, (.pointer (some ⟨gr, 0, none⟩)), e3, e4, e5, e6, e7, e8, e9, e10, e11, e12, e13, e14, e15, e16, e17, e18, e19, e20, e21, e22, e23, e24, e25, ?_, hB, Xc0.out, Xc1.out, fun _ => rfl, Xc3.out, Xc4.out, Xc5.out, Xc6.out, Xc7.out, Xc8.out, Xc9.out, Xc10.out, Xc11.out, Xc12.out, Xc13.out, Xc14.out, Xc15.out, Xc16.out, Xc17.out, Xc18.out, Xc19.out, Xc20.out, Xc21.out, Xc22.out, Xc23.out, Xc24.out, Xc25.out, fun h => absurd (f26.symm.trans h) (by decide), XkX.out, XkR0.out, XkR1.out, XkR4.out, XkR6.out, XkR8.out, XkR10.out, XkR12.out, XkR14.out, XkR20.out, XkR24.out⟩
    simp only [putAll, Act.put, qA, qB, qC]
    all_goals rfl
  | 3, _, hd, hk =>
    have c26 := Xc26.out
    have kX := XkX.out
    have f26 : d 26 = false := (Bool.eq_false_or_eq_true (d 26)).elim (fun h => absurd (((c26 h).2.2.2.1).symm.trans hd) (by decide)) id
    obtain ⟨xE, xB, xC, xZ, xS⟩ := kX f26
    have d0 := xC.cell 0
    have d1 := xC.cell 1
    have d2 := xC.cell 2
    have d3 := xC.cell 3
    have d4 := xC.cell 4
    have d5 := xC.cell 5
    clear c26 kX
    apply wpOp_at
    case ho => rfl
    intro K hK
    simp only [putAll, Act.put, qA, qB, qC]
    go_simp
    refine hK _ _ ⟨e0, e1, e2, (.agg #[.int .i64 nn, .int .i64 q, .int .i64 r, .int .i64 p, .int .i64 kk, .int .i64 cc]), e4, e5, e6, e7, e8, e9, e10, e11, e12, e13, e14, e15, e16, e17, e18, e19, e20, e21, e22, e23, e24, e25, ?_, hB, Xc0.out, Xc1.out, Xc2.out, fun _ => rfl, Xc4.out, Xc5.out, Xc6.out, Xc7.out, Xc8.out, Xc9.out, Xc10.out, Xc11.out, Xc12.out, Xc13.out, Xc14.out, Xc15.out, Xc16.out, Xc17.out, Xc18.out, Xc19.out, Xc20.out, Xc21.out, Xc22.out, Xc23.out, Xc24.out, Xc25.out, fun h => absurd (f26.symm.trans h) (by decide), XkX.out, XkR0.out, XkR1.out, XkR4.out, XkR6.out, XkR8.out, XkR10.out, XkR12.out, XkR14.out, XkR20.out, XkR24.out⟩
    simp only [putAll, Act.put, qA, qB, qC]
    all_goals rfl
  | 4, _, hd, hk =>
    have h1 : d 1 = true := hk 1 (by decide +kernel)
    have h2 : d 2 = true := hk 2 (by decide +kernel)
    have h3 : d 3 = true := hk 3 (by decide +kernel)
    have c1 := Xc1.out
    have c2 := Xc2.out
    have c3 := Xc3.out
    have c6 := Xc6.out
    have c8 := Xc8.out
    have c10 := Xc10.out
    have c12 := Xc12.out
    have c14 := Xc14.out
    have c20 := Xc20.out
    have c24 := Xc24.out
    have c26 := Xc26.out
    have kX := XkX.out
    obtain rfl := c2 h2
    obtain rfl := c3 h3
    have t1 : d 1 = true := h1
    have hs1 := (c1 t1).2.1
    obtain rfl := (c1 t1).2.2
    have f6 : d 6 = false := (Bool.eq_false_or_eq_true (d 6)).elim (fun h => absurd ((c6 h).1.symm.trans hd) (by decide)) id
    have f8 : d 8 = false := (Bool.eq_false_or_eq_true (d 8)).elim (fun h => absurd ((c8 h).1.symm.trans f6) (by decide)) id
    have f10 : d 10 = false := (Bool.eq_false_or_eq_true (d 10)).elim (fun h => absurd ((c10 h).1.symm.trans f8) (by decide)) id
    have f12 : d 12 = false := (Bool.eq_false_or_eq_true (d 12)).elim (fun h => absurd ((c12 h).1.symm.trans f10) (by decide)) id
    have f14 : d 14 = false := (Bool.eq_false_or_eq_true (d 14)).elim (fun h => absurd ((c14 h).1.symm.trans f12) (by decide)) id
    have f20 : d 20 = false := (Bool.eq_false_or_eq_true (d 20)).elim (fun h => absurd ((c20 h).1.symm.trans f14) (by decide)) id
    have f24 : d 24 = false := (Bool.eq_false_or_eq_true (d 24)).elim (fun h => absurd ((c24 h).1.symm.trans f20) (by decide)) id
    have f26 : d 26 = false := (Bool.eq_false_or_eq_true (d 26)).elim (fun h => absurd ((c26 h).1.symm.trans f24) (by decide)) id
    obtain ⟨xE, xB, xC, xZ, xS⟩ := kX f26
    have hBS : WS.heap.size ≤ w'.heap.size := by rw [← HBB.out]; exact xS
    clear c1 c2 c3 c6 c8 c10 c12 c14 c20 c24 c26 kX
    apply wpOp_at
    case ho => rfl
    intro K hK
    simp only [putAll, Act.put, qA, qB, qC]
    go_simp
    have c25 := Xc25.out
    have kR1 := XkR1.out
    have hlk := krows_calls w0 gr ⟨nn, q, r, p, kk, cc⟩ s1.1 w' (kR1 h1 hd) hB hg
    unfold ReadsR at hlk
    rw [fst_same hs1, HRB.out] at hlk
    simp only at hlk
    rw [← HL1.out] at hlk
    refine hlk.mono ?_
    clear hlk
    rintro e w'' ⟨hG, ⟨hs, ⟨A9, C9, rfl, hF⟩, hR⟩ | ⟨hs, rfl⟩⟩
    rotate_left 1
    · exact ⟨rfl, xB.trans hG, Or.inr ⟨B2.out hs, rfl⟩⟩
    have hBb := hG.from hB hg
    refine hK _ _ ⟨e0, .int .i64 clk, (.pointer (some ⟨gr, 0, none⟩)), (.agg #[.int .i64 nn, .int .i64 q, .int .i64 r, .int .i64 p, .int .i64 kk, .int .i64 cc]), .slice A9 L1 C9, e5, e6, e7, e8, e9, e10, e11, e12, e13, e14, e15, e16, e17, e18, e19, e20, e21, e22, e23, e24, e25, ?_, hBb, Xc0.out, fun _ => ⟨trivial, hs1, rfl⟩, Xc2.out, Xc3.out, fun _ => ⟨h1, hs, fun _ => ⟨A9, C9, rfl, HL1.out, hF.mono (by rw [HBB.out]; exact hBS)⟩⟩, Xc5.out, fun h => absurd (f6.symm.trans h) (by decide), Xc7.out, fun h => absurd (f8.symm.trans h) (by decide), Xc9.out, fun h => absurd (f10.symm.trans h) (by decide), Xc11.out, fun h => absurd (f12.symm.trans h) (by decide), Xc13.out, fun h => absurd (f14.symm.trans h) (by decide), Xc15.out, Xc16.out, Xc17.out, Xc18.out, Xc19.out, fun h => absurd (f20.symm.trans h) (by decide), Xc21.out, Xc22.out, Xc23.out, fun h => absurd (f24.symm.trans h) (by decide), fun h => absurd ((c25 h).1.symm.trans f24) (by decide), fun h => absurd (f26.symm.trans h) (by decide), fun _ => ⟨xE.butG hG, xB.trans hG, xC.butG hG (by omega), xZ.butG hG (by omega), Nat.le_trans xS hG.size⟩, fun h => absurd (t1.symm.trans h) (by decide), fun _ h => Bool.noConfusion (show true = false from h), fun _ _ => hR, fun h => absurd (f6.symm.trans h) (by decide), fun h => absurd (f8.symm.trans h) (by decide), fun h => absurd (f10.symm.trans h) (by decide), fun h => absurd (f12.symm.trans h) (by decide), fun h => absurd (f14.symm.trans h) (by decide), fun h => absurd (f20.symm.trans h) (by decide), fun h => absurd (f24.symm.trans h) (by decide)⟩
    simp only [putAll, Act.put, qA, qB, qC]
    all_goals rfl
  | 5, _, hd, hk =>
    have c26 := Xc26.out
    have kX := XkX.out
    have f26 : d 26 = false := (Bool.eq_false_or_eq_true (d 26)).elim (fun h => absurd (((c26 h).2.2.2.2.1).symm.trans hd) (by decide)) id
    obtain ⟨xE, xB, xC, xZ, xS⟩ := kX f26
    have hc0 := xE.2.1.cell 0
    clear c26 kX
    apply wpOp_at
    case ho => rfl
    intro K hK
    simp only [putAll, Act.put, qA, qB, qC]
    go_simp
    refine hK _ _ ⟨e0, e1, e2, e3, e4, (.pointer (some ⟨gr, 0, none⟩)), e6, e7, e8, e9, e10, e11, e12, e13, e14, e15, e16, e17, e18, e19, e20, e21, e22, e23, e24, e25, ?_, hB, Xc0.out, Xc1.out, Xc2.out, Xc3.out, Xc4.out, fun _ => rfl, Xc6.out, Xc7.out, Xc8.out, Xc9.out, Xc10.out, Xc11.out, Xc12.out, Xc13.out, Xc14.out, Xc15.out, Xc16.out, Xc17.out, Xc18.out, Xc19.out, Xc20.out, Xc21.out, Xc22.out, Xc23.out, Xc24.out, Xc25.out, fun h => absurd (f26.symm.trans h) (by decide), XkX.out, XkR0.out, XkR1.out, XkR4.out, XkR6.out, XkR8.out, XkR10.out, XkR12.out, XkR14.out, XkR20.out, XkR24.out⟩
    simp only [putAll, Act.put, qA, qB, qC]
    all_goals rfl
  | 6, _, hd, hk =>
    have h4 : d 4 = true := hk 4 (by decide +kernel)
    have h5 : d 5 = true := hk 5 (by decide +kernel)
    have c1 := Xc1.out
    have c4 := Xc4.out
    have c5 := Xc5.out
    have c8 := Xc8.out
    have c10 := Xc10.out
    have c12 := Xc12.out
    have c14 := Xc14.out
    have c20 := Xc20.out
    have c24 := Xc24.out
    have c26 := Xc26.out
    have kX := XkX.out
    obtain rfl := c5 h5
    have t4 : d 4 = true := h4
    have t1 : d 1 = true := (c4 t4).1
    have hs1 := (c1 t1).2.1
    have hs2 := (c4 t4).2.1
    obtain rfl := (c1 t1).2.2
    have f8 : d 8 = false := (Bool.eq_false_or_eq_true (d 8)).elim (fun h => absurd ((c8 h).1.symm.trans hd) (by decide)) id
    have f10 : d 10 = false := (Bool.eq_false_or_eq_true (d 10)).elim (fun h => absurd ((c10 h).1.symm.trans f8) (by decide)) id
    have f12 : d 12 = false := (Bool.eq_false_or_eq_true (d 12)).elim (fun h => absurd ((c12 h).1.symm.trans f10) (by decide)) id
    have f14 : d 14 = false := (Bool.eq_false_or_eq_true (d 14)).elim (fun h => absurd ((c14 h).1.symm.trans f12) (by decide)) id
    have f20 : d 20 = false := (Bool.eq_false_or_eq_true (d 20)).elim (fun h => absurd ((c20 h).1.symm.trans f14) (by decide)) id
    have f24 : d 24 = false := (Bool.eq_false_or_eq_true (d 24)).elim (fun h => absurd ((c24 h).1.symm.trans f20) (by decide)) id
    have f26 : d 26 = false := (Bool.eq_false_or_eq_true (d 26)).elim (fun h => absurd ((c26 h).1.symm.trans f24) (by decide)) id
    obtain ⟨xE, xB, xC, xZ, xS⟩ := kX f26
    clear c1 c4 c5 c8 c10 c12 c14 c20 c24 c26 kX
    apply wpOp_at
    case ho => rfl
    intro K hK
    simp only [putAll, Act.put, qA, qB, qC]
    go_simp
    have c4 := Xc4.out
    have c25 := Xc25.out
    have kR4 := XkR4.out
    have hlk := kcount_calls w0 gr s2.1 w' (kR4 h4 hd) hB
    rw [fst_same hs2, show (rd1 s2).2 = s3 from Hs3.out.symm, show u64n (rd1 s2).1 = n1 from Hn1.out] at hlk
    refine hlk.mono ?_
    clear hlk
    rintro e w'' ⟨hG, ⟨hs, rfl, hR⟩ | ⟨hs, rfl⟩⟩
    rotate_left 1
    · exact ⟨rfl, xB.trans hG, Or.inr ⟨B3.out hs, rfl⟩⟩
    have hBb := hG.from hB hg
    refine hK _ _ ⟨e0, .int .i64 clk, e2, e3, e4, (.pointer (some ⟨gr, 0, none⟩)), .int .u64 (n1 : Int), e7, e8, e9, e10, e11, e12, e13, e14, e15, e16, e17, e18, e19, e20, e21, e22, e23, e24, e25, ?_, hBb, Xc0.out, fun _ => ⟨trivial, hs1, rfl⟩, Xc2.out, Xc3.out, fun _ => ⟨(c4 t4).1, hs2, fun h => ((c4 t4).2.2 f26).butG hG hgB⟩, Xc5.out, fun _ => ⟨h4, hs, rfl⟩, Xc7.out, fun h => absurd (f8.symm.trans h) (by decide), Xc9.out, fun h => absurd (f10.symm.trans h) (by decide), Xc11.out, fun h => absurd (f12.symm.trans h) (by decide), Xc13.out, fun h => absurd (f14.symm.trans h) (by decide), Xc15.out, Xc16.out, Xc17.out, Xc18.out, Xc19.out, fun h => absurd (f20.symm.trans h) (by decide), Xc21.out, Xc22.out, Xc23.out, fun h => absurd (f24.symm.trans h) (by decide), fun h => absurd ((c25 h).1.symm.trans f24) (by decide), fun h => absurd (f26.symm.trans h) (by decide), fun _ => ⟨xE.butG hG, xB.trans hG, xC.butG hG (by omega), xZ.butG hG (by omega), Nat.le_trans xS hG.size⟩, fun h => absurd (t1.symm.trans h) (by decide), fun _ h => absurd (t4.symm.trans h) (by decide), fun _ h => Bool.noConfusion (show true = false from h), fun _ _ => hR, fun h => absurd (f8.symm.trans h) (by decide), fun h => absurd (f10.symm.trans h) (by decide), fun h => absurd (f12.symm.trans h) (by decide), fun h => absurd (f14.symm.trans h) (by decide), fun h => absurd (f20.symm.trans h) (by decide), fun h => absurd (f24.symm.trans h) (by decide)⟩
    simp only [putAll, Act.put, qA, qB, qC]
    all_goals rfl
  | 7, _, hd, hk =>
    apply wpOp_at
    case ho => rfl
    intro K hK
    simp only [putAll, Act.put, qA, qB, qC]
    go_simp
    refine hK _ _ ⟨e0, e1, e2, e3, e4, e5, e6, (.func (.func 58) #[] #[.pointer (some ⟨W.heap.size + 1 + 1 + 1 + 1, 0, none⟩), .pointer (some ⟨W.heap.size, 0, none⟩)]), e8, e9, e10, e11, e12, e13, e14, e15, e16, e17, e18, e19, e20, e21, e22, e23, e24, e25, ?_, hB, Xc0.out, Xc1.out, Xc2.out, Xc3.out, Xc4.out, Xc5.out, Xc6.out, fun _ => rfl, Xc8.out, Xc9.out, Xc10.out, Xc11.out, Xc12.out, Xc13.out, Xc14.out, Xc15.out, Xc16.out, Xc17.out, Xc18.out, Xc19.out, Xc20.out, Xc21.out, Xc22.out, Xc23.out, Xc24.out, Xc25.out, Xc26.out, XkX.out, XkR0.out, XkR1.out, XkR4.out, XkR6.out, XkR8.out, XkR10.out, XkR12.out, XkR14.out, XkR20.out, XkR24.out⟩
    simp only [putAll, Act.put, qA, qB, qC]
    all_goals rfl
  | 8, _, hd, hk =>
    have h6 : d 6 = true := hk 6 (by decide +kernel)
    have h7 : d 7 = true := hk 7 (by decide +kernel)
    have c1 := Xc1.out
    have c4 := Xc4.out
    have c6 := Xc6.out
    have c7 := Xc7.out
    have c10 := Xc10.out
    have c12 := Xc12.out
    have c14 := Xc14.out
    have c20 := Xc20.out
    have c24 := Xc24.out
    have c26 := Xc26.out
    have kX := XkX.out
    obtain rfl := c7 h7
    have t6 : d 6 = true := h6
    have t4 : d 4 = true := (c6 t6).1
    have t1 : d 1 = true := (c4 t4).1
    have hs1 := (c1 t1).2.1
    have hs2 := (c4 t4).2.1
    have hs3 := (c6 t6).2.1
    obtain rfl := (c1 t1).2.2
    obtain rfl := (c6 t6).2.2
    have f10 : d 10 = false := (Bool.eq_false_or_eq_true (d 10)).elim (fun h => absurd ((c10 h).1.symm.trans hd) (by decide)) id
    have f12 : d 12 = false := (Bool.eq_false_or_eq_true (d 12)).elim (fun h => absurd ((c12 h).1.symm.trans f10) (by decide)) id
    have f14 : d 14 = false := (Bool.eq_false_or_eq_true (d 14)).elim (fun h => absurd ((c14 h).1.symm.trans f12) (by decide)) id
    have f20 : d 20 = false := (Bool.eq_false_or_eq_true (d 20)).elim (fun h => absurd ((c20 h).1.symm.trans f14) (by decide)) id
    have f24 : d 24 = false := (Bool.eq_false_or_eq_true (d 24)).elim (fun h => absurd ((c24 h).1.symm.trans f20) (by decide)) id
    have f26 : d 26 = false := (Bool.eq_false_or_eq_true (d 26)).elim (fun h => absurd ((c26 h).1.symm.trans f24) (by decide)) id
    obtain ⟨xE, xB, xC, xZ, xS⟩ := kX f26
    clear c1 c4 c6 c7 c10 c12 c14 c20 c24 c26 kX
    apply wpOp_at
    case ho => rfl
    intro K hK
    simp only [putAll, Act.put, qA, qB, qC]
    go_simp
    have c4 := Xc4.out
    have c6 := Xc6.out
    have c25 := Xc25.out
    have kR6 := XkR6.out
    have hlk := ksomeR_calls w0 gr W.heap.size (W.heap.size + 1 + 1) (W.heap.size + 1 + 1 + 1 + 1) who s3.1 w' n1 (kR6 h6 hd) hB hg xE HL3.out Hn64.out
    rw [fst_same hs3, ← Hs4.out, ← Hline.out] at hlk
    refine hlk.mono ?_
    clear hlk
    rintro e w'' ⟨hG, ⟨hs, ⟨A9, C9, rfl, hF, hF2⟩, hR⟩ | ⟨hs, rfl⟩⟩
    rotate_left 1
    · exact ⟨rfl, xB.trans hG, Or.inr ⟨B4.out hs, rfl⟩⟩
    have hBb := hG.from hB hg
    refine hK _ _ ⟨e0, .int .i64 clk, e2, e3, e4, e5, .int .u64 (n1 : Int), (.func (.func 58) #[] #[.pointer (some ⟨W.heap.size + 1 + 1 + 1 + 1, 0, none⟩), .pointer (some ⟨W.heap.size, 0, none⟩)]), .slice A9 n1 C9, e9, e10, e11, e12, e13, e14, e15, e16, e17, e18, e19, e20, e21, e22, e23, e24, e25, ?_, hBb, Xc0.out, fun _ => ⟨trivial, hs1, rfl⟩, Xc2.out, Xc3.out, fun _ => ⟨(c4 t4).1, hs2, fun h => ((c4 t4).2.2 f26).butG hG hgB⟩, Xc5.out, fun _ => ⟨(c6 t6).1, hs3, rfl⟩, Xc7.out, fun _ => ⟨h6, hs, fun _ => ⟨A9, C9, rfl, by rw [Hline.out, mkP_len], hF, fun ad h => Nat.le_trans xS (hF2 ad h)⟩⟩, Xc9.out, fun h => absurd (f10.symm.trans h) (by decide), Xc11.out, fun h => absurd (f12.symm.trans h) (by decide), Xc13.out, fun h => absurd (f14.symm.trans h) (by decide), Xc15.out, Xc16.out, Xc17.out, Xc18.out, Xc19.out, fun h => absurd (f20.symm.trans h) (by decide), Xc21.out, Xc22.out, Xc23.out, fun h => absurd (f24.symm.trans h) (by decide), fun h => absurd ((c25 h).1.symm.trans f24) (by decide), fun h => absurd (f26.symm.trans h) (by decide), fun _ => ⟨xE.butG hG, xB.trans hG, xC.butG hG (by omega), xZ.butG hG (by omega), Nat.le_trans xS hG.size⟩, fun h => absurd (t1.symm.trans h) (by decide), fun _ h => absurd (t4.symm.trans h) (by decide), fun _ h => absurd (t6.symm.trans h) (by decide), fun _ h => Bool.noConfusion (show true = false from h), fun _ _ => hR, fun h => absurd (f10.symm.trans h) (by decide), fun h => absurd (f12.symm.trans h) (by decide), fun h => absurd (f14.symm.trans h) (by decide), fun h => absurd (f20.symm.trans h) (by decide), fun h => absurd (f24.symm.trans h) (by decide)⟩
    simp only [putAll, Act.put, qA, qB, qC]
    all_goals rfl
  | 9, _, hd, hk =>
    have c26 := Xc26.out
    have kX := XkX.out
    have f26 : d 26 = false := (Bool.eq_false_or_eq_true (d 26)).elim (fun h => absurd (((c26 h).2.2.2.2.2.1).symm.trans hd) (by decide)) id
    obtain ⟨xE, xB, xC, xZ, xS⟩ := kX f26
    have hc0 := xE.2.1.cell 0
    clear c26 kX
    apply wpOp_at
    case ho => rfl
    intro K hK
    simp only [putAll, Act.put, qA, qB, qC]
    go_simp
    refine hK _ _ ⟨e0, e1, e2, e3, e4, e5, e6, e7, e8, (.pointer (some ⟨gr, 0, none⟩)), e10, e11, e12, e13, e14, e15, e16, e17, e18, e19, e20, e21, e22, e23, e24, e25, ?_, hB, Xc0.out, Xc1.out, Xc2.out, Xc3.out, Xc4.out, Xc5.out, Xc6.out, Xc7.out, Xc8.out, fun _ => rfl, Xc10.out, Xc11.out, Xc12.out, Xc13.out, Xc14.out, Xc15.out, Xc16.out, Xc17.out, Xc18.out, Xc19.out, Xc20.out, Xc21.out, Xc22.out, Xc23.out, Xc24.out, Xc25.out, fun h => absurd (f26.symm.trans h) (by decide), XkX.out, XkR0.out, XkR1.out, XkR4.out, XkR6.out, XkR8.out, XkR10.out, XkR12.out, XkR14.out, XkR20.out, XkR24.out⟩
    simp only [putAll, Act.put, qA, qB, qC]
    all_goals rfl
  | 10, _, hd, hk =>
    have h8 : d 8 = true := hk 8 (by decide +kernel)
    have h9 : d 9 = true := hk 9 (by decide +kernel)
    have c1 := Xc1.out
    have c4 := Xc4.out
    have c6 := Xc6.out
    have c8 := Xc8.out
    have c9 := Xc9.out
    have c12 := Xc12.out
    have c14 := Xc14.out
    have c20 := Xc20.out
    have c24 := Xc24.out
    have c26 := Xc26.out
    have kX := XkX.out
    obtain rfl := c9 h9
    have t8 : d 8 = true := h8
    have t6 : d 6 = true := (c8 t8).1
    have t4 : d 4 = true := (c6 t6).1
    have t1 : d 1 = true := (c4 t4).1
    have hs1 := (c1 t1).2.1
    have hs2 := (c4 t4).2.1
    have hs3 := (c6 t6).2.1
    have hs4 := (c8 t8).2.1
    obtain rfl := (c1 t1).2.2
    obtain rfl := (c6 t6).2.2
    have f12 : d 12 = false := (Bool.eq_false_or_eq_true (d 12)).elim (fun h => absurd ((c12 h).1.symm.trans hd) (by decide)) id
    have f14 : d 14 = false := (Bool.eq_false_or_eq_true (d 14)).elim (fun h => absurd ((c14 h).1.symm.trans f12) (by decide)) id
    have f20 : d 20 = false := (Bool.eq_false_or_eq_true (d 20)).elim (fun h => absurd ((c20 h).1.symm.trans f14) (by decide)) id
    have f24 : d 24 = false := (Bool.eq_false_or_eq_true (d 24)).elim (fun h => absurd ((c24 h).1.symm.trans f20) (by decide)) id
    have f26 : d 26 = false := (Bool.eq_false_or_eq_true (d 26)).elim (fun h => absurd ((c26 h).1.symm.trans f24) (by decide)) id
    obtain ⟨xE, xB, xC, xZ, xS⟩ := kX f26
    clear c1 c4 c6 c8 c9 c12 c14 c20 c24 c26 kX
    apply wpOp_at
    case ho => rfl
    intro K hK
    simp only [putAll, Act.put, qA, qB, qC]
    go_simp
    have c4 := Xc4.out
    have c6 := Xc6.out
    have c8 := Xc8.out
    have c25 := Xc25.out
    have kR8 := XkR8.out
    have hlk := kcount_calls w0 gr s4.1 w' (kR8 h8 hd) hB
    rw [fst_same hs4, show (rd1 s4).2 = s5 from Hs5.out.symm, show u64n (rd1 s4).1 = m1 from Hm1.out] at hlk
    refine hlk.mono ?_
    clear hlk
    rintro e w'' ⟨hG, ⟨hs, rfl, hR⟩ | ⟨hs, rfl⟩⟩
    rotate_left 1
    · exact ⟨rfl, xB.trans hG, Or.inr ⟨B5.out hs, rfl⟩⟩
    have hBb := hG.from hB hg
    refine hK _ _ ⟨e0, .int .i64 clk, e2, e3, e4, e5, .int .u64 (n1 : Int), e7, e8, (.pointer (some ⟨gr, 0, none⟩)), .int .u64 (m1 : Int), e11, e12, e13, e14, e15, e16, e17, e18, e19, e20, e21, e22, e23, e24, e25, ?_, hBb, Xc0.out, fun _ => ⟨trivial, hs1, rfl⟩, Xc2.out, Xc3.out, fun _ => ⟨(c4 t4).1, hs2, fun h => ((c4 t4).2.2 f26).butG hG hgB⟩, Xc5.out, fun _ => ⟨(c6 t6).1, hs3, rfl⟩, Xc7.out, fun _ => ⟨(c8 t8).1, hs4, fun h => ((c8 t8).2.2 f26).butG hG hgB⟩, Xc9.out, fun _ => ⟨h8, hs, rfl⟩, Xc11.out, fun h => absurd (f12.symm.trans h) (by decide), Xc13.out, fun h => absurd (f14.symm.trans h) (by decide), Xc15.out, Xc16.out, Xc17.out, Xc18.out, Xc19.out, fun h => absurd (f20.symm.trans h) (by decide), Xc21.out, Xc22.out, Xc23.out, fun h => absurd (f24.symm.trans h) (by decide), fun h => absurd ((c25 h).1.symm.trans f24) (by decide), fun h => absurd (f26.symm.trans h) (by decide), fun _ => ⟨xE.butG hG, xB.trans hG, xC.butG hG (by omega), xZ.butG hG (by omega), Nat.le_trans xS hG.size⟩, fun h => absurd (t1.symm.trans h) (by decide), fun _ h => absurd (t4.symm.trans h) (by decide), fun _ h => absurd (t6.symm.trans h) (by decide), fun _ h => absurd (t8.symm.trans h) (by decide), fun _ h => Bool.noConfusion (show true = false from h), fun _ _ => hR, fun h => absurd (f12.symm.trans h) (by decide), fun h => absurd (f14.symm.trans h) (by decide), fun h => absurd (f20.symm.trans h) (by decide), fun h => absurd (f24.symm.trans h) (by decide)⟩
    simp only [putAll, Act.put, qA, qB, qC]
    all_goals rfl
  | 11, _, hd, hk =>
    apply wpOp_at
    case ho => rfl
    intro K hK
    simp only [putAll, Act.put, qA, qB, qC]
    go_simp
    refine hK _ _ ⟨e0, e1, e2, e3, e4, e5, e6, e7, e8, e9, e10, (.func (.func 60) #[] #[.pointer (some ⟨W.heap.size + 1 + 1 + 1 + 1, 0, none⟩), .pointer (some ⟨W.heap.size, 0, none⟩)]), e12, e13, e14, e15, e16, e17, e18, e19, e20, e21, e22, e23, e24, e25, ?_, hB, Xc0.out, Xc1.out, Xc2.out, Xc3.out, Xc4.out, Xc5.out, Xc6.out, Xc7.out, Xc8.out, Xc9.out, Xc10.out, fun _ => rfl, Xc12.out, Xc13.out, Xc14.out, Xc15.out, Xc16.out, Xc17.out, Xc18.out, Xc19.out, Xc20.out, Xc21.out, Xc22.out, Xc23.out, Xc24.out, Xc25.out, Xc26.out, XkX.out, XkR0.out, XkR1.out, XkR4.out, XkR6.out, XkR8.out, XkR10.out, XkR12.out, XkR14.out, XkR20.out, XkR24.out⟩
    simp only [putAll, Act.put, qA, qB, qC]
    all_goals rfl
  | 12, _, hd, hk =>
    have h10 : d 10 = true := hk 10 (by decide +kernel)
    have h11 : d 11 = true := hk 11 (by decide +kernel)
    have c1 := Xc1.out
    have c4 := Xc4.out
    have c6 := Xc6.out
    have c8 := Xc8.out
    have c10 := Xc10.out
    have c11 := Xc11.out
    have c14 := Xc14.out
    have c20 := Xc20.out
    have c24 := Xc24.out
    have c26 := Xc26.out
    have kX := XkX.out
    obtain rfl := c11 h11
    have t10 : d 10 = true := h10
    have t8 : d 8 = true := (c10 t10).1
    have t6 : d 6 = true := (c8 t8).1
    have t4 : d 4 = true := (c6 t6).1
    have t1 : d 1 = true := (c4 t4).1
    have hs1 := (c1 t1).2.1
    have hs2 := (c4 t4).2.1
    have hs3 := (c6 t6).2.1
    have hs4 := (c8 t8).2.1
    have hs5 := (c10 t10).2.1
    obtain rfl := (c1 t1).2.2
    obtain rfl := (c6 t6).2.2
    obtain rfl := (c10 t10).2.2
    have f14 : d 14 = false := (Bool.eq_false_or_eq_true (d 14)).elim (fun h => absurd ((c14 h).1.symm.trans hd) (by decide)) id
    have f20 : d 20 = false := (Bool.eq_false_or_eq_true (d 20)).elim (fun h => absurd ((c20 h).1.symm.trans f14) (by decide)) id
    have f24 : d 24 = false := (Bool.eq_false_or_eq_true (d 24)).elim (fun h => absurd ((c24 h).1.symm.trans f20) (by decide)) id
    have f26 : d 26 = false := (Bool.eq_false_or_eq_true (d 26)).elim (fun h => absurd ((c26 h).1.symm.trans f24) (by decide)) id
    obtain ⟨xE, xB, xC, xZ, xS⟩ := kX f26
    clear c1 c4 c6 c8 c10 c11 c14 c20 c24 c26 kX
    apply wpOp_at
    case ho => rfl
    intro K hK
    simp only [putAll, Act.put, qA, qB, qC]
    go_simp
    have c4 := Xc4.out
    have c6 := Xc6.out
    have c8 := Xc8.out
    have c10 := Xc10.out
    have c25 := Xc25.out
    have kR10 := XkR10.out
    have hlk := ksomeO_calls w0 gr W.heap.size (W.heap.size + 1 + 1) (W.heap.size + 1 + 1 + 1 + 1) who s5.1 w' m1 (kR10 h10 hd) hB hg xE HL5.out Hm64.out
    rw [fst_same hs5, ← Hs6.out, ← Houts.out] at hlk
    refine hlk.mono ?_
    clear hlk
    rintro e w'' ⟨hG, ⟨hs, ⟨A9, C9, rfl, hF, hF2⟩, hR⟩ | ⟨hs, rfl⟩⟩
    rotate_left 1
    · exact ⟨rfl, xB.trans hG, Or.inr ⟨B6.out hs, rfl⟩⟩
    have hBb := hG.from hB hg
    refine hK _ _ ⟨e0, .int .i64 clk, e2, e3, e4, e5, .int .u64 (n1 : Int), e7, e8, e9, .int .u64 (m1 : Int), (.func (.func 60) #[] #[.pointer (some ⟨W.heap.size + 1 + 1 + 1 + 1, 0, none⟩), .pointer (some ⟨W.heap.size, 0, none⟩)]), .slice A9 m1 C9, e13, e14, e15, e16, e17, e18, e19, e20, e21, e22, e23, e24, e25, ?_, hBb, Xc0.out, fun _ => ⟨trivial, hs1, rfl⟩, Xc2.out, Xc3.out, fun _ => ⟨(c4 t4).1, hs2, fun h => ((c4 t4).2.2 f26).butG hG hgB⟩, Xc5.out, fun _ => ⟨(c6 t6).1, hs3, rfl⟩, Xc7.out, fun _ => ⟨(c8 t8).1, hs4, fun h => ((c8 t8).2.2 f26).butG hG hgB⟩, Xc9.out, fun _ => ⟨(c10 t10).1, hs5, rfl⟩, Xc11.out, fun _ => ⟨h10, hs, fun _ => ⟨A9, C9, rfl, by rw [Houts.out, mkP_len], hF, fun ad h => Nat.le_trans xS (hF2 ad h)⟩⟩, Xc13.out, fun h => absurd (f14.symm.trans h) (by decide), Xc15.out, Xc16.out, Xc17.out, Xc18.out, Xc19.out, fun h => absurd (f20.symm.trans h) (by decide), Xc21.out, Xc22.out, Xc23.out, fun h => absurd (f24.symm.trans h) (by decide), fun h => absurd ((c25 h).1.symm.trans f24) (by decide), fun h => absurd (f26.symm.trans h) (by decide), fun _ => ⟨xE.butG hG, xB.trans hG, xC.butG hG (by omega), xZ.butG hG (by omega), Nat.le_trans xS hG.size⟩, fun h => absurd (t1.symm.trans h) (by decide), fun _ h => absurd (t4.symm.trans h) (by decide), fun _ h => absurd (t6.symm.trans h) (by decide), fun _ h => absurd (t8.symm.trans h) (by decide), fun _ h => absurd (t10.symm.trans h) (by decide), fun _ h => Bool.noConfusion (show true = false from h), fun _ _ => hR, fun h => absurd (f14.symm.trans h) (by decide), fun h => absurd (f20.symm.trans h) (by decide), fun h => absurd (f24.symm.trans h) (by decide)⟩
    simp only [putAll, Act.put, qA, qB, qC]
    all_goals rfl
  | 13, _, hd, hk =>
    have c14 := Xc14.out
    have c20 := Xc20.out
    have c24 := Xc24.out
    have c26 := Xc26.out
    have kX := XkX.out
    have f26 : d 26 = false := (Bool.eq_false_or_eq_true (d 26)).elim (fun h => absurd (((c14 ((c20 ((c24 (c26 h).1).1)).1)).2.1).symm.trans hd) (by decide)) id
    obtain ⟨xE, xB, xC, xZ, xS⟩ := kX f26
    have hc0 := xE.2.1.cell 0
    clear c14 c20 c24 c26 kX
    apply wpOp_at
    case ho => rfl
    intro K hK
    simp only [putAll, Act.put, qA, qB, qC]
    go_simp
    have c14 := Xc14.out
    refine hK _ _ ⟨e0, e1, e2, e3, e4, e5, e6, e7, e8, e9, e10, e11, e12, (.pointer (some ⟨gr, 0, none⟩)), e14, e15, e16, e17, e18, e19, e20, e21, e22, e23, e24, e25, ?_, hB, Xc0.out, Xc1.out, Xc2.out, Xc3.out, Xc4.out, Xc5.out, Xc6.out, Xc7.out, Xc8.out, Xc9.out, Xc10.out, Xc11.out, Xc12.out, fun _ => rfl, fun h => absurd ((c14 h).2.1.symm.trans hd) (by decide), Xc15.out, Xc16.out, Xc17.out, Xc18.out, Xc19.out, Xc20.out, Xc21.out, Xc22.out, Xc23.out, Xc24.out, Xc25.out, Xc26.out, XkX.out, XkR0.out, XkR1.out, XkR4.out, XkR6.out, XkR8.out, XkR10.out, XkR12.out, XkR14.out, XkR20.out, XkR24.out⟩
    simp only [putAll, Act.put, qA, qB, qC]
    all_goals rfl
  | 14, _, hd, hk =>
    have h12 : d 12 = true := hk 12 (by decide +kernel)
    have h13 : d 13 = true := hk 13 (by decide +kernel)
    have c1 := Xc1.out
    have c4 := Xc4.out
    have c6 := Xc6.out
    have c8 := Xc8.out
    have c10 := Xc10.out
    have c12 := Xc12.out
    have c13 := Xc13.out
    have c20 := Xc20.out
    have c24 := Xc24.out
    have c26 := Xc26.out
    have kX := XkX.out
    obtain rfl := c13 h13
    have t12 : d 12 = true := h12
    have t10 : d 10 = true := (c12 t12).1
    have t8 : d 8 = true := (c10 t10).1
    have t6 : d 6 = true := (c8 t8).1
    have t4 : d 4 = true := (c6 t6).1
    have t1 : d 1 = true := (c4 t4).1
    have hs1 := (c1 t1).2.1
    have hs2 := (c4 t4).2.1
    have hs3 := (c6 t6).2.1
    have hs4 := (c8 t8).2.1
    have hs5 := (c10 t10).2.1
    have hs6 := (c12 t12).2.1
    obtain rfl := (c1 t1).2.2
    obtain rfl := (c6 t6).2.2
    obtain rfl := (c10 t10).2.2
    have f20 : d 20 = false := (Bool.eq_false_or_eq_true (d 20)).elim (fun h => absurd ((c20 h).1.symm.trans hd) (by decide)) id
    have f24 : d 24 = false := (Bool.eq_false_or_eq_true (d 24)).elim (fun h => absurd ((c24 h).1.symm.trans f20) (by decide)) id
    have f26 : d 26 = false := (Bool.eq_false_or_eq_true (d 26)).elim (fun h => absurd ((c26 h).1.symm.trans f24) (by decide)) id
    obtain ⟨xE, xB, xC, xZ, xS⟩ := kX f26
    clear c1 c4 c6 c8 c10 c12 c13 c20 c24 c26 kX
    apply wpOp_at
    case ho => rfl
    intro K hK
    simp only [putAll, Act.put, qA, qB, qC]
    go_simp
    have c4 := Xc4.out
    have c6 := Xc6.out
    have c8 := Xc8.out
    have c10 := Xc10.out
    have c12 := Xc12.out
    have c25 := Xc25.out
    have kR12 := XkR12.out
    have hlk := knum_at w0 gr s6 0 w' hs6 (kR12 h12 hd) hB
    rw [Hasks.out, show rdS s6 (0 + 1) = s7 from Hs7.out.symm] at hlk
    refine hlk.mono ?_
    clear hlk
    rintro e w'' ⟨hG, ⟨hs, rfl, hR⟩ | ⟨hs, rfl⟩⟩
    rotate_left 1
    · exact ⟨rfl, xB.trans hG, Or.inr ⟨B7.out hs, rfl⟩⟩
    have hBb := hG.from hB hg
    refine hK _ _ ⟨e0, .int .i64 clk, e2, e3, e4, e5, .int .u64 (n1 : Int), e7, e8, e9, .int .u64 (m1 : Int), e11, e12, (.pointer (some ⟨gr, 0, none⟩)), .int .i64 asks, e15, e16, e17, e18, e19, e20, e21, e22, e23, e24, e25, ?_, hBb, Xc0.out, fun _ => ⟨trivial, hs1, rfl⟩, Xc2.out, Xc3.out, fun _ => ⟨(c4 t4).1, hs2, fun h => ((c4 t4).2.2 f26).butG hG hgB⟩, Xc5.out, fun _ => ⟨(c6 t6).1, hs3, rfl⟩, Xc7.out, fun _ => ⟨(c8 t8).1, hs4, fun h => ((c8 t8).2.2 f26).butG hG hgB⟩, Xc9.out, fun _ => ⟨(c10 t10).1, hs5, rfl⟩, Xc11.out, fun _ => ⟨(c12 t12).1, hs6, fun h => ((c12 t12).2.2 f26).butG hG hgB⟩, Xc13.out, fun _ => ⟨h12, h13, hs, rfl⟩, Xc15.out, Xc16.out, Xc17.out, Xc18.out, Xc19.out, fun h => absurd (f20.symm.trans h) (by decide), Xc21.out, Xc22.out, Xc23.out, fun h => absurd (f24.symm.trans h) (by decide), fun h => absurd ((c25 h).1.symm.trans f24) (by decide), fun h => absurd (f26.symm.trans h) (by decide), fun _ => ⟨xE.butG hG, xB.trans hG, xC.butG hG (by omega), xZ.butG hG (by omega), Nat.le_trans xS hG.size⟩, fun h => absurd (t1.symm.trans h) (by decide), fun _ h => absurd (t4.symm.trans h) (by decide), fun _ h => absurd (t6.symm.trans h) (by decide), fun _ h => absurd (t8.symm.trans h) (by decide), fun _ h => absurd (t10.symm.trans h) (by decide), fun _ h => absurd (t12.symm.trans h) (by decide), fun _ h => Bool.noConfusion (show true = false from h), fun _ _ => hR, fun h => absurd (f20.symm.trans h) (by decide), fun h => absurd (f24.symm.trans h) (by decide)⟩
    simp only [putAll, Act.put, qA, qB, qC]
    all_goals rfl
  | 15, _, hd, hk =>
    apply wpOp_at
    case ho => rfl
    intro K hK
    simp only [putAll, Act.put, qA, qB, qC]
    go_simp
    refine hK _ _ ⟨e0, e1, e2, e3, e4, e5, e6, e7, e8, e9, e10, e11, e12, e13, e14, (.pointer (some ⟨W.heap.size + 1, 0, none⟩)), e16, e17, e18, e19, e20, e21, e22, e23, e24, e25, ?_, hB, Xc0.out, Xc1.out, Xc2.out, Xc3.out, Xc4.out, Xc5.out, Xc6.out, Xc7.out, Xc8.out, Xc9.out, Xc10.out, Xc11.out, Xc12.out, Xc13.out, Xc14.out, fun _ => rfl, Xc16.out, Xc17.out, Xc18.out, Xc19.out, Xc20.out, Xc21.out, Xc22.out, Xc23.out, Xc24.out, Xc25.out, Xc26.out, XkX.out, XkR0.out, XkR1.out, XkR4.out, XkR6.out, XkR8.out, XkR10.out, XkR12.out, XkR14.out, XkR20.out, XkR24.out⟩
    simp only [putAll, Act.put, qA, qB, qC]
    all_goals rfl
  | 16, _, hd, hk =>
    have h15 : d 15 = true := hk 15 (by decide +kernel)
    have c15 := Xc15.out
    have c17 := Xc17.out
    have c20 := Xc20.out
    have c24 := Xc24.out
    have c26 := Xc26.out
    have kX := XkX.out
    obtain rfl := c15 h15
    have f26 : d 26 = false := (Bool.eq_false_or_eq_true (d 26)).elim (fun h => absurd (((c17 ((c20 ((c24 (c26 h).1).1)).2.1)).1).symm.trans hd) (by decide)) id
    obtain ⟨xE, xB, xC, xZ, xS⟩ := kX f26
    have d0 := xC.cell 0
    clear c15 c17 c20 c24 c26 kX
    apply wpOp_at
    case ho => rfl
    intro K hK
    simp only [putAll, Act.put, qA, qB, qC]
    go_simp
    have c17 := Xc17.out
    refine hK _ _ ⟨e0, e1, e2, e3, e4, e5, e6, e7, e8, e9, e10, e11, e12, e13, e14, (.pointer (some ⟨W.heap.size + 1, 0, none⟩)), (.int .i64 nn), e17, e18, e19, e20, e21, e22, e23, e24, e25, ?_, hB, Xc0.out, Xc1.out, Xc2.out, Xc3.out, Xc4.out, Xc5.out, Xc6.out, Xc7.out, Xc8.out, Xc9.out, Xc10.out, Xc11.out, Xc12.out, Xc13.out, Xc14.out, Xc15.out, fun _ => rfl, fun h => absurd ((c17 h).1.symm.trans hd) (by decide), Xc18.out, Xc19.out, Xc20.out, Xc21.out, Xc22.out, Xc23.out, Xc24.out, Xc25.out, Xc26.out, XkX.out, XkR0.out, XkR1.out, XkR4.out, XkR6.out, XkR8.out, XkR10.out, XkR12.out, XkR14.out, XkR20.out, XkR24.out⟩
    simp only [putAll, Act.put, qA, qB, qC]
    all_goals rfl
  | 17, _, hd, hk =>
    have h16 : d 16 = true := hk 16 (by decide +kernel)
    have c16 := Xc16.out
    obtain rfl := c16 h16
    have hw9 := wrap_u64n nn
    clear c16
    apply wpOp_at
    case ho => rfl
    intro K hK
    simp only [putAll, Act.put, qA, qB, qC]
    go_simp
    have c20 := Xc20.out
    refine hK _ _ ⟨e0, e1, e2, e3, e4, e5, e6, e7, e8, e9, e10, e11, e12, e13, e14, e15, (.int .i64 nn), (.int .u64 ((u64n nn : Nat) : Int)), e18, e19, e20, e21, e22, e23, e24, e25, ?_, hB, Xc0.out, Xc1.out, Xc2.out, Xc3.out, Xc4.out, Xc5.out, Xc6.out, Xc7.out, Xc8.out, Xc9.out, Xc10.out, Xc11.out, Xc12.out, Xc13.out, Xc14.out, Xc15.out, Xc16.out, fun _ => ⟨h16, rfl⟩, Xc18.out, Xc19.out, fun h => absurd ((c20 h).2.1.symm.trans hd) (by decide), Xc21.out, Xc22.out, Xc23.out, Xc24.out, Xc25.out, Xc26.out, XkX.out, XkR0.out, XkR1.out, XkR4.out, XkR6.out, XkR8.out, XkR10.out, XkR12.out, XkR14.out, XkR20.out, XkR24.out⟩
    simp only [putAll, Act.put, qA, qB, qC]
    all_goals rfl
  | 18, _, hd, hk =>
    have c19 := Xc19.out
    have c20 := Xc20.out
    have c24 := Xc24.out
    have c26 := Xc26.out
    have kX := XkX.out
    have f26 : d 26 = false := (Bool.eq_false_or_eq_true (d 26)).elim (fun h => absurd (((c19 ((c20 ((c24 (c26 h).1).1)).2.2.1)).1).symm.trans hd) (by decide)) id
    obtain ⟨xE, xB, xC, xZ, xS⟩ := kX f26
    have hc0 := xE.2.1.cell 0
    clear c19 c20 c24 c26 kX
    apply wpOp_at
    case ho => rfl
    intro K hK
    simp only [putAll, Act.put, qA, qB, qC]
    go_simp
    have c19 := Xc19.out
    refine hK _ _ ⟨e0, e1, e2, e3, e4, e5, e6, e7, e8, e9, e10, e11, e12, e13, e14, e15, e16, e17, (.pointer (some ⟨gr, 0, none⟩)), e19, e20, e21, e22, e23, e24, e25, ?_, hB, Xc0.out, Xc1.out, Xc2.out, Xc3.out, Xc4.out, Xc5.out, Xc6.out, Xc7.out, Xc8.out, Xc9.out, Xc10.out, Xc11.out, Xc12.out, Xc13.out, Xc14.out, Xc15.out, Xc16.out, Xc17.out, fun _ => rfl, fun h => absurd ((c19 h).1.symm.trans hd) (by decide), Xc20.out, Xc21.out, Xc22.out, Xc23.out, Xc24.out, Xc25.out, Xc26.out, XkX.out, XkR0.out, XkR1.out, XkR4.out, XkR6.out, XkR8.out, XkR10.out, XkR12.out, XkR14.out, XkR20.out, XkR24.out⟩
    simp only [putAll, Act.put, qA, qB, qC]
    all_goals rfl
  | 19, _, hd, hk =>
    have h18 : d 18 = true := hk 18 (by decide +kernel)
    have c18 := Xc18.out
    obtain rfl := c18 h18
    have hmf : ∀ (fn : Fn) (first cap : Array Value) (w : World), (Instr.makeFunc fn first cap).run Tryz.prog w = .ok (.func fn first cap) w := fun _ _ _ _ => rfl
    clear c18
    apply wpOp_at
    case ho => rfl
    intro K hK
    simp only [putAll, Act.put, qA, qB, qC]
    go_simp
    have c20 := Xc20.out
    refine hK _ _ ⟨e0, e1, e2, e3, e4, e5, e6, e7, e8, e9, e10, e11, e12, e13, e14, e15, e16, e17, (.pointer (some ⟨gr, 0, none⟩)), (.func (.func 66) #[.pointer (some ⟨gr, 0, none⟩)] #[]), e20, e21, e22, e23, e24, e25, ?_, hB, Xc0.out, Xc1.out, Xc2.out, Xc3.out, Xc4.out, Xc5.out, Xc6.out, Xc7.out, Xc8.out, Xc9.out, Xc10.out, Xc11.out, Xc12.out, Xc13.out, Xc14.out, Xc15.out, Xc16.out, Xc17.out, Xc18.out, fun _ => ⟨h18, rfl⟩, fun h => absurd ((c20 h).2.2.1.symm.trans hd) (by decide), Xc21.out, Xc22.out, Xc23.out, Xc24.out, Xc25.out, Xc26.out, XkX.out, XkR0.out, XkR1.out, XkR4.out, XkR6.out, XkR8.out, XkR10.out, XkR12.out, XkR14.out, XkR20.out, XkR24.out⟩
    simp only [putAll, Act.put, qA, qB, qC]
    all_goals rfl
  | 20, _, hd, hk =>
    have h14 : d 14 = true := hk 14 (by decide +kernel)
    have h17 : d 17 = true := hk 17 (by decide +kernel)
    have h19 : d 19 = true := hk 19 (by decide +kernel)
    have c1 := Xc1.out
    have c4 := Xc4.out
    have c6 := Xc6.out
    have c8 := Xc8.out
    have c10 := Xc10.out
    have c12 := Xc12.out
    have c14 := Xc14.out
    have c17 := Xc17.out
    have c19 := Xc19.out
    have c24 := Xc24.out
    have c26 := Xc26.out
    have kX := XkX.out
    have t14 : d 14 = true := h14
    have t12 : d 12 = true := (c14 t14).1
    have t10 : d 10 = true := (c12 t12).1
    have t8 : d 8 = true := (c10 t10).1
    have t6 : d 6 = true := (c8 t8).1
    have t4 : d 4 = true := (c6 t6).1
    have t1 : d 1 = true := (c4 t4).1
    have hs1 := (c1 t1).2.1
    have hs2 := (c4 t4).2.1
    have hs3 := (c6 t6).2.1
    have hs4 := (c8 t8).2.1
    have hs5 := (c10 t10).2.1
    have hs6 := (c12 t12).2.1
    have hs7 := (c14 t14).2.2.1
    obtain rfl := (c1 t1).2.2
    obtain rfl := (c6 t6).2.2
    obtain rfl := (c10 t10).2.2
    obtain rfl := (c14 t14).2.2.2
    have f24 : d 24 = false := (Bool.eq_false_or_eq_true (d 24)).elim (fun h => absurd ((c24 h).1.symm.trans hd) (by decide)) id
    have f26 : d 26 = false := (Bool.eq_false_or_eq_true (d 26)).elim (fun h => absurd ((c26 h).1.symm.trans f24) (by decide)) id
    obtain ⟨xE, xB, xC, xZ, xS⟩ := kX f26
    obtain rfl := (c17 h17).2
    obtain rfl := (c19 h19).2
    clear c1 c4 c6 c8 c10 c12 c14 c17 c19 c24 c26 kX
    apply wpOp_at
    case ho => rfl
    intro K hK
    simp only [putAll, Act.put, qA, qB, qC]
    go_simp
    have c4 := Xc4.out
    have c6 := Xc6.out
    have c8 := Xc8.out
    have c10 := Xc10.out
    have c12 := Xc12.out
    have c14 := Xc14.out
    have c17 := Xc17.out
    have c19 := Xc19.out
    have c25 := Xc25.out
    have kR14 := XkR14.out
    obtain ⟨hNn, hN16, hNu⟩ := HN.out hs2
    have hlk := ksomeN_calls w0 gr s7.1 w' N (kR14 h14 hd) hB hg hN16 HL7.out (by omega)
    rw [show ((N : Nat) : Int) = ((u64n nn : Nat) : Int) by rw [hNu], fst_same hs7, ← Hs8.out, ← Hnotes.out] at hlk
    refine hlk.mono ?_
    clear hlk
    rintro e w'' ⟨hG, ⟨hs, ⟨A9, C9, rfl, hF, hF2⟩, hR⟩ | ⟨hs, rfl⟩⟩
    rotate_left 1
    · exact ⟨rfl, xB.trans hG, Or.inr ⟨B8.out hs, rfl⟩⟩
    have hBb := hG.from hB hg
    refine hK _ _ ⟨e0, .int .i64 clk, e2, e3, e4, e5, .int .u64 (n1 : Int), e7, e8, e9, .int .u64 (m1 : Int), e11, e12, e13, .int .i64 asks, e15, e16, (.int .u64 ((u64n nn : Nat) : Int)), e18, (.func (.func 66) #[.pointer (some ⟨gr, 0, none⟩)] #[]), .slice A9 N C9, e21, e22, e23, e24, e25, ?_, hBb, Xc0.out, fun _ => ⟨trivial, hs1, rfl⟩, Xc2.out, Xc3.out, fun _ => ⟨(c4 t4).1, hs2, fun h => ((c4 t4).2.2 f26).butG hG hgB⟩, Xc5.out, fun _ => ⟨(c6 t6).1, hs3, rfl⟩, Xc7.out, fun _ => ⟨(c8 t8).1, hs4, fun h => ((c8 t8).2.2 f26).butG hG hgB⟩, Xc9.out, fun _ => ⟨(c10 t10).1, hs5, rfl⟩, Xc11.out, fun _ => ⟨(c12 t12).1, hs6, fun h => ((c12 t12).2.2 f26).butG hG hgB⟩, Xc13.out, fun _ => ⟨(c14 t14).1, (c14 t14).2.1, hs7, rfl⟩, Xc15.out, Xc16.out, fun _ => ⟨(c17 h17).1, rfl⟩, Xc18.out, fun _ => ⟨(c19 h19).1, rfl⟩, fun _ => ⟨h14, h17, h19, hs, fun _ => ⟨A9, C9, rfl, by rw [Hnotes.out, mkT_len], hF, fun ad h => Nat.le_trans xS (hF2 ad h)⟩⟩, Xc21.out, Xc22.out, Xc23.out, fun h => absurd (f24.symm.trans h) (by decide), fun h => absurd ((c25 h).1.symm.trans f24) (by decide), fun h => absurd (f26.symm.trans h) (by decide), fun _ => ⟨xE.butG hG, xB.trans hG, xC.butG hG (by omega), xZ.butG hG (by omega), Nat.le_trans xS hG.size⟩, fun h => absurd (t1.symm.trans h) (by decide), fun _ h => absurd (t4.symm.trans h) (by decide), fun _ h => absurd (t6.symm.trans h) (by decide), fun _ h => absurd (t8.symm.trans h) (by decide), fun _ h => absurd (t10.symm.trans h) (by decide), fun _ h => absurd (t12.symm.trans h) (by decide), fun _ h => absurd (t14.symm.trans h) (by decide), fun _ h => Bool.noConfusion (show true = false from h), fun _ _ => hR, fun h => absurd (f24.symm.trans h) (by decide)⟩
    simp only [putAll, Act.put, qA, qB, qC]
    all_goals rfl
  | 21, _, hd, hk =>
    have c24 := Xc24.out
    have c26 := Xc26.out
    have kX := XkX.out
    have f26 : d 26 = false := (Bool.eq_false_or_eq_true (d 26)).elim (fun h => absurd (((c24 ((c26 h).1)).2.1).symm.trans hd) (by decide)) id
    obtain ⟨xE, xB, xC, xZ, xS⟩ := kX f26
    have hc0 := xE.2.1.cell 0
    clear c24 c26 kX
    apply wpOp_at
    case ho => rfl
    intro K hK
    simp only [putAll, Act.put, qA, qB, qC]
    go_simp
    have c24 := Xc24.out
    refine hK _ _ ⟨e0, e1, e2, e3, e4, e5, e6, e7, e8, e9, e10, e11, e12, e13, e14, e15, e16, e17, e18, e19, e20, (.pointer (some ⟨gr, 0, none⟩)), e22, e23, e24, e25, ?_, hB, Xc0.out, Xc1.out, Xc2.out, Xc3.out, Xc4.out, Xc5.out, Xc6.out, Xc7.out, Xc8.out, Xc9.out, Xc10.out, Xc11.out, Xc12.out, Xc13.out, Xc14.out, Xc15.out, Xc16.out, Xc17.out, Xc18.out, Xc19.out, Xc20.out, fun _ => rfl, Xc22.out, Xc23.out, fun h => absurd ((c24 h).2.1.symm.trans hd) (by decide), Xc25.out, Xc26.out, XkX.out, XkR0.out, XkR1.out, XkR4.out, XkR6.out, XkR8.out, XkR10.out, XkR12.out, XkR14.out, XkR20.out, XkR24.out⟩
    simp only [putAll, Act.put, qA, qB, qC]
    all_goals rfl
  | 22, _, hd, hk =>
    apply wpOp_at
    case ho => rfl
    intro K hK
    simp only [putAll, Act.put, qA, qB, qC]
    go_simp
    refine hK _ _ ⟨e0, e1, e2, e3, e4, e5, e6, e7, e8, e9, e10, e11, e12, e13, e14, e15, e16, e17, e18, e19, e20, e21, (.pointer (some ⟨W.heap.size + 1, 0, none⟩)), e23, e24, e25, ?_, hB, Xc0.out, Xc1.out, Xc2.out, Xc3.out, Xc4.out, Xc5.out, Xc6.out, Xc7.out, Xc8.out, Xc9.out, Xc10.out, Xc11.out, Xc12.out, Xc13.out, Xc14.out, Xc15.out, Xc16.out, Xc17.out, Xc18.out, Xc19.out, Xc20.out, Xc21.out, fun _ => rfl, Xc23.out, Xc24.out, Xc25.out, Xc26.out, XkX.out, XkR0.out, XkR1.out, XkR4.out, XkR6.out, XkR8.out, XkR10.out, XkR12.out, XkR14.out, XkR20.out, XkR24.out⟩
    simp only [putAll, Act.put, qA, qB, qC]
    all_goals rfl
  | 23, _, hd, hk =>
    have h22 : d 22 = true := hk 22 (by decide +kernel)
    have c22 := Xc22.out
    have c24 := Xc24.out
    have c26 := Xc26.out
    have kX := XkX.out
    obtain rfl := c22 h22
    have f26 : d 26 = false := (Bool.eq_false_or_eq_true (d 26)).elim (fun h => absurd (((c24 ((c26 h).1)).2.2.1).symm.trans hd) (by decide)) id
    obtain ⟨xE, xB, xC, xZ, xS⟩ := kX f26
    have d0 := xC.cell 0
    clear c22 c24 c26 kX
    apply wpOp_at
    case ho => rfl
    intro K hK
    simp only [putAll, Act.put, qA, qB, qC]
    go_simp
    have c24 := Xc24.out
    refine hK _ _ ⟨e0, e1, e2, e3, e4, e5, e6, e7, e8, e9, e10, e11, e12, e13, e14, e15, e16, e17, e18, e19, e20, e21, (.pointer (some ⟨W.heap.size + 1, 0, none⟩)), (.int .i64 nn), e24, e25, ?_, hB, Xc0.out, Xc1.out, Xc2.out, Xc3.out, Xc4.out, Xc5.out, Xc6.out, Xc7.out, Xc8.out, Xc9.out, Xc10.out, Xc11.out, Xc12.out, Xc13.out, Xc14.out, Xc15.out, Xc16.out, Xc17.out, Xc18.out, Xc19.out, Xc20.out, Xc21.out, Xc22.out, fun _ => rfl, fun h => absurd ((c24 h).2.2.1.symm.trans hd) (by decide), Xc25.out, Xc26.out, XkX.out, XkR0.out, XkR1.out, XkR4.out, XkR6.out, XkR8.out, XkR10.out, XkR12.out, XkR14.out, XkR20.out, XkR24.out⟩
    simp only [putAll, Act.put, qA, qB, qC]
    all_goals rfl
  | 24, _, hd, hk =>
    have h20 : d 20 = true := hk 20 (by decide +kernel)
    have h21 : d 21 = true := hk 21 (by decide +kernel)
    have h23 : d 23 = true := hk 23 (by decide +kernel)
    have c1 := Xc1.out
    have c4 := Xc4.out
    have c6 := Xc6.out
    have c8 := Xc8.out
    have c10 := Xc10.out
    have c12 := Xc12.out
    have c14 := Xc14.out
    have c20 := Xc20.out
    have c21 := Xc21.out
    have c23 := Xc23.out
    have c26 := Xc26.out
    have kX := XkX.out
    obtain rfl := c21 h21
    obtain rfl := c23 h23
    have t20 : d 20 = true := h20
    have t14 : d 14 = true := (c20 t20).1
    have t12 : d 12 = true := (c14 t14).1
    have t10 : d 10 = true := (c12 t12).1
    have t8 : d 8 = true := (c10 t10).1
    have t6 : d 6 = true := (c8 t8).1
    have t4 : d 4 = true := (c6 t6).1
    have t1 : d 1 = true := (c4 t4).1
    have hs1 := (c1 t1).2.1
    have hs2 := (c4 t4).2.1
    have hs3 := (c6 t6).2.1
    have hs4 := (c8 t8).2.1
    have hs5 := (c10 t10).2.1
    have hs6 := (c12 t12).2.1
    have hs7 := (c14 t14).2.2.1
    have hs8 := (c20 t20).2.2.2.1
    obtain rfl := (c1 t1).2.2
    obtain rfl := (c6 t6).2.2
    obtain rfl := (c10 t10).2.2
    obtain rfl := (c14 t14).2.2.2
    have f26 : d 26 = false := (Bool.eq_false_or_eq_true (d 26)).elim (fun h => absurd ((c26 h).1.symm.trans hd) (by decide)) id
    obtain ⟨xE, xB, xC, xZ, xS⟩ := kX f26
    clear c1 c4 c6 c8 c10 c12 c14 c20 c21 c23 c26 kX
    apply wpOp_at
    case ho => rfl
    intro K hK
    simp only [putAll, Act.put, qA, qB, qC]
    go_simp
    have c4 := Xc4.out
    have c6 := Xc6.out
    have c8 := Xc8.out
    have c10 := Xc10.out
    have c12 := Xc12.out
    have c14 := Xc14.out
    have c20 := Xc20.out
    have c25 := Xc25.out
    have kR20 := XkR20.out
    obtain ⟨hNn, hN16, hNu⟩ := HN.out hs2
    have hlk := kaudit_calls w0 gr N s8.1 w' (kR20 h20 hd) hB hg hN16
    unfold ReadsA at hlk
    rw [← hNn, fst_same hs8, Hau.out] at hlk
    simp only at hlk
    refine hlk.mono ?_
    clear hlk
    rintro e w'' ⟨hG, ⟨hs, ⟨pl, rfl, hF, hF1, hF2, hF3⟩, hR⟩ | ⟨hs, rfl⟩⟩
    rotate_left 1
    · exact ⟨rfl, xB.trans hG, Or.inr ⟨hs, rfl⟩⟩
    have hBb := hG.from hB hg
    refine hK _ _ ⟨e0, .int .i64 clk, e2, e3, e4, e5, .int .u64 (n1 : Int), e7, e8, e9, .int .u64 (m1 : Int), e11, e12, e13, .int .i64 asks, e15, e16, e17, e18, e19, e20, (.pointer (some ⟨gr, 0, none⟩)), e22, (.int .i64 nn), auAt au pl, e25, ?_, hBb, Xc0.out, fun _ => ⟨trivial, hs1, rfl⟩, Xc2.out, Xc3.out, fun _ => ⟨(c4 t4).1, hs2, fun h => ((c4 t4).2.2 f26).butG hG hgB⟩, Xc5.out, fun _ => ⟨(c6 t6).1, hs3, rfl⟩, Xc7.out, fun _ => ⟨(c8 t8).1, hs4, fun h => ((c8 t8).2.2 f26).butG hG hgB⟩, Xc9.out, fun _ => ⟨(c10 t10).1, hs5, rfl⟩, Xc11.out, fun _ => ⟨(c12 t12).1, hs6, fun h => ((c12 t12).2.2 f26).butG hG hgB⟩, Xc13.out, fun _ => ⟨(c14 t14).1, (c14 t14).2.1, hs7, rfl⟩, Xc15.out, Xc16.out, Xc17.out, Xc18.out, Xc19.out, fun _ => ⟨(c20 t20).1, (c20 t20).2.1, (c20 t20).2.2.1, hs8, fun h => ((c20 t20).2.2.2.2 f26).butG hG hgB⟩, Xc21.out, Xc22.out, Xc23.out, fun _ => ⟨h20, h21, h23, hs, fun _ => ⟨pl, rfl, hF, fun ad h => Nat.le_trans xS (hF1 ad h), fun ad h => Nat.le_trans xS (hF2 ad h), fun ad h => Nat.le_trans xS (hF3 ad h)⟩⟩, fun h => absurd ((c25 h).1.symm.trans hd) (by decide), fun h => absurd (f26.symm.trans h) (by decide), fun _ => ⟨xE.butG hG, xB.trans hG, xC.butG hG (by omega), xZ.butG hG (by omega), Nat.le_trans xS hG.size⟩, fun h => absurd (t1.symm.trans h) (by decide), fun _ h => absurd (t4.symm.trans h) (by decide), fun _ h => absurd (t6.symm.trans h) (by decide), fun _ h => absurd (t8.symm.trans h) (by decide), fun _ h => absurd (t10.symm.trans h) (by decide), fun _ h => absurd (t12.symm.trans h) (by decide), fun _ h => absurd (t14.symm.trans h) (by decide), fun _ h => absurd (t20.symm.trans h) (by decide), fun _ h => Bool.noConfusion (show true = false from h), fun _ _ => hR⟩
    simp only [putAll, Act.put, qA, qB, qC]
    all_goals rfl
  | 25, _, hd, hk =>
    have h1 : d 1 = true := hk 1 (by decide +kernel)
    have h4 : d 4 = true := hk 4 (by decide +kernel)
    have h8 : d 8 = true := hk 8 (by decide +kernel)
    have h12 : d 12 = true := hk 12 (by decide +kernel)
    have h14 : d 14 = true := hk 14 (by decide +kernel)
    have h20 : d 20 = true := hk 20 (by decide +kernel)
    have h24 : d 24 = true := hk 24 (by decide +kernel)
    have c1 := Xc1.out
    have c4 := Xc4.out
    have c6 := Xc6.out
    have c8 := Xc8.out
    have c10 := Xc10.out
    have c12 := Xc12.out
    have c14 := Xc14.out
    have c20 := Xc20.out
    have c24 := Xc24.out
    have c26 := Xc26.out
    have t24 : d 24 = true := h24
    have t20 : d 20 = true := (c24 t24).1
    have t14 : d 14 = true := (c20 t20).1
    have t12 : d 12 = true := (c14 t14).1
    have t10 : d 10 = true := (c12 t12).1
    have t8 : d 8 = true := (c10 t10).1
    have t6 : d 6 = true := (c8 t8).1
    have t4 : d 4 = true := (c6 t6).1
    have t1 : d 1 = true := (c4 t4).1
    have f26 : d 26 = false := (Bool.eq_false_or_eq_true (d 26)).elim (fun h => absurd ((c26 h).2.2.2.2.2.2.1.symm.trans hd) (by decide)) id
    obtain rfl := (c1 t1).2.2
    obtain rfl := (c6 t6).2.2
    obtain rfl := (c10 t10).2.2
    obtain rfl := (c14 t14).2.2.2
    obtain ⟨A1, C1, rfl, r1, q1⟩ := (c4 t4).2.2 f26
    obtain ⟨A2, C2, rfl, r2, q2, q2'⟩ := (c8 t8).2.2 f26
    obtain ⟨A3, C3, rfl, r3, q3, q3'⟩ := (c12 t12).2.2 f26
    obtain ⟨A4, C4, rfl, r4, q4, q4'⟩ := (c20 t20).2.2.2.2 f26
    obtain ⟨pl, rfl, q5, q5', q5'', q5'''⟩ := (c24 t24).2.2.2.2 f26
    have R1 := Lib.hid r1; clear r1
    have R2 := Lib.hid r2; clear r2
    have R3 := Lib.hid r3; clear r3
    have R4 := Lib.hid r4; clear r4
    clear c1 c4 c6 c8 c10 c12 c14 c20 c24 c26
    apply wpOp_at
    case ho => rfl
    intro K hK
    simp only [putAll, Act.put, qA, qB, qC]
    go_simp
    have c1 := Xc1.out
    have c4 := Xc4.out
    have c6 := Xc6.out
    have c8 := Xc8.out
    have c10 := Xc10.out
    have c12 := Xc12.out
    have c14 := Xc14.out
    have c20 := Xc20.out
    have c24 := Xc24.out
    have r1 := R1.out
    have r2 := R2.out
    have r3 := R3.out
    have r4 := R4.out
    refine hK _ _ ⟨e0, .int .i64 clk, e2, e3, .slice A1 L1 C1, e5, .int .u64 (n1 : Int), e7, .slice A2 n1 C2, e9, .int .u64 (m1 : Int), e11, .slice A3 m1 C3, e13, .int .i64 asks, e15, e16, e17, e18, e19, .slice A4 N C4, e21, e22, e23, auAt au pl, (.agg #[.int .i64 clk, .slice A1 L1 C1, .slice A2 n1 C2, .slice A3 m1 C3, .int .i64 asks, .slice A4 N C4, .int .i64 au.try_, .int .i64 au.ph, .slice pl.a1 pl.m1 pl.c1, .slice pl.a2 pl.m2 pl.c2, .slice pl.a3 pl.m3 pl.c3, .bool au.moved]), ?_, hB, Xc0.out, fun _ => ⟨trivial, (c1 t1).2.1, rfl⟩, Xc2.out, Xc3.out, fun _ => ⟨(c4 t4).1, (c4 t4).2.1, fun _ => ⟨A1, C1, rfl, r1, q1⟩⟩, Xc5.out, fun _ => ⟨(c6 t6).1, (c6 t6).2.1, rfl⟩, Xc7.out, fun _ => ⟨(c8 t8).1, (c8 t8).2.1, fun _ => ⟨A2, C2, rfl, r2, q2, q2'⟩⟩, Xc9.out, fun _ => ⟨(c10 t10).1, (c10 t10).2.1, rfl⟩, Xc11.out, fun _ => ⟨(c12 t12).1, (c12 t12).2.1, fun _ => ⟨A3, C3, rfl, r3, q3, q3'⟩⟩, Xc13.out, fun _ => ⟨(c14 t14).1, (c14 t14).2.1, (c14 t14).2.2.1, rfl⟩, Xc15.out, Xc16.out, Xc17.out, Xc18.out, Xc19.out, fun _ => ⟨(c20 t20).1, (c20 t20).2.1, (c20 t20).2.2.1, (c20 t20).2.2.2.1, fun _ => ⟨A4, C4, rfl, r4, q4, q4'⟩⟩, Xc21.out, Xc22.out, Xc23.out, fun _ => ⟨(c24 t24).1, (c24 t24).2.1, (c24 t24).2.2.1, (c24 t24).2.2.2.1, fun _ => ⟨pl, rfl, q5, q5', q5'', q5'''⟩⟩, fun _ => ⟨h24, fun _ => ⟨A1, C1, A2, C2, A3, C3, A4, C4, pl, rfl, ⟨A1, C1, rfl, r1, q1⟩, ⟨A2, C2, rfl, r2, q2, q2'⟩, ⟨A3, C3, rfl, r3, q3, q3'⟩, ⟨A4, C4, rfl, r4, q4, q4'⟩, ⟨q5, q5', q5'', q5'''⟩⟩⟩, fun h => absurd (f26.symm.trans h) (by decide), XkX.out, XkR0.out, XkR1.out, XkR4.out, XkR6.out, XkR8.out, XkR10.out, XkR12.out, XkR14.out, XkR20.out, XkR24.out⟩
    simp only [putAll, Act.put, qA, qB, qC]
    all_goals rfl
  | 26, _, hd, hk =>
    have h0 : d 0 = true := hk 0 (by decide +kernel)
    have h1 : d 1 = true := hk 1 (by decide +kernel)
    have h2 : d 2 = true := hk 2 (by decide +kernel)
    have h3 : d 3 = true := hk 3 (by decide +kernel)
    have h4 : d 4 = true := hk 4 (by decide +kernel)
    have h5 : d 5 = true := hk 5 (by decide +kernel)
    have h6 : d 6 = true := hk 6 (by decide +kernel)
    have h7 : d 7 = true := hk 7 (by decide +kernel)
    have h8 : d 8 = true := hk 8 (by decide +kernel)
    have h9 : d 9 = true := hk 9 (by decide +kernel)
    have h10 : d 10 = true := hk 10 (by decide +kernel)
    have h11 : d 11 = true := hk 11 (by decide +kernel)
    have h24 : d 24 = true := hk 24 (by decide +kernel)
    have h25 : d 25 = true := hk 25 (by decide +kernel)
    have c0 := Xc0.out
    have c1 := Xc1.out
    have c2 := Xc2.out
    have c3 := Xc3.out
    have c4 := Xc4.out
    have c5 := Xc5.out
    have c6 := Xc6.out
    have c7 := Xc7.out
    have c8 := Xc8.out
    have c9 := Xc9.out
    have c10 := Xc10.out
    have c11 := Xc11.out
    have c12 := Xc12.out
    have c14 := Xc14.out
    have c20 := Xc20.out
    have c24 := Xc24.out
    have c25 := Xc25.out
    have kX := XkX.out
    obtain rfl := c0 h0
    obtain rfl := c2 h2
    obtain rfl := c3 h3
    obtain rfl := c5 h5
    obtain rfl := c7 h7
    obtain rfl := c9 h9
    obtain rfl := c11 h11
    have t24 : d 24 = true := h24
    have t20 : d 20 = true := (c24 t24).1
    have t14 : d 14 = true := (c20 t20).1
    have t12 : d 12 = true := (c14 t14).1
    have t10 : d 10 = true := (c12 t12).1
    have t8 : d 8 = true := (c10 t10).1
    have t6 : d 6 = true := (c8 t8).1
    have t4 : d 4 = true := (c6 t6).1
    have t1 : d 1 = true := (c4 t4).1
    obtain ⟨xE, xB, xC, xZ, xS⟩ := kX hd
    obtain ⟨A1, C1, A2, C2, A3, C3, A4, C4, pl, rfl, u1, u2, u3, u4, u5⟩ := (c25 h25).2 hd
    obtain rfl := (c1 h1).2.2
    obtain rfl := (c6 h6).2.2
    obtain rfl := (c10 h10).2.2
    obtain ⟨⟨y0, y1, y2, y3⟩, ⟨y4, y5, y6, y7⟩, y8, y9, y10, y11⟩ := bk_cells xZ
    have fz0 := xZ.free 0
    have fz1 := xZ.free 1
    have fz2 := xZ.free 2
    have fz3 := xZ.free 3
    have fz4 := xZ.free 4
    have fz5 := xZ.free 5
    have fz6 := xZ.free 6
    have fz7 := xZ.free 7
    have fz8 := xZ.free 8
    have fz9 := xZ.free 9
    have fz10 := xZ.free 10
    have fz11 := xZ.free 11
    clear c0 c1 c2 c3 c4 c5 c6 c7 c8 c9 c10 c11 c12 c14 c20 c24 c25 kX
    apply wpOp_at
    case ho => rfl
    intro K hK
    simp only [putAll, Act.put, qA, qB, qC]
    go_simp
    have c1 := Xc1.out
    have c4 := Xc4.out
    have c6 := Xc6.out
    have c8 := Xc8.out
    have c10 := Xc10.out
    have c12 := Xc12.out
    have c14 := Xc14.out
    have c20 := Xc20.out
    have c24 := Xc24.out
    have kR24 := XkR24.out
    have hbl9 : Below w0.heap.size w0 (bk12 w' (W.heap.size + 1 + 1 + 1) ⟨clk, rows, line, outs, asks, notes, au⟩ (.slice A1 L1 C1) (.slice A2 n1 C2) (.slice A3 m1 C3) (.slice A4 N C4) (.slice pl.a1 pl.m1 pl.c1) (.slice pl.a2 pl.m2 pl.c2) (.slice pl.a3 pl.m3 pl.c3)) := bk12_below hB (by show w0.heap.size ≤ W.heap.size + 1 + 1 + 1; omega)
    refine hK _ _ ⟨(.pointer (some ⟨gr, 0, none⟩)), .int .i64 clk, (.pointer (some ⟨gr, 0, none⟩)), (.agg #[.int .i64 nn, .int .i64 q, .int .i64 r, .int .i64 p, .int .i64 kk, .int .i64 cc]), e4, (.pointer (some ⟨gr, 0, none⟩)), .int .u64 (n1 : Int), (.func (.func 58) #[] #[.pointer (some ⟨W.heap.size + 1 + 1 + 1 + 1, 0, none⟩), .pointer (some ⟨W.heap.size, 0, none⟩)]), e8, (.pointer (some ⟨gr, 0, none⟩)), .int .u64 (m1 : Int), (.func (.func 60) #[] #[.pointer (some ⟨W.heap.size + 1 + 1 + 1 + 1, 0, none⟩), .pointer (some ⟨W.heap.size, 0, none⟩)]), e12, e13, e14, e15, e16, e17, e18, e19, e20, e21, e22, e23, e24, (.agg #[.int .i64 clk, .slice A1 L1 C1, .slice A2 n1 C2, .slice A3 m1 C3, .int .i64 asks, .slice A4 N C4, .int .i64 au.try_, .int .i64 au.ph, .slice pl.a1 pl.m1 pl.c1, .slice pl.a2 pl.m2 pl.c2, .slice pl.a3 pl.m3 pl.c3, .bool au.moved]), ?_, hbl9, Xc0.out, fun _ => ⟨trivial, (c1 t1).2.1, rfl⟩, Xc2.out, Xc3.out, fun _ => ⟨(c4 t4).1, (c4 t4).2.1, fun h => Bool.noConfusion (show true = false from h)⟩, Xc5.out, fun _ => ⟨(c6 t6).1, (c6 t6).2.1, rfl⟩, Xc7.out, fun _ => ⟨(c8 t8).1, (c8 t8).2.1, fun h => Bool.noConfusion (show true = false from h)⟩, Xc9.out, fun _ => ⟨(c10 t10).1, (c10 t10).2.1, rfl⟩, Xc11.out, fun _ => ⟨(c12 t12).1, (c12 t12).2.1, fun h => Bool.noConfusion (show true = false from h)⟩, Xc13.out, c14, Xc15.out, Xc16.out, Xc17.out, Xc18.out, Xc19.out, fun _ => ⟨(c20 t20).1, (c20 t20).2.1, (c20 t20).2.2.1, (c20 t20).2.2.2.1, fun h => Bool.noConfusion (show true = false from h)⟩, Xc21.out, Xc22.out, Xc23.out, fun _ => ⟨(c24 t24).1, (c24 t24).2.1, (c24 t24).2.2.1, (c24 t24).2.2.2.1, fun h => Bool.noConfusion (show true = false from h)⟩, fun _ => ⟨h24, fun h => Bool.noConfusion (show true = false from h)⟩, fun _ => ⟨h24, h0, h2, h3, h5, h9, h25, (c24 h24).2.2.2.1, A1, C1, A2, C2, A3, C3, A4, C4, pl, w', rfl, u1, u2, u3, u4, u5, xB, xZ, kR24 h24 hd⟩, fun h => Bool.noConfusion (show true = false from h), fun h => absurd (t1.symm.trans h) (by decide), fun _ h => absurd (t4.symm.trans h) (by decide), fun _ h => absurd (t6.symm.trans h) (by decide), fun _ h => absurd (t8.symm.trans h) (by decide), fun _ h => absurd (t10.symm.trans h) (by decide), fun _ h => absurd (t12.symm.trans h) (by decide), fun _ h => absurd (t14.symm.trans h) (by decide), fun _ h => absurd (t20.symm.trans h) (by decide), fun _ h => absurd (t24.symm.trans h) (by decide), fun _ h => Bool.noConfusion (show true = false from h)⟩
    simp only [putAll, Act.put, qA, qB, qC]
    all_goals rfl
  | k + 27, hi, _, _ => exact absurd hi (by simp)
 case ends =>
  intro d a' w' hJ hall
  obtain ⟨e0, e1, e2, e3, e4, e5, e6, e7, e8, e9, e10, e11, e12, e13, e14, e15, e16, e17, e18, e19, e20, e21, e22, e23, e24, e25, rfl, hC⟩ := hJ
  obtain ⟨hB, hC⟩ := hC
  obtain ⟨c0, hC⟩ := hC
  obtain ⟨c1, hC⟩ := hC
  obtain ⟨c2, hC⟩ := hC
  obtain ⟨c3, hC⟩ := hC
  obtain ⟨c4, hC⟩ := hC
  obtain ⟨c5, hC⟩ := hC
  obtain ⟨c6, hC⟩ := hC
  obtain ⟨c7, hC⟩ := hC
  obtain ⟨c8, hC⟩ := hC
  obtain ⟨c9, hC⟩ := hC
  obtain ⟨c10, hC⟩ := hC
  obtain ⟨c11, hC⟩ := hC
  obtain ⟨c12, hC⟩ := hC
  obtain ⟨c13, hC⟩ := hC
  obtain ⟨c14, hC⟩ := hC
  obtain ⟨c15, hC⟩ := hC
  obtain ⟨c16, hC⟩ := hC
  obtain ⟨c17, hC⟩ := hC
  obtain ⟨c18, hC⟩ := hC
  obtain ⟨c19, hC⟩ := hC
  obtain ⟨c20, hC⟩ := hC
  obtain ⟨c21, hC⟩ := hC
  obtain ⟨c22, hC⟩ := hC
  obtain ⟨c23, hC⟩ := hC
  obtain ⟨c24, hC⟩ := hC
  obtain ⟨c25, hC⟩ := hC
  obtain ⟨c26, hC⟩ := hC
  obtain ⟨kX, hC⟩ := hC
  obtain ⟨kR0, hC⟩ := hC
  obtain ⟨kR1, hC⟩ := hC
  obtain ⟨kR4, hC⟩ := hC
  obtain ⟨kR6, hC⟩ := hC
  obtain ⟨kR8, hC⟩ := hC
  obtain ⟨kR10, hC⟩ := hC
  obtain ⟨kR12, hC⟩ := hC
  obtain ⟨kR14, hC⟩ := hC
  obtain ⟨kR20, hC⟩ := hC
  have kR24 := hC
  clear hC
  obtain ⟨-, -, -, -, -, -, -, hs9, A1, C1, A2, C2, A3, C3, A4, C4, pl, wp, hw, ⟨_, _, E1, L1', U1⟩, ⟨_, _, E2, L2', U2, V2⟩, ⟨_, _, E3, L3', U3, V3⟩, ⟨_, _, E4, L4', U4, V4⟩, ⟨U5, V5, V6, V7⟩, hBw, hZw, hRw⟩ := c26 (hall 26 (by decide +kernel))
  clear kX kR0 kR1 kR4 kR6 kR8 kR10 kR12 kR14 kR20 kR24 c0 c1 c2 c3 c4 c5 c6 c7 c8 c9 c10 c11 c12 c13 c14 c15 c16 c17 c18 c19 c20 c21 c22 c23 c24 c25 c26 hall hB
  simp only [Value.slice.injEq, true_and] at E1 E2 E3 E4
  obtain ⟨rfl, rfl⟩ := E1
  obtain ⟨rfl, rfl⟩ := E2
  obtain ⟨rfl, rfl⟩ := E3
  obtain ⟨rfl, rfl⟩ := E4
  have hBW : W.heap.size ≤ B := by omega
  have hbut : Hid (ButG gr W w') := by show ButG _ _ _; rw [hw]; exact bk12_but hBw (by omega)
  have hrd : Hid (Rd w0 gr s9.1 w') := by show Rd _ _ _ _; rw [hw]; exact bk12_rd hRw (by omega)
  have hq : Whole w' (W.heap.size + 1 + 1 + 1) 37 (bkCells ⟨clk, rows, line, outs, asks, notes, au⟩ (.slice A1 L1 C1) (.slice A2 n1 C2) (.slice A3 m1 C3) (.slice A4 N C4) (.slice pl.a1 pl.m1 pl.c1) (.slice pl.a2 pl.m2 pl.c2) (.slice pl.a3 pl.m3 pl.c3)) := by rw [hw]; exact bk12_whole hZw
  have hfin : Hid (BkHeld W.heap.size w' (⟨A1, L1, C1, A2, n1, C2, A3, m1, C3, A4, N, C4, pl⟩ : Bl) (⟨clk, rows, line, outs, asks, notes, au⟩ : Bk)) := by
   show BkHeld _ _ _ _
   rw [hw]
   have hin : BkIn wp (⟨A1, L1, C1, A2, n1, C2, A3, m1, C3, A4, N, C4, pl⟩ : Bl) (⟨clk, rows, line, outs, asks, notes, au⟩ : Bk) := ⟨⟨L1', U1.1⟩, ⟨L2', U2⟩, ⟨L3', U3⟩, ⟨L4', U4⟩, U5⟩
   have hFK : FarK (W.heap.size + 1 + 1 + 1) (⟨A1, L1, C1, A2, n1, C2, A3, m1, C3, A4, N, C4, pl⟩ : Bl) := ⟨far_ne V2 hzB, far_ne V3 hzB, far_ne V4 hzB, far_ne V5 hzB, far_ne V6 hzB, far_ne V7 hzB⟩
   have hin2 := bk12_in (x := ⟨clk, rows, line, outs, asks, notes, au⟩) (rv := (.slice A1 L1 C1)) (lv := (.slice A2 n1 C2)) (ov := (.slice A3 m1 C3)) (nv := (.slice A4 N C4)) (tv := (.slice pl.a1 pl.m1 pl.c1)) (uv := (.slice pl.a2 pl.m2 pl.c2)) (iv := (.slice pl.a3 pl.m3 pl.c3)) hin U1 hzB hFK
   exact bk_held hin2 ((bk12_far U1 hzB).mono hBW) (fun ad h => Nat.le_trans hBW (V2 ad h)) (fun ad h => Nat.le_trans hBW (V3 ad h)) (fun ad h => Nat.le_trans hBW (V4 ad h)) (fun ad h => Nat.le_trans hBW (V5 ad h)) (fun ad h => Nat.le_trans hBW (V6 ad h)) (fun ad h => Nat.le_trans hBW (V7 ad h))
  have Hs9 := Lib.hid hs9
  obtain ⟨⟨q0, q1, q2, q3⟩, ⟨q4, q5, q6, q7⟩, q8, q9, q10, q11⟩ := bk_cells hq
  clear hw hq L1' U1 L2' U2 V2 L3' U3 V3 L4' U4 V4 U5 V5 V6 V7 hBw hZw hRw hs9
  simp only [putAll, Act.put, qA, qB, qC]
  go_wp2_with fail
  refine bodyPost_ret (v := bkAt (⟨clk, rows, line, outs, asks, notes, au⟩ : Bk) (⟨A1, L1, C1, A2, n1, C2, A3, m1, C3, A4, N, C4, pl⟩ : Bl)) (by simp [results, Tryz.results20, go_sem, q0, q1, q2, q3, q4, q5, q6, q7, q8, q9, q10, q11]) rfl ⟨hbut.out, Or.inl ⟨Hs9.out, ⟨(⟨A1, L1, C1, A2, n1, C2, A3, m1, C3, A4, N, C4, pl⟩ : Bl), by rw [HKe.out], by rw [HKe.out]; exact hfin.out⟩, hrd.out⟩⟩
end Go.Proofs.YtnkgakhnlbifdaaGreat
