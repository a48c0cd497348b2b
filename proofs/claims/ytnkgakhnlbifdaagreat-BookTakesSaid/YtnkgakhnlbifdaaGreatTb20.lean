/- Parts, as far as BookTakesCards reaches them, of: GoodB, MailGo, BookGo. No law is proved here. -/
import Derived.Test.YtnkgakhnlbifdaaGreatTb0
import Derived.Test.YtnkgakhnlbifdaaGreatTb5
import Derived.IntWalk
import Derived.Test.YtnkgakhnlbifdaaGreatTb2
namespace Go.Proofs.YtnkgakhnlbifdaaGreat
open Go.RowKit
def GoodB (w0 : World) (v : Value) (zs : List Int) : Prop := ∃ A n C, v = .slice A n C ∧ n = zs.length ∧ n ≤ C ∧ ∀ W, Below w0.heap.size w0 W → Bytes W (.slice A n C) zs
end Go.Proofs.YtnkgakhnlbifdaaGreat
namespace Go.Proofs.YtnkgakhnlbifdaaGreat
open Go.RowKit
open Classical in
noncomputable def rd1 (s : List Int × Bool) : Int × (List Int × Bool) := if h : ∃ x : Nat × List Int, PackMath.Begins s.1 x.1 x.2 then (IntKind.i64.wrap (h.choose.1 : Int), (h.choose.2, s.2)) else (0, ([], true))
theorem rd1_yes {zs rest : List Int} {v : Nat} {b : Bool} (h : PackMath.Begins zs v rest) : rd1 (zs, b) = (IntKind.i64.wrap (v : Int), (rest, b)) := by
 have hex : ∃ x : Nat × List Int, PackMath.Begins (zs, b).1 x.1 x.2 := ⟨(v, rest), h⟩
 unfold rd1
 rw [dif_pos hex]
 obtain ⟨e1, e2⟩ := hex.choose_spec.unique h
 rw [e1, e2]
theorem rd1_no {zs : List Int} {b : Bool} (h : PackMath.Bare zs) : rd1 (zs, b) = (0, ([], true)) := by
 unfold rd1
 exact dif_neg fun ⟨x, hx⟩ => h x.1 x.2 hx.1 hx.2
noncomputable def rdS (s : List Int × Bool) : Nat → List Int × Bool
 | 0 => s
 | k + 1 => (rd1 (rdS s k)).2
noncomputable def rdX (s : List Int × Bool) (k : Nat) : Int := (rd1 (rdS s k)).1
theorem rdS_add (s : List Int × Bool) (a b : Nat) : rdS (rdS s a) b = rdS s (a + b) := by
 induction b with
 | zero => rfl
 | succ b ih => show (rd1 (rdS (rdS s a) b)).2 = (rd1 (rdS s (a + b))).2; rw [ih]
theorem rdX_add (s : List Int × Bool) (a b : Nat) : rdX (rdS s a) b = rdX s (a + b) := by unfold rdX; rw [rdS_add]
theorem rdS_len (s : List Int × Bool) (k : Nat) : (rdS s k).1.length ≤ s.1.length := by
 induction k with
 | zero => exact Nat.le_refl _
 | succ k ih =>
   show (rd1 (rdS s k)).2.1.length ≤ _
   obtain ⟨z, b, e⟩ : ∃ z b, rdS s k = (z, b) := ⟨_, _, rfl⟩
   rw [e] at ih ⊢
   rcases PackMath.begins_or z with ⟨v, rest, hb⟩ | hb
   · rw [rd1_yes hb]
     have h := congrArg List.length hb.2
     rw [List.length_append] at h
     have ih' : z.length ≤ s.1.length := ih
     show rest.length ≤ _
     omega
   · rw [rd1_no hb]; exact Nat.zero_le _
theorem u64n_wrap {v : Nat} (h : v < 18446744073709551616) : u64n (IntKind.i64.wrap (v : Int)) = v := by rw [IntKind.wrap_i64]; unfold u64n; omega
theorem wrap_of_u64n {v : Int} (h0 : 0 ≤ v) (h1 : v ≤ 1125899906842624) : IntKind.i64.wrap ((u64n v : Nat) : Int) = v := by rw [u64n_of h0 (by omega)]; exact IntWalk.i64_in _ (by omega)
theorem rd_back {zs : List Int} {b : Bool} (k : Nat) : (rdS (zs, b) k).2 = false → b = false ∧ zs = bytesN ((List.range k).map fun j => u64n (rdX (zs, b) j)) ++ (rdS (zs, b) k).1 := by
 induction k with
 | zero => intro h; exact ⟨h, rfl⟩
 | succ k ih =>
   intro h
   have e1 : rdS (zs, b) (k + 1) = (rd1 (rdS (zs, b) k)).2 := rfl
   rw [e1] at h ⊢
   obtain ⟨z, d, e⟩ : ∃ z d, rdS (zs, b) k = (z, d) := ⟨_, _, rfl⟩
   have e2 : rdX (zs, b) k = (rd1 (z, d)).1 := by unfold rdX; rw [e]
   rw [e] at h ⊢ ih
   rcases PackMath.begins_or z with ⟨v, rest, hb⟩ | hb
   · rw [rd1_yes hb] at h e2 ⊢
     obtain ⟨i1, i2⟩ := ih h
     refine ⟨i1, ?_⟩
     rw [List.range_succ, List.map_append, bytesN_append, List.map_cons, List.map_nil, bytesN_one, e2, u64n_wrap hb.1, List.append_assoc, ← hb.2]
     exact i2
   · rw [rd1_no hb] at h; cases h
theorem rd_forth (ns : List Nat) (hs : ∀ v ∈ ns, v < 18446744073709551616) (r : List Int) : rdS (bytesN ns ++ r, false) ns.length = (r, false) ∧ ∀ j, j < ns.length → rdX (bytesN ns ++ r, false) j = IntKind.i64.wrap ((ns[j]?.getD 0 : Nat) : Int) := by
 induction ns with
 | nil => exact ⟨by show (([] : List Int) ++ r, false) = _; rw [List.nil_append], fun j hj => absurd hj (by simp)⟩
 | cons v ns ih =>
   have hb : PackMath.Begins (bytesN (v :: ns) ++ r) v (bytesN ns ++ r) := ⟨hs v (by simp), by rw [bytesN_cons, List.append_assoc]⟩
   have e1 : rdS (bytesN (v :: ns) ++ r, false) 1 = (bytesN ns ++ r, false) := by show (rd1 _).2 = _; rw [show rdS (bytesN (v :: ns) ++ r, false) 0 = (bytesN (v :: ns) ++ r, false) from rfl, rd1_yes hb]
   obtain ⟨i1, i2⟩ := ih fun u hu => hs u (by simp [hu])
   refine ⟨?_, fun j hj => ?_⟩
   · rw [List.length_cons, Nat.add_comm, ← rdS_add, e1]; exact i1
   · match j, hj with
     | 0, _ =>
       show (rd1 (bytesN (v :: ns) ++ r, false)).1 = _
       rw [rd1_yes hb]; rfl
     | j + 1, hj =>
       rw [Nat.add_comm j 1, ← rdX_add, e1, i2 j (by simp at hj; omega), Nat.add_comm 1 j, List.getElem?_cons_succ]
noncomputable def rdB (c : Cf) (s : List Int × Bool) : List Rw × (List Int × Bool) := match takeB c s.1 with
 | some (l, rest) => (l, (rest, s.2))
 | none => ([], ([], true))
theorem rdB_yes {c : Cf} {zs rest : List Int} {b : Bool} {l : List Rw} (h : takeB c zs = some (l, rest)) : rdB c (zs, b) = (l, (rest, b)) := by unfold rdB; rw [show (zs, b).1 = zs from rfl, h]
theorem rdB_no {c : Cf} {zs : List Int} {b : Bool} (h : takeB c zs = none) : rdB c (zs, b) = ([], ([], true)) := by unfold rdB; rw [show (zs, b).1 = zs from rfl, h]
end Go.Proofs.YtnkgakhnlbifdaaGreat
namespace Go.Proofs.YtnkgakhnlbifdaaGreat
open Go.RowKit
theorem rd1_wrap (z : List Int) : IntKind.i64.wrap ((u64n (rd1 (z, false)).1 : Nat) : Int) = (rd1 (z, false)).1 := by
 rcases PackMath.begins_or z with ⟨v, rest, hb⟩ | hb
 · rw [rd1_yes hb]; simp only; rw [u64n_wrap hb.1]
 · rw [rd1_no hb]; rfl
def mkP (who : Int) (f : Nat → Int) (n : Nat) : List Rq := (List.range n).map fun i => ⟨f (2 * i), who, f (2 * i + 1)⟩
def mkT (f : Nat → Int) (n : Nat) : List Nt := (List.range n).map fun i => ⟨f (7 * i), f (7 * i + 1), f (7 * i + 2), f (7 * i + 3), f (7 * i + 4), f (7 * i + 5), f (7 * i + 6)⟩
theorem mkP_len (who : Int) (f : Nat → Int) (n : Nat) : (mkP who f n).length = n := by unfold mkP; rw [List.length_map, List.length_range]
theorem mkT_len (f : Nat → Int) (n : Nat) : (mkT f n).length = n := by unfold mkT; rw [List.length_map, List.length_range]
theorem mkP_who (who : Int) (f : Nat → Int) (n : Nat) : ∀ q ∈ mkP who f n, q.a = who := fun q hq => by
 obtain ⟨i, _, rfl⟩ := List.mem_map.1 hq; rfl
theorem mkP_pair (who : Int) (f : Nat → Int) (n : Nat) : pairN (mkP who f n) = (List.range (2 * n)).map f := by
 induction n with
 | zero => rfl
 | succ n ih =>
   unfold mkP pairN at *
   rw [List.range_succ, List.map_append, List.flatMap_append, ih, show 2 * (n + 1) = 2 * n + 1 + 1 by omega, List.range_succ, List.range_succ]
   simp
theorem mkT_note (f : Nat → Int) (n : Nat) : notesN (mkT f n) = (List.range (7 * n)).map f := by
 induction n with
 | zero => rfl
 | succ n ih =>
   unfold mkT notesN at *
   rw [List.range_succ, List.map_append, List.flatMap_append, ih, show 7 * (n + 1) = 7 * n + 1 + 1 + 1 + 1 + 1 + 1 + 1 by omega]
   iterate 7 rw [List.range_succ]
   simp [noteN]
theorem range_map_eq {P : List Int} {f : Nat → Int} (h : ∀ j, j < P.length → f j = P[j]?.getD 0) : (List.range P.length).map f = P := by
 refine List.ext_getElem (by simp) fun j h1 h2 => ?_
 rw [List.getElem_map, List.getElem_range, h j h2, List.getElem?_eq_getElem h2]; rfl
noncomputable def rdF (s : List Int × Bool) : Bool × (List Int × Bool) := if 1 < u64n (rd1 s).1 then (false, ((rd1 s).2.1, true)) else (decide (u64n (rd1 s).1 = 1), (rd1 s).2)
noncomputable def rdT (s : List Int × Bool) : (Bool × Int × Int) × (List Int × Bool) := (((rdF s).1, rdX (rdF s).2 0, rdX (rdF s).2 1), rdS (rdF s).2 2)
noncomputable def tS (s : List Int × Bool) : Nat → List Int × Bool
 | 0 => s
 | k + 1 => (rdT (tS s k)).2
noncomputable def tX (s : List Int × Bool) (k : Nat) : Bool × Int × Int := (rdT (tS s k)).1
noncomputable def goAu (N : Nat) (s : List Int × Bool) : Au × (List Int × Bool) :=
 if rdX s 0 = 0 ∧ rdX s 1 = 0 then (au0, rdS s 2)
 else (⟨rdX s 0, rdX s 1, (List.range N).map fun i => (tX (rdS s 2) i).1, (List.range N).map fun i => (tX (rdS s 2) i).2.1, (List.range N).map fun i => (tX (rdS s 2) i).2.2, (rdF (tS (rdS s 2) N)).1⟩, (rdF (tS (rdS s 2) N)).2)
noncomputable def g1 (zs : List Int) : List Int × Bool := rdS (zs, false) 1
noncomputable def g2 (c : Cf) (zs : List Int) : List Int × Bool := (rdB c (g1 zs)).2
noncomputable def gn (c : Cf) (zs : List Int) : Nat := u64n (rdX (g2 c zs) 0)
noncomputable def g3 (c : Cf) (zs : List Int) : List Int × Bool := rdS (g2 c zs) 1
noncomputable def g4 (c : Cf) (zs : List Int) : List Int × Bool := rdS (g3 c zs) (2 * gn c zs)
noncomputable def gm (c : Cf) (zs : List Int) : Nat := u64n (rdX (g4 c zs) 0)
noncomputable def g5 (c : Cf) (zs : List Int) : List Int × Bool := rdS (g4 c zs) 1
noncomputable def g6 (c : Cf) (zs : List Int) : List Int × Bool := rdS (g5 c zs) (2 * gm c zs)
noncomputable def g7 (c : Cf) (zs : List Int) : List Int × Bool := rdS (g6 c zs) 1
noncomputable def g8 (c : Cf) (N : Nat) (zs : List Int) : List Int × Bool := rdS (g7 c zs) (7 * N)
noncomputable def goK (c : Cf) (who : Int) (N : Nat) (zs : List Int) : Bk :=
 ⟨rdX (zs, false) 0, (rdB c (g1 zs)).1, mkP who (rdX (g3 c zs)) (gn c zs), mkP who (rdX (g5 c zs)) (gm c zs), rdX (g6 c zs) 0, mkT (rdX (g7 c zs)) N, (goAu N (g8 c N zs)).1⟩
noncomputable def goR (c : Cf) (N : Nat) (zs : List Int) : List Int × Bool := (goAu N (g8 c N zs)).2
theorem rdB_back {c : Cf} {z : List Int} {b : Bool} (h : (rdB c (z, b)).2.2 = false) : b = false ∧ z = booksB (rdB c (z, b)).1 ++ (rdB c (z, b)).2.1 ∧ rightOk c (rdB c (z, b)).1 := by
 rcases hx : takeB c z with _ | ⟨l, rest⟩
 · rw [rdB_no hx] at h; cases h
 · rw [rdB_yes hx] at h ⊢
   have := takeB_some hx
   exact ⟨h, this.2, this.1⟩
theorem rdF_back {z : List Int} {b : Bool} (h : (rdF (z, b)).2.2 = false) : b = false ∧ z = bytesN [u64n (oneI (rdF (z, b)).1)] ++ (rdF (z, b)).2.1 := by
 unfold rdF at *
 split at h
 · cases h
 · rename_i hv
   rw [if_neg hv]
   have hk := rd_back (zs := z) (b := b) 1
   have e1 : rdS (z, b) 1 = (rd1 (z, b)).2 := rfl
   have e0 : rdX (z, b) 0 = (rd1 (z, b)).1 := rfl
   rw [e1] at hk
   obtain ⟨h1, h2⟩ := hk h
   refine ⟨h1, ?_⟩
   simp only
   have h3 : u64n (oneI (decide (u64n (rd1 (z, b)).1 = 1))) = u64n (rd1 (z, b)).1 := by
    by_cases e : u64n (rd1 (z, b)).1 = 1
    · rw [decide_eq_true e, e]; rfl
    · rw [decide_eq_false e]
      have : u64n (rd1 (z, b)).1 = 0 := by omega
      rw [this]; rfl
   rw [h3]
   have h4 : (List.range 1).map (fun j => u64n (rdX (z, b) j)) = [u64n (rd1 (z, b)).1] := by rw [← e0]; rfl
   rw [h4] at h2
   exact h2
theorem rdT_back {z : List Int} {b : Bool} (h : (rdT (z, b)).2.2 = false) : b = false ∧ z = bytesN ([oneI (rdT (z, b)).1.1, (rdT (z, b)).1.2.1, (rdT (z, b)).1.2.2].map u64n) ++ (rdT (z, b)).2.1 := by
 obtain ⟨⟨f, y, d⟩, hf⟩ : ∃ q, rdF (z, b) = q := ⟨_, rfl⟩
 have hF := rdF_back (z := z) (b := b)
 unfold rdT at *
 rw [hf] at h hF ⊢
 simp only at h hF ⊢
 obtain ⟨h1, h2⟩ := rd_back (zs := y) (b := d) 2 h
 obtain ⟨h3, h4⟩ := hF h1
 refine ⟨h3, ?_⟩
 have h5 : (List.range 2).map (fun j => u64n (rdX (y, d) j)) = [u64n (rdX (y, d) 0), u64n (rdX (y, d) 1)] := rfl
 rw [h5] at h2
 rw [List.map_cons, ← List.singleton_append, bytesN_append, List.append_assoc]
 exact h4.trans (congrArg _ h2)
theorem tS_back {z : List Int} {b : Bool} (N : Nat) : (tS (z, b) N).2 = false → b = false ∧ z = bytesN (((List.range N).flatMap fun i => [oneI (tX (z, b) i).1, (tX (z, b) i).2.1, (tX (z, b) i).2.2]).map u64n) ++ (tS (z, b) N).1 := by
 induction N with
 | zero => intro h; exact ⟨h, rfl⟩
 | succ N ih =>
   intro h
   have e1 : tS (z, b) (N + 1) = (rdT (tS (z, b) N)).2 := rfl
   have e2 : tX (z, b) N = (rdT (tS (z, b) N)).1 := rfl
   rw [e1] at h ⊢
   rw [List.range_succ, List.flatMap_append, List.flatMap_singleton, e2]
   obtain ⟨⟨y, d⟩, hs⟩ : ∃ q, tS (z, b) N = q := ⟨_, rfl⟩
   rw [hs] at h ih ⊢
   obtain ⟨h1, h2⟩ := rdT_back h
   obtain ⟨h3, h4⟩ := ih h1
   refine ⟨h3, ?_⟩
   rw [List.map_append, bytesN_append, List.append_assoc]
   exact h4.trans (congrArg _ h2)
theorem getD_range {α : Type} (F : Nat → α) {N i : Nat} (h : i < N) (z : α) : ((List.range N).map F)[i]?.getD z = F i := by
 rw [List.getElem?_map, List.getElem?_range h]; rfl
theorem tripN_mk (try_ ph : Int) (F : Nat → Bool × Int × Int) (N : Nat) (mv : Bool) : tripN ⟨try_, ph, (List.range N).map fun i => (F i).1, (List.range N).map fun i => (F i).2.1, (List.range N).map fun i => (F i).2.2, mv⟩ = (List.range N).flatMap fun i => [oneI (F i).1, (F i).2.1, (F i).2.2] := by
 unfold tripN
 simp only [List.length_map, List.length_range]
 rw [List.flatMap_def, List.flatMap_def]
 congr 1
 refine List.map_congr_left fun i hi => ?_
 have h := List.mem_range.1 hi
 rw [getD_range _ h, getD_range _ h, getD_range _ h]
theorem goAu_back {N : Nat} {z : List Int} {b : Bool} (h : (goAu N (z, b)).2.2 = false) : b = false ∧ z = bytesN ((auN (goAu N (z, b)).1).map u64n) ++ (goAu N (z, b)).2.1 := by
 unfold goAu at *
 by_cases h0 : rdX (z, b) 0 = 0 ∧ rdX (z, b) 1 = 0
 · rw [if_pos h0] at h ⊢
   obtain ⟨h1, h2⟩ := rd_back 2 h
   refine ⟨h1, ?_⟩
   have h5 : (List.range 2).map (fun j => u64n (rdX (z, b) j)) = [u64n (rdX (z, b) 0), u64n (rdX (z, b) 1)] := rfl
   rw [h5, h0.1, h0.2] at h2
   exact h2
 · rw [if_neg h0] at h ⊢
   simp only at h ⊢
   have hne : (⟨rdX (z, b) 0, rdX (z, b) 1, (List.range N).map fun i => (tX (rdS (z, b) 2) i).1, (List.range N).map fun i => (tX (rdS (z, b) 2) i).2.1, (List.range N).map fun i => (tX (rdS (z, b) 2) i).2.2, (rdF (tS (rdS (z, b) 2) N)).1⟩ : Au) ≠ au0 := fun e => h0 ⟨congrArg Au.try_ e, congrArg Au.ph e⟩
   unfold auN
   rw [if_neg hne, tripN_mk]
   simp only
   have hT := tS_back (z := (rdS (z, b) 2).1) (b := (rdS (z, b) 2).2) N
   have hS := rd_back (zs := z) (b := b) 2
   obtain ⟨⟨y, d⟩, hs⟩ : ∃ q, rdS (z, b) 2 = q := ⟨_, rfl⟩
   rw [hs] at h hT hS ⊢
   simp only at hT
   have hF := rdF_back (z := (tS (y, d) N).1) (b := (tS (y, d) N).2)
   obtain ⟨⟨y2, d2⟩, hs2⟩ : ∃ q, tS (y, d) N = q := ⟨_, rfl⟩
   rw [hs2] at h hT hF ⊢
   simp only at hF
   obtain ⟨h1, h2⟩ := hF h
   obtain ⟨h3, h4⟩ := hT h1
   obtain ⟨h5, h6⟩ := hS h3
   refine ⟨h5, ?_⟩
   have h7 : (List.range 2).map (fun j => u64n (rdX (z, b) j)) = [u64n (rdX (z, b) 0), u64n (rdX (z, b) 1)] := rfl
   rw [h7] at h6
   rw [List.map_append, List.map_append, bytesN_append, bytesN_append, List.append_assoc, List.append_assoc]
   exact h6.trans (congrArg _ (h4.trans (congrArg _ h2)))
theorem u64n_u64n (v : Int) : u64n ((u64n v : Nat) : Int) = u64n v := by
 have := u64n_lt v
 rw [u64n_nat this]
theorem goK_back {c : Cf} {who : Int} {N : Nat} {zs : List Int} (h : (goR c N zs).2 = false) : zs = bookBytes (goK c who N zs) ++ (goR c N zs).1 ∧ rightOk c (goK c who N zs).rows := by
 have a8 : (goAu N ((g8 c N zs).1, (g8 c N zs).2)).2.2 = false := h
 obtain ⟨f8, b8⟩ := goAu_back a8
 have a7 : (rdS ((g7 c zs).1, (g7 c zs).2) (7 * N)).2 = false := f8
 obtain ⟨f7, b7⟩ := rd_back _ a7
 have a6 : (rdS ((g6 c zs).1, (g6 c zs).2) 1).2 = false := f7
 obtain ⟨f6, b6⟩ := rd_back _ a6
 have a5 : (rdS ((g5 c zs).1, (g5 c zs).2) (2 * gm c zs)).2 = false := f6
 obtain ⟨f5, b5⟩ := rd_back _ a5
 have a4 : (rdS ((g4 c zs).1, (g4 c zs).2) 1).2 = false := f5
 obtain ⟨f4, b4⟩ := rd_back _ a4
 have a3 : (rdS ((g3 c zs).1, (g3 c zs).2) (2 * gn c zs)).2 = false := f4
 obtain ⟨f3, b3⟩ := rd_back _ a3
 have a2 : (rdS ((g2 c zs).1, (g2 c zs).2) 1).2 = false := f3
 obtain ⟨f2, b2⟩ := rd_back _ a2
 have a1 : (rdB c ((g1 zs).1, (g1 zs).2)).2.2 = false := f2
 obtain ⟨f1, b1, hr⟩ := rdB_back a1
 have a0 : (rdS (zs, false) 1).2 = false := f1
 obtain ⟨_, b0⟩ := rd_back _ a0
 refine ⟨?_, hr⟩
 have one : ∀ s : List Int × Bool, (List.range 1).map (fun j => u64n (rdX s j)) = [u64n (rdX s 0)] := fun s => rfl
 have e8 : (g8 c N zs).1 = bytesN ((auN (goK c who N zs).au).map u64n) ++ (goR c N zs).1 := b8
 have e7 : (g7 c zs).1 = bytesN ((notesN (goK c who N zs).notes).map u64n) ++ (g8 c N zs).1 := by
  show (g7 c zs).1 = bytesN ((notesN (mkT (rdX (g7 c zs)) N)).map u64n) ++ (g8 c N zs).1
  rw [mkT_note, List.map_map]; exact b7
 have e6 : (g6 c zs).1 = bytesN [u64n (goK c who N zs).asks] ++ (g7 c zs).1 := by rw [one] at b6; exact b6
 have e5 : (g5 c zs).1 = bytesN ((pairN (goK c who N zs).outs).map u64n) ++ (g6 c zs).1 := by
  show (g5 c zs).1 = bytesN ((pairN (mkP who (rdX (g5 c zs)) (gm c zs))).map u64n) ++ (g6 c zs).1
  rw [mkP_pair, List.map_map]; exact b5
 have e4 : (g4 c zs).1 = bytesN [u64n (((goK c who N zs).outs.length : Nat) : Int)] ++ (g5 c zs).1 := by
  show (g4 c zs).1 = bytesN [u64n (((mkP who (rdX (g5 c zs)) (gm c zs)).length : Nat) : Int)] ++ (g5 c zs).1
  rw [one] at b4
  rw [mkP_len]; unfold gm; rw [u64n_u64n]; exact b4
 have e3 : (g3 c zs).1 = bytesN ((pairN (goK c who N zs).line).map u64n) ++ (g4 c zs).1 := by
  show (g3 c zs).1 = bytesN ((pairN (mkP who (rdX (g3 c zs)) (gn c zs))).map u64n) ++ (g4 c zs).1
  rw [mkP_pair, List.map_map]; exact b3
 have e2 : (g2 c zs).1 = bytesN [u64n (((goK c who N zs).line.length : Nat) : Int)] ++ (g3 c zs).1 := by
  show (g2 c zs).1 = bytesN [u64n (((mkP who (rdX (g3 c zs)) (gn c zs)).length : Nat) : Int)] ++ (g3 c zs).1
  rw [one] at b2
  rw [mkP_len]; unfold gn; rw [u64n_u64n]; exact b2
 have e1 : (g1 zs).1 = booksB (goK c who N zs).rows ++ (g2 c zs).1 := b1
 have e0 : zs = bytesN [u64n (goK c who N zs).clk] ++ (g1 zs).1 := by rw [one] at b0; exact b0
 rw [bytesN_one] at e0 e2 e4 e6
 rw [bookBytes_parts, bytesN_one]
 simp only [restN, List.map_append, List.map_cons, List.cons_append, bytesN_append, bytesN_cons, List.append_assoc]
 rw [← e8, ← e7, ← e6, ← e5, ← e4, ← e3, ← e2, ← e1, ← e0]
theorem rd_fo (P : List Int) (hP : ∀ v ∈ P, 0 ≤ v ∧ v ≤ 1125899906842624) (r : List Int) : rdS (bytesN (P.map u64n) ++ r, false) P.length = (r, false) ∧ ∀ j, j < P.length → rdX (bytesN (P.map u64n) ++ r, false) j = P[j]?.getD 0 := by
 have h := rd_forth (P.map u64n) (fun v hv => by obtain ⟨x, _, rfl⟩ := List.mem_map.1 hv; exact u64n_lt x) r
 rw [List.length_map] at h
 refine ⟨h.1, fun j hj => ?_⟩
 rw [h.2 j hj, List.getElem?_map, List.getElem?_eq_getElem hj]
 have := hP _ (List.getElem_mem hj)
 exact wrap_of_u64n this.1 this.2
theorem rdF_fo (b : Bool) (r : List Int) : rdF (bytesN [u64n (oneI b)] ++ r, false) = (b, (r, false)) := by
 obtain ⟨h1, h2⟩ := rd_fo [oneI b] (fun v hv => by rw [List.mem_singleton.1 hv]; cases b <;> decide) r
 have h3 : rdX (bytesN [u64n (oneI b)] ++ r, false) 0 = oneI b := h2 0 (by simp)
 have e1 : (rd1 (bytesN [u64n (oneI b)] ++ r, false)).1 = oneI b := h3
 have e2 : (rd1 (bytesN [u64n (oneI b)] ++ r, false)).2 = (r, false) := h1
 unfold rdF
 rw [e1, e2]
 cases b <;> rfl
theorem rdT_fo (b : Bool) (u i : Int) (hu : 0 ≤ u ∧ u ≤ 1125899906842624) (hi : 0 ≤ i ∧ i ≤ 1125899906842624) (r : List Int) : rdT (bytesN ([oneI b, u, i].map u64n) ++ r, false) = ((b, u, i), (r, false)) := by
 have e : bytesN ([oneI b, u, i].map u64n) ++ r = bytesN [u64n (oneI b)] ++ (bytesN ([u, i].map u64n) ++ r) := by
  rw [List.map_cons, ← List.singleton_append, bytesN_append, List.append_assoc]
 unfold rdT
 rw [e, rdF_fo]
 obtain ⟨h1, h2⟩ := rd_fo [u, i] (fun v hv => by
  rcases List.mem_cons.1 hv with rfl | hv
  · exact hu
  · rw [List.mem_singleton.1 hv]; exact hi) r
 have h3 : rdX (bytesN ([u, i].map u64n) ++ r, false) 0 = u := h2 0 (by simp)
 have h4 : rdX (bytesN ([u, i].map u64n) ++ r, false) 1 = i := h2 1 (by simp)
 have h5 : rdS (bytesN ([u, i].map u64n) ++ r, false) 2 = (r, false) := h1
 simp only
 rw [h3, h4, h5]
theorem tS_fo (F : Nat → Bool × Int × Int) (N : Nat) (hF : ∀ i, i < N → (0 ≤ (F i).2.1 ∧ (F i).2.1 ≤ 1125899906842624) ∧ (0 ≤ (F i).2.2 ∧ (F i).2.2 ≤ 1125899906842624)) (r : List Int) :
 ∀ k, k ≤ N → tS (bytesN (((List.range N).flatMap fun i => [oneI (F i).1, (F i).2.1, (F i).2.2]).map u64n) ++ r, false) k = (bytesN (((List.range' k (N - k)).flatMap fun i => [oneI (F i).1, (F i).2.1, (F i).2.2]).map u64n) ++ r, false) ∧
   (∀ j, j < k → tX (bytesN (((List.range N).flatMap fun i => [oneI (F i).1, (F i).2.1, (F i).2.2]).map u64n) ++ r, false) j = F j) := by
 intro k
 induction k with
 | zero => intro _; exact ⟨by rw [Nat.sub_zero, ← List.range_eq_range']; rfl, fun j hj => absurd hj (by omega)⟩
 | succ k ih =>
   intro hk
   obtain ⟨h1, h2⟩ := ih (by omega)
   have e : List.range' k (N - k) = k :: List.range' (k + 1) (N - (k + 1)) := by
    rw [show N - k = (N - (k + 1)) + 1 by omega, List.range'_succ]
   rw [e, List.flatMap_cons, List.map_append, bytesN_append, List.append_assoc] at h1
   have h3 := rdT_fo (F k).1 (F k).2.1 (F k).2.2 (hF k (by omega)).1 (hF k (by omega)).2 (bytesN (((List.range' (k + 1) (N - (k + 1))).flatMap fun i => [oneI (F i).1, (F i).2.1, (F i).2.2]).map u64n) ++ r)
   rw [← h1] at h3
   refine ⟨congrArg Prod.snd h3, fun j hj => ?_⟩
   by_cases ej : j = k
   · subst ej; exact congrArg Prod.fst h3
   · exact h2 j (by omega)
theorem goAu_fo {N : Nat} (a : Au) (ha : a = au0 ∨ (¬ (a.try_ = 0 ∧ a.ph = 0) ∧ a.told.length = N ∧ a.use.length = N ∧ a.inc.length = N)) (hs : ∀ v ∈ auN a, 0 ≤ v ∧ v ≤ 1125899906842624) (r : List Int) : goAu N (bytesN ((auN a).map u64n) ++ r, false) = (a, (r, false)) := by
 by_cases h0 : a = au0
 · subst h0
   obtain ⟨h1, h2⟩ := rd_fo [0, 0] (fun v hv => by
    have : v = 0 := by simpa using hv
    subst this; decide) r
   have h3 : rdX (bytesN ((auN au0).map u64n) ++ r, false) 0 = 0 := h2 0 (by simp)
   have h4 : rdX (bytesN ((auN au0).map u64n) ++ r, false) 1 = 0 := h2 1 (by simp)
   have h5 : rdS (bytesN ((auN au0).map u64n) ++ r, false) 2 = (r, false) := h1
   unfold goAu
   rw [if_pos ⟨h3, h4⟩, h5]
 · obtain ⟨hnz, l1, l2, l3⟩ := ha.resolve_left h0
   have hsm := hs
   unfold auN at hs ⊢
   rw [if_neg h0] at hs ⊢
   obtain ⟨try_, ph, told, use, inc, mv⟩ := a
   simp only at hnz l1 l2 l3 hs ⊢
   have hF : ∀ i, i < N → (0 ≤ use[i]?.getD 0 ∧ use[i]?.getD 0 ≤ 1125899906842624) ∧ (0 ≤ inc[i]?.getD 0 ∧ inc[i]?.getD 0 ≤ 1125899906842624) := fun i hi => by
    have hm : ∀ v ∈ [oneI (told[i]?.getD false), use[i]?.getD 0, inc[i]?.getD 0], 0 ≤ v ∧ v ≤ 1125899906842624 := fun v hv => hs v (List.mem_append_right _ (List.mem_append_left _ (List.mem_flatMap.2 ⟨i, List.mem_range.2 (by rw [l1]; exact hi), hv⟩)))
    exact ⟨hm _ (by simp), hm _ (by simp)⟩
   obtain ⟨t1, t2⟩ := tS_fo (fun i => (told[i]?.getD false, use[i]?.getD 0, inc[i]?.getD 0)) N hF (bytesN [u64n (oneI mv)] ++ r) N (Nat.le_refl _)
   have e : bytesN (([try_, ph] ++ (tripN ⟨try_, ph, told, use, inc, mv⟩ ++ [oneI mv])).map u64n) ++ r = bytesN ([try_, ph].map u64n) ++ (bytesN (((List.range N).flatMap fun i => [oneI (told[i]?.getD false), use[i]?.getD 0, inc[i]?.getD 0]).map u64n) ++ (bytesN [u64n (oneI mv)] ++ r)) := by
    unfold tripN
    simp only [l1]
    rw [List.map_append, List.map_append, bytesN_append, bytesN_append, List.append_assoc, List.append_assoc]
    rfl
   rw [e]
   obtain ⟨h1, h2⟩ := rd_fo [try_, ph] (fun v hv => hs v (List.mem_append_left _ hv)) (bytesN (((List.range N).flatMap fun i => [oneI (told[i]?.getD false), use[i]?.getD 0, inc[i]?.getD 0]).map u64n) ++ (bytesN [u64n (oneI mv)] ++ r))
   obtain ⟨S, hS⟩ : ∃ q, bytesN ([try_, ph].map u64n) ++ (bytesN (((List.range N).flatMap fun i => [oneI (told[i]?.getD false), use[i]?.getD 0, inc[i]?.getD 0]).map u64n) ++ (bytesN [u64n (oneI mv)] ++ r)) = q := ⟨_, rfl⟩
   rw [hS] at h1 h2 ⊢
   have h3 : rdX (S, false) 0 = try_ := h2 0 (by simp)
   have h4 : rdX (S, false) 1 = ph := h2 1 (by simp)
   have h5 := h1
   rw [show [try_, ph].length = 2 from rfl] at h5
   unfold goAu
   rw [h3, h4, if_neg hnz, h5]
   rw [t1]
   rw [Nat.sub_self]
   have h6 := rdF_fo mv r
   have h7 : rdF (bytesN (((List.range' N 0).flatMap fun i => [oneI (told[i]?.getD false), use[i]?.getD 0, inc[i]?.getD 0]).map u64n) ++ (bytesN [u64n (oneI mv)] ++ r), false) = (mv, (r, false)) := h6
   rw [h7]
   have ext : ∀ {α : Type} (l : List α) (z : α) (f : Nat → α), l.length = N → (∀ i, i < N → f i = l[i]?.getD z) → (List.range N).map f = l := fun {α} l z f hl hf => by
    refine List.ext_getElem (by rw [List.length_map, List.length_range, hl]) fun j q1 q2 => ?_
    rw [List.getElem_map, List.getElem_range, hf j (by omega), List.getElem?_eq_getElem q2]; rfl
   rw [ext told false _ l1 (fun i hi => by rw [t2 i hi]), ext use 0 _ l2 (fun i hi => by rw [t2 i hi]), ext inc 0 _ l3 (fun i hi => by rw [t2 i hi])]
theorem goK_forth {c : Cf} {who : Int} {N : Nat} {zs : List Int} {x : Bk} (hN : c.n = (N : Int)) (hx : IsBook c who zs x) : goK c who N zs = x ∧ goR c N zs = ([], false) := by
 obtain ⟨hok, hz⟩ := hx
 have hsm : ∀ v ∈ allK x, 0 ≤ v ∧ v ≤ 1125899906842624 := book_small hok
 have hwl : ∀ q ∈ x.line, q.a = who := fun q hq => by
  obtain ⟨i, hi, rfl⟩ := List.getElem_of_mem hq
  have := (oneB_iff.1 (hok.2.2.2.1.2.2.2 i hi).1).2.1
  rwa [show rqAt x.line i = x.line[i] by unfold rqAt; rw [List.getElem?_eq_getElem hi]; rfl] at this
 have hwo : ∀ q ∈ x.outs, q.a = who := fun q hq => by
  obtain ⟨i, hi, rfl⟩ := List.getElem_of_mem hq
  have := hok.2.2.2.2.2.2.1 i hi
  unfold outB at this
  rw [Bool.and_eq_true, Bool.and_eq_true, decide_eq_true_eq] at this
  have := this.2.1.1
  rwa [show rqAt x.outs i = x.outs[i] by unfold rqAt; rw [List.getElem?_eq_getElem hi]; rfl] at this
 have hnl : x.notes.length = N := by have h8 : (x.notes.length : Int) = c.n := hok.2.2.2.2.2.2.2.2.1.2.2.1; omega
 have hr := hok.1
 have hau : x.au = au0 ∨ (¬ (x.au.try_ = 0 ∧ x.au.ph = 0) ∧ x.au.told.length = N ∧ x.au.use.length = N ∧ x.au.inc.length = N) := by
  rcases hok.2.2.2.2.2.2.2.2.2.2.2 with h | h
  · exact Or.inl h
  · right
    have h1 := h.2.2.1; have h2 := h.2.2.2.1; have h3 := h.2.2.2.2.1
    have h4 := h.1.1
    exact ⟨fun e => by omega, by omega, by omega, by omega⟩
 clear hok
 obtain ⟨clk, rows, line, outs, asks, notes, au⟩ := x
 simp only at hwl hwo hnl hr hau
 have m0 : ∀ v ∈ [clk], 0 ≤ v ∧ v ≤ 1125899906842624 := fun v hv => hsm v (by unfold allK; rw [List.mem_singleton.1 hv]; simp)
 have mr : ∀ v ∈ restN ⟨clk, rows, line, outs, asks, notes, au⟩, 0 ≤ v ∧ v ≤ 1125899906842624 := fun v hv => hsm v (by unfold allK; simp [hv])
 unfold restN at mr
 simp only [List.cons_append] at mr
 have m2 : ∀ v ∈ [(line.length : Int)], 0 ≤ v ∧ v ≤ 1125899906842624 := fun v hv => mr v (by rw [List.mem_singleton.1 hv]; simp)
 have m3 : ∀ v ∈ pairN line, 0 ≤ v ∧ v ≤ 1125899906842624 := fun v hv => mr v (by simp [hv])
 have m4 : ∀ v ∈ [(outs.length : Int)], 0 ≤ v ∧ v ≤ 1125899906842624 := fun v hv => mr v (by rw [List.mem_singleton.1 hv]; simp)
 have m5 : ∀ v ∈ pairN outs, 0 ≤ v ∧ v ≤ 1125899906842624 := fun v hv => mr v (by simp [hv])
 have m6 : ∀ v ∈ [asks], 0 ≤ v ∧ v ≤ 1125899906842624 := fun v hv => mr v (by rw [List.mem_singleton.1 hv]; simp)
 have m7 : ∀ v ∈ notesN notes, 0 ≤ v ∧ v ≤ 1125899906842624 := fun v hv => mr v (by simp [hv])
 have m8 : ∀ v ∈ auN au, 0 ≤ v ∧ v ≤ 1125899906842624 := fun v hv => mr v (by simp [hv])
 have l2 : (line.length : Int) ≤ 1125899906842624 := (m2 _ (List.mem_singleton.2 rfl)).2
 have l4 : (outs.length : Int) ≤ 1125899906842624 := (m4 _ (List.mem_singleton.2 rfl)).2
 obtain ⟨T8, h8⟩ : ∃ q, bytesN ((auN au).map u64n) ++ [] = q := ⟨_, rfl⟩
 obtain ⟨T7, h7⟩ : ∃ q, bytesN ((notesN notes).map u64n) ++ T8 = q := ⟨_, rfl⟩
 obtain ⟨T6, h6⟩ : ∃ q, bytesN ([asks].map u64n) ++ T7 = q := ⟨_, rfl⟩
 obtain ⟨T5, h5⟩ : ∃ q, bytesN ((pairN outs).map u64n) ++ T6 = q := ⟨_, rfl⟩
 obtain ⟨T4, h4⟩ : ∃ q, bytesN ([(outs.length : Int)].map u64n) ++ T5 = q := ⟨_, rfl⟩
 obtain ⟨T3, h3⟩ : ∃ q, bytesN ((pairN line).map u64n) ++ T4 = q := ⟨_, rfl⟩
 obtain ⟨T2, h2⟩ : ∃ q, bytesN ([(line.length : Int)].map u64n) ++ T3 = q := ⟨_, rfl⟩
 obtain ⟨T1, h1⟩ : ∃ q, booksB rows ++ T2 = q := ⟨_, rfl⟩
 have hz0 : zs = bytesN ([clk].map u64n) ++ T1 := by
  rw [hz, bookBytes_parts, ← h1, ← h2, ← h3, ← h4, ← h5, ← h6, ← h7, ← h8]
  simp only [restN, List.map_append, List.map_cons, List.map_nil, List.cons_append, bytesN_append, bytesN_cons, List.append_nil, show bytesN [] = [] from rfl]
 obtain ⟨a0, b0⟩ := rd_fo [clk] m0 T1
 rw [← hz0] at a0 b0
 have v0 : rdX (zs, false) 0 = clk := b0 0 (by simp)
 have e1 : g1 zs = (T1, false) := a0
 have ht : takeB c T1 = some (rows, T2) := takeB_yes ⟨hr, h1.symm⟩
 have eB : rdB c (g1 zs) = (rows, (T2, false)) := by rw [e1]; exact rdB_yes ht
 have e2 : g2 c zs = (T2, false) := by unfold g2; rw [eB]
 obtain ⟨a2, b2⟩ := rd_fo [(line.length : Int)] m2 T3
 rw [h2] at a2 b2
 have en : gn c zs = line.length := by
  unfold gn
  rw [e2, b2 0 (by simp)]
  exact u64n_nat (by omega)
 have e3 : g3 c zs = (T3, false) := by unfold g3; rw [e2]; exact a2
 obtain ⟨a3, b3⟩ := rd_fo (pairN line) m3 T4
 rw [h3, pairN_len] at a3 b3
 have e4 : g4 c zs = (T4, false) := by unfold g4; rw [e3, en]; exact a3
 obtain ⟨a4, b4⟩ := rd_fo [(outs.length : Int)] m4 T5
 rw [h4] at a4 b4
 have em : gm c zs = outs.length := by
  unfold gm
  rw [e4, b4 0 (by simp)]
  exact u64n_nat (by omega)
 have e5 : g5 c zs = (T5, false) := by unfold g5; rw [e4]; exact a4
 obtain ⟨a5, b5⟩ := rd_fo (pairN outs) m5 T6
 rw [h5, pairN_len] at a5 b5
 have e6 : g6 c zs = (T6, false) := by unfold g6; rw [e5, em]; exact a5
 obtain ⟨a6, b6⟩ := rd_fo [asks] m6 T7
 rw [h6] at a6 b6
 have v6 : rdX (g6 c zs) 0 = asks := by rw [e6]; exact b6 0 (by simp)
 have e7 : g7 c zs = (T7, false) := by unfold g7; rw [e6]; exact a6
 obtain ⟨a7, b7⟩ := rd_fo (notesN notes) m7 T8
 rw [h7, notesN_len, hnl] at a7 b7
 have e8 : g8 c N zs = (T8, false) := by unfold g8; rw [e7]; exact a7
 have hA := goAu_fo au hau m8 []
 rw [h8] at hA
 have p1 : mkP who (rdX (g3 c zs)) (gn c zs) = line := by
  refine pairN_inj (mkP_who _ _ _) hwl ?_
  rw [mkP_pair, e3, en, ← pairN_len]
  exact range_map_eq fun j hj => b3 j (by rw [pairN_len] at hj; exact hj)
 have p2 : mkP who (rdX (g5 c zs)) (gm c zs) = outs := by
  refine pairN_inj (mkP_who _ _ _) hwo ?_
  rw [mkP_pair, e5, em, ← pairN_len]
  exact range_map_eq fun j hj => b5 j (by rw [pairN_len] at hj; exact hj)
 have p3 : mkT (rdX (g7 c zs)) N = notes := by
  refine notesN_inj ?_
  rw [mkT_note, e7, ← hnl, ← notesN_len]
  exact range_map_eq fun j hj => b7 j (by rw [notesN_len, hnl] at hj; exact hj)
 constructor
 · unfold goK
   rw [v0, eB, p1, p2, v6, p3, e8, hA]
 · unfold goR
   rw [e8, hA]
theorem takeK_go {c : Cf} {who : Int} {N : Nat} {zs : List Int} (hN : c.n = (N : Int)) : takeK c who zs = if goR c N zs = ([], false) ∧ bookB c who (goK c who N zs) = true then some (goK c who N zs) else none := by
 by_cases h : goR c N zs = ([], false) ∧ bookB c who (goK c who N zs) = true
 · rw [if_pos h]
   obtain ⟨h1, h2⟩ := h
   have h3 := (goK_back (c := c) (who := who) (N := N) (zs := zs) (by rw [h1])).1
   rw [h1, List.append_nil] at h3
   exact takeK_yes ⟨of_decide_eq_true h2, h3⟩
 · rw [if_neg h]
   refine takeK_no fun x hx => h ?_
   obtain ⟨h1, h2⟩ := goK_forth hN hx
   rw [h1]
   exact ⟨h2, decide_eq_true hx.1⟩
theorem rdS_flag {s : List Int × Bool} {k : Nat} (h : s.2 = true) : (rdS s k).2 = true := by
 obtain ⟨z, b⟩ := s
 refine (Bool.eq_false_or_eq_true _).resolve_right fun h2 => ?_
 have := (rd_back k h2).1
 simp only at h
 rw [h] at this; cases this
end Go.Proofs.YtnkgakhnlbifdaaGreat
