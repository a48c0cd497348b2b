/- Parts, as far as BookTakesCards reaches them, of: BookEnd, Bytes, PackWords, PackTakeWords, PackRefPut. No law is proved here. -/
import Derived.Test.YtnkgakhnlbifdaaGreatTb5
import Derived.Test.YtnkgakhnlbifdaaGreatTb0
import Derived.ArgAppend
import Derived.Laws.BytesArg
import Derived.Lib.AppendStr
import Derived.Lib.ConvBytes
import Derived.Deep.Draws
import Derived.Test.YtnkgakhnlbifdaaGreatTb1
import Derived.WalkKit
import Derived.WalkSpells
import Derived.WalkLawsBesides
import Derived.Laws.BitsAllLaws
import Derived.Lib.Hide
import Derived.Deep.QuietTactic
import Derived.BigQuiet
namespace Go.Proofs.YtnkgakhnlbifdaaGreat
open Go.RowKit
theorem K_back {l : List Nat} (h : ∀ v ∈ l, v ≤ 4611686018427387903) : K (l.map fun v : Nat => (v : Int)) = l := small_map h
section
variable {c : Cf} {who : Int} {zs r1 r2 r3 r4 r5 r6 : List Int} {x : Bk} {N k1 : Nat} {rows : List Rw} {ls os ts us : List Nat}
theorem mk_bytes {au : Au} (h : someN 1 zs = some ([k1], r1)) (h2 : takeB c r1 = some (rows, r2)) (h3 : countedN c.q 2 r2 = some (ls, r3)) (h4 : countedN (c.q + 1) 2 r3 = some (os, r4)) (h5 : someN (1 + 7 * N + 2) r4 = some (ts, r5))
 (e1 : au.try_ = ((ts[1 + 7 * N]?.getD 0 : Nat) : Int)) (e2 : au.ph = ((ts[2 + 7 * N]?.getD 0 : Nat) : Int)) (e3 : (if au = au0 then [] else bytesN (K (tripN au ++ [oneI au.moved]))) = r5) : zs = bookBytes (mkK who N k1 rows ls os ts au) := by
 have g1 := someN_some h
 have g2 := takeB_some h2
 obtain ⟨a, _, a2, a3, a4, a5⟩ := countedN_some h3
 obtain ⟨b, _, b2, b3, b4, b5⟩ := countedN_some h4
 have g5 := someN_some h5
 have hk : k1 ≤ 4611686018427387903 := g1.2.1 k1 (List.mem_singleton.2 rfl)
 have y5 : Z5 (mkK who N k1 rows ls os ts au) = r5 := e3
 have y4 : Z4 (mkK who N k1 rows ls os ts au) = r4 := by
  unfold Z4
  rw [y5, last_of who rows ls os g5.1 e1 e2, K_back g5.2.1, ← g5.2.2]
 have y3 : Z3 (mkK who N k1 rows ls os ts au) = r3 := by
  unfold Z3
  rw [y4]
  show bytesN (K (((mkPairs who os).length : Int) :: pairN (mkPairs who os))) ++ r4 = r3
  have hl : (mkPairs who os).length = b := by unfold mkPairs; rw [List.length_map, List.length_range]; omega
  rw [hl, pairs_of who os b3, b5]
  show bytesN (u64n ((b : Nat) : Int) :: K (os.map fun v : Nat => (v : Int))) ++ r4 = _
  rw [K_back b4, u64n_nat (by omega)]
 have y2 : Z2 (mkK who N k1 rows ls os ts au) = r2 := by
  unfold Z2
  rw [y3]
  show bytesN (K (((mkPairs who ls).length : Int) :: pairN (mkPairs who ls))) ++ r3 = r2
  have hl : (mkPairs who ls).length = a := by unfold mkPairs; rw [List.length_map, List.length_range]; omega
  rw [hl, pairs_of who ls a3, a5]
  show bytesN (u64n ((a : Nat) : Int) :: K (ls.map fun v : Nat => (v : Int))) ++ r3 = _
  rw [K_back a4, u64n_nat (by omega)]
 have y1 : Z1 (mkK who N k1 rows ls os ts au) = r1 := by
  unfold Z1
  rw [y2]
  exact g2.2.symm
 rw [book_parts, y1]
 show zs = bytesN [u64n ((k1 : Nat) : Int)] ++ r1
 rw [u64n_nat (by omega)]
 exact g1.2.2
theorem notes_is (hN : c.n = (N : Int)) (hx : IsBook c who zs x) (e : ts = K (lastN' x)) : mkNotes ts N = x.notes ∧ ((ts[0]?.getD 0 : Nat) : Int) = x.asks := by
 have hl := last_len hN hx
 have hb := back_K hx (P := lastN' x) fun v => in_last
 have hnl : x.notes.length = N := by have h8 : (x.notes.length : Int) = c.n := hx.1.2.2.2.2.2.2.2.2.1.2.2.1; omega
 rw [← e] at hb
 have htl : ts.length = 1 + 7 * N + 2 := by rw [e, List.length_map]; exact hl
 constructor
 · apply notesN_inj
   rw [notes_of ts (by omega), List.map_take, List.map_drop, hb]
   unfold lastN'
   rw [List.drop_succ_cons, List.drop_zero, List.take_append_of_le_length (by rw [notesN_len, hnl]; exact Nat.le_refl _), List.take_of_length_le (by rw [notesN_len, hnl]; exact Nat.le_refl _)]
 · have h0 : (ts.map fun v : Nat => (v : Int))[0]? = some x.asks := by rw [hb]; rfl
   rw [List.getElem?_map, List.getElem?_eq_getElem (by omega)] at h0
   rw [List.getElem?_eq_getElem (by omega)]
   exact Option.some.inj h0
theorem clk_is (hx : IsBook c who zs x) (e : k1 = u64n x.clk) : ((k1 : Nat) : Int) = x.clk := by
 have := book_small hx.1 x.clk (by unfold allK; simp)
 rw [e]
 exact u64n_of this.1 (by omega)
theorem none_is (hN : c.n = (N : Int)) (h : someN 1 zs = some ([k1], r1)) (h2 : takeB c r1 = some (rows, r2)) (h3 : countedN c.q 2 r2 = some (ls, r3)) (h4 : countedN (c.q + 1) 2 r3 = some (os, r4)) (h5 : someN (1 + 7 * N + 2) r4 = some (ts, r5))
 (t1 : ts[1 + 7 * N]?.getD 0 = 0) (t2 : ts[2 + 7 * N]?.getD 0 = 0) (hx : IsBook c who zs x) : x = mkK who N k1 rows ls os ts au0 ∧ r5 = [] := by
 obtain ⟨a1, _⟩ := is_1 h hx
 obtain ⟨a2, _⟩ := is_2 h h2 hx
 obtain ⟨a3, _⟩ := is_3 h h2 h3 hx
 obtain ⟨a4, _⟩ := is_4 h h2 h3 h4 hx
 obtain ⟨a5, a6⟩ := is_5 hN h h2 h3 h4 h5 hx
 obtain ⟨u1, u2⟩ := audit_two hN hx a5
 have ha : x.au = au0 := by
  refine Classical.byContradiction fun hne => ?_
  rcases (step6_yes hN hx hne).1 with h9 | h9
  · exact h9 (by rw [u1, t1]; rfl)
  · exact h9 (by rw [u2, t2]; rfl)
 obtain ⟨n1, n2⟩ := notes_is hN hx a5
 refine ⟨?_, by rw [a6]; exact (step6_no ha).2.2⟩
 have b1 : mkPairs who ls = x.line := by rw [a3]; exact mkPairs_is (line_who hx) (back_K hx fun v => in_line)
 have b2 : mkPairs who os = x.outs := by rw [a4]; exact mkPairs_is (fun q hq => (outs_who hx q hq).1) (back_K hx fun v => in_outs)
 unfold mkK
 rw [b1, b2, n1, n2, a2, clk_is hx a1, ← ha]
theorem takeK_none_more (hN : c.n = (N : Int)) (h : someN 1 zs = some ([k1], r1)) (h2 : takeB c r1 = some (rows, r2)) (h3 : countedN c.q 2 r2 = some (ls, r3)) (h4 : countedN (c.q + 1) 2 r3 = some (os, r4)) (h5 : someN (1 + 7 * N + 2) r4 = some (ts, r5))
 (t1 : ts[1 + 7 * N]?.getD 0 = 0) (t2 : ts[2 + 7 * N]?.getD 0 = 0) (hm : 0 < r5.length) : takeK c who zs = none := takeK_no fun x hx => by
 rw [(none_is hN h h2 h3 h4 h5 t1 t2 hx).2] at hm
 exact absurd hm (by decide)
theorem takeK_none_end (hN : c.n = (N : Int)) (h : someN 1 zs = some ([k1], r1)) (h2 : takeB c r1 = some (rows, r2)) (h3 : countedN c.q 2 r2 = some (ls, r3)) (h4 : countedN (c.q + 1) 2 r3 = some (os, r4)) (h5 : someN (1 + 7 * N + 2) r4 = some (ts, r5))
 (t1 : ts[1 + 7 * N]?.getD 0 = 0) (t2 : ts[2 + 7 * N]?.getD 0 = 0) (hm : ¬ 0 < r5.length) : takeK c who zs = if bookB c who (mkK who N k1 rows ls os ts au0) then some (mkK who N k1 rows ls os ts au0) else none := by
 obtain rfl : r5 = [] := List.eq_nil_of_length_eq_zero (by omega)
 have hz := mk_bytes (who := who) (au := au0) h h2 h3 h4 h5 (by rw [t1]; rfl) (by rw [t2]; rfl) (if_pos rfl)
 by_cases hok : bookOk c who (mkK who N k1 rows ls os ts au0)
 · rw [if_pos (show bookB c who _ = true from decide_eq_true hok)]; exact takeK_yes ⟨hok, hz⟩
 · rw [if_neg (fun e : bookB c who _ = true => hok (of_decide_eq_true e))]
   refine takeK_no fun x hx => hok ?_
   rw [← (none_is hN h h2 h3 h4 h5 t1 t2 hx).1]; exact hx.1
theorem audit_some (hN : c.n = (N : Int)) (h : someN 1 zs = some ([k1], r1)) (h2 : takeB c r1 = some (rows, r2)) (h3 : countedN c.q 2 r2 = some (ls, r3)) (h4 : countedN (c.q + 1) 2 r3 = some (os, r4)) (h5 : someN (1 + 7 * N + 2) r4 = some (ts, r5))
 (ht : ¬ (ts[1 + 7 * N]?.getD 0 = 0 ∧ ts[2 + 7 * N]?.getD 0 = 0)) (hx : IsBook c who zs x) : x.au ≠ au0 ∧ someN (3 * N + 1) r5 = some (K (tripN x.au ++ [oneI x.au.moved]), []) := by
 obtain ⟨a5, a6⟩ := is_5 hN h h2 h3 h4 h5 hx
 obtain ⟨u1, u2⟩ := audit_two hN hx a5
 have ha : x.au ≠ au0 := fun e => ht (by
  rw [e] at u1 u2
  exact ⟨by have h9 : (0 : Int) = _ := u1; omega, by have h9 : (0 : Int) = _ := u2; omega⟩)
 exact ⟨ha, by rw [a6]; exact someN_yes (step6_yes hN hx ha).2⟩
theorem runs_of (hx : IsBook c who zs x) (ha : x.au ≠ au0) : runsOk c who x.au := by
 rcases hx.1.2.2.2.2.2.2.2.2.2.2.2 with h1 | h1
 · exact absurd h1 ha
 · exact h1
theorem flags_of (hN : c.n = (N : Int)) (hx : IsBook c who zs x) (ha : x.au ≠ au0) (e : us = K (tripN x.au ++ [oneI x.au.moved])) : ∀ i, i ≤ N → us[3 * i]?.getD 0 = 0 ∨ us[3 * i]?.getD 0 = 1 := fun i hi => by
 have hr := runs_of hx ha
 have htl : x.au.told.length = N := by have := hr.2.2.1; omega
 have one01 : ∀ b : Bool, u64n (oneI b) = 0 ∨ u64n (oneI b) = 1 := fun b => by cases b <;> decide
 rw [e]
 unfold K
 rw [List.map_append]
 by_cases h : i < N
 · rw [List.getElem?_append_left (by rw [List.length_map, tripN_len]; omega), List.getElem?_map]
   have h3 : (tripN x.au)[3 * i + 0]? = _ := trip_at (k := x.au.told.length) (f := fun i => [oneI (x.au.told[i]?.getD false), x.au.use[i]?.getD 0, x.au.inc[i]?.getD 0]) (fun _ => rfl) (by omega) (show 0 < 3 by decide)
   rw [Nat.add_zero] at h3
   rw [h3]
   exact one01 _
 · obtain rfl : i = N := by omega
   rw [List.getElem?_append_right (by rw [List.length_map, tripN_len]; omega), List.length_map, tripN_len, htl, Nat.sub_self]
   exact one01 _
theorem audit_is (hN : c.n = (N : Int)) (h : someN 1 zs = some ([k1], r1)) (h2 : takeB c r1 = some (rows, r2)) (h3 : countedN c.q 2 r2 = some (ls, r3)) (h4 : countedN (c.q + 1) 2 r3 = some (os, r4)) (h5 : someN (1 + 7 * N + 2) r4 = some (ts, r5))
 (ht : ¬ (ts[1 + 7 * N]?.getD 0 = 0 ∧ ts[2 + 7 * N]?.getD 0 = 0)) (h6 : someN (3 * N + 1) r5 = some (us, r6)) (hx : IsBook c who zs x) :
 x = mkK who N k1 rows ls os ts (mkAu N (ts[1 + 7 * N]?.getD 0) (ts[2 + 7 * N]?.getD 0) us) ∧ r6 = [] ∧ ∀ i, i ≤ N → us[3 * i]?.getD 0 = 0 ∨ us[3 * i]?.getD 0 = 1 := by
 obtain ⟨ha, hs⟩ := audit_some hN h h2 h3 h4 h5 ht hx
 rw [hs] at h6
 have e := Option.some.inj h6
 obtain ⟨e1, e2⟩ := Prod.mk.inj e
 have hfl := flags_of hN hx ha e1.symm
 refine ⟨?_, e2.symm, hfl⟩
 obtain ⟨a1, _⟩ := is_1 h hx
 obtain ⟨a2, _⟩ := is_2 h h2 hx
 obtain ⟨a3, _⟩ := is_3 h h2 h3 hx
 obtain ⟨a4, _⟩ := is_4 h h2 h3 h4 hx
 obtain ⟨a5, a6⟩ := is_5 hN h h2 h3 h4 h5 hx
 obtain ⟨u1, u2⟩ := audit_two hN hx a5
 obtain ⟨n1, n2⟩ := notes_is hN hx a5
 have b1 : mkPairs who ls = x.line := by rw [a3]; exact mkPairs_is (line_who hx) (back_K hx fun v => in_line)
 have b2 : mkPairs who os = x.outs := by rw [a4]; exact mkPairs_is (fun q hq => (outs_who hx q hq).1) (back_K hx fun v => in_outs)
 have hr := runs_of hx ha
 have hlen : us.length = 3 * N + 1 := by
  rw [← e1, List.length_map, List.length_append, tripN_len]
  have := hr.2.2.1
  simp; omega
 have htr := trip_of N (ts[1 + 7 * N]?.getD 0) (ts[2 + 7 * N]?.getD 0) us hlen hfl
 have hback := back_K hx (P := tripN x.au ++ [oneI x.au.moved]) fun v => in_trip ha
 rw [e1] at hback
 rw [hback] at htr
 obtain ⟨c1, c2⟩ := List.append_inj' htr rfl
 have c3 : (mkAu N (ts[1 + 7 * N]?.getD 0) (ts[2 + 7 * N]?.getD 0) us).moved = x.au.moved := oneI_inj (List.cons.inj c2).1
 have l1 : (mkAu N (ts[1 + 7 * N]?.getD 0) (ts[2 + 7 * N]?.getD 0) us).told.length = x.au.told.length := by
  have := hr.2.2.1
  show ((List.range N).map _).length = _
  rw [List.length_map, List.length_range]; omega
 have hau : x.au = mkAu N (ts[1 + 7 * N]?.getD 0) (ts[2 + 7 * N]?.getD 0) us := by
  obtain ⟨p1, p2, p3⟩ := tripN_inj l1 (by show ((List.range N).map _).length = ((List.range N).map _).length; simp) (by show ((List.range N).map _).length = ((List.range N).map _).length; simp) (by have := hr.2.2.1; have := hr.2.2.2.1; omega) (by have := hr.2.2.1; have := hr.2.2.2.2.1; omega) c1
  have q1 : (mkAu N (ts[1 + 7 * N]?.getD 0) (ts[2 + 7 * N]?.getD 0) us).try_ = x.au.try_ := u1.symm
  have q2 : (mkAu N (ts[1 + 7 * N]?.getD 0) (ts[2 + 7 * N]?.getD 0) us).ph = x.au.ph := u2.symm
  have ext : ∀ {p q : Au}, p.try_ = q.try_ → p.ph = q.ph → p.told = q.told → p.use = q.use → p.inc = q.inc → p.moved = q.moved → p = q := fun {p q} g1 g2 g3 g4 g5 g6 => by
   cases p; cases q; simp only at g1 g2 g3 g4 g5 g6; rw [g1, g2, g3, g4, g5, g6]
  exact ext q1.symm q2.symm p1.symm p2.symm p3.symm c3.symm
 unfold mkK
 rw [b1, b2, n1, n2, a2, clk_is hx a1, ← hau]
theorem takeK_6 (hN : c.n = (N : Int)) (h : someN 1 zs = some ([k1], r1)) (h2 : takeB c r1 = some (rows, r2)) (h3 : countedN c.q 2 r2 = some (ls, r3)) (h4 : countedN (c.q + 1) 2 r3 = some (os, r4)) (h5 : someN (1 + 7 * N + 2) r4 = some (ts, r5))
 (ht : ¬ (ts[1 + 7 * N]?.getD 0 = 0 ∧ ts[2 + 7 * N]?.getD 0 = 0)) (h6 : someN (3 * N + 1) r5 = none) : takeK c who zs = none := takeK_no fun _ hx => by
 rw [(audit_some hN h h2 h3 h4 h5 ht hx).2] at h6
 cases h6
theorem takeK_flag (hN : c.n = (N : Int)) (h : someN 1 zs = some ([k1], r1)) (h2 : takeB c r1 = some (rows, r2)) (h3 : countedN c.q 2 r2 = some (ls, r3)) (h4 : countedN (c.q + 1) 2 r3 = some (os, r4)) (h5 : someN (1 + 7 * N + 2) r4 = some (ts, r5))
 (ht : ¬ (ts[1 + 7 * N]?.getD 0 = 0 ∧ ts[2 + 7 * N]?.getD 0 = 0)) (h6 : someN (3 * N + 1) r5 = some (us, r6)) {i : Nat} (hi : i ≤ N) (hf : ¬ (us[3 * i]?.getD 0 = 0 ∨ us[3 * i]?.getD 0 = 1)) : takeK c who zs = none := takeK_no fun _ hx =>
 hf ((audit_is hN h h2 h3 h4 h5 ht h6 hx).2.2 i hi)
theorem takeK_more (hN : c.n = (N : Int)) (h : someN 1 zs = some ([k1], r1)) (h2 : takeB c r1 = some (rows, r2)) (h3 : countedN c.q 2 r2 = some (ls, r3)) (h4 : countedN (c.q + 1) 2 r3 = some (os, r4)) (h5 : someN (1 + 7 * N + 2) r4 = some (ts, r5))
 (ht : ¬ (ts[1 + 7 * N]?.getD 0 = 0 ∧ ts[2 + 7 * N]?.getD 0 = 0)) (h6 : someN (3 * N + 1) r5 = some (us, r6)) (hm : 0 < r6.length) : takeK c who zs = none := takeK_no fun x hx => by
 rw [(audit_is hN h h2 h3 h4 h5 ht h6 hx).2.1] at hm
 exact absurd hm (by decide)
theorem takeK_end (hN : c.n = (N : Int)) (h : someN 1 zs = some ([k1], r1)) (h2 : takeB c r1 = some (rows, r2)) (h3 : countedN c.q 2 r2 = some (ls, r3)) (h4 : countedN (c.q + 1) 2 r3 = some (os, r4)) (h5 : someN (1 + 7 * N + 2) r4 = some (ts, r5))
 (ht : ¬ (ts[1 + 7 * N]?.getD 0 = 0 ∧ ts[2 + 7 * N]?.getD 0 = 0)) (h6 : someN (3 * N + 1) r5 = some (us, r6)) (hf : ∀ i, i ≤ N → us[3 * i]?.getD 0 = 0 ∨ us[3 * i]?.getD 0 = 1) (hm : ¬ 0 < r6.length) :
 takeK c who zs = if bookB c who (mkK who N k1 rows ls os ts (mkAu N (ts[1 + 7 * N]?.getD 0) (ts[2 + 7 * N]?.getD 0) us)) then some (mkK who N k1 rows ls os ts (mkAu N (ts[1 + 7 * N]?.getD 0) (ts[2 + 7 * N]?.getD 0) us)) else none := by
 obtain rfl : r6 = [] := List.eq_nil_of_length_eq_zero (by omega)
 have g6 := someN_some h6
 have hne : mkAu N (ts[1 + 7 * N]?.getD 0) (ts[2 + 7 * N]?.getD 0) us ≠ au0 := fun e => ht (by
  have e1 : ((ts[1 + 7 * N]?.getD 0 : Nat) : Int) = 0 := congrArg Au.try_ e
  have e2 : ((ts[2 + 7 * N]?.getD 0 : Nat) : Int) = 0 := congrArg Au.ph e
  omega)
 have hz := mk_bytes (who := who) (au := mkAu N (ts[1 + 7 * N]?.getD 0) (ts[2 + 7 * N]?.getD 0) us) h h2 h3 h4 h5 rfl rfl (by
  rw [if_neg hne, trip_of N _ _ us g6.1 hf, K_back g6.2.1, g6.2.2, List.append_nil])
 by_cases hok : bookOk c who (mkK who N k1 rows ls os ts (mkAu N (ts[1 + 7 * N]?.getD 0) (ts[2 + 7 * N]?.getD 0) us))
 · rw [if_pos (show bookB c who _ = true from decide_eq_true hok)]; exact takeK_yes ⟨hok, hz⟩
 · rw [if_neg (fun e : bookB c who _ = true => hok (of_decide_eq_true e))]
   refine takeK_no fun x hx => hok ?_
   rw [← (audit_is hN h h2 h3 h4 h5 ht h6 hx).1]; exact hx.1
end
end Go.Proofs.YtnkgakhnlbifdaaGreat
namespace Go.Proofs.YtnkgakhnlbifdaaGreat
open Go.ChangeShapes Go.WideShapes Go.ChangeAt Go.RowKit
def Fresh (B : Nat) (e : TypeId) (w : World) (v : Value) (zs : List Int) : Prop :=
 w.ownsRow B e 1 v zs.length (zs.map (Value.int .u8)) ∧ v ≠ .slice none 0 0 ∧ ∀ c ∈ zs, 0 ≤ c ∧ c < 256
theorem Fresh.form {B : Nat} {e : TypeId} {w : World} {v : Value} {zs : List Int} (h : Fresh B e w v zs) :
 ∃ g cap, v = .slice (some ⟨g, 0, none⟩) zs.length cap ∧ B ≤ g ∧ g < w.heap.size ∧ zs.length ≤ cap ∧ zs.length ≤ 9223372036854775807 := by
 rcases h.1.2 with ⟨h1, _⟩ | ⟨g, cap, cur, rfl, hg, hh, hn, hm, _⟩
 · exact absurd h1 h.2.1
 · exact ⟨g, cap, rfl, hg, (Array.getElem?_eq_some_iff.1 hh).1, hn, by unfold maxLen at hm; omega⟩
theorem Fresh.bytes {B : Nat} {e : TypeId} {w : World} {v : Value} {zs : List Int} (h : Fresh B e w v zs) : Bytes w v zs := by
 obtain ⟨g, cap, _, _, _, _, hm⟩ := h.form
 obtain ⟨_, _, _, _, _, _, hb⟩ := bytes_of_own h.1 h.2.1 hm h.2.2
 exact hb
theorem Fresh.mono {B B' : Nat} {e : TypeId} {w : World} {v : Value} {zs : List Int} (h : Fresh B e w v zs) (hB : B' ≤ B) : Fresh B' e w v zs :=
 ⟨⟨h.1.1, h.1.2.imp id fun ⟨g, cap, cur, h1, h2, h3⟩ => ⟨g, cap, cur, h1, Nat.le_trans hB h2, h3⟩⟩, h.2⟩
theorem Fresh.later {B : Nat} {e : TypeId} {w w' : World} {v : Value} {zs : List Int} (h : Fresh B e w v zs) (hb : Below w.heap.size w w') : Fresh B e w' v zs :=
 ⟨h.1.kept (row := none) ⟨hb.os, hb.tape, hb.output, hb.size, fun k hk _ => hb.block k hk⟩ (by cases v.ownBlock <;> simp), h.2⟩
def Tail (B : Nat) (e : TypeId) (w : World) (v : Value) (zs : List Int) : Prop :=
 (∃ a, v = .slice a zs.length zs.length ∧ Bytes w v zs) ∨ Fresh B e w v zs
theorem Tail.later {B : Nat} {e : TypeId} {w w' : World} {v : Value} {zs : List Int} (h : Tail B e w v zs) (hb : Below w.heap.size w w') : Tail B e w' v zs :=
 h.imp (fun ⟨a, h1, h2⟩ => ⟨a, h1, h2.later hb⟩) (fun h => h.later hb)
theorem Tail.alloc {B : Nat} {e : TypeId} {w : World} {v : Value} {zs : List Int} (h : Tail B e w v zs) (o : Obj) : Tail B e (w.alloc o) v zs := h.later ((Below.refl _ _).alloc (Nat.le_refl _) _)
theorem Tail.small {B : Nat} {e : TypeId} {w : World} {v : Value} {zs : List Int} (h : Tail B e w v zs) : ∀ c ∈ zs, 0 ≤ c ∧ c < 256 := by
 rcases h with ⟨_, _, h⟩ | h
 · exact h.2.1
 · exact h.2.2
theorem cell_new (w : World) (C : Array Value) (T : TypeId) (m : Nat × Nat) (j : Nat) (v : Value) (h : C[j]? = some v) : (w.alloc (.cells C T m)).cell? ⟨w.heap.size, j, none⟩ = some v := by
 have e : (w.alloc (.cells C T m)).heap[w.heap.size]? = some (.cells C T m) := by
  show (w.heap.push _)[w.heap.size]? = _
  simp
 unfold World.cell?
 rw [e]
 exact h
theorem wpList_append_byte {P : Program} {w : World} {ops : Array Oper} {rest : List Oper} {o : Oper} {a : Act} {Q : Exit → Act → World → Prop} (hgd : o.guard = none) (s x : Operand) (t : TypeId)
 (ho : o.op = .call { callee := .builtin .append, args := #[s, x], argTypes := #[t, t] })
 (B : Nat) (e : TypeId) (i : TypeInfo) (ht : P.underlying t = some (.slice e)) (hi : P.info? e = some i) (hz : i.zero = some (.int .u8 0)) (hsize : i.size = 1) (hby : i.bytes = 1)
 (v : Value) (zs : List Int) (hs : a.eval s = v) (hT : Tail B e w v zs) (c : Int) (hc : 0 ≤ c ∧ c < 256)
 (ad : Addr) (cp : Nat) (hx : a.eval x = .slice (some ad) 1 cp) (hnew : w.cell? ad = some (.int .u8 c)) (h63 : zs.length + 1 ≤ 140737488355328) (hB : B ≤ w.heap.size)
 (h : ∀ v' w', Fresh B e w' v' (zs ++ [c]) → Below B w w' → wpList P ops Q rest (a.put o.dst v') w') : wpList P ops Q (o :: rest) a w := by
 have hmax : zs.length + 1 ≤ maxLen := by unfold maxLen; omega
 have hsm := hT.small
 have hnews : ∀ j u, [Value.int IntKind.u8 c][j]? = some u → w.cell? (ad.add j) = some u := by
  intro j u hu
  have hj : j = 0 := by
   rcases Nat.eq_zero_or_pos j with h0 | h0
   · exact h0
   · rw [List.getElem?_eq_none (by simp; omega)] at hu; cases hu
  subst hj
  rw [show ad.add 0 = ad by cases ad; simp [Addr.add], hnew]
  simpa using hu
 have h1 : ∀ u ∈ [Value.int IntKind.u8 c], u.oneCell' = true := fun u hu => by rw [List.mem_singleton.1 hu]; rfl
 have hsm2 : ∀ d ∈ zs ++ [c], 0 ≤ d ∧ d < 256 := fun d hd => by
  rcases List.mem_append.1 hd with hd | hd
  · exact hsm d hd
  · rw [List.mem_singleton.1 hd]; exact hc
 rcases hT with ⟨ao, hv, hb⟩ | hF
 · refine wpList_append_grows w hgd s x t ho e i (.int .u8 0) 1 1 ht hi hz hsize hby rfl (by decide) ao zs.length zs.length (zs.map (Value.int .u8)) (hs.trans hv) ?_ (by simp) ?_ ad 1 cp [.int .u8 c] hx rfl hnews h1 (by omega) hmax (by omega) ?_
   · intro hn
     obtain ⟨_, _, hb | ⟨b, off, cap, hv', _⟩⟩ := hb
     · obtain ⟨_, _, _, _, rfl⟩ := hb; exact ⟨rfl, rfl⟩
     · rw [hv] at hv'; simp only [Value.slice.injEq] at hv'; rw [hn] at hv'; cases hv'.1
   · intro b hbo j u hu
     have hj : j < zs.length := by
      have := (List.getElem?_eq_some_iff.1 hu).1
      simpa using this
     obtain ⟨_, _, hb | ⟨b', off, cap, hv', hcell⟩⟩ := hb
     · obtain ⟨_, _, _, _, rfl⟩ := hb; simp at hj
     · rw [hv] at hv'
       simp only [Value.slice.injEq] at hv'
       rw [hbo] at hv'
       obtain ⟨e1, _⟩ := hv'
       injection e1 with e1
       subst e1
       rw [add_plain, hcell j hj]
       simp [List.getElem?_map, List.getElem?_eq_getElem hj] at hu
       simp [List.getD_eq_getElem?_getD, List.getElem?_eq_getElem hj, hu]
   · intro v' w' g1 g2
     refine h v' w' ⟨?_, ?_, hsm2⟩ ((Below.refl _ _).grown g2 hB (fun k hk => by cases hk))
     · have e1 : (zs ++ [c]).length = zs.length + 1 := by simp
       rw [e1, List.map_append]
       exact ⟨g1.1, g1.2.imp id fun ⟨g, cap, cur, k1, k2, k3⟩ => ⟨g, cap, cur, k1, Nat.le_trans hB k2, k3⟩⟩
     · rintro rfl
       rcases g1.2 with ⟨_, hn⟩ | ⟨g, cap, cur, k1, _⟩
       · omega
       · cases k1
 · refine wpList_append_own w hgd s x t ho B e i (.int .u8 0) 1 1 ht hi hz hsize hby rfl (by decide) v zs.length (zs.map (Value.int .u8)) hs hF.1 ad 1 cp [.int .u8 c] hx rfl hnews h1 hmax (by omega) hB ?_
   intro v' w' g1 g2 g3
   refine h v' w' ⟨?_, ?_, hsm2⟩ ((Below.refl _ _).grown g2 hB (fun k hk => (hF.1.lt k hk).1))
   · have e1 : (zs ++ [c]).length = zs.length + 1 := by simp
     rw [e1, List.map_append]
     exact g1
   · intro e0
     have := (g3.1 e0).2
     omega
theorem wpList_append_more {P : Program} {w : World} {ops : Array Oper} {rest : List Oper} {o : Oper} {a : Act} {Q : Exit → Act → World → Prop} (hgd : o.guard = none) (s x : Operand) (t : TypeId)
 (ho : o.op = .call { callee := .builtin .append, args := #[s, x], argTypes := #[t, t] })
 (B : Nat) (e : TypeId) (i : TypeInfo) (ht : P.underlying t = some (.slice e)) (hi : P.info? e = some i) (hz : i.zero = some (.int .u8 0)) (hsize : i.size = 1) (hby : i.bytes = 1)
 (v : Value) (zs : List Int) (hs : a.eval s = v) (hF : Fresh B e w v zs) (xv : Value) (xs : List Int) (hx : a.eval x = xv) (hX : Bytes w xv xs) (h63 : zs.length + xs.length ≤ 140737488355328) (hB : B ≤ w.heap.size)
 (h : ∀ v' w', Fresh B e w' v' (zs ++ xs) → Below B w w' → wpList P ops Q rest (a.put o.dst v') w') : wpList P ops Q (o :: rest) a w := by
 refine wpList_append_bytes hgd s x t ho B e i ht hi hz hsize hby v zs.length (zs.map (Value.int .u8)) hs hF.1 xv xs hx hX h63 hB ?_
 intro v' w' g1 g2 g3
 refine h v' w' ⟨?_, fun e0 => hF.2.1 (g3 e0), fun d hd => ?_⟩ ((Below.refl _ _).grown g2 hB (fun k hk => (hF.1.lt k hk).1))
 · rw [List.length_append, List.map_append]; exact g1
 · rcases List.mem_append.1 hd with hd | hd
   · exact hF.2.2 d hd
   · exact hX.2.1 d hd
def nums (s : ByteArray) : List Int := s.data.toList.map fun b => (b.toNat : Int)
theorem nums_strOf {zs : List Int} (h : ∀ c ∈ zs, 0 ≤ c ∧ c < 256) : nums (strOfNums zs) = zs := by
 simp only [nums, strOfNums_data, List.map_map]
 conv => rhs; rw [← List.map_id zs]
 refine List.map_congr_left fun c hc => ?_
 have := h c hc
 simp [UInt8.toNat_ofNat']
 omega
theorem strOf_inj {x y : List Int} (hx : ∀ c ∈ x, 0 ≤ c ∧ c < 256) (hy : ∀ c ∈ y, 0 ≤ c ∧ c < 256) (h : strOfNums x = strOfNums y) : x = y := by
 rw [← nums_strOf hx, ← nums_strOf hy, h]
theorem run_string {P : Program} {w : World} {v : Value} {zs : List Int} (hB : Bytes w v zs) {src e dst : TypeId} (hs : P.underlying src = some (.slice e)) (he : P.underlying e = some (.int .u8)) (hd : P.underlying dst = some .string) :
 (convert src dst v).run P w = .ok (.string (strOfNums zs)) w := by
 obtain ⟨_, _, ⟨a, cap, rfl, _, rfl⟩ | ⟨b, off, cap, rfl, hc⟩⟩ := hB
 · rw [run_convert_bytes_string w src dst e a 0 cap hs he hd]
   cases a <;> simp [Conv.bytesToString, loadCells]
   all_goals rfl
 · exact run_convert_bytes_arg w src e hs he b off zs.length cap zs rfl hc dst hd
theorem str_ne {s t : ByteArray} (h : s ≠ t) : (s.toList == t.toList) = false := by
 rw [ByteArray.toList_eq, ByteArray.toList_eq]
 refine beq_eq_false_iff_ne.2 fun e => h ?_
 have : s.data = t.data := Array.toList_inj.1 e
 cases s; cases t; exact congrArg ByteArray.mk this
end Go.Proofs.YtnkgakhnlbifdaaGreat
namespace Go.Proofs.YtnkgakhnlbifdaaGreat
open Go.RowKit
theorem info_u8 : (Tryz.prog.info? 5).map (fun i => (i.zero, i.size, i.bytes)) = some (some (.int .u8 0), 1, 1) := by kernel_rfl
theorem elem_bytes : Tryz.prog.underlying 24 = some (.slice (Tryz.prog.elem 24)) := by kernel_rfl
theorem size_bytes (w : World) : (sizeOf (Tryz.prog.elem 24)).run Tryz.prog w = .ok 1 w := by kernel_rfl
theorem piece_full {W : World} {a : Option Addr} {n c : Nat} {zs : List Int} (hB : Bytes W (.slice a n c) zs) (hn : n = zs.length) (hnc : n ≤ c) :
 ∃ a', (∀ w, (Instr.slice 24 (.slice a n c) none (some (.int .i64 (n : Int))) (some (.int .i64 (n : Int)))).run Tryz.prog w = .ok (.slice a' n n) w) ∧ Bytes W (.slice a' n n) zs := by
 refine ⟨if n = 0 then a else a.map (·.add 0), fun w => ?_, ?_⟩
 · rw [run_slice_hm w 24 a n c elem_bytes .i64 .i64 n n (by omega) (by omega) (by omega), size_bytes]
   simp [Result.andThen, sliced]
 · obtain ⟨h1, h2, ⟨a0, c0, h3, h4, rfl⟩ | ⟨b, off, c0, h3, h4⟩⟩ := hB
   · simp only [Value.slice.injEq] at h3
     obtain ⟨rfl, rfl, rfl⟩ := h3
     exact bytes_nil _ _ _ (fun h => rfl)
   · simp only [Value.slice.injEq] at h3
     obtain ⟨rfl, rfl, rfl⟩ := h3
     refine ⟨h1, h2, ?_⟩
     by_cases h0 : zs.length = 0
     · obtain rfl : zs = [] := List.eq_nil_of_length_eq_zero h0
       exact Or.inl ⟨_, 0, rfl, fun _ => rfl, rfl⟩
     · refine Or.inr ⟨b, off, zs.length, ?_, h4⟩
       simp [h0, Addr.add]
theorem or128 (r : Nat) : bits .or .u8 ((r : Int) % 256) 128 = ((r % 128 + 128 : Nat) : Int) := by
 rw [show (r : Int) % 256 = ((r % 256 : Nat) : Int) by omega]
 have e := u8_or_nat (r % 256) 128 (by omega) (by decide)
 rw [show ((128 : Nat) : Int) = 128 from rfl] at e
 rw [e]
 congr 1
 have h : ∀ y : Fin 256, y.val ||| 128 = y.val % 128 + 128 := by decide +kernel
 have := h ⟨r % 256, by omega⟩
 simp only at this
 rw [this]
 omega
def Made (w : World) (zs : List Int) (e : Ending) (w' : World) : Prop := ∃ v, e = .returned v ∧ Below w.heap.size w w' ∧ Fresh w.heap.size 5 w' v zs
theorem fresh_empty (w : World) : Fresh w.heap.size 5 (w.alloc (.cells #[] 5)) (.slice (some ⟨w.heap.size, 0, none⟩) 0 0) [] :=
 ⟨World.ownsRow_made w #[] 0 (Nat.le_refl _) (by decide) rfl, by simp, fun _ h => by cases h⟩
theorem Fresh.args {B : Nat} {e : TypeId} {w : World} {v : Value} {zs : List Int} (h : Fresh B e w v zs) : ∃ a n c, v = .slice a n c ∧ n = zs.length ∧ n ≤ c := by
 obtain ⟨g, cap, rfl, _, _, h, _⟩ := h.form
 exact ⟨_, _, _, rfl, rfl, h⟩
end Go.Proofs.YtnkgakhnlbifdaaGreat
namespace Go.Proofs.YtnkgakhnlbifdaaGreat
open Go.RowKit
theorem bytes_cap {W : World} {a : Option Addr} {n c : Nat} {zs : List Int} (hB : Bytes W (.slice a n c) zs) : Bytes W (.slice a n n) zs := by
 obtain ⟨h1, h2, ⟨a0, c0, h3, h4, rfl⟩ | ⟨b, off, c0, h3, h4⟩⟩ := hB
 · simp only [Value.slice.injEq] at h3
   obtain ⟨rfl, rfl, rfl⟩ := h3
   exact bytes_nil _ _ _ (fun _ => rfl)
 · simp only [Value.slice.injEq] at h3
   obtain ⟨rfl, rfl, rfl⟩ := h3
   exact ⟨h1, h2, Or.inr ⟨b, off, zs.length, rfl, h4⟩⟩
theorem piece_after {a : Option Addr} {n c lo : Nat} {zs : List Int} (hn : n = zs.length) (h1 : lo ≤ n) (h3 : n ≤ c) :
 ∃ v, (∀ w, (Instr.slice 24 (.slice a n c) (some (.int .i64 (lo : Int))) (some (.int .i64 (n : Int))) (some (.int .i64 (n : Int)))).run Tryz.prog w = .ok v w) ∧ (∀ W', Bytes W' (.slice a n c) zs → Bytes W' v (zs.drop lo)) ∧ ∃ a', v = .slice a' (n - lo) (n - lo) := by
 have hrun : ∀ w, (Instr.slice 24 (.slice a n c) (some (.int .i64 (lo : Int))) (some (.int .i64 (n : Int))) (some (.int .i64 (n : Int)))).run Tryz.prog w = .ok (sliced a lo n n 1) w := fun w => by
  rw [run_slice_lhm w 24 a n c elem_bytes .i64 .i64 .i64 lo n n (by omega) (by omega) (by omega) (by omega), size_bytes]
  simp [Result.andThen]
 refine ⟨_, hrun, fun W' hB' => ?_, _, rfl⟩
 have := bytes_sliced (bytes_cap hB') hn h1 (Nat.le_refl n) (Nat.le_refl n)
 rwa [hn, List.take_length, ← hn] at this
theorem or_shift (m k d : Nat) (hm : m < 128 ^ k) (h : m + 128 ^ k * d < 18446744073709551616) : bits .or .u64 (m : Int) (IntKind.u64.wrap ((d : Int) * 2 ^ (7 * k))) = ((m + 128 ^ k * d : Nat) : Int) := by
 have e : (d : Int) * 2 ^ (7 * k) = ((128 ^ k * d : Nat) : Int) := by
  rw [PackMath.pow7, Int.natCast_mul, Int.natCast_pow, Int.mul_comm]; rfl
 rw [e, IntKind.wrap_u64, Int.emod_eq_of_lt (by omega) (by omega), u64_or_nat _ _ (by omega) (by omega), PackMath.or_add m k d hm]
theorem getD_mid (p q : List Int) (y : Int) : (p ++ y :: q).getD p.length 0 = y := by
 simp [List.getD_eq_getElem?_getD]
def Going (zs rest : List Int) (x k m r : Nat) : Prop := ∃ p, p.length = k ∧ zs = p ++ PackMath.num r ++ rest ∧ x = m + 128 ^ k * r ∧ PackMath.Read p m ∧ (k = 0 ∨ 0 < r)
theorem Going.nine {zs rest : List Int} {x k m r : Nat} (h : Going zs rest x k m r) (hx : x < 18446744073709551616) (hk : k = 9) : r ≤ 1 := by
 obtain ⟨p, _, _, h3, _, _⟩ := h
 rw [hk, PackMath.pow9] at h3
 omega
theorem Going.more {zs rest : List Int} {x k m r : Nat} (h : Going zs rest x k m r) (hr : 128 ≤ r) :
 zs.getD k 0 = ((r % 128 + 128 : Nat) : Int) ∧ k + 1 < zs.length ∧ Going zs rest x (k + 1) (m + 128 ^ k * (r % 128)) (r / 128) := by
 obtain ⟨p, h1, h2, h3, h4, h5⟩ := h
 rw [PackMath.num_ge hr] at h2
 refine ⟨?_, ?_, p ++ [((r % 128 + 128 : Nat) : Int)], by simp [h1], by rw [h2]; simp, ?_, ?_, Or.inr (by omega)⟩
 · rw [h2, ← h1, List.append_assoc, List.cons_append, getD_mid]
 · have := PackMath.num_pos (r / 128)
   rw [h2]
   simp only [List.length_append, List.length_cons]
   omega
 · rw [h3, Nat.pow_succ, Nat.mul_assoc, Nat.add_assoc, ← Nat.mul_add]
   congr 2
   omega
 · rw [← h1]; exact h4.more (by omega)
theorem Going.last {zs rest : List Int} {x k m r : Nat} (h : Going zs rest x k m r) (hr : r < 128) :
 zs.getD k 0 = (r : Int) ∧ m < 128 ^ k ∧ x = m + 128 ^ k * r ∧ (PackMath.num x).length = k + 1 := by
 obtain ⟨p, h1, h2, h3, h4, h5⟩ := h
 refine ⟨?_, by rw [← h1]; exact h4.1, h3, ?_⟩
 · rw [h2, PackMath.num_lt hr, ← h1, List.append_assoc, List.singleton_append, getD_mid]
 · rw [h3, ← h1, h4.last hr (by rcases h5 with h5 | h5; · left; exact List.eq_nil_of_length_eq_zero (by omega)
                                · right; exact h5)]
   simp
theorem Going.fits {zs rest : List Int} {x k m r : Nat} (h : Going zs rest x k m r) : m + 128 ^ k * (r % 128) ≤ x := by
 obtain ⟨p, _, _, h3, _, _⟩ := h
 have : 128 ^ k * (r % 128) ≤ 128 ^ k * r := Nat.mul_le_mul_left _ (by omega)
 omega
theorem Going.low {zs rest : List Int} {x k m r : Nat} (h : Going zs rest x k m r) : m < 128 ^ k := by
 obtain ⟨p, h1, _, _, h4, _⟩ := h
 rw [← h1]; exact h4.1
theorem Going.zero {zs rest : List Int} {x k m r : Nat} (h : Going zs rest x k m r) : k = 0 ∨ 0 < r := h.choose_spec.2.2.2.2
def Vain (zs : List Int) (k m : Nat) : Prop := PackMath.Read (zs.take k) m ∧ k ≤ zs.length ∧ k ≤ 9
theorem Vain.at_ {zs : List Int} {k m : Nat} (h : Vain zs k m) (hb : PackMath.Bare zs) (hk : k < zs.length) (hs : ∀ c ∈ zs, 0 ≤ c ∧ c < 256) :
 ∃ c : Nat, zs.getD k 0 = (c : Int) ∧ c < 256 ∧ (c < 128 → (k = 9 ∧ 1 < c) ∨ (0 < k ∧ c = 0)) ∧ (k < 9 → 128 ≤ c → Vain zs (k + 1) (m + 128 ^ k * (c - 128))) := by
 have he : zs.getD k 0 = zs[k] := by simp [List.getD_eq_getElem?_getD, List.getElem?_eq_getElem hk]
 obtain ⟨h0, h1⟩ := hs zs[k] (List.getElem_mem hk)
 obtain ⟨c, hc⟩ := Int.eq_ofNat_of_zero_le h0
 have hlen : (zs.take k).length = k := by simp; omega
 have htk : zs.take (k + 1) = zs.take k ++ [(c : Int)] := by
  rw [List.take_succ_eq_append_getElem hk, hc]
 refine ⟨c, by rw [he, hc], by omega, fun hlt => ?_, fun hk9 hge => ?_⟩
 · by_cases h9 : k = 9 ∧ 1 < c
   · exact Or.inl h9
   · by_cases hk0 : 0 < k ∧ c = 0
     · exact Or.inr hk0
     · exfalso
       have hl := h.1.lt64 (d := c) (by rw [hlen]; exact h.2.2) hlt (by rw [hlen]; omega)
       have hn := h.1.last (d := c) hlt (by
        rcases Nat.eq_zero_or_pos k with h' | h'
        · left; rw [h']; rfl
        · right; omega)
       refine hb _ (zs.drop (k + 1)) hl ?_
       rw [hn, ← htk, List.take_append_drop]
 · refine ⟨?_, by omega, by omega⟩
   have := h.1.more (d := c - 128) (by omega)
   rw [hlen] at this
   rw [htk]
   rwa [show c - 128 + 128 = c by omega] at this
theorem Vain.start (zs : List Int) : Vain zs 0 0 := ⟨PackMath.read_nil, Nat.zero_le _, Nat.zero_le _⟩
theorem Vain.fits {zs : List Int} {k m c : Nat} (h : Vain zs k m) (hk : k < 9) (hc : c < 128) : m < 128 ^ k ∧ m + 128 ^ k * c < 18446744073709551616 := by
 have hlen : (zs.take k).length = k := by have := h.2.1; simp; omega
 have hm := h.1.1
 rw [hlen] at hm
 have hp := PackMath.pow_le9 (k := k) (by omega)
 have h2 : 128 ^ k * (c + 1) ≤ 128 ^ k * 128 := Nat.mul_le_mul_left _ (by omega)
 rw [Nat.mul_add] at h2
 exact ⟨hm, by omega⟩
end Go.Proofs.YtnkgakhnlbifdaaGreat
namespace Go.Proofs.YtnkgakhnlbifdaaGreat
open Go.RowKit
set_option maxRecDepth 100000 in
set_option maxHeartbeats 400000 in
theorem refput_calls (a : Option Addr) (n c : Nat) (zs : List Int) (x : Nat) (hx : x < 18446744073709551616) (w : World) (hB : Bytes w (.slice a n c) zs) (hn : n = zs.length) (_hnc : n ≤ c) (h47 : n ≤ 140737488355000) :
 Calls Tryz.prog 54 #[.slice a n c, .int .u64 x] w (Made w (zs ++ PackMath.num x)) := by
 obtain ⟨i5, hi, hz0, hz1, hz2⟩ := info_parts info_u8
 have Hi := Lib.hid hi; clear hi
 have Hz0 := Lib.hid hz0; clear hz0
 have Hz1 := Lib.hid hz1; clear hz1
 have Hz2 := Lib.hid hz2; clear hz2
 have HB := Lib.hid hB; clear hB
 have Hn := Lib.hid hn; clear hn
 have Hx := Lib.hid (PackMath.num_len_64 x hx)
 have HX := Lib.hid hx; clear hx
 have HF0 := Lib.hid (fresh_empty w)
 have Hb0 := Lib.hid ((Below.refl w.heap.size w).alloc (Nat.le_refl _) (.cells #[] 5))
 go_enter Tryz.func54, Tryz.ntmps54
 go_wp2_with (at_builtin; refine wpList_append_more rfl (.tmp 7) (.tmp 8) 24 rfl w.heap.size 5 i5 Tryz.underlying24 Hi.out Hz0.out Hz1.out Hz2.out _ _ rfl HF0.out _ _ rfl (HB.out.later Hb0.out) (by have := Hn.out; simp; omega) (by simp) ?_; intro v1 w1 hF hB2; have HF1 := Lib.hid hF; have Hb1 := Lib.hid (Hb0.out.trans hB2); clear hF hB2)
 go_loopw [1, 5] (fun i v wr => ∃ (p : List Int) (r : Nat), i = .int .u64 r ∧ Hid (r < 18446744073709551616) ∧ Hid (PackMath.num x = p ++ PackMath.num r) ∧ Hid (Fresh w.heap.size 5 wr v (zs ++ p)) ∧ Hid (Below w.heap.size w wr)) (fun i _ _ => (intOf i).toNat)
 case atStart => exact ⟨[], x, rfl, HX, rfl, by have := HF1.out; rw [List.nil_append] at this; rw [List.append_nil]; exact this, Hb1.out⟩
 case round =>
  obtain ⟨p, r, rfl, Hr, Hp, HF, Hb⟩ := hrel
  have hlz := congrArg List.length Hp.out
  rw [List.length_append] at hlz
  have hlx := Hx.out
  have hlr := PackMath.num_pos r
  have hlen : (zs ++ p).length + 1 ≤ 140737488355328 := by rw [List.length_append, ← Hn.out]; omega
  have HL := Lib.hid hlen; clear hlen hlz hlx hlr
  have hw : IntKind.u64.wrap ((r : Int) / 128) = (r : Int) / 128 := by
   have := Hr.out
   rw [IntKind.wrap_u64]
   exact Int.emod_eq_of_lt (by omega) (by omega)
  by_cases hge : 128 ≤ r
  · have hq : ((r : Int) / 128 == 0) = false := beq_eq_false_iff_ne.2 (by omega)
    go_wp2_with (at_builtin; refine wpList_append_byte rfl (.tmp 21) (.tmp 24) 24 rfl w.heap.size 5 i5 Tryz.underlying24 Hi.out Hz0.out Hz1.out Hz2.out _ _ rfl (Tail.alloc (Or.inr HF.out) _) ((r : Int) % 128 + 128) (by omega) ⟨wr.heap.size, 0, none⟩ 1 rfl (cell_new _ _ _ _ _ _ rfl) HL.out (by have := Hb.out.size; simp; omega) ?_; intro v' w' hF hB2; have HF2 := Lib.hid hF; have HB2 := Lib.hid hB2; clear hF hB2)
    go_roundw
    case rel =>
     refine ⟨p ++ [((r % 128 + 128 : Nat) : Int)], r / 128, congrArg (Value.int IntKind.u64) (by omega), ?_, ?_, ?_, ?_⟩
     · show _ < _
       have := Hr.out
       omega
     · show _ = _
       rw [Hp.out, PackMath.num_ge hge]; simp
     · show Fresh _ _ _ _ _
       have := HF2.out
       rw [List.append_assoc] at this
       simpa using this
     · exact Hb.out.trans (((Below.refl _ _).alloc Hb.out.size _).trans HB2.out)
    case measure => simp [intOf]; omega
  · have hlt : r < 128 := by omega
    have hq : ((r : Int) / 128 == 0) = true := beq_iff_eq.2 (by omega)
    clear hge
    go_wp2_with (at_builtin; refine wpList_append_byte rfl (.tmp 17) (.tmp 19) 24 rfl w.heap.size 5 i5 Tryz.underlying24 Hi.out Hz0.out Hz1.out Hz2.out _ _ rfl (Tail.alloc (Or.inr HF.out) _) ((r : Int) % 128) (by omega) ⟨wr.heap.size, 0, none⟩ 1 rfl (cell_new _ _ _ _ _ _ rfl) HL.out (by have := Hb.out.size; simp; omega) ?_; intro v' w' hF hB2; have HF2 := Lib.hid hF; have HB2 := Lib.hid hB2; clear hF hB2)
    go_ret
    refine ⟨v', rfl, Hb.out.trans (((Below.refl _ _).alloc Hb.out.size _).trans HB2.out), ?_⟩
    rw [Hp.out, PackMath.num_lt hlt, ← List.append_assoc, show (r : Int) = (r : Int) % 128 by omega]
    exact HF2.out
end Go.Proofs.YtnkgakhnlbifdaaGreat
