/- Parts, as far as BookTakesCards reaches them, of: RefAuditSame, Ref04Same, RefRightsSame, RefLineSame, RefClaimNeq, RefClaimSame. No law is proved here. -/
import Derived.Test.YtnkgakhnlbifdaaGreatTb1
import Derived.LoopTactic
import Derived.BigRegion
import Derived.Test.YtnkgakhnlbifdaaGreatTb0
import Derived.Deep.QuietTactic
import Derived.BigQuiet
import Derived.WalkSmall
import Derived.WalkKit
import Derived.ProofKit
import Derived.OpenShut
import Derived.WalkSpells
import Derived.Laws.AppendOwn
import Derived.Laws.AppendOwnNone
import Derived.Laws.OwnMore
import Derived.Lib.Hide
import Derived.Deep.Draws
import Derived.Deep.Slices
import Derived.Deep.Fields
import Derived.ChangeSame
import Derived.RegionTactic
import Derived.Maps.AppendAt
import Derived.Lib.SmallJoins
import Derived.RangeFuncNested
import Derived.RangeFuncBound
import Derived.RangeFuncLeaves
import Derived.RangeFuncBox
import Derived.Laws.MakeOwn
import Derived.Deep.RegionHeld3
import Derived.WalkLawsBesides
import Derived.IntWalk
import Derived.Deep.DeepCutAuto
namespace Go.Proofs.YtnkgakhnlbifdaaGreat
open Go.RowKit
theorem au_cells_of {w : World} {g : Nat} {x : Au} {tv uv iv : Value} (h : Whole w g 35 (auCells x tv uv iv)) :
 w.cell? ⟨g, 0, none⟩ = some (.int .i64 x.try_) ∧ w.cell? ⟨g, 1, none⟩ = some (.int .i64 x.ph) ∧ w.cell? ⟨g, 2, none⟩ = some tv ∧ w.cell? ⟨g, 3, none⟩ = some uv ∧ w.cell? ⟨g, 4, none⟩ = some iv ∧ w.cell? ⟨g, 5, none⟩ = some (.bool x.moved) :=
 ⟨h.cell 0, h.cell 1, h.cell 2, h.cell 3, h.cell 4, h.cell 5⟩
theorem run_neq_lk2 (w : World) (t a u b : Int) : (binOp .neq 31 (.agg #[.int .i64 t, .int .i64 a]) (.agg #[.int .i64 u, .int .i64 b])).run Tryz.prog w = .ok (.bool (!decide (t = u ∧ a = b))) w := by
 by_cases h1 : t = u
 · subst h1
   by_cases h2 : a = b
   · subst h2; simp [go_sem, Tryz.underlying31]
   · simp [go_sem, Tryz.underlying31, h2]
 · simp [go_sem, Tryz.underlying31, h1]
theorem list_ext {α : Type} {k l : List α} (z : α) (h : k.length = l.length) (h2 : ∀ i, i < k.length → k[i]?.getD z = l[i]?.getD z) : k = l := by
 refine List.ext_getElem h fun i hi hj => ?_
 have := h2 i hi
 simpa [List.getElem?_eq_getElem hi, List.getElem?_eq_getElem hj] using this
set_option maxRecDepth 100000 in
set_option maxHeartbeats 8000000 in
theorem refausame_calls (x y : Au) (p q : Al) (w : World) (hA : AuIn w p x) (hB : AuIn w q y) (res : Bool) (hres : res = true ↔ x = y) :
 Calls Tryz.prog 29 #[auAt x p, auAt y q] w (Says w res) := by
 obtain ⟨⟨hm1, hA1⟩, ⟨hm2, hA2⟩, hm3, hA3⟩ := hA
 obtain ⟨⟨hn1, hB1⟩, ⟨hn2, hB2⟩, hn3, hB3⟩ := hB
 have r1 : p.m1 ≤ 9223372036854775807 := by rw [hm1]; exact hA1.1
 have r2 : p.m2 ≤ 9223372036854775807 := by rw [hm2]; exact hA2.1
 have r3 : p.m3 ≤ 9223372036854775807 := by rw [hm3]; exact hA3.1
 have s1 : q.m1 ≤ 9223372036854775807 := by rw [hn1]; exact hB1.1
 have s2 : q.m2 ≤ 9223372036854775807 := by rw [hn2]; exact hB2.1
 have s3 : q.m3 ≤ 9223372036854775807 := by rw [hn3]; exact hB3.1
 have HA1 := Lib.hid hA1; have HA2 := Lib.hid hA2; have HA3 := Lib.hid hA3
 have HB1 := Lib.hid hB1; have HB2 := Lib.hid hB2; have HB3 := Lib.hid hB3
 have Hm1 := Lib.hid hm1; have Hm2 := Lib.hid hm2; have Hm3 := Lib.hid hm3
 have Hn1 := Lib.hid hn1; have Hn2 := Lib.hid hn2; have Hn3 := Lib.hid hn3
 clear hA1 hA2 hA3 hB1 hB2 hB3 hm1 hm2 hm3 hn1 hn2 hn3
 obtain ⟨tr, ph, told, use, inc, mv⟩ := x
 obtain ⟨tr', ph', told', use', inc', mv'⟩ := y
 obtain ⟨a1, m1, c1, a2, m2, c2, a3, m3, c3⟩ := p
 obtain ⟨b1, n1, d1, b2, n2, d2, b3, n3, d3⟩ := q
 simp only at r1 r2 r3 s1 s2 s3
 have HX := Lib.hid ((Whole.made w 35 (auCells ⟨tr, ph, told, use, inc, mv⟩ (.slice a1 m1 c1) (.slice a2 m2 c2) (.slice a3 m3 c3))).alloc (.cells (auCells ⟨tr', ph', told', use', inc', mv'⟩ (.slice b1 n1 d1) (.slice b2 n2 d2) (.slice b3 n3 d3)) 35))
 have HY := Lib.hid (Whole.made2 w (.cells (auCells ⟨tr, ph, told, use, inc, mv⟩ (.slice a1 m1 c1) (.slice a2 m2 c2) (.slice a3 m3 c3)) 35) 35 (auCells ⟨tr', ph', told', use', inc', mv'⟩ (.slice b1 n1 d1) (.slice b2 n2 d2) (.slice b3 n3 d3)))
 have Hb0 := Lib.hid (below_two w (.cells (auCells ⟨tr, ph, told, use, inc, mv⟩ (.slice a1 m1 c1) (.slice a2 m2 c2) (.slice a3 m3 c3)) 35) (.cells (auCells ⟨tr', ph', told', use', inc', mv'⟩ (.slice b1 n1 d1) (.slice b2 n2 d2) (.slice b3 n3 d3)) 35))
 have Hres := Lib.hid hres
 clear hres
 have hlk := fun W => run_neq_lk2 W tr ph tr' ph'
 obtain ⟨z0, z1, z2, z3, z4, z5⟩ := au_cells_of HX.out
 obtain ⟨y0, y1, y2, y3, y4, y5⟩ := au_cells_of HY.out
 simp only at z0 z1 z2 z3 z4 z5 y0 y1 y2 y3 y4 y5
 by_cases h : tr = tr' ∧ ph = ph'
 rotate_left 1
 · obtain rfl : res = false := by
    cases res with
    | false => rfl
    | true => exact absurd (Hres.out.1 rfl) (fun e => by simp only [Au.mk.injEq] at e; exact h ⟨e.1, e.2.1⟩)
   have hd : decide (tr = tr' ∧ ph = ph') = false := decide_eq_false h
   clear h
   go_enter Tryz.func29, Tryz.ntmps29
   go_wp2_with fail
   go_ret
   exact ⟨by rfl, Hb0.out⟩
 have hd : decide (tr = tr' ∧ ph = ph') = true := decide_eq_true h
 have Hk := Lib.hid h
 clear h
 by_cases h : mv = mv'
 rotate_left 1
 · obtain rfl : res = false := by
    cases res with
    | false => rfl
    | true => exact absurd (Hres.out.1 rfl) (fun e => by simp only [Au.mk.injEq] at e; exact h e.2.2.2.2.2)
   cases mv with
   | false =>
     cases mv' with
     | false => exact absurd rfl h
     | true =>
       clear h
       go_enter Tryz.func29, Tryz.ntmps29
       go_wp2_with fail
       go_ret
       exact ⟨by rfl, Hb0.out⟩
   | true =>
     cases mv' with
     | true => exact absurd rfl h
     | false =>
       clear h
       go_enter Tryz.func29, Tryz.ntmps29
       go_wp2_with fail
       go_ret
       exact ⟨by rfl, Hb0.out⟩
 subst h
 by_cases h : m1 = n1
 rotate_left 1
 · obtain rfl : res = false := by
    cases res with
    | false => rfl
    | true => exact absurd (Hres.out.1 rfl) (fun e => by simp only [Au.mk.injEq] at e; exact h (Hm1.out.trans ((congrArg List.length e.2.2.1).trans Hn1.out.symm)))
   have e1 : ((m1 : Int) != (n1 : Int)) = true := by simp; omega
   clear h
   go_enter Tryz.func29, Tryz.ntmps29
   go_wp2_with fail
   go_ret
   exact ⟨by rfl, Hb0.out⟩
 have e1 : ((m1 : Int) != (n1 : Int)) = false := by simp; omega
 have Hh1 := Lib.hid h
 clear h
 by_cases h : m2 = n2
 rotate_left 1
 · obtain rfl : res = false := by
    cases res with
    | false => rfl
    | true => exact absurd (Hres.out.1 rfl) (fun e => by simp only [Au.mk.injEq] at e; exact h (Hm2.out.trans ((congrArg List.length e.2.2.2.1).trans Hn2.out.symm)))
   have e2 : ((m2 : Int) != (n2 : Int)) = true := by simp; omega
   clear h
   go_enter Tryz.func29, Tryz.ntmps29
   go_wp2_with fail
   go_ret
   exact ⟨by rfl, Hb0.out⟩
 have e2 : ((m2 : Int) != (n2 : Int)) = false := by simp; omega
 have Hh2 := Lib.hid h
 clear h
 by_cases h : m3 = n3
 rotate_left 1
 · obtain rfl : res = false := by
    cases res with
    | false => rfl
    | true => exact absurd (Hres.out.1 rfl) (fun e => by simp only [Au.mk.injEq] at e; exact h (Hm3.out.trans ((congrArg List.length e.2.2.2.2.1).trans Hn3.out.symm)))
   have e3 : ((m3 : Int) != (n3 : Int)) = true := by simp; omega
   clear h
   go_enter Tryz.func29, Tryz.ntmps29
   go_wp2_with fail
   go_ret
   exact ⟨by rfl, Hb0.out⟩
 have e3 : ((m3 : Int) != (n3 : Int)) = false := by simp; omega
 have Hh3 := Lib.hid h
 clear h
 go_enter Tryz.func29, Tryz.ntmps29
 go_wp2_with fail
 go_loopw [5] (fun s wr => ∃ k : Nat, k ≤ m1 ∧ s = .int .i64 (k : Int) ∧ Hid (∀ q, q < k → told[q]?.getD false = told'[q]?.getD false) ∧ Hid (Below w.heap.size w wr) ∧ Hid (Whole wr w.heap.size 35 (auCells ⟨tr, ph, told, use, inc, mv⟩ (.slice a1 m1 c1) (.slice a2 m2 c2) (.slice a3 m3 c3))) ∧ Hid (Whole wr (w.heap.size + 1) 35 (auCells ⟨tr', ph', told', use', inc', mv⟩ (.slice b1 n1 d1) (.slice b2 n2 d2) (.slice b3 n3 d3)))) (fun s _ => m1 - (intOf s).toNat)
 case atStart => exact ⟨0, Nat.zero_le _, rfl, fun q hq => absurd hq (Nat.not_lt_zero _), Hb0.out, HX.out, HY.out⟩
 case round =>
  obtain ⟨k1, hk1, rfl, Hl1, Hb1, HX1, HY1⟩ := hrel
  obtain ⟨z0, z1, z2, z3, z4, z5⟩ := au_cells_of HX1.out
  obtain ⟨y0, y1, y2, y3, y4, y5⟩ := au_cells_of HY1.out
  simp only at z0 z1 z2 z3 z4 z5 y0 y1 y2 y3 y4 y5
  by_cases hlt : k1 < m1
  · obtain ⟨g1, o1, rfl, cc0⟩ := HA1.out.at (i := k1) (by have h5 : m1 = told.length := Hm1.out; omega)
    obtain ⟨g2, o2, rfl, dd0⟩ := HB1.out.at (i := k1) (by have h5 : n1 = told'.length := Hn1.out; have := Hh1.out; omega)
    obtain ⟨u, Hu⟩ : ∃ t, Hid (told[k1]?.getD false = t) := ⟨_, Lib.hid rfl⟩
    obtain ⟨v, Hv2⟩ : ∃ t, Hid (told'[k1]?.getD false = t) := ⟨_, Lib.hid rfl⟩
    replace cc0 := cell_later Hb1.out cc0
    replace dd0 := cell_later Hb1.out dd0
    rw [Hu.out] at cc0
    rw [Hv2.out] at dd0
    have k0 : (0 : Int) ≤ (k1 : Int) := by omega
    have k1' : (k1 : Int) < (m1 : Int) := by omega
    have k2' : (k1 : Int) < (n1 : Int) := by have := Hh1.out; omega
    by_cases huv : u = v
    · subst huv
      cases u with
      | false =>
        go_wp2_with fail
        go_region
        all_goals go_wp2_with fail
        go_roundw
        case rel => exact ⟨k1 + 1, by omega, by go_num, (fun q hq => by
         by_cases e : q = k1
         · subst e; rw [Hu.out, Hv2.out]
         · exact Hl1.out q (by omega)), Hb1.out.drew, HX1.out.drew, HY1.out.drew⟩
        case measure => simp [intOf]; omega
      | true =>
        go_wp2_with fail
        go_region
        all_goals go_wp2_with fail
        go_roundw
        case rel => exact ⟨k1 + 1, by omega, by go_num, (fun q hq => by
         by_cases e : q = k1
         · subst e; rw [Hu.out, Hv2.out]
         · exact Hl1.out q (by omega)), Hb1.out.drew, HX1.out.drew, HY1.out.drew⟩
        case measure => simp [intOf]; omega
    · obtain rfl : res = false := by
       cases res with
       | false => rfl
       | true => exact absurd (Hres.out.1 rfl) (fun e => by simp only [Au.mk.injEq] at e; exact huv (by rw [← Hu.out, ← Hv2.out, e.2.2.1]))
      cases u with
      | false =>
        cases v with
        | false => exact absurd rfl huv
        | true =>
          clear huv
          go_wp2_with fail
          go_region
          all_goals go_wp2_with fail
          go_ret
          exact ⟨by rfl, Hb1.out.drew⟩
      | true =>
        cases v with
        | true => exact absurd rfl huv
        | false =>
          clear huv
          go_wp2_with fail
          go_region
          all_goals go_wp2_with fail
          go_ret
          exact ⟨by rfl, Hb1.out.drew⟩
  · have hkm : k1 = m1 := by omega
    have He1 : Hid (told = told') := list_ext false (by have h5 : m1 = told.length := Hm1.out; have h6 : n1 = told'.length := Hn1.out; have := Hh1.out; omega) (fun q hq => Hl1.out q (by have h5 : m1 = told.length := Hm1.out; omega))
    have Hkm1 := Lib.hid hkm
    clear hkm
    go_wp2_with fail
    go_loopw [6] (fun s wr => ∃ k : Nat, k ≤ m2 ∧ s = .int .i64 (k : Int) ∧ Hid (∀ q, q < k → use[q]?.getD 0 = use'[q]?.getD 0) ∧ Hid (Below w.heap.size w wr) ∧ Hid (Whole wr w.heap.size 35 (auCells ⟨tr, ph, told, use, inc, mv⟩ (.slice a1 m1 c1) (.slice a2 m2 c2) (.slice a3 m3 c3))) ∧ Hid (Whole wr (w.heap.size + 1) 35 (auCells ⟨tr', ph', told', use', inc', mv⟩ (.slice b1 n1 d1) (.slice b2 n2 d2) (.slice b3 n3 d3)))) (fun s _ => m2 - (intOf s).toNat)
    case atStart => exact ⟨0, Nat.zero_le _, rfl, fun q hq => absurd hq (Nat.not_lt_zero _), Hb1.out, HX1.out, HY1.out⟩
    case round =>
     obtain ⟨k2, hk2, rfl, Hl2, Hb2, HX2, HY2⟩ := hrel
     obtain ⟨z0, z1, z2, z3, z4, z5⟩ := au_cells_of HX2.out
     obtain ⟨y0, y1, y2, y3, y4, y5⟩ := au_cells_of HY2.out
     simp only at z0 z1 z2 z3 z4 z5 y0 y1 y2 y3 y4 y5
     by_cases hlt : k2 < m2
     · obtain ⟨g1, o1, rfl, _, cc0⟩ := HA2.out.at (i := k2) (by have h5 : m2 = use.length := Hm2.out; omega)
       obtain ⟨g2, o2, rfl, _, dd0⟩ := HB2.out.at (i := k2) (by have h5 : n2 = use'.length := Hn2.out; have := Hh2.out; omega)
       obtain ⟨u, Hu⟩ : ∃ t, Hid (use[k2]?.getD 0 = t) := ⟨_, Lib.hid rfl⟩
       obtain ⟨v, Hv2⟩ : ∃ t, Hid (use'[k2]?.getD 0 = t) := ⟨_, Lib.hid rfl⟩
       replace cc0 := cell_later Hb2.out cc0
       replace dd0 := cell_later Hb2.out dd0
       rw [Hu.out] at cc0
       rw [Hv2.out] at dd0
       have k0 : (0 : Int) ≤ (k2 : Int) := by omega
       have k1' : (k2 : Int) < (m2 : Int) := by omega
       have k2' : (k2 : Int) < (n2 : Int) := by have := Hh2.out; omega
       by_cases huv : u = v
       · subst huv
         have hue : (u != u) = false := bne_self_eq_false u
         go_wp2_with fail
         go_region
         all_goals go_wp2_with fail
         go_roundw
         case rel => exact ⟨k2 + 1, by omega, by go_num, (fun q hq => by
          by_cases e : q = k2
          · subst e; rw [Hu.out, Hv2.out]
          · exact Hl2.out q (by omega)), Hb2.out.drew, HX2.out.drew, HY2.out.drew⟩
         case measure => simp [intOf]; omega
       · obtain rfl : res = false := by
          cases res with
          | false => rfl
          | true => exact absurd (Hres.out.1 rfl) (fun e => by simp only [Au.mk.injEq] at e; exact huv (by rw [← Hu.out, ← Hv2.out, e.2.2.2.1]))
         have hue : (u != v) = true := bne_iff_ne.2 huv
         clear huv
         go_wp2_with fail
         go_region
         all_goals go_wp2_with fail
         go_ret
         exact ⟨by rfl, Hb2.out.drew⟩
     · have hkm : k2 = m2 := by omega
       have He2 : Hid (use = use') := list_ext 0 (by have h5 : m2 = use.length := Hm2.out; have h6 : n2 = use'.length := Hn2.out; have := Hh2.out; omega) (fun q hq => Hl2.out q (by have h5 : m2 = use.length := Hm2.out; omega))
       have Hkm2 := Lib.hid hkm
       clear hkm
       go_wp2_with fail
       go_loopw [7] (fun s wr => ∃ k : Nat, k ≤ m3 ∧ s = .int .i64 (k : Int) ∧ Hid (∀ q, q < k → inc[q]?.getD 0 = inc'[q]?.getD 0) ∧ Hid (Below w.heap.size w wr) ∧ Hid (Whole wr w.heap.size 35 (auCells ⟨tr, ph, told, use, inc, mv⟩ (.slice a1 m1 c1) (.slice a2 m2 c2) (.slice a3 m3 c3))) ∧ Hid (Whole wr (w.heap.size + 1) 35 (auCells ⟨tr', ph', told', use', inc', mv⟩ (.slice b1 n1 d1) (.slice b2 n2 d2) (.slice b3 n3 d3)))) (fun s _ => m3 - (intOf s).toNat)
       case atStart => exact ⟨0, Nat.zero_le _, rfl, fun q hq => absurd hq (Nat.not_lt_zero _), Hb2.out, HX2.out, HY2.out⟩
       case round =>
        obtain ⟨k3, hk3, rfl, Hl3, Hb3, HX3, HY3⟩ := hrel
        obtain ⟨z0, z1, z2, z3, z4, z5⟩ := au_cells_of HX3.out
        obtain ⟨y0, y1, y2, y3, y4, y5⟩ := au_cells_of HY3.out
        simp only at z0 z1 z2 z3 z4 z5 y0 y1 y2 y3 y4 y5
        by_cases hlt : k3 < m3
        · obtain ⟨g1, o1, rfl, _, cc0⟩ := HA3.out.at (i := k3) (by have h5 : m3 = inc.length := Hm3.out; omega)
          obtain ⟨g2, o2, rfl, _, dd0⟩ := HB3.out.at (i := k3) (by have h5 : n3 = inc'.length := Hn3.out; have := Hh3.out; omega)
          obtain ⟨u, Hu⟩ : ∃ t, Hid (inc[k3]?.getD 0 = t) := ⟨_, Lib.hid rfl⟩
          obtain ⟨v, Hv2⟩ : ∃ t, Hid (inc'[k3]?.getD 0 = t) := ⟨_, Lib.hid rfl⟩
          replace cc0 := cell_later Hb3.out cc0
          replace dd0 := cell_later Hb3.out dd0
          rw [Hu.out] at cc0
          rw [Hv2.out] at dd0
          have k0 : (0 : Int) ≤ (k3 : Int) := by omega
          have k1' : (k3 : Int) < (m3 : Int) := by omega
          have k2' : (k3 : Int) < (n3 : Int) := by have := Hh3.out; omega
          by_cases huv : u = v
          · subst huv
            have hue : (u != u) = false := bne_self_eq_false u
            go_wp2_with fail
            go_region
            all_goals go_wp2_with fail
            go_roundw
            case rel => exact ⟨k3 + 1, by omega, by go_num, (fun q hq => by
             by_cases e : q = k3
             · subst e; rw [Hu.out, Hv2.out]
             · exact Hl3.out q (by omega)), Hb3.out.drew, HX3.out.drew, HY3.out.drew⟩
            case measure => simp [intOf]; omega
          · obtain rfl : res = false := by
             cases res with
             | false => rfl
             | true => exact absurd (Hres.out.1 rfl) (fun e => by simp only [Au.mk.injEq] at e; exact huv (by rw [← Hu.out, ← Hv2.out, e.2.2.2.2.1]))
            have hue : (u != v) = true := bne_iff_ne.2 huv
            clear huv
            go_wp2_with fail
            go_region
            all_goals go_wp2_with fail
            go_ret
            exact ⟨by rfl, Hb3.out.drew⟩
        · have hkm : k3 = m3 := by omega
          have He3 : Hid (inc = inc') := list_ext 0 (by have h5 : m3 = inc.length := Hm3.out; have h6 : n3 = inc'.length := Hn3.out; have := Hh3.out; omega) (fun q hq => Hl3.out q (by have h5 : m3 = inc.length := Hm3.out; omega))
          have Hkm3 := Lib.hid hkm
          clear hkm
          go_wp2_with fail
          obtain rfl : res = true := Hres.out.2 (by rw [Hk.out.1, Hk.out.2, He1.out, He2.out, He3.out])
          go_ret
          exact ⟨by rfl, Hb3.out⟩
end Go.Proofs.YtnkgakhnlbifdaaGreat
namespace Go.Proofs.YtnkgakhnlbifdaaGreat
open Go.RowKit
section
variable (a : Option Addr) (n c : Nat) (b : Option Addr) (m d : Nat) (i u j v : Int) (la lb : List Int) (hn : n = la.length) (hm : m = lb.length) (w : World) (hA : Nums w (.slice a n c) la) (hB : Nums w (.slice b m d) lb)
include hn hm hA hB
set_option maxHeartbeats 1000000 in
theorem refsame_no (h : ¬ (n = m ∧ i = j ∧ u = v)) : Calls Tryz.prog 69 #[rowV i u (.slice a n c), rowV j v (.slice b m d)] w (Says w false) := by
 have hbig : n ≤ 9223372036854775807 := by rw [hn]; exact hA.1
 have hbig2 : m ≤ 9223372036854775807 := by rw [hm]; exact hB.1
 clear hn hm hA hB
 by_cases h1 : n = m
 · obtain rfl := h1
   by_cases h2 : i = j
   · obtain rfl := h2
     have h3 : u ≠ v := fun e => h ⟨rfl, rfl, e⟩
     have h3' : (u != v) = true := bne_iff_ne.2 h3
     clear h
     go_enter Tryz.func69, Tryz.ntmps69
     go_wp2
     go_ret
     exact ⟨rfl, below_two w _ _⟩
   · have h3' : (i != j) = true := bne_iff_ne.2 h2
     clear h
     go_enter Tryz.func69, Tryz.ntmps69
     go_wp2
     go_ret
     exact ⟨rfl, below_two w _ _⟩
 · clear h
   have h1' : ((n : Int) != (m : Int)) = true := by simp; omega
   go_enter Tryz.func69, Tryz.ntmps69
   go_wp2
   go_ret
   exact ⟨rfl, below_two w _ _⟩
end
set_option maxRecDepth 100000 in
set_option maxHeartbeats 2000000 in
theorem refsame_loop (a : Option Addr) (n c : Nat) (b : Option Addr) (d : Nat) (i u j v : Int) (la lb : List Int) (hn : n = la.length) (hm : n = lb.length) (w : World) (hA : Nums w (.slice a n c) la) (hB : Nums w (.slice b n d) lb)
 (hi : i = j) (hu : u = v) : Calls Tryz.prog 69 #[rowV i u (.slice a n c), rowV j v (.slice b n d)] w (Says w (sameB i u la j v lb)) := by
 have hbig : n ≤ 9223372036854775807 := by rw [hn]; exact hA.1
 subst hi hu
 obtain ⟨r, Hr⟩ : ∃ r, Hid (sameB i u la i u lb = r) := ⟨_, rfl⟩
 rw [Hr.out]
 have HA := Lib.hid hA; clear hA
 have HB := Lib.hid hB; clear hB
 have Hn := Lib.hid hn; clear hn
 have Hm := Lib.hid hm; clear hm
 have Hb0 := Lib.hid (below_two w (.cells #[.int .i64 i, .int .i64 u, .slice a n c] 109) (.cells #[.int .i64 i, .int .i64 u, .slice b n d] 109))
 have HWA := Lib.hid ((Whole.made w 109 #[.int .i64 i, .int .i64 u, .slice a n c]).alloc (.cells #[.int .i64 i, .int .i64 u, .slice b n d] 109))
 have HWB := Lib.hid (Whole.made2 w (.cells #[.int .i64 i, .int .i64 u, .slice a n c] 109) 109 #[.int .i64 i, .int .i64 u, .slice b n d])
 go_enter Tryz.func69, Tryz.ntmps69
 go_wp2
 go_loopw [5] (fun x wr => ∃ k : Nat, k ≤ n ∧ x = .int .i64 k ∧ Hid (∀ q, q < k → la[q]?.getD 0 = lb[q]?.getD 0) ∧ Hid (Below w.heap.size w wr) ∧ Hid (Whole wr w.heap.size 109 #[.int .i64 i, .int .i64 u, .slice a n c]) ∧ Hid (Whole wr (w.heap.size + 1) 109 #[.int .i64 i, .int .i64 u, .slice b n d])) (fun x _ => n - (intOf x).toNat)
 case atStart => exact ⟨0, Nat.zero_le _, rfl, fun q hq => absurd hq (Nat.not_lt_zero _), Hb0.out, HWA.out, HWB.out⟩
 case round =>
  obtain ⟨k, hk, rfl, Hl, Hb, HWa, HWb⟩ := hrel
  have a2 : wr.cell? ⟨w.heap.size, 2, none⟩ = some (.slice a n c) := HWa.out.cell 2
  have b2 : wr.cell? ⟨w.heap.size + 1, 2, none⟩ = some (.slice b n d) := HWb.out.cell 2
  by_cases hlt : k < n
  · obtain ⟨ba, oa, rfl, _, c0⟩ := HA.out.at (i := k) (by have := Hn.out; omega)
    obtain ⟨bb, ob, rfl, _, c1⟩ := HB.out.at (i := k) (by have := Hm.out; omega)
    have d0 := cell_later Hb.out c0
    have d1 := cell_later Hb.out c1
    clear c0 c1
    obtain ⟨x, Hx⟩ : ∃ x, Hid (la[k]?.getD 0 = x) := ⟨_, rfl⟩
    obtain ⟨y, Hy⟩ : ∃ y, Hid (lb[k]?.getD 0 = y) := ⟨_, rfl⟩
    rw [Hx.out] at d0
    rw [Hy.out] at d1
    have k0 : (0 : Int) ≤ (k : Int) := by omega
    have k1 : (k : Int) < (n : Int) := by omega
    by_cases hxy : x ≠ y
    · obtain rfl : r = false := by
       cases r with
       | false => rfl
       | true =>
         have := (of_decide_eq_true Hr.out).2.2
         subst this
         exact absurd (Hx.out.symm.trans Hy.out) hxy
      have hxy1 : (x != y) = true := bne_iff_ne.2 hxy
      go_wp2
      go_quiet (fail)
      go_wp2
      go_ret
      exact ⟨rfl, below_drewN Hb.out _⟩
    · obtain rfl : x = y := by omega
      clear hxy
      go_wp2
      go_quiet (fail)
      go_wp2
      go_roundw
      case rel => exact ⟨k + 1, by omega, by go_num, (fun q hq => by
       by_cases e : q = k
       · subst e; rw [Hx.out, Hy.out]
       · exact Hl.out q (by omega)), below_drewN Hb.out _, HWa.out, HWb.out⟩
      case measure => simp [intOf]; omega
  · have hkn : k = n := by omega
    have Hkn := Lib.hid hkn; clear hkn
    obtain rfl : r = true := Hr.out.symm.trans (decide_eq_true ⟨rfl, rfl, list_same (by rw [← Hn.out, ← Hm.out]) fun q hq => Hl.out q (by have := Hn.out; have := Hkn.out; omega)⟩)
    go_wp2
    go_ret
    exact ⟨rfl, Hb.out⟩
theorem refsame_calls (a : Option Addr) (n c : Nat) (b : Option Addr) (m d : Nat) (i u j v : Int) (la lb : List Int) (hn : n = la.length) (hm : m = lb.length) (w : World) (hA : Nums w (.slice a n c) la) (hB : Nums w (.slice b m d) lb) :
 Calls Tryz.prog 69 #[rowV i u (.slice a n c), rowV j v (.slice b m d)] w (Says w (sameB i u la j v lb)) := by
 by_cases h : n = m ∧ i = j ∧ u = v
 · obtain ⟨rfl, hi, hu⟩ := h
   exact refsame_loop a n c b d i u j v la lb hn hm w hA hB hi hu
 · rw [show sameB i u la j v lb = false from decide_eq_false fun ⟨h1, h2, h3⟩ => h ⟨by rw [hn, hm, h3], h1, h2⟩]
   exact refsame_no a n c b m d i u j v la lb hn hm w hA hB h
end Go.Proofs.YtnkgakhnlbifdaaGreat
namespace Go.Proofs.YtnkgakhnlbifdaaGreat
open Go.RowKit
set_option maxRecDepth 100000 in
set_option maxHeartbeats 4000000 in
theorem refsamebooks_calls (a : Option Addr) (m d : Nat) (b : Option Addr) (n e : Nat) (la lb : List Rw) (hm : m = la.length) (hn : n = lb.length) (w : World) (hA : Books w (.slice a m d) la) (hB : Books w (.slice b n e) lb) :
 Calls Tryz.prog 26 #[.slice a m d, .slice b n e] w (Says w (sameL la lb)) := by
 have hbm : m ≤ 9223372036854775807 := by rw [hm]; exact hA.big
 have hbn : n ≤ 9223372036854775807 := by rw [hn]; exact hB.big
 have HA := Lib.hid hA; clear hA
 have HB := Lib.hid hB; clear hB
 have Hm := Lib.hid hm; clear hm
 have Hn := Lib.hid hn; clear hn
 obtain ⟨res, Hres⟩ : ∃ z, Hid (sameL la lb = z) := ⟨_, rfl⟩
 rw [Hres.out]
 by_cases hne : m ≠ n
 · obtain rfl : res = false := Hres.out.symm.trans (sameL_no fun h => hne (by rw [Hm.out, Hn.out, h.1]))
   have hne' : ((m : Int) != (n : Int)) = true := by simp; omega
   go_enter Tryz.func26, Tryz.ntmps26
   go_wp2
   go_ret
   exact ⟨rfl, Below.refl _ _⟩
 have hne' : m = n := by omega
 clear hne
 subst hne'
 go_enter Tryz.func26, Tryz.ntmps26
 go_wp2
 go_loopw [5] (fun x wr => ∃ k : Nat, k ≤ m ∧ x = .int .i64 k ∧ Hid (∀ q, q < k → sameB (at_ la q).inc (at_ la q).use (at_ la q).out (at_ lb q).inc (at_ lb q).use (at_ lb q).out = true) ∧ Hid (Below w.heap.size w wr)) (fun x _ => m - (intOf x).toNat)
 case atStart => exact ⟨0, Nat.zero_le _, rfl, fun q hq => absurd hq (Nat.not_lt_zero _), Below.refl _ _⟩
 case round =>
  obtain ⟨k, hk, rfl, Hl, Hb⟩ := hrel
  by_cases hlt : k < m
  · obtain ⟨g1, o1, A1, C1, rfl, _, c0, c1, c2, hN1⟩ := HA.out.at (k := k) (by have := Hm.out; omega)
    obtain ⟨g2, o2, A2, C2, rfl, _, d0, d1, d2, hN2⟩ := HB.out.at (k := k) (by have := Hn.out; omega)
    obtain ⟨v, Hv⟩ : ∃ z, Hid (sameB (at_ la k).inc (at_ la k).use (at_ la k).out (at_ lb k).inc (at_ lb k).use (at_ lb k).out = z) := ⟨_, rfl⟩
    have HN1 := Lib.hid hN1; clear hN1
    have HN2 := Lib.hid hN2; clear hN2
    obtain ⟨r1, R1⟩ : ∃ z, Hid (at_ la k = z) := ⟨_, rfl⟩
    obtain ⟨r2, R2⟩ : ∃ z, Hid (at_ lb k = z) := ⟨_, rfl⟩
    rw [R1.out] at c0 c1 c2 HN1 Hv
    rw [R2.out] at d0 d1 d2 HN2 Hv
    have KP : Hid (∀ w', Below wr.heap.size wr w' → (w'.cell? ⟨g1, o1 + k * 3, none⟩ = some (.int .i64 r1.inc) ∧ w'.cell? ⟨g1, o1 + k * 3 + 1, none⟩ = some (.int .i64 r1.use) ∧ w'.cell? ⟨g1, o1 + k * 3 + 2, none⟩ = some (.slice A1 r1.out.length C1)) ∧
     (w'.cell? ⟨g2, o2 + k * 3, none⟩ = some (.int .i64 r2.inc) ∧ w'.cell? ⟨g2, o2 + k * 3 + 1, none⟩ = some (.int .i64 r2.use) ∧ w'.cell? ⟨g2, o2 + k * 3 + 2, none⟩ = some (.slice A2 r2.out.length C2))) :=
     fun w' h => ⟨⟨cell_later (held_next Hb.out h) c0, cell_later (held_next Hb.out h) c1, cell_later (held_next Hb.out h) c2⟩, cell_later (held_next Hb.out h) d0, cell_later (held_next Hb.out h) d1, cell_later (held_next Hb.out h) d2⟩
    have OM : Hid (∀ w', Below wr.heap.size wr w' → Calls Tryz.prog 69 #[rowV r1.inc r1.use (.slice A1 r1.out.length C1), rowV r2.inc r2.use (.slice A2 r2.out.length C2)] w' (Says w' v)) := by
     rw [← Hv.out]
     exact fun w' h => refsame_calls A1 _ C1 A2 _ C2 r1.inc r1.use r2.inc r2.use r1.out r2.out rfl rfl w' (HN1.out.later (held_next Hb.out h)) (HN2.out.later (held_next Hb.out h))
    clear c0 c1 c2 d0 d1 d2
    have k0 : (0 : Int) ≤ (k : Int) := by omega
    have k1 : (k : Int) < (m : Int) := by omega
    go_wp2
    go_region_held3 (fun w' => (w'.cell? ⟨g1, o1 + k * 3, none⟩ = some (.int .i64 r1.inc) ∧ w'.cell? ⟨g1, o1 + k * 3 + 1, none⟩ = some (.int .i64 r1.use) ∧ w'.cell? ⟨g1, o1 + k * 3 + 2, none⟩ = some (.slice A1 r1.out.length C1)) ∧
     (w'.cell? ⟨g2, o2 + k * 3, none⟩ = some (.int .i64 r2.inc) ∧ w'.cell? ⟨g2, o2 + k * 3 + 1, none⟩ = some (.int .i64 r2.use) ∧ w'.cell? ⟨g2, o2 + k * 3 + 2, none⟩ = some (.slice A2 r2.out.length C2)))
     (first | exact KP.out _ (Below.refl _ _).drew | exact KP.out _ hS1)
     (first | (go_at_call 69; refine (OM.out _ (Below.refl _ _).drew).mono ?_; rintro ee w2 ⟨rfl, hb1⟩; have hS1 := held_next ((Below.refl _ _).drew) hb1))
    cases v with
    | true =>
      go_wp2
      go_roundw
      case rel => exact ⟨k + 1, by omega, by go_num, (fun q hq => by
       by_cases e : q = k
       · subst e; rw [R1.out, R2.out]; exact Hv.out
       · exact Hl.out q (by omega)), held_next Hb.out hS1⟩
      case measure => simp [intOf]; omega
    | false =>
      obtain rfl : res = false := Hres.out.symm.trans (sameL_no fun h => by
       have := h.2 k (by have := Hm.out; omega)
       rw [R1.out, R2.out, Hv.out] at this
       cases this)
      go_wp2
      go_ret
      exact ⟨by rfl, held_next Hb.out hS1⟩
  · have hkm : k = m := by omega
    obtain rfl : res = true := Hres.out.symm.trans (decide_eq_true ⟨by rw [← Hm.out, ← Hn.out], fun q hq => Hl.out q (by have := Hm.out; omega)⟩)
    have Hkm := Lib.hid hkm; clear hkm
    go_wp2
    go_ret
    exact ⟨by rfl, Hb.out⟩
end Go.Proofs.YtnkgakhnlbifdaaGreat
namespace Go.Proofs.YtnkgakhnlbifdaaGreat
open Go.RowKit
theorem run_neq_rq (w : World) (x y : Rq) : (binOp .neq 67 (rqV x) (rqV y)).run Tryz.prog w = .ok (.bool (!decide (x = y))) w := by
 obtain ⟨t, a, m⟩ := x
 obtain ⟨u, b, n⟩ := y
 by_cases h1 : t = u
 · subst h1
   by_cases h2 : a = b
   · subst h2
     by_cases h3 : m = n
     · subst h3; simp [go_sem, Tryz.underlying67, Tryz.underlying65]
     · have h4 : (m == n) = false := beq_eq_false_iff_ne.2 h3
       simp [go_sem, Tryz.underlying67, Tryz.underlying65, h3]
   · have h4 : (a == b) = false := beq_eq_false_iff_ne.2 h2
     simp [go_sem, Tryz.underlying67, Tryz.underlying65, h2]
 · have h4 : (t == u) = false := beq_eq_false_iff_ne.2 h1
   simp [go_sem, Tryz.underlying67, Tryz.underlying65, h1]
set_option maxRecDepth 100000 in
set_option maxHeartbeats 4000000 in
theorem reflinesame_calls (a : Option Addr) (m d : Nat) (b : Option Addr) (n e : Nat) (la lb : List Rq) (hm : m = la.length) (hn : n = lb.length) (w : World) (hA : Line w (.slice a m d) la) (hB : Line w (.slice b n e) lb) :
 Calls Tryz.prog 27 #[.slice a m d, .slice b n e] w (Says w (sameQ la lb)) := by
 have hbm : m ≤ 9223372036854775807 := by rw [hm]; exact hA.big
 have hbn : n ≤ 9223372036854775807 := by rw [hn]; exact hB.big
 have HA := Lib.hid hA; clear hA
 have HB := Lib.hid hB; clear hB
 have Hm := Lib.hid hm; clear hm
 have Hn := Lib.hid hn; clear hn
 obtain ⟨res, Hres⟩ : ∃ z, Hid (sameQ la lb = z) := ⟨_, rfl⟩
 rw [Hres.out]
 by_cases hne : m ≠ n
 · obtain rfl : res = false := Hres.out.symm.trans (decide_eq_false fun h => hne (by rw [Hm.out, Hn.out, h]))
   have hne' : ((m : Int) != (n : Int)) = true := by simp; omega
   go_enter Tryz.func27, Tryz.ntmps27
   go_wp2_with fail
   go_ret
   exact ⟨rfl, Below.refl _ _⟩
 have hne' : m = n := by omega
 clear hne
 subst hne'
 go_enter Tryz.func27, Tryz.ntmps27
 go_wp2_with fail
 go_loopw [5] (fun x wr => ∃ k : Nat, k ≤ m ∧ x = .int .i64 k ∧ Hid (∀ q, q < k → rqAt la q = rqAt lb q) ∧ Hid (Below w.heap.size w wr)) (fun x _ => m - (intOf x).toNat)
 case atStart => exact ⟨0, Nat.zero_le _, rfl, fun q hq => absurd hq (Nat.not_lt_zero _), Below.refl _ _⟩
 case round =>
  obtain ⟨k, hk, rfl, Hl, Hb⟩ := hrel
  by_cases hlt : k < m
  · obtain ⟨g1, o1, rfl, c0, c1, c2⟩ := HA.out.at (i := k) (by have := Hm.out; omega)
    obtain ⟨g2, o2, rfl, d0, d1, d2⟩ := HB.out.at (i := k) (by have := Hn.out; omega)
    obtain ⟨x, Hx⟩ : ∃ z, Hid (rqAt la k = z) := ⟨_, rfl⟩
    obtain ⟨y, Hy⟩ : ∃ z, Hid (rqAt lb k = z) := ⟨_, rfl⟩
    replace c0 := cell_later Hb.out c0
    replace c1 := cell_later Hb.out c1
    replace c2 := cell_later Hb.out c2
    replace d0 := cell_later Hb.out d0
    replace d1 := cell_later Hb.out d1
    replace d2 := cell_later Hb.out d2
    rw [Hx.out] at c0 c1 c2
    rw [Hy.out] at d0 d1 d2
    have hne := fun w => run_neq_rq w x y
    by_cases hxy : x = y
    · rw [decide_eq_true hxy] at hne
      have Hxy := Lib.hid hxy; clear hxy
      go_wp2_with fail
      go_region
      all_goals go_wp2_with fail
      go_roundw
      case rel => exact ⟨k + 1, by omega, by go_num, (fun q hq => by
       by_cases e : q = k
       · subst e; rw [Hx.out, Hy.out]; exact Hxy.out
       · exact Hl.out q (by omega)), Hb.out.drew⟩
      case measure => simp [intOf]; omega
    · rw [decide_eq_false hxy] at hne
      obtain rfl : res = false := Hres.out.symm.trans (decide_eq_false fun h => hxy (by rw [← Hx.out, ← Hy.out, h]))
      clear hxy
      go_wp2_with fail
      go_region
      all_goals go_wp2_with fail
      go_ret
      exact ⟨by rfl, Hb.out.drew⟩
  · have hkm : k = m := by omega
    obtain rfl : res = true := Hres.out.symm.trans (decide_eq_true (rqAt_ext (by rw [← Hm.out, ← Hn.out]) fun q hq => Hl.out q (by have := Hm.out; omega)))
    have Hkm := Lib.hid hkm; clear hkm
    go_wp2_with fail
    go_ret
    exact ⟨by rfl, Hb.out⟩
end Go.Proofs.YtnkgakhnlbifdaaGreat
namespace Go.Proofs.YtnkgakhnlbifdaaGreat
open Go.RowKit
set_option maxHeartbeats 4000000 in
theorem run_neq_nt (w : World) (x y : Nt) : (binOp .neq 71 (ntV x) (ntV y)).run Tryz.prog w = .ok (.bool (!decide ((x : Nt) = y))) w := by
 obtain ⟨x0, x1, x2, x3, x4, x5, x6⟩ := x
 obtain ⟨y0, y1, y2, y3, y4, y5, y6⟩ := y
 by_cases h0 : x0 = y0
 · subst h0
   by_cases h1 : x1 = y1
   · subst h1
     by_cases h2 : x2 = y2
     · subst h2
       by_cases h3 : x3 = y3
       · subst h3
         by_cases h4 : x4 = y4
         · subst h4
           by_cases h5 : x5 = y5
           · subst h5
             by_cases h6 : x6 = y6
             · subst h6
               simp [go_sem, Tryz.underlying71, Tryz.underlying67, Tryz.underlying65, Tryz.underlying31]
             · have g6 : (x6 == y6) = false := beq_eq_false_iff_ne.2 h6
               simp [go_sem, Tryz.underlying71, Tryz.underlying67, Tryz.underlying65, Tryz.underlying31, h6]
           · have g5 : (x5 == y5) = false := beq_eq_false_iff_ne.2 h5
             simp [go_sem, Tryz.underlying71, Tryz.underlying67, Tryz.underlying65, Tryz.underlying31, h5]
         · have g4 : (x4 == y4) = false := beq_eq_false_iff_ne.2 h4
           simp [go_sem, Tryz.underlying71, Tryz.underlying67, Tryz.underlying65, Tryz.underlying31, h4]
       · have g3 : (x3 == y3) = false := beq_eq_false_iff_ne.2 h3
         simp [go_sem, Tryz.underlying71, Tryz.underlying67, Tryz.underlying65, Tryz.underlying31, h3]
     · have g2 : (x2 == y2) = false := beq_eq_false_iff_ne.2 h2
       simp [go_sem, Tryz.underlying71, Tryz.underlying67, Tryz.underlying65, Tryz.underlying31, h2]
   · have g1 : (x1 == y1) = false := beq_eq_false_iff_ne.2 h1
     simp [go_sem, Tryz.underlying71, Tryz.underlying67, Tryz.underlying65, Tryz.underlying31, h1]
 · have g0 : (x0 == y0) = false := beq_eq_false_iff_ne.2 h0
   simp [go_sem, Tryz.underlying71, Tryz.underlying67, Tryz.underlying65, Tryz.underlying31, h0]
end Go.Proofs.YtnkgakhnlbifdaaGreat
namespace Go.Proofs.YtnkgakhnlbifdaaGreat
open Go.RowKit
set_option maxRecDepth 100000 in
set_option maxHeartbeats 4000000 in
theorem refntsame_calls (a : Option Addr) (m d : Nat) (b : Option Addr) (n e : Nat) (la lb : List Nt) (hm : m = la.length) (hn : n = lb.length) (w : World) (hA : Notes w (.slice a m d) la) (hB : Notes w (.slice b n e) lb) :
 Calls Tryz.prog 28 #[.slice a m d, .slice b n e] w (Says w (sameNt la lb)) := by
 have hbm : m ≤ 9223372036854775807 := by rw [hm]; exact hA.big
 have hbn : n ≤ 9223372036854775807 := by rw [hn]; exact hB.big
 have HA := Lib.hid hA; clear hA
 have HB := Lib.hid hB; clear hB
 have Hm := Lib.hid hm; clear hm
 have Hn := Lib.hid hn; clear hn
 obtain ⟨res, Hres⟩ : ∃ z, Hid (sameNt la lb = z) := ⟨_, rfl⟩
 rw [Hres.out]
 by_cases hne : m ≠ n
 · obtain rfl : res = false := Hres.out.symm.trans (decide_eq_false fun h => hne (by rw [Hm.out, Hn.out, h]))
   have hne' : ((m : Int) != (n : Int)) = true := by simp; omega
   go_enter Tryz.func28, Tryz.ntmps28
   go_wp2_with fail
   go_ret
   exact ⟨rfl, Below.refl _ _⟩
 have hne' : m = n := by omega
 clear hne
 subst hne'
 go_enter Tryz.func28, Tryz.ntmps28
 go_wp2_with fail
 go_loopw [5] (fun x wr => ∃ k : Nat, k ≤ m ∧ x = .int .i64 k ∧ Hid (∀ q, q < k → ntAt la q = ntAt lb q) ∧ Hid (Below w.heap.size w wr)) (fun x _ => m - (intOf x).toNat)
 case atStart => exact ⟨0, Nat.zero_le _, rfl, fun q hq => absurd hq (Nat.not_lt_zero _), Below.refl _ _⟩
 case round =>
  obtain ⟨k, hk, rfl, Hl, Hb⟩ := hrel
  by_cases hlt : k < m
  · obtain ⟨g1, o1, rfl, hc⟩ := (HA.out.later Hb.out).at (i := k) (by have := Hm.out; omega)
    obtain ⟨g2, o2, rfl, hd⟩ := (HB.out.later Hb.out).at (i := k) (by have := Hn.out; omega)
    obtain ⟨x, Hx⟩ : ∃ z, Hid (ntAt la k = z) := ⟨_, rfl⟩
    obtain ⟨y, Hy⟩ : ∃ z, Hid (ntAt lb k = z) := ⟨_, rfl⟩
    rw [Hx.out] at hc
    rw [Hy.out] at hd
    obtain ⟨c0, c1, c2, c3, c4, c5, c6⟩ := hc
    obtain ⟨d0, d1, d2, d3, d4, d5, d6⟩ := hd
    have hne := fun w => run_neq_nt w x y
    by_cases hxy : x = y
    · rw [decide_eq_true hxy] at hne
      have Hxy := Lib.hid hxy; clear hxy
      go_wp2_with fail
      go_region
      all_goals go_wp2_with fail
      go_roundw
      case rel => exact ⟨k + 1, by omega, by go_num, (fun q hq => by
       by_cases e : q = k
       · subst e; rw [Hx.out, Hy.out]; exact Hxy.out
       · exact Hl.out q (by omega)), Hb.out.drew⟩
      case measure => simp [intOf]; omega
    · rw [decide_eq_false hxy] at hne
      obtain rfl : res = false := Hres.out.symm.trans (decide_eq_false fun h => hxy (by rw [← Hx.out, ← Hy.out, h]))
      clear hxy
      go_wp2_with fail
      go_region
      all_goals go_wp2_with fail
      go_ret
      exact ⟨by rfl, Hb.out.drew⟩
  · have hkm : k = m := by omega
    obtain rfl : res = true := Hres.out.symm.trans (decide_eq_true (ntAt_ext (by rw [← Hm.out, ← Hn.out]) fun q hq => Hl.out q (by have := Hm.out; omega)))
    have Hkm := Lib.hid hkm; clear hkm
    go_wp2_with fail
    go_ret
    exact ⟨by rfl, Hb.out⟩
end Go.Proofs.YtnkgakhnlbifdaaGreat
