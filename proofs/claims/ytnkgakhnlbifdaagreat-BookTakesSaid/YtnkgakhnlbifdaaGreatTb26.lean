/- Parts, as far as BookTakesCards reaches them, of: PaintRows, PaintTakeN, OwnBytes, BytesClone, PaintPutMath, RightsCfg, RightsMay, RightsShareMath, RightsSumMath. No law is proved here. -/
import Derived.Test.YtnkgakhnlbifdaaGreatTb12
import Derived.WalkKit
import Derived.ProofKit
import Derived.OpenShut
import Derived.WalkSpells
import Derived.Laws.AppendOwn
import Derived.Laws.AppendOwnNone
import Derived.Laws.OwnMore
import Derived.Lib.Hide
import Derived.Deep.Draws
import Derived.Deep.Slices
import Derived.Deep.Fields
import Derived.ChangeSame
import Derived.RegionTactic
import Derived.Maps.AppendAt
import Derived.Lib.SmallJoins
import Derived.RangeFuncNested
import Derived.RangeFuncBound
import Derived.RangeFuncLeaves
import Derived.RangeFuncBox
import Derived.Laws.MakeOwn
import Derived.LoopTactic
import Derived.BigRegion
import Derived.Deep.RegionHeld3
import Derived.Test.YtnkgakhnlbifdaaGreatTb21
import Derived.Deep.LoopGhost
import Derived.Test.YtnkgakhnlbifdaaGreatTb11
import Derived.Laws.Cover3
import Derived.Test.YtnkgakhnlbifdaaGreatTb2
import Derived.Test.YtnkgakhnlbifdaaGreatTb0
import Derived.WalkLawsBesides
import Derived.IntWalk
import Derived.WalkSmall
import Derived.Deep.QuietTactic
import Derived.BigQuiet
import Derived.Test.YtnkgakhnlbifdaaGreatTb1
import Derived.RangeFuncCalls
import Derived.Shelf.Abstract
import Derived.Shelf.RegionOpen
import Derived.OwnWalkIn
import Derived.TacticsInMore
import Derived.LoopNIn
import Derived.LoopIn
import Derived.Laws.EntriesVeiled
namespace Go.Proofs.YtnkgakhnlbifdaaGreat
open Go.RowKit
attribute [local go_sem ↓] run_fine
theorem two_nums {w : World} {g B : Nat} {x y : Int} (h : Whole w g 2 #[.int .i64 x, .int .i64 y]) (hb : B ≤ g) : w.ownsRow B 2 1 (.slice (some ⟨g, 0, none⟩) 2 2) 2 ([x, y].map (Value.int .i64)) := by
 rw [flat_one]
 exact own_whole h hb rfl (by decide)
def Numbered (w : World) (l : List Int) (e : Ending) (w' : World) : Prop := ∃ A C, e = .returned (.slice A l.length C) ∧ w'.ownsRow w.heap.size 2 1 (.slice A l.length C) l.length (l.map (Value.int .i64)) ∧ Below w.heap.size w w'
set_option maxRecDepth 100000 in
set_option maxHeartbeats 4000000 in
theorem numbers_calls (x y : Int) (A : Option Addr) (q C : Nat) (out : List Int) (hq : q = out.length) (w : World) (hN : Nums w (.slice A q C) out) (hroom : q ≤ 14073748835500) :
 Calls Tryz.prog 71 #[rowV x y (.slice A q C)] w (Numbered w ([x, y] ++ out)) := by
 obtain ⟨i0, hi, hz0, hz1, hz2⟩ := info_parts info_int64
 have HW := Lib.hid (Whole.made w 109 #[.int .i64 x, .int .i64 y, .slice A q C])
 have hb1 : Below w.heap.size w ((w.alloc (.cells #[.int .i64 x, .int .i64 y, .slice A q C] 109)).alloc (.cells #[.int .i64 x, .int .i64 y] 2)) := below_two w _ _
 have hown := two_nums (B := w.heap.size) (Whole.made2 w (.cells #[.int .i64 x, .int .i64 y, .slice A q C] 109) 2 #[.int .i64 x, .int .i64 y]) (by omega)
 rw [flat_one] at hown
 obtain ⟨v1, w1, hrun1, q1, q2, _⟩ := run_append_elems (P := Tryz.prog) (w := (w.alloc (.cells #[.int .i64 x, .int .i64 y, .slice A q C] 109)).alloc (.cells #[.int .i64 x, .int .i64 y] 2)) 33 33 w.heap.size 2 i0 _ 1 8 Tryz.underlying33 hi hz0 hz1 hz2 rfl (by decide)
  (.slice (some ⟨w.heap.size + 1, 0, none⟩) 2 2) 2 _ hown A q C (fun i _ => .int .i64 (out[i]?.getD 0)) (by have h := hN.later hb1; unfold Nums at h; rw [← hq] at h; exact h) (fun _ _ _ _ => rfl) (by unfold maxLen; omega) (by omega) hb1.size
 obtain ⟨hf1, hv1, hw1⟩ := fine_of hrun1
 have Hq : Hid (∃ A C, v1 = .slice A ([x, y] ++ out).length C ∧ w1.ownsRow w.heap.size 2 1 (.slice A ([x, y] ++ out).length C) ([x, y] ++ out).length (([x, y] ++ out).map (Value.int .i64))) := by
  have e : flatCells 1 (2 + q) (fun i j => if i < 2 then (fun i (_ : Nat) => Value.int .i64 (([x, y] : List Int)[i]?.getD 0)) i j else (fun i (_ : Nat) => Value.int .i64 (out[i]?.getD 0)) (i - 2) j) = ([x, y] ++ out).map (Value.int .i64) := by
   rw [flat_one, List.length_append, ← hq]
   show flatCells 1 (2 + q) _ = flatCells 1 (2 + q) _
   congr 1
   funext i j
   match i with
   | 0 => rfl
   | 1 => rfl
   | i + 2 =>
     rw [if_neg (by omega)]
     simp
  have q1' : w1.ownsRow w.heap.size 2 1 v1 (2 + q) (([x, y] ++ out).map (Value.int .i64)) := by rw [← e]; exact q1
  have hlen : 2 + q = ([x, y] ++ out).length := by rw [List.length_append, ← hq]; rfl
  rw [hlen] at q1'
  obtain ⟨A', C', rfl, _⟩ := nums_of_own q1' rfl (by rw [← hlen]; omega)
  exact ⟨A', C', rfl, q1'⟩
 have Hb := Lib.hid (hb1.trans q2)
 clear hrun1 q1 q2 hb1 hown hN hi hz0 hz1 hz2 hq
 have d0 := HW.out.cell 0
 have d1 := HW.out.cell 1
 have d2 := HW.out.cell 2
 go_enter Tryz.func71, Tryz.ntmps71
 go_wp2
 go_ret
 obtain ⟨A', C', rfl, hN⟩ := Hq.out
 exact ⟨A', C', rfl, hN, Hb.out⟩
def RowOf (w : World) (x y : Int) (v : Value) (e : Ending) (w' : World) : Prop := e = .returned (rowV x y v) ∧ Below w.heap.size w w'
set_option maxRecDepth 100000 in
set_option maxHeartbeats 4000000 in
theorem rowof_calls (x y : Int) (g k cap : Nat) (hk : 3 ≤ k) (hc : k ≤ cap) (hbk : k ≤ 1000) (w : World) (x0 : w.cell? ⟨g, 0, none⟩ = some (.int .i64 x)) (x1 : w.cell? ⟨g, 1, none⟩ = some (.int .i64 y)) :
 Calls Tryz.prog 110 #[.slice (some ⟨g, 0, none⟩) k cap] w (RowOf w x y (.slice (some ⟨g, 2, none⟩) (k - 2) (cap - 2))) := by
 have hsl : ∀ w : World, (Instr.slice 33 (.slice (some ⟨g, 0, none⟩) k cap) (some (.int .i64 2)) none none).run Tryz.prog w = .ok (.slice (some ⟨g, 2, none⟩) (k - 2) (cap - 2)) w := by
  intro w
  rw [run_slice_l w 33 (some ⟨g, 0, none⟩) k cap elem_nums .i64 2 (by omega) (by omega), size_nums]
  have e2 : ¬ cap = 2 := by omega
  simp [Result.andThen, sliced, Addr.add, e2]
 have hg : g < w.heap.size := World.block_lt_of_cell? w _ x0
 have j0 : (0 : Int) < (k : Int) := by omega
 have j1 : (1 : Int) < (k : Int) := by omega
 have hbig : k ≤ 9223372036854775807 := by omega
 clear hbk
 go_enter Tryz.func110, Tryz.ntmps110
 go_wp2
 go_region
 go_wp2
 refine bodyPost_ret (v := rowV x y (.slice (some ⟨g, 2, none⟩) (k - 2) (cap - 2))) (by simp [results, Tryz.results110, go_sem]) rfl ⟨rfl, (below_box w _).drew⟩
end Go.Proofs.YtnkgakhnlbifdaaGreat
namespace Go.Proofs.YtnkgakhnlbifdaaGreat
open Go.RowKit
attribute [local go_sem ↓] run_fine
theorem BooksFar.mono {B B' : Nat} {w : World} {v : Value} {l : List Rw} (h : BooksFar B w v l) (hB : B' ≤ B) : BooksFar B' w v l := ⟨h.1, fun W hs hg => h.2 W hs fun g h1 h2 => hg g (Nat.le_trans hB h1) h2⟩
def TookBA (w : World) (s : Value) (zs : List Int) (x : Option (List Rw × List Int)) (e : Ending) (w' : World) : Prop :=
 (∃ l rest A C B D, x = some (l, rest) ∧ e = .returned (.tuple #[.slice A l.length C, .slice B rest.length D, .bool true]) ∧ BooksFar w.heap.size w' (.slice A l.length C) l ∧ (∀ W, Bytes W s zs → Bytes W (.slice B rest.length D) rest) ∧ rest.length ≤ D ∧ Below w.heap.size w w') ∨
 (x = none ∧ e = .returned (.tuple #[.slice none 0 0, .slice none 0 0, .bool false]) ∧ Below w.heap.size w w')
def TookRows (N : Nat) (s : Value) (zs : List Int) (w : World) (e : Ending) (w' : World) : Prop :=
 (∃ L cur A C B D, e = .returned (.tuple #[.slice A N C, .slice B cur.length D, .bool true]) ∧ L.length = N ∧ Rowed N L ∧ (∀ x ∈ flatR L, 0 ≤ x ∧ x < 18446744073709551616) ∧ zs = booksB L ++ cur ∧
  BooksFar w.heap.size w' (.slice A N C) L ∧ (∀ W, Bytes W s zs → Bytes W (.slice B cur.length D) cur) ∧ cur.length ≤ D ∧ Below w.heap.size w w') ∨
 ((∀ c : Cf, c.n = (N : Int) → takeB c zs = none) ∧ e = .returned (.tuple #[.slice none 0 0, .slice none 0 0, .bool false]) ∧ Below w.heap.size w w')
set_option maxRecDepth 100000 in
set_option maxHeartbeats 16000000 in
theorem takeN_calls (N : Nat) (hN1 : 1 ≤ N) (h16 : N ≤ 16) (a : Option Addr) (n d : Nat) (zs : List Int) (w : World) (hB : Bytes w (.slice a n d) zs) (hn : n = zs.length) (hnd : n ≤ d) :
 Calls Tryz.prog 109 #[.int .i64 (N : Int), .int .i64 (2 + N : Int), .slice a n d, .func (.func 110) #[] #[]] w (TookRows N (.slice a n d) zs w) := by
 have HB := Lib.hid hB; clear hB
 have Hn := Lib.hid hn; clear hn
 obtain ⟨i5, hi, hz0, hz1, hz2⟩ := info_parts info_row
 have Ki := Lib.hid hi; clear hi
 have Kz0 := Lib.hid hz0; clear hz0
 have Kz1 := Lib.hid hz1; clear hz1
 have Kz2 := Lib.hid hz2; clear hz2
 go_enter Tryz.func109, Tryz.ntmps109
 go_wp2_with fail
 go_step3
 go_wp2_with fail
 go_step3
 go_wp2_with fail
 go_loopg [8, 9] N (fun g s8 s9 wr => ∃ (i : Nat) (L : List Rw) (cur : List Int) (a1 : Option Addr) (n1 d1 : Nat) (A1 : Option Addr) (C1 : Nat), i + g = N ∧ s9 = .slice a1 n1 d1 ∧ s8 = .slice A1 i C1 ∧ Hid (n1 = cur.length ∧ n1 ≤ d1 ∧ ∀ W, Bytes W (.slice a n d) zs → Bytes W (.slice a1 n1 d1) cur) ∧
  Hid (HeldBooks wr w.heap.size (.slice A1 i C1) L) ∧ Hid (L.length = i ∧ Rowed N L ∧ (∀ x ∈ flatR L, 0 ≤ x ∧ x < 18446744073709551616) ∧ zs = booksB L ++ cur) ∧ Hid (Below w.heap.size w wr))
 case atStart => exact ⟨0, [], zs, a, n, d, _, _, by omega, rfl, rfl, ⟨Hn.out, hnd, fun _ h => h⟩, heldBooks_nil _ _, ⟨rfl, fun _ h => (by cases h), fun _ h => (by simp [flatR] at h), by simp [booksB, flatR, bytesN]⟩, Below.refl _ _⟩
 case round =>
  obtain ⟨i, L, cur, a1, n1, d1, A1, C1, hg, rfl, rfl, HC, HH, HL, Hb⟩ := hrel
  by_cases hlt : i < N
  · have hgp : 0 < gk := by omega
    obtain ⟨wo, hwo⟩ : ∃ wo, wo = wr := ⟨_, rfl⟩
    subst hwo
    have hlt' : (i : Int) < (N : Int) := by omega
    have hmk : ∀ w : World, (Instr.makeSlice 33 (.int .i64 0) (.int .i64 (2 + (N : Int)))).run Tryz.prog w = .ok (.slice (some ⟨w.heap.size, 0, none⟩) 0 (N + 2)) (w.alloc (.cells (madeCells #[.int .i64 0] (N + 2)) 2)) := by
     intro w
     obtain ⟨i0, hi, hz0, hz1, hz2⟩ := info_parts info_int64
     have := run_make (P := Tryz.prog) w 33 2 i0 (.int .i64 0) Tryz.underlying33 hi hz0 .i64 .i64 0 (2 + (N : Int)) (by omega) (by omega) (by rw [hz2]; omega) (by omega)
     have e : (2 + (N : Int)).toNat = N + 2 := by omega
     simpa [hz1, e, show (Value.int .i64 0).cells = #[.int .i64 0] from rfl] using this
    go_wp2_with fail
    clear hmk
    go_loopg [9, 11] (N + 2) (fun g s9 s11 wr => ∃ (k : Nat) (P : List Int) (cu : List Int) (a2 : Option Addr) (n2 d2 : Nat) (A2 : Option Addr) (C2 : Nat), k + g = N + 2 ∧ s9 = .slice a2 n2 d2 ∧ s11 = .slice A2 k C2 ∧ Hid (n2 = cu.length ∧ n2 ≤ d2 ∧ ∀ W, Bytes W (.slice a n d) zs → Bytes W (.slice a2 n2 d2) cu) ∧
     Hid (wr.ownsRow wo.heap.size 2 1 (.slice A2 k C2) k (P.map (Value.int .i64))) ∧ Hid (P.length = k ∧ (∀ x ∈ P, 0 ≤ x ∧ x < 18446744073709551616) ∧ zs = booksB L ++ (bytesN (P.map u64n) ++ cu)) ∧ Hid (Below wo.heap.size wo wr))
    case atStart => exact ⟨0, [], cur, a1, n1, d1, _, _, by omega, rfl, rfl, HC.out, World.ownsRow_made wo _ _ (Nat.le_refl _) (by unfold maxLen; omega) (by rw [size_madeCells, Nat.mul_one]), ⟨rfl, fun _ h => (by cases h), by simpa [bytesN] using HL.out.2.2.2⟩, below_box _ _⟩
    case round =>
     obtain ⟨k, P, cu, a2, n2, d2, A2, C2, hgk, rfl, rfl, HC2, HT, HP, Hbi⟩ := hrel
     have HbW : Hid (Below w.heap.size w wr) := held_next Hb.out Hbi.out
     by_cases hkn : k < N + 2
     · have hkn' : (k : Int) < 2 + (N : Int) := by omega
       rcases PackMath.begins_or cu with ⟨v, rest, hbg⟩ | hbare
       · have hq1 := HC2.out.2.2 w HB.out
         have hq2 := hq1.later HbW.out
         have hq3 := take_all a2 n2 d2 cu rest v wr hq2 HC2.out.1 HC2.out.2.1 hbg
         obtain ⟨tv2, hcall, hBr, hq4⟩ := hq3
         obtain ⟨a3, rfl⟩ := hq4
         have hrest : ∀ W, Bytes W (.slice a n d) zs → Bytes W (.slice a3 rest.length rest.length) rest := fun W hW => hBr W (HC2.out.2.2 W hW)
         have Hrest := Lib.hid hrest
         clear hrest
         obtain ⟨n3, Hn3⟩ : ∃ z, Hid (z = rest.length) := ⟨_, rfl⟩
         rw [← Hn3.out] at hcall Hrest
         have Hcall := Lib.hid hcall
         clear hcall hBr
         have hv64 := hbg.1
         go_wp2_with fail
         refine Hcall.out.mono ?_
         rintro e w4 ⟨rfl, rfl⟩
         by_cases hbig : 9223372036854775807 < v
         · have Hnone : Hid (∀ c : Cf, c.n = (N : Int) → takeB c zs = none) := fun c hc => takeB_big (n := N) hc (zs_flat HP.out.2.2) (flat_count HL.out.1 HL.out.2.1 HP.out.1 hlt hkn) hbg (by omega)
           have hbig' : (9223372036854775807 : Int) < (v : Int) := by omega
           go_wp2_with fail
           go_ret3
           exact Or.inr ⟨Hnone.out, by rfl, HbW.out⟩
         · have hbig' : ¬ ((9223372036854775807 : Int) < (v : Int)) := by omega
           have hwr : IntKind.i64.wrap (v : Int) = (v : Int) := IntWalk.i64_in _ (by omega)
           obtain ⟨tv5, w5, hrun, q1, q2, q3⟩ := nums_push (v : Int) HP.out.1 HT.out Hbi.out.size (by omega)
           obtain ⟨A5, C5, rfl, _⟩ := nums_of_own q1 (by rw [List.length_append, HP.out.1]; rfl) (by omega)
           obtain ⟨hf2, hv2, hw2⟩ := fine_of hrun
           have HP5 : Hid ((P ++ [(v : Int)]).length = k + 1 ∧ (∀ x ∈ P ++ [(v : Int)], 0 ≤ x ∧ x < 18446744073709551616) ∧ zs = booksB L ++ (bytesN ((P ++ [(v : Int)]).map u64n) ++ rest)) :=
            ⟨by rw [List.length_append, HP.out.1]; rfl, fun x hx => by
             rcases List.mem_append.1 hx with h | h
             · exact HP.out.2.1 x h
             · have : x = (v : Int) := by simpa using h
               omega, zs_more HP.out.2.2 hbg⟩
           have HT5 := Lib.hid q1
           have Hb5 : Hid (Below wo.heap.size wo w5) := Hbi.out.trans q2
           have HR5 : Hid (n3 = rest.length ∧ n3 ≤ n3 ∧ ∀ W, Bytes W (.slice a n d) zs → Bytes W (.slice a3 n3 n3) rest) := ⟨Hn3.out, Nat.le_refl _, Hrest.out⟩
           clear hrun q1 q2 q3
           go_wp2_with fail
           go_roundg (N + 2 - (k + 1))
           case measure => omega
           case rel => exact ⟨k + 1, P ++ [(v : Int)], rest, a3, n3, n3, _, _, by omega, rfl, rfl, HR5.out, HT5.out, HP5.out, Hb5.out⟩
       · have hr := take_no a2 n2 d2 cu wr ((HC2.out.2.2 w HB.out).later HbW.out) HC2.out.1 hbare
         have Hnone : Hid (∀ c : Cf, c.n = (N : Int) → takeB c zs = none) := fun c hc => takeB_bare (n := N) hc (zs_flat HP.out.2.2) (flat_count HL.out.1 HL.out.2.1 HP.out.1 hlt hkn) hbare
         have Hr := Lib.hid hr; clear hr
         go_wp2_with fail
         refine Hr.out.mono ?_
         rintro e w4 ⟨rfl, rfl⟩
         go_wp2_with fail
         go_ret3
         exact Or.inr ⟨Hnone.out, by rfl, HbW.out⟩
     · have hke : k = N + 2 := by omega
       have hkn' : ¬ ((k : Int) < 2 + (N : Int)) := by omega
       have Hke := Lib.hid hke; clear hke
       obtain ⟨gb, cap, hsv, hgb0, hgb1, hcap, x0, x1, hN2⟩ := three HT.out HP.out.1 (by omega)
       simp only [Value.slice.injEq, true_and] at hsv
       obtain ⟨rfl, rfl⟩ := hsv
       obtain ⟨X, HX⟩ : ∃ z : Int, Hid (P[0]?.getD 0 = z) := ⟨_, Lib.hid rfl⟩
       obtain ⟨Y, HY⟩ : ∃ z : Int, Hid (P[1]?.getD 0 = z) := ⟨_, Lib.hid rfl⟩
       obtain ⟨O, HO⟩ : ∃ z, Hid (P.drop 2 = z) := ⟨_, rfl⟩
       rw [HX.out] at x0
       rw [HY.out] at x1
       rw [HO.out] at hN2
       have hOl : O.length = N := by rw [← HO.out, List.length_drop, HP.out.1, Hke.out]; omega
       have HRow : Hid (rowN ⟨X, Y, O⟩ = P) := by
        rw [← HX.out, ← HY.out, ← HO.out]
        exact rowN_of (N := N) (by rw [HP.out.1, Hke.out])
       have HN2 := Lib.hid hN2
       have HOl := Lib.hid hOl
       have hcall := rowof_calls X Y gb k _ (by have := Hke.out; omega) hcap (by have := Hke.out; omega) wr x0 x1
       have Hcall := Lib.hid hcall
       have Hgb := Lib.hid hgb0
       have Hcap := Lib.hid hcap
       clear hcall x0 x1 hN2 hOl hgb0 hgb1 hcap
       go_wp2_with fail
       refine Hcall.out.mono ?_
       rintro e w7 ⟨rfl, hb7⟩
       have e1 : k - 2 = N := by have := Hke.out; omega
       rw [e1]
       clear e1
       obtain ⟨C4, HC4⟩ : ∃ z, Hid (z = C2 - 2) := ⟨_, rfl⟩
       rw [← HC4.out]
       obtain ⟨gh, hG⟩ := HH.out
       have hbi : Below wo.heap.size wo w7 := held_next Hbi.out hb7
       have hb3 : Below wo.heap.size wo (w7.alloc (.cells #[.int .i64 X, .int .i64 Y, .slice (some ⟨gb, 2, none⟩) N C4] 109)) := hbi.alloc hbi.size _
       have hLl := HL.out.1
       obtain ⟨v2, w6, hrun2, p1, p2, p3⟩ := run_append_elems (P := Tryz.prog) (w := w7.alloc (.cells #[.int .i64 X, .int .i64 Y, .slice (some ⟨gb, 2, none⟩) N C4] 109)) 26 26 w.heap.size 109 i5 _ 3 40 Tryz.underlying26 Ki.out Kz0.out Kz1.out Kz2.out rfl (by decide)
        _ _ _ (own_later hG.1 hb3) (some ⟨w7.heap.size, 0, none⟩) 1 1 (fun _ j => if j = 0 then .int .i64 X else if j = 1 then .int .i64 Y else .slice (some ⟨gb, 2, none⟩) N C4) (one_row (Whole.made w7 _ _))
        (fun i j _ hj => by match j, hj with | 0, _ => rfl | 1, _ => rfl | 2, _ => rfl) (by unfold maxLen; omega) (by omega) (by have := hb3.size; have := Hb.out.size; omega)
       have hNs : NumsAt w7 gb 2 O := HN2.out.later hb7
       have hpush := held_push (r := ⟨X, Y, O⟩) (u := .slice (some ⟨gb, 2, none⟩) N C4) hG hb3 ⟨gb, 2, C4, by rw [HOl.out], by have := Hke.out; have := Hcap.out; have := HC4.out; rw [HOl.out]; omega, Hgb.out, hNs.later (below_box w7 _)⟩ p1 p3 Hb.out.size
       obtain ⟨hf2, hv2, hw2⟩ := fine_of hrun2
       obtain ⟨A6, C6, rfl, _⟩ := hpush.books (by rw [List.length_append, hLl]; simp; omega)
       have e6 : (L ++ [(⟨X, Y, O⟩ : Rw)]).length = i + 1 := by rw [List.length_append, hLl]; rfl
       rw [e6] at hpush hv2
       have HPush := Lib.hid hpush
       have Hb6 : Hid (Below w.heap.size w w6) := (Hb.out.trans (hb3.mono Hb.out.size)).trans p2
       have HL6 : Hid ((L ++ [(⟨X, Y, O⟩ : Rw)]).length = i + 1 ∧ Rowed N (L ++ [(⟨X, Y, O⟩ : Rw)]) ∧ (∀ x ∈ flatR (L ++ [(⟨X, Y, O⟩ : Rw)]), 0 ≤ x ∧ x < 18446744073709551616) ∧ zs = booksB (L ++ [(⟨X, Y, O⟩ : Rw)]) ++ cu) :=
        ⟨e6, fun rr hrr => by
         rcases List.mem_append.1 hrr with h | h
         · exact HL.out.2.1 rr h
         · have : rr = ⟨X, Y, O⟩ := by simpa using h
           rw [this]; exact HOl.out, fun x hx => by
         rw [flatR_append, flatR_one, HRow.out] at hx
         rcases List.mem_append.1 hx with h | h
         · exact HL.out.2.2.1 x h
         · exact HP.out.2.1 x h, zs_row HP.out.2.2 HRow.out⟩
       clear hrun2 p1 p2 p3 hpush hb3 hG hbi hLl hNs e6 hb7
       go_wp2_with fail
       go_roundg (N - (i + 1))
       case measure => omega
       case rel => exact ⟨i + 1, L ++ [(⟨X, Y, O⟩ : Rw)], cu, a2, n2, d2, _, _, by omega, rfl, rfl, HC2.out, HPush.out, HL6.out, Hb6.out⟩
  · have hiN : i = N := by omega
    have hlt' : ¬ ((i : Int) < (N : Int)) := by omega
    obtain ⟨A7, C7, hsv, hBk⟩ := HH.out.far (by rw [HL.out.1]; omega)
    have HBk : Hid (BooksFar w.heap.size wr (.slice A1 N C1) L) := by
     show BooksFar w.heap.size wr (.slice A1 N C1) L
     rw [← hsv, hiN] at hBk
     exact hBk
    have HiN := Lib.hid hiN
    clear hsv hBk hiN
    obtain ⟨m1, Hm1⟩ : ∃ z, Hid (z = cur.length) := ⟨_, rfl⟩
    obtain ⟨hc1, hc2, hc3⟩ := HC.out
    rw [← Hm1.out] at hc1
    subst hc1
    have HC3 := Lib.hid hc3
    clear hc3
    go_wp2_with fail
    go_ret3
    refine Or.inl ⟨L, cur, A1, C1, a1, d1, ?_, by rw [HL.out.1, HiN.out], HL.out.2.1, HL.out.2.2.1, HL.out.2.2.2, HBk.out, ?_, ?_, Hb.out⟩
    · rw [← Hm1.out, HiN.out]; rfl
    · rw [← Hm1.out]; exact HC3.out
    · rw [← Hm1.out]; exact hc2
end Go.Proofs.YtnkgakhnlbifdaaGreat
namespace Go.Proofs.YtnkgakhnlbifdaaGreat
open Go.RowKit
def OwnB (base : Nat) (w : World) (v : Value) (zs : List Int) : Prop := w.ownsRow base 5 1 v zs.length (zs.map (Value.int .u8)) ∧ ∀ x ∈ zs, 0 ≤ x ∧ x < 256
theorem ownB_nil (base : Nat) (w : World) : OwnB base w (.slice none 0 0) [] := ⟨World.ownsRow_nil _ _ _ _, fun _ h => by cases h⟩
theorem OwnB.later {base : Nat} {w w' : World} {v : Value} {zs : List Int} (h : OwnB base w v zs) (hb : Below w.heap.size w w') : OwnB base w' v zs := ⟨own_later h.1 hb, h.2⟩
theorem Fresh.ownB {base : Nat} {w : World} {v : Value} {zs : List Int} (h : Fresh base 5 w v zs) : OwnB base w v zs := ⟨h.1, h.2.2⟩
theorem OwnB.form {base : Nat} {w : World} {v : Value} {zs : List Int} (h : OwnB base w v zs) (hl : zs.length ≤ 9223372036854775807) : ∃ A C, v = .slice A zs.length C ∧ zs.length ≤ C ∧ Bytes w (.slice A zs.length C) zs := by
 have h1 := h.1
 rcases h1.2 with ⟨rfl, h0⟩ | ⟨g, cap, cur, rfl, hg, hh, hn, hm, h5, h6⟩
 · obtain rfl : zs = [] := List.eq_nil_of_length_eq_zero h0
   exact ⟨none, 0, rfl, Nat.le_refl _, bytes_nil _ _ _ (fun _ => rfl)⟩
 · obtain ⟨_, _, _, _, _, _, hb⟩ := bytes_of_own h1 (by simp) hl h.2
   exact ⟨_, cap, rfl, hn, hb⟩
theorem own_flat (zs ys : List Int) : zs.map (Value.int .u8) = flatCells 1 zs.length (fun i _ => .int .u8 ((zs ++ ys)[i]?.getD 0)) := by
 rw [flat_bytes]
 unfold flatCells
 rw [List.flatMap_def, List.flatMap_def]
 congr 1
 apply List.map_congr_left
 intro i hi
 have := List.mem_range.1 hi
 simp [List.getElem?_append_left this]
set_option maxRecDepth 100000 in
theorem run_append_own {w : World} {base : Nat} {v : Value} {zs : List Int} (hF : OwnB base w v zs) (hbase : base ≤ w.heap.size) {a : Option Addr} {n c : Nat} {ys : List Int} (hB : Bytes w (.slice a n c) ys) (hn : n = ys.length) (hnc : n ≤ c)
 (hroom : zs.length + ys.length ≤ 140737488355300) :
 ∃ v' w', (Builtin.append_ #[24, 24] 24 #[v, .slice a n c]).run Tryz.prog w = .ok v' w' ∧ OwnB base w' v' (zs ++ ys) ∧ Below base w w' ∧ Grew w w' v v' := by
 obtain ⟨i5, hi, hz0, hz1, hz2⟩ := info_parts info_u8
 subst hn
 obtain ⟨v', w', hrun, q1, q2, q3⟩ := run_append_elems (P := Tryz.prog) (w := w) 24 24 base 5 i5 _ 1 1 Tryz.underlying24 hi hz0 hz1 hz2 rfl (by decide)
  v zs.length (fun i _ => .int .u8 ((zs ++ ys)[i]?.getD 0)) (by rw [← own_flat]; exact hF.1) a ys.length c (fun i _ => .int .u8 (ys[i]?.getD 0)) (elems_of_bytes hB rfl hnc) (fun _ _ _ _ => rfl) (by unfold maxLen; omega) (by omega) hbase
 refine ⟨v', w', hrun, ⟨?_, ?_⟩, q2, q3⟩
 · have e2 : flatCells 1 (zs.length + ys.length) (fun i j => if i < zs.length then (fun i (_ : Nat) => Value.int .u8 ((zs ++ ys)[i]?.getD 0)) i j else (fun i (_ : Nat) => Value.int .u8 (ys[i]?.getD 0)) (i - zs.length) j) = flatCells 1 (zs.length + ys.length) (fun i _ => Value.int .u8 ((zs ++ ys)[i]?.getD 0)) := by
    congr 1
    funext i j
    by_cases h : i < zs.length
    · simp [h]
    · simp [h, List.getElem?_append_right (show zs.length ≤ i by omega)]
   rw [e2] at q1
   rw [flat_bytes, List.length_append]
   exact q1
 · intro x hx
   rcases List.mem_append.1 hx with h | h
   · exact hF.2 x h
   · exact hB.2.1 x h
end Go.Proofs.YtnkgakhnlbifdaaGreat
namespace Go.Proofs.YtnkgakhnlbifdaaGreat
open Go.RowKit
attribute [local go_sem ↓] run_fine
def ClonedB (w : World) (zs : List Int) (e : Ending) (w' : World) : Prop := ∃ v, e = .returned v ∧ OwnB w.heap.size w' v zs ∧ Below w.heap.size w w'
set_option maxRecDepth 100000 in
set_option maxHeartbeats 4000000 in
theorem cloneb_calls (a : Option Addr) (n c : Nat) (zs : List Int) (w : World) (hB : Bytes w (.slice a n c) zs) (hn : n = zs.length) (hnc : n ≤ c) (hroom : zs.length ≤ 140737488355000) :
 Calls Tryz.prog 70 #[.slice a n c] w (ClonedB w zs) := by
 cases a with
 | none =>
   have hz : zs = [] ∧ n = 0 ∧ c = 0 := by
    obtain ⟨_, _, ⟨a0, c0, h3, h4, h5⟩ | ⟨b, off, c0, h3, h4⟩⟩ := hB
    · simp only [Value.slice.injEq] at h3
      obtain ⟨rfl, h, rfl⟩ := h3
      exact ⟨h5, h, h4 rfl⟩
    · simp at h3
   obtain ⟨rfl, rfl, rfl⟩ := hz
   clear hB hn hnc hroom
   go_enter Tryz.func70, Tryz.ntmps70
   have heq : ∀ w : World, (binOp .eql 24 (.slice none 0 0) (.slice none 0 0)).run Tryz.prog w = .ok (.bool true) w := by
    intro w
    simp only [binOp]
    simp [run_equal_slice_nil w 24 5 none 0 0 Tryz.underlying24]
   go_wp2
   go_ret
   exact ⟨_, rfl, ownB_nil _ _, Below.refl _ _⟩
 | some ad =>
   have hb1 : Below w.heap.size w (w.alloc (.cells #[] 5)) := below_box w _
   obtain ⟨v1, w1, hrun1, q1, q2, _⟩ := run_append_own (w := w.alloc (.cells #[] 5)) (fresh_empty w).ownB hb1.size (hB.later hb1) hn hnc (by simp; omega)
   obtain ⟨hf1, hv1, hw1⟩ := fine_of hrun1
   rw [List.nil_append] at q1
   have Q1 := Lib.hid q1
   have Hb := Lib.hid (hb1.trans q2)
   clear hrun1 q1 q2 hb1 hB hn hnc hroom
   go_enter Tryz.func70, Tryz.ntmps70
   have heq : ∀ w : World, (binOp .eql 24 (.slice (some ad) n c) (.slice none 0 0)).run Tryz.prog w = .ok (.bool false) w := by
    intro w
    simp only [binOp]
    simp [run_equal_slice_nil w 24 5 (some ad) n c Tryz.underlying24]
   go_wp2
   go_ret
   exact ⟨v1, rfl, Q1.out, Hb.out⟩
end Go.Proofs.YtnkgakhnlbifdaaGreat
namespace Go.Proofs.YtnkgakhnlbifdaaGreat
open Go.RowKit
theorem take_flat {l : List Rw} {i : Nat} (h : i < l.length) : flatR (l.take (i + 1)) = flatR (l.take i) ++ rowN (at_ l i) := by rw [take_at h, flatR_append, flatR_one]
theorem flat_room {l : List Rw} {i : Nat} (h : i < l.length) : (flatR (l.take i)).length + 2 + (at_ l i).out.length ≤ (flatR l).length := by
 have h1 : flatR l = flatR (l.take (i + 1)) ++ flatR (l.drop (i + 1)) := by rw [← flatR_append, List.take_append_drop]
 rw [h1, take_flat h, List.length_append, List.length_append]
 simp [rowN]; omega
theorem bytes_more (zs : List Int) (P : List Int) (x : Int) : (zs ++ bytesN (P.map u64n)) ++ PackMath.num (u64n x) = zs ++ bytesN ((P ++ [x]).map u64n) := by
 rw [List.map_append, bytesN_append, List.map_singleton, bytesN_one, List.append_assoc]
theorem bytes_room (zs P : List Int) : (zs ++ bytesN (P.map u64n)).length ≤ zs.length + 10 * P.length := by
 have := bytesN_len (P := P.map u64n) (fun v hv => by
  obtain ⟨x, _, rfl⟩ := List.mem_map.1 hv
  exact u64n_lt x)
 rw [List.length_map] at this
 rw [List.length_append]; omega
theorem wrap_u64n (x : Int) : IntKind.u64.wrap x = ((u64n x : Nat) : Int) := by rw [IntKind.wrap_u64]; unfold u64n; omega
end Go.Proofs.YtnkgakhnlbifdaaGreat
namespace Go.Proofs.YtnkgakhnlbifdaaGreat
open Go.RowKit
theorem within_int (v lo hi : Int) (w : World) : Calls Tryz.prog 86 #[.int .i64 v, .int .i64 lo, .int .i64 hi] w (fun e w' => e = .returned (.bool (withinB v lo hi)) ∧ w = w') := by
 by_cases h1 : lo ≤ v
 · by_cases h2 : v ≤ hi
   · rw [withinB_yes ⟨h1, h2⟩]
     go_enter Tryz.func86, Tryz.ntmps86
     go_wp2
     go_ret
     exact ⟨by simp, rfl⟩
   · rw [withinB_no (fun h => h2 h.2)]
     go_enter Tryz.func86, Tryz.ntmps86
     go_wp2
     go_ret
     exact ⟨by simp, rfl⟩
 · rw [withinB_no (fun h => h1 h.1)]
   go_enter Tryz.func86, Tryz.ntmps86
   go_wp2
   go_ret
   exact ⟨by simp, rfl⟩
theorem within_int64 (v lo hi : Int) (w : World) : Calls Tryz.prog 87 #[.int .i64 v, .int .i64 lo, .int .i64 hi] w (fun e w' => e = .returned (.bool (withinB v lo hi)) ∧ w = w') := by
 by_cases h1 : lo ≤ v
 · by_cases h2 : v ≤ hi
   · rw [withinB_yes ⟨h1, h2⟩]
     go_enter Tryz.func87, Tryz.ntmps87
     go_wp2
     go_ret
     exact ⟨by simp, rfl⟩
   · rw [withinB_no (fun h => h2 h.2)]
     go_enter Tryz.func87, Tryz.ntmps87
     go_wp2
     go_ret
     exact ⟨by simp, rfl⟩
 · rw [withinB_no (fun h => h1 h.1)]
   go_enter Tryz.func87, Tryz.ntmps87
   go_wp2
   go_ret
   exact ⟨by simp, rfl⟩
set_option maxRecDepth 100000 in
set_option maxHeartbeats 4000000 in
theorem rMay_calls (c : Cf) (w : World) : Calls Tryz.prog 53 #[cfV c] w (Says w (cfB c)) := by
 obtain ⟨n, q, r, p, k, c⟩ := c
 obtain ⟨b, Hbb⟩ : ∃ b, Hid (cfB ⟨n, q, r, p, k, c⟩ = b) := ⟨_, rfl⟩
 rw [Hbb.out]
 go_enter Tryz.func53, Tryz.ntmps53
 go_wp2_with fail
 refine (within_int n 1 16 _).mono ?_
 rintro e w' ⟨rfl, rfl⟩
 by_cases h0 : 1 ≤ n ∧ n ≤ 16
 rotate_left 1
 · rw [withinB_no h0]
   obtain rfl : b = false := Hbb.out.symm.trans (cfB_no fun h => by
    unfold cfOk at h
    simp only at h
    omega)
   go_wp2_with fail
   go_ret
   exact ⟨by simp, below_box _ _⟩
 rw [withinB_yes h0]
 go_wp2_with fail
 refine (within_int q 1 8 _).mono ?_
 rintro e w' ⟨rfl, rfl⟩
 by_cases h1 : 1 ≤ q ∧ q ≤ 8
 rotate_left 1
 · rw [withinB_no h1]
   obtain rfl : b = false := Hbb.out.symm.trans (cfB_no fun h => by
    unfold cfOk at h
    simp only at h
    omega)
   go_wp2_with fail
   go_ret
   exact ⟨by simp, below_box _ _⟩
 rw [withinB_yes h1]
 go_wp2_with fail
 refine (within_int r 0 8 _).mono ?_
 rintro e w' ⟨rfl, rfl⟩
 by_cases h2 : 0 ≤ r ∧ r ≤ 8
 rotate_left 1
 · rw [withinB_no h2]
   obtain rfl : b = false := Hbb.out.symm.trans (cfB_no fun h => by
    unfold cfOk at h
    simp only at h
    omega)
   go_wp2_with fail
   go_ret
   exact ⟨by simp, below_box _ _⟩
 rw [withinB_yes h2]
 go_wp2_with fail
 refine (within_int p 1 16 _).mono ?_
 rintro e w' ⟨rfl, rfl⟩
 by_cases h3 : 1 ≤ p ∧ p ≤ 16
 rotate_left 1
 · rw [withinB_no h3]
   obtain rfl : b = false := Hbb.out.symm.trans (cfB_no fun h => by
    unfold cfOk at h
    simp only at h
    omega)
   go_wp2_with fail
   go_ret
   exact ⟨by simp, below_box _ _⟩
 rw [withinB_yes h3]
 go_wp2_with fail
 refine (within_int64 k 0 1099511627776 _).mono ?_
 rintro e w' ⟨rfl, rfl⟩
 by_cases h4 : 0 ≤ k ∧ k ≤ 1099511627776
 rotate_left 1
 · rw [withinB_no h4]
   obtain rfl : b = false := Hbb.out.symm.trans (cfB_no fun h => by
    unfold cfOk at h
    simp only at h
    have h12 := Int.mul_nonneg (show 0 ≤ n by omega) (show 0 ≤ c by omega)
    have h13 := Int.mul_le_mul_of_nonneg_right (show 1 ≤ n by omega) (show 0 ≤ c by omega)
    omega)
   go_wp2_with fail
   go_ret
   exact ⟨by simp, below_box _ _⟩
 rw [withinB_yes h4]
 go_wp2_with fail
 refine (within_int64 c 0 1099511627776 _).mono ?_
 rintro e w' ⟨rfl, rfl⟩
 by_cases h5 : 0 ≤ c ∧ c ≤ 1099511627776
 rotate_left 1
 · rw [withinB_no h5]
   obtain rfl : b = false := Hbb.out.symm.trans (cfB_no fun h => by
    unfold cfOk at h
    simp only at h
    have h12 := Int.mul_nonneg (show 0 ≤ n by omega) (show 0 ≤ c by omega)
    have h13 := Int.mul_le_mul_of_nonneg_right (show 1 ≤ n by omega) (show 0 ≤ c by omega)
    omega)
   go_wp2_with fail
   go_ret
   exact ⟨by simp, below_box _ _⟩
 rw [withinB_yes h5]
 have h12 := Int.mul_nonneg (show 0 ≤ n by omega) (show 0 ≤ c by omega)
 have h13 := Int.mul_le_mul_of_nonneg_right (show n ≤ 16 by omega) (show 0 ≤ c by omega)
 have e1 : IntKind.i64.wrap (n * c) = n * c := IntWalk.i64_in _ (by omega)
 have e2 : IntKind.i64.wrap (k + n * c) = k + n * c := IntWalk.i64_in _ (by omega)
 by_cases hk : k + n * c ≤ 1099511627776
 · obtain rfl : b = true := Hbb.out.symm.trans (cfB_yes ⟨by show 1 ≤ n; omega, by show n ≤ 16; omega, by show 1 ≤ q; omega, by show q ≤ 8; omega, by show 0 ≤ r; omega, by show r ≤ 8; omega, by show 1 ≤ p; omega, by show p ≤ 16; omega, by show 0 ≤ k; omega, by show 0 ≤ c; omega, hk⟩)
   clear h12 h13
   go_wp2_with fail
   go_ret
   exact ⟨by simp, below_box _ _⟩
 · obtain rfl : b = false := Hbb.out.symm.trans (cfB_no fun h => hk h.2.2.2.2.2.2.2.2.2.2)
   clear h12 h13
   go_wp2_with fail
   go_ret
   exact ⟨by simp; omega, below_box _ _⟩
end Go.Proofs.YtnkgakhnlbifdaaGreat
namespace Go.Proofs.YtnkgakhnlbifdaaGreat
open Go.RowKit
theorem among_calls (c : Cf) (who : Int) (w : World) : Calls Tryz.prog 114 #[cfV c, .int .i64 who] w (Says w (amongB c who)) := by
 obtain ⟨n, q, r, p, k, cc⟩ := c
 by_cases h1 : 0 ≤ who
 · by_cases h2 : who < n
   · rw [amongB_yes ⟨h1, h2⟩]
     go_enter Tryz.func114, Tryz.ntmps114
     go_wp2
     go_ret
     exact ⟨by simp, below_box _ _⟩
   · rw [amongB_no (fun h => h2 h.2)]
     go_enter Tryz.func114, Tryz.ntmps114
     go_wp2
     go_ret
     exact ⟨by simp, below_box _ _⟩
 · rw [amongB_no (fun h => h1 h.1)]
   go_enter Tryz.func114, Tryz.ntmps114
   go_wp2
   go_ret
   exact ⟨by simp, below_box _ _⟩
set_option maxRecDepth 100000 in
set_option maxHeartbeats 4000000 in
theorem rShare_calls (c : Cf) (who : Int) (w : World) : Calls Tryz.prog 98 #[cfV c, .int .i64 who] w (Num w (shareV c who)) := by
 have HW := Lib.hid (Whole.made w 23 (cfCells c))
 have Hb0 := Lib.hid (below_box w (.cells (cfCells c) 23))
 obtain ⟨n, q, r, p, k, cc⟩ := c
 obtain ⟨ok, Hok⟩ : ∃ z, Hid (cfB ⟨n, q, r, p, k, cc⟩ = z) := ⟨_, rfl⟩
 obtain ⟨v, Hv⟩ : ∃ v, Hid (shareV ⟨n, q, r, p, k, cc⟩ who = v) := ⟨_, rfl⟩
 rw [Hv.out]
 go_enter Tryz.func98, Tryz.ntmps98
 go_wp2_with fail
 refine (rMay_calls ⟨n, q, r, p, k, cc⟩ _).mono ?_
 rintro e w1 ⟨rfl, hb⟩
 rw [Hok.out]
 have Hb1 := Lib.hid (held_next Hb0.out hb)
 have HW1 := Lib.hid (HW.out.later hb HW.out.lt)
 clear hb
 obtain ⟨d0, d1, d2, d3, d4, d5⟩ := config_cells HW1.out
 simp only at d0 d1 d2 d3 d4 d5
 cases ok with
 | false =>
   obtain rfl : v = 0 := Hv.out.symm.trans (shareV_no fun h => by
    have := cfB_yes h.1
    rw [Hok.out] at this
    cases this)
   go_wp2_with fail
   go_ret
   exact ⟨by rfl, Hb1.out⟩
 | true =>
 go_wp2_with fail
 refine (among_calls ⟨n, q, r, p, k, cc⟩ who _).mono ?_
 rintro e w2 ⟨rfl, hb⟩
 have Hb2 := Lib.hid (held_next Hb1.out hb)
 have HW2 := Lib.hid (HW1.out.later hb HW1.out.lt)
 clear hb d0 d1 d2 d3 d4 d5
 have d0 : w2.cell? ⟨w.heap.size, 0, none⟩ = some (.int .i64 n) := HW2.out.cell 0
 have d4 : w2.cell? ⟨w.heap.size, 4, none⟩ = some (.int .i64 k) := HW2.out.cell 4
 by_cases ha : 0 ≤ who ∧ who < n
 rotate_left 1
 · rw [amongB_no ha]
   obtain rfl : v = 0 := Hv.out.symm.trans (shareV_no fun h => ha h.2)
   go_wp2_with fail
   go_ret
   exact ⟨by rfl, Hb2.out⟩
 rw [amongB_yes ha]
 have hok := cfB_ok Hok.out
 have hv : v = k / n + (if who < k - k / n * n then 1 else 0) := Hv.out.symm.trans (if_pos ⟨hok, ha⟩)
 obtain ⟨g1, g2, _, _, _, _, _, _, g9, g10, g11⟩ := hok
 obtain ⟨ha0, ha1⟩ := ha
 simp only at g1 g2 g9 g10 g11
 have hkk : k ≤ 1099511627776 := by
  have := Int.mul_nonneg (show 0 ≤ n by omega) g10
  omega
 clear g10 g11
 have hq0 : 0 ≤ k / n := Int.ediv_nonneg g9 (by omega)
 have hqs : k / n ≤ k := Int.ediv_le_self n g9
 rw [← rem_eq] at hv
 have hr0 : 0 ≤ k % n := Int.emod_nonneg k (by omega)
 have hr1 : k % n < n := Int.emod_lt_of_pos k (by omega)
 obtain ⟨s, hs⟩ : ∃ s, k / n = s := ⟨_, rfl⟩
 obtain ⟨m, hm⟩ : ∃ m, k % n = m := ⟨_, rfl⟩
 rw [hs] at hq0 hqs hv
 rw [hm] at hr0 hr1 hv
 have Hv2 := Lib.hid hv; clear hv
 have hn0 : n ≠ 0 := by omega
 by_cases hw : who < m
 · have Hv1 : Hid (v = s + 1) := by rw [Hv2.out, if_pos hw]; exact rfl
   go_wp2_with fail
   go_ret
   exact ⟨by rw [Hv1.out]; rfl, Hb2.out⟩
 · have Hv1 : Hid (v = s) := by rw [Hv2.out, if_neg hw, Int.add_zero]; exact rfl
   go_wp2_with fail
   go_ret
   exact ⟨by rw [Hv1.out, ← hs]; rfl, Hb2.out⟩
end Go.Proofs.YtnkgakhnlbifdaaGreat
namespace Go.Proofs.YtnkgakhnlbifdaaGreat
open Go.RowKit
theorem flow_split (l : List Rw) (who : Nat) : ∀ k, flow l who k = sumN (fun i => (at_ l i).out[who]?.getD 0) k - sumN (fun i => (at_ l who).out[i]?.getD 0) k
 | 0 => rfl
 | k + 1 => by
   simp only [flow, sumN]
   rw [flow_split l who k]
   omega
theorem sumW_is {la : List Int} (h16 : la.length ≤ 16) (hb : ∀ k, k < la.length → 0 ≤ la[k]?.getD 0 ∧ la[k]?.getD 0 ≤ 1125899906842624) : ∀ k, k ≤ la.length → sumW (la.take k) = sumN (fun i => la[i]?.getD 0) k
 | 0, _ => rfl
 | k + 1, hk => by
   have ih := sumW_is h16 hb k (by omega)
   have hs := sumN_bound (g := fun i => la[i]?.getD 0) (b := 1125899906842624) (n := la.length) (fun j hj => by
    have := hb j hj
    show -1125899906842624 ≤ la[j]?.getD 0 ∧ la[j]?.getD 0 ≤ 1125899906842624
    omega) k (by omega)
   have h1 := hb k (by omega)
   rw [List.take_succ_eq_append_getElem (by omega), sumW_snoc, ih]
   rw [List.getElem?_eq_getElem (show k < la.length by omega)] at h1
   simp only [Option.getD_some] at h1
   simp only [sumN]
   rw [List.getElem?_eq_getElem (show k < la.length by omega)]
   simp only [Option.getD_some]
   exact IntWalk.wrap64_in _ (by omega)
theorem sent_is {la : List Int} (h16 : la.length ≤ 16) (hb : ∀ k, k < la.length → 0 ≤ la[k]?.getD 0 ∧ la[k]?.getD 0 ≤ 1125899906842624) : sentV la = sumN (fun i => la[i]?.getD 0) la.length := by
 have hf : fits (la.zip (mosts (-1) la.length)) = true := by
  apply fits_yes
  intro x hx
  obtain ⟨k, hk, rfl⟩ := List.getElem_of_mem hx
  rw [List.length_zip, mosts_length] at hk
  rw [zip_getElem (by rw [mosts_length]) k (by omega)]
  have h1 := hb k (by omega)
  have h2 := mosts_at (-1) la.length k (by omega)
  rw [List.getElem?_eq_getElem (show k < la.length by omega)] at h1
  rw [List.getElem?_eq_getElem (show k < (mosts (-1) la.length).length by rw [mosts_length]; omega)] at h2
  simp only [Option.getD_some] at h1 h2
  refine ⟨h1.1, ?_⟩
  show la[k] ≤ (mosts (-1) la.length)[k]'(by rw [mosts_length]; omega)
  rw [h2]
  unfold mostOf
  split
  · omega
  · exact h1.2
 unfold sentV
 rw [if_pos ⟨h16, hf⟩]
 have := sumW_is h16 hb la.length (Nat.le_refl _)
 rwa [List.take_length] at this
theorem rights_parts {c : Cf} {l : List Rw} {m : Nat} (hm : m = l.length) (h16 : m ≤ 16) (hF : Fits l) {who : Nat} (hw : who < m) :
 rightsV c l who = shareV c who + (at_ l who).inc + sumN (fun i => (at_ l i).out[who]?.getD 0) m - sentV (at_ l who).out - (at_ l who).use := by
 have h1 := hF who (by omega)
 have h2 : sentV (at_ l who).out = sumN (fun i => (at_ l who).out[i]?.getD 0) m := by
  rw [sent_is (by omega) (fun k hk => h1.2.2.2.2.2 k (by omega)), h1.1, ← hm]
 unfold rightsV
 rw [flow_split, h2, ← hm]
 omega
end Go.Proofs.YtnkgakhnlbifdaaGreat
