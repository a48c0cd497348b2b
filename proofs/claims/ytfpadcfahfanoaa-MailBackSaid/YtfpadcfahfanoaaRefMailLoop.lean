/- The document's own, layer 16: the loop of Take, one look a round. No law is proved here. -/
import Derived.Test.YtfpadcfahfanoaaMg9
import Derived.Test.YtfpadcfahfanoaaMg28
import Derived.Test.YtfpadcfahfanoaaMg35
import Derived.Test.YtfpadcfahfanoaaMg36
import Derived.Test.YtfpadcfahfanoaaMg2
import Derived.Test.YtfpadcfahfanoaaMg34
import Derived.IntWalk
import Derived.BigRegion
namespace Go.Proofs.Ytfpadcfahfanoaa
open Go.RowKit

/-- the first loop in a text -/
def loopIn : Code → Option Code
  | .loop c => some c
  | .seq a b => (loopIn a).orElse fun _ => loopIn b
  | .cond _ a b => (loopIn a).orElse fun _ => loopIn b
  | .block _ c => loopIn c
  | .scope c => loopIn c
  | _ => none
noncomputable def mtakeBody : Code := (Try.f8.body.bind loopIn).getD .skip

theorem n16_of {d : Nat → Bool} {i j : Nat} (hd : d i = false) (h : d j = true → d i = true) : d j = false := by
  cases e : d j with
  | false => rfl
  | true => exact absurd ((h e).symm.trans hd) (by decide)
theorem m10_set {w : World} {g : Nat} {x : Ml} {rv ev rv' : Value} (h : Whole w g 35 (mlCells x rv ev)) : Whole (w.setCell ⟨g, 10, none⟩ rv') g 35 (mlCells x rv rv') := by
  have h2 := h.set 10 rv'
  have e : (mlCells x rv ev).setIfInBounds 10 rv' = mlCells x rv rv' := by
    simp only [mlCells, List.setIfInBounds_toArray, List.set_cons_zero, List.set_cons_succ]
  rwa [e] at h2
attribute [local go_sem ↓] run_fine
set_option maxRecDepth 1000000 in
set_option maxHeartbeats 16000000 in
theorem mtake_loop (N M : Nat) (q r p kk cc f0 f1 f2 g0 j1 g2 g3 g4 g5 : Int) (rows : List Rw) (rv sv0 : Value) (E : List (Int × Int)) (ts : List Nat) (b3 o3 C3 G0 : Nat) (w3 wr0 : World)
    (hN16 : N ≤ 16) (HM : Hid (6 + 2 * N = M)) (HW3 : Hid (Whole w3 G0 23 (cfCells ⟨(N : Int), q, r, p, kk, cc⟩)))
    (HBt : Hid (∀ i, i < M → w3.cell? ⟨b3, o3 + i, none⟩ = some (.int .i64 (((ts[i]?.getD 0 : Nat) : Int)))))
    (HEa : Hid (∀ i, i < N → lkAt E i = (((ts[6 + 2 * i]?.getD 0 : Nat) : Int), ((ts[6 + 1 + 2 * i]?.getD 0 : Nat) : Int))))
    (Q0 : Exit → Act → World → Prop) (s0 s1 s3 s4 s5 s6 s7 s8 s9 s13 s14 s15 s16 s17 s18 s19 s20 s21 s22 s23 s24 s25 s26 s27 s28 s29 s30 s31 s32 s33 s34 s35 s36 s37 s38 s39 s40 s41 s42 s43 s44 s45 s46 s47 s48 s49 s50 s51 s52 s53 s54 s55 s56 s57 s58 s59 s60 s61 s62 s63 s64 s65 s66 s67 s68 s69 s70 s71 s72 s73 s74 s75 s76 s77 s78 s79 s80 s81 s82 s83 s84 s109 s110 s111 s112 s113 s114 : Value) (u85 u86 u87 u88 u89 u90 u91 u92 u93 u94 u95 u96 u97 u98 u99 u100 u101 u102 u103 u104 u105 u106 u107 u108 : Value)
    (hexit : ∀ (wr : World) (sv v85 v86 v87 v88 v89 v90 v91 v92 v93 v94 v95 v96 v97 v98 v99 v100 v101 v102 v103 v104 v105 v106 v107 v108 : Value), Hid (Below w3.heap.size w3 wr) → Hid (Whole wr w3.heap.size 35 (mlCells ⟨f0, f1, f2, rows, g0, j1, g2, g3, g4, g5, []⟩ rv sv)) → Hid (wr.ownsRow w3.heap.size 32 2 sv N (flatCells 2 N (fun i j => lkc (lkAt E i) j))) → Q0 (.exit 0) ⟨(s0 :: s1 :: (.pointer (some ⟨G0, 0, none⟩)) :: s3 :: s4 :: s5 :: s6 :: s7 :: s8 :: s9 :: (.slice (some ⟨b3, o3, none⟩) M C3) :: (.pointer (some ⟨w3.heap.size, 0, none⟩)) :: (.int .i64 (N : Int)) :: s13 :: s14 :: s15 :: s16 :: s17 :: s18 :: s19 :: s20 :: s21 :: s22 :: s23 :: s24 :: s25 :: s26 :: s27 :: s28 :: s29 :: s30 :: s31 :: s32 :: s33 :: s34 :: s35 :: s36 :: s37 :: s38 :: s39 :: s40 :: s41 :: s42 :: s43 :: s44 :: s45 :: s46 :: s47 :: s48 :: s49 :: s50 :: s51 :: s52 :: s53 :: s54 :: s55 :: s56 :: s57 :: s58 :: s59 :: s60 :: s61 :: s62 :: s63 :: s64 :: s65 :: s66 :: s67 :: s68 :: s69 :: s70 :: s71 :: s72 :: s73 :: s74 :: s75 :: s76 :: s77 :: s78 :: s79 :: s80 :: s81 :: s82 :: s83 :: s84 :: v85 :: v86 :: v87 :: v88 :: v89 :: v90 :: v91 :: v92 :: v93 :: v94 :: v95 :: v96 :: v97 :: v98 :: v99 :: v100 :: v101 :: v102 :: v103 :: v104 :: v105 :: v106 :: v107 :: v108 :: s109 :: s110 :: s111 :: s112 :: s113 :: s114 :: []).toArray, []⟩ wr)
    (Hb0 : Hid (Below w3.heap.size w3 wr0)) (HX0 : Hid (Whole wr0 w3.heap.size 35 (mlCells ⟨f0, f1, f2, rows, g0, j1, g2, g3, g4, g5, []⟩ rv sv0))) (HO0 : Hid (wr0.ownsRow w3.heap.size 32 2 sv0 0 [])) :
    Code.wp Try.prog (Code.loop mtakeBody) Q0 ⟨(s0 :: s1 :: (.pointer (some ⟨G0, 0, none⟩)) :: s3 :: s4 :: s5 :: s6 :: s7 :: s8 :: s9 :: (.slice (some ⟨b3, o3, none⟩) M C3) :: (.pointer (some ⟨w3.heap.size, 0, none⟩)) :: (.int .i64 ((0 : Nat) : Int)) :: s13 :: s14 :: s15 :: s16 :: s17 :: s18 :: s19 :: s20 :: s21 :: s22 :: s23 :: s24 :: s25 :: s26 :: s27 :: s28 :: s29 :: s30 :: s31 :: s32 :: s33 :: s34 :: s35 :: s36 :: s37 :: s38 :: s39 :: s40 :: s41 :: s42 :: s43 :: s44 :: s45 :: s46 :: s47 :: s48 :: s49 :: s50 :: s51 :: s52 :: s53 :: s54 :: s55 :: s56 :: s57 :: s58 :: s59 :: s60 :: s61 :: s62 :: s63 :: s64 :: s65 :: s66 :: s67 :: s68 :: s69 :: s70 :: s71 :: s72 :: s73 :: s74 :: s75 :: s76 :: s77 :: s78 :: s79 :: s80 :: s81 :: s82 :: s83 :: s84 :: u85 :: u86 :: u87 :: u88 :: u89 :: u90 :: u91 :: u92 :: u93 :: u94 :: u95 :: u96 :: u97 :: u98 :: u99 :: u100 :: u101 :: u102 :: u103 :: u104 :: u105 :: u106 :: u107 :: u108 :: s109 :: s110 :: s111 :: s112 :: s113 :: s114 :: []).toArray, []⟩ wr0 := by
  have Hexit := Lib.hid hexit; clear hexit
  conv => arg 2; arg 1; whnf
  go_loopw [12] (fun s12 wr => ∃ (k : Nat) (sv : Value), k ≤ N ∧ s12 = .int .i64 (k : Int) ∧ Hid (Below w3.heap.size w3 wr) ∧ Hid (Whole wr w3.heap.size 35 (mlCells ⟨f0, f1, f2, rows, g0, j1, g2, g3, g4, g5, []⟩ rv sv)) ∧ Hid (wr.ownsRow w3.heap.size 32 2 sv k (flatCells 2 k (fun i j => lkc (lkAt E i) j)))) (fun s12 _ => N - (intOf s12).toNat)
  case atStart => exact ⟨0, sv0, Nat.zero_le _, rfl, Hb0.out, HX0.out, HO0.out⟩
  case round =>
    clear Hb0 HX0 HO0
    obtain ⟨k, sv, hk, rfl, Hbr, HXr, HO⟩ := hrel
    have HWr := Lib.hid (HW3.out.later Hbr.out HW3.out.lt)
    obtain ⟨d0, d1, d2, d3, d4, d5⟩ := config_cells HWr.out
    obtain ⟨⟨M0, M1, M2, M3⟩, ⟨M4, M5, M6, M7⟩, M8, M9, M10⟩ := ml_cells' HXr.out
    simp only at d0 M10
    clear d1 d2 d3 d4 d5 M0 M1 M2 M3 M4 M5 M6 M7 M8 M9
    by_cases hkN : k < N
    · obtain ⟨yt, Hyt⟩ : ∃ z : Int, Hid (((ts[6 + 2 * k]?.getD 0 : Nat) : Int) = z) := ⟨_, Lib.hid rfl⟩
      obtain ⟨yp, Hyp⟩ : ∃ z : Int, Hid (((ts[6 + 1 + 2 * k]?.getD 0 : Nat) : Int) = z) := ⟨_, Lib.hid rfl⟩
      have hEk : lkAt E k = (yt, yp) := by rw [HEa.out k hkN, Hyt.out, Hyp.out]
      have u0 := HBt.out (6 + 2 * k) (by have := HM.out; omega)
      have u1 := HBt.out (6 + 1 + 2 * k) (by have := HM.out; omega)
      rw [Hyt.out] at u0
      rw [Hyp.out] at u1
      obtain ⟨J0, HJ0⟩ : ∃ z : Nat, Hid (6 + 2 * k = z) := ⟨_, Lib.hid rfl⟩
      obtain ⟨J1, HJ1⟩ : ∃ z : Nat, Hid (6 + 1 + 2 * k = z) := ⟨_, Lib.hid rfl⟩
      rw [HJ0.out] at u0
      rw [HJ1.out] at u1
      have V0 := Lib.hid u0
      have V1 := Lib.hid u1
      clear u0 u1
      have x3 : IntKind.i64.wrap (2 * (k : Int)) = 2 * (k : Int) := IntWalk.i64_in _ (by omega)
      have x4 : IntKind.i64.wrap (6 + 2 * (k : Int)) = (J0 : Int) := by rw [IntWalk.i64_in _ (by omega)]; have := HJ0.out; omega
      have x5 : IntKind.i64.wrap (7 + 2 * (k : Int)) = (J1 : Int) := by rw [IntWalk.i64_in _ (by omega)]; have := HJ1.out; omega
      have x6 : (0 : Int) ≤ (J0 : Int) := by omega
      have x7 : (J0 : Int) < (M : Int) := by have := HJ0.out; have := HM.out; omega
      have x8 : (0 : Int) ≤ (J1 : Int) := by omega
      have x9 : (J1 : Int) < (M : Int) := by have := HJ1.out; have := HM.out; omega
      have hlx := HXr.out.lt
      go_wp2_with fail
      refine wp_region_each_at ?hm ?hb (fun a0 d a' w' => ∃ (e0 e1 e2 e3 e4 e5 e6 e7 e8 e9 e10 e11 e12 e13 e14 e15 e16 e17 : Value), a' = putAll a0 [(91, e0), (92, e1), (93, e2), (94, e3), (95, e4), (96, e5), (97, e6), (98, e7), (99, e8), (100, e9), (101, e10), (102, e11), (103, e12), (104, e13), (105, e14), (106, e15), (107, e16), (108, e17)] ∧ Below w3.heap.size w3 w' ∧ (d 0 = true → e0 = (.pointer (some ⟨w3.heap.size, 10, none⟩))) ∧ (d 1 = true → e1 = sv) ∧ (d 2 = true → e2 = (.slice (some ⟨b3, o3, none⟩) M C3)) ∧ (d 3 = true → e3 = (.int .i64 (k : Int))) ∧ (d 4 = true → e4 = (.int .i64 (2 * (k : Int)))) ∧ (d 5 = true → e5 = (.int .i64 (J0 : Int))) ∧ (d 6 = true → e6 = (.pointer (some ⟨b3, o3 + J0, none⟩))) ∧ (d 7 = true → e7 = (.int .i64 yt)) ∧ (d 8 = true → e8 = (.slice (some ⟨b3, o3, none⟩) M C3)) ∧ (d 9 = true → e9 = (.int .i64 (k : Int))) ∧ (d 10 = true → e10 = (.int .i64 (2 * (k : Int)))) ∧ (d 11 = true → e11 = (.int .i64 (J1 : Int))) ∧ (d 12 = true → e12 = (.pointer (some ⟨b3, o3 + J1, none⟩))) ∧ (d 13 = true → e13 = (.int .i64 yp)) ∧ (d 14 = true → e14 = (.agg #[.int .i64 yt, .int .i64 yp])) ∧ (d 15 = true → (d 16 = false → ∃ g, e15 = .slice (some ⟨g, 0, none⟩) 1 1 ∧ Whole w' g 32 #[.int .i64 yt, .int .i64 yp])) ∧ (d 16 = true → (d 1 = true ∧ d 15 = true ∧ (d 18 = false → ∃ A C, e16 = .slice A (k + 1) C ∧ Whole w' w3.heap.size 35 (mlCells ⟨f0, f1, f2, rows, g0, j1, g2, g3, g4, g5, []⟩ rv sv) ∧ w'.ownsRow w3.heap.size 32 2 (.slice A (k + 1) C) (k + 1) (flatCells 2 (k + 1) (fun i j => lkc (lkAt E i) j))))) ∧ (d 17 = true → e17 = (.pointer (some ⟨w3.heap.size, 10, none⟩))) ∧ (d 18 = true → (d 16 = true ∧ ∃ A C, e16 = .slice A (k + 1) C ∧ Whole w' w3.heap.size 35 (mlCells ⟨f0, f1, f2, rows, g0, j1, g2, g3, g4, g5, []⟩ rv (.slice A (k + 1) C)) ∧ w'.ownsRow w3.heap.size 32 2 (.slice A (k + 1) C) (k + 1) (flatCells 2 (k + 1) (fun i j => lkc (lkAt E i) j)))) ∧ (d 16 = false → Whole w' w3.heap.size 35 (mlCells ⟨f0, f1, f2, rows, g0, j1, g2, g3, g4, g5, []⟩ rv sv) ∧ w'.ownsRow w3.heap.size 32 2 sv k (flatCells 2 k (fun i j => lkc (lkAt E i) j)))) ?h0 ?step ?ends
      case hm => kernel_rfl
      case hb => kernel_rfl
      case h0 =>
        refine ⟨u91, u92, u93, u94, u95, u96, u97, u98, u99, u100, u101, u102, u103, u104, u105, u106, u107, u108, ?_, Hbr.out.drew, fun h => absurd h (by decide), fun h => absurd h (by decide), fun h => absurd h (by decide), fun h => absurd h (by decide), fun h => absurd h (by decide), fun h => absurd h (by decide), fun h => absurd h (by decide), fun h => absurd h (by decide), fun h => absurd h (by decide), fun h => absurd h (by decide), fun h => absurd h (by decide), fun h => absurd h (by decide), fun h => absurd h (by decide), fun h => absurd h (by decide), fun h => absurd h (by decide), fun h => absurd h (by decide), fun h => absurd h (by decide), fun h => absurd h (by decide), fun h => absurd h (by decide), fun _ => ⟨HXr.out.drew, own_later HO.out (Below.refl _ _).drew⟩⟩
        simp only [putAll, Act.put, List.setIfInBounds_toArray, List.set_cons_zero, List.set_cons_succ]
      case step =>
        intro i d a' w' hi hJ hd hk
        obtain ⟨e0, e1, e2, e3, e4, e5, e6, e7, e8, e9, e10, e11, e12, e13, e14, e15, e16, e17, rfl, hB, c0, c1, c2, c3, c4, c5, c6, c7, c8, c9, c10, c11, c12, c13, c14, c15, c16, c17, c18, cx⟩ := hJ
        match i, hi, hd, hk with
        | 0, _, hd, hk =>
          apply wpOp_at
          case ho => rfl
          intro K hK
          simp only [putAll, Act.put, List.setIfInBounds_toArray, List.set_cons_zero, List.set_cons_succ]
          go_simp
          refine hK _ _ ⟨(.pointer (some ⟨w3.heap.size, 10, none⟩)), e1, e2, e3, e4, e5, e6, e7, e8, e9, e10, e11, e12, e13, e14, e15, e16, e17, ?_, hB, fun _ => rfl, c1, c2, c3, c4, c5, c6, c7, c8, c9, c10, c11, c12, c13, c14, c15, c16, c17, c18, cx⟩
          simp only [putAll, Act.put, List.setIfInBounds_toArray, List.set_cons_zero, List.set_cons_succ]
          all_goals rfl
        | 1, _, hd, hk =>
          have h0 : d 0 = true := hk 0 (by decide +kernel)
          obtain rfl := c0 h0
          have n16 : d 16 = false := n16_of hd fun h => (c16 h).1
          obtain ⟨⟨M0, M1, M2, M3⟩, ⟨M4, M5, M6, M7⟩, M8, M9, M10⟩ := ml_cells' (cx n16).1
          clear M0 M1 M2 M3 M4 M5 M6 M7 M8 M9
          apply wpOp_at
          case ho => rfl
          intro K hK
          simp only [putAll, Act.put, List.setIfInBounds_toArray, List.set_cons_zero, List.set_cons_succ]
          go_simp
          refine hK _ _ ⟨(.pointer (some ⟨w3.heap.size, 10, none⟩)), sv, e2, e3, e4, e5, e6, e7, e8, e9, e10, e11, e12, e13, e14, e15, e16, e17, ?_, hB, c0, fun _ => rfl, c2, c3, c4, c5, c6, c7, c8, c9, c10, c11, c12, c13, c14, c15, fun h => absurd (n16.symm.trans h) (by decide), c17, c18, cx⟩
          simp only [putAll, Act.put, List.setIfInBounds_toArray, List.set_cons_zero, List.set_cons_succ]
          all_goals rfl
        | 2, _, hd, hk =>
          apply wpOp_at
          case ho => rfl
          intro K hK
          simp only [putAll, Act.put, List.setIfInBounds_toArray, List.set_cons_zero, List.set_cons_succ]
          go_simp
          refine hK _ _ ⟨e0, e1, (.slice (some ⟨b3, o3, none⟩) M C3), e3, e4, e5, e6, e7, e8, e9, e10, e11, e12, e13, e14, e15, e16, e17, ?_, hB, c0, c1, fun _ => rfl, c3, c4, c5, c6, c7, c8, c9, c10, c11, c12, c13, c14, c15, c16, c17, c18, cx⟩
          simp only [putAll, Act.put, List.setIfInBounds_toArray, List.set_cons_zero, List.set_cons_succ]
          all_goals rfl
        | 3, _, hd, hk =>
          apply wpOp_at
          case ho => rfl
          intro K hK
          simp only [putAll, Act.put, List.setIfInBounds_toArray, List.set_cons_zero, List.set_cons_succ]
          go_simp
          refine hK _ _ ⟨e0, e1, e2, (.int .i64 (k : Int)), e4, e5, e6, e7, e8, e9, e10, e11, e12, e13, e14, e15, e16, e17, ?_, hB, c0, c1, c2, fun _ => rfl, c4, c5, c6, c7, c8, c9, c10, c11, c12, c13, c14, c15, c16, c17, c18, cx⟩
          simp only [putAll, Act.put, List.setIfInBounds_toArray, List.set_cons_zero, List.set_cons_succ]
          all_goals rfl
        | 4, _, hd, hk =>
          have h3 : d 3 = true := hk 3 (by decide +kernel)
          obtain rfl := c3 h3
          apply wpOp_at
          case ho => rfl
          intro K hK
          simp only [putAll, Act.put, List.setIfInBounds_toArray, List.set_cons_zero, List.set_cons_succ]
          go_simp
          refine hK _ _ ⟨e0, e1, e2, (.int .i64 (k : Int)), (.int .i64 (2 * (k : Int))), e5, e6, e7, e8, e9, e10, e11, e12, e13, e14, e15, e16, e17, ?_, hB, c0, c1, c2, c3, fun _ => rfl, c5, c6, c7, c8, c9, c10, c11, c12, c13, c14, c15, c16, c17, c18, cx⟩
          simp only [putAll, Act.put, List.setIfInBounds_toArray, List.set_cons_zero, List.set_cons_succ]
          all_goals rfl
        | 5, _, hd, hk =>
          have h4 : d 4 = true := hk 4 (by decide +kernel)
          obtain rfl := c4 h4
          apply wpOp_at
          case ho => rfl
          intro K hK
          simp only [putAll, Act.put, List.setIfInBounds_toArray, List.set_cons_zero, List.set_cons_succ]
          go_simp
          refine hK _ _ ⟨e0, e1, e2, e3, (.int .i64 (2 * (k : Int))), (.int .i64 (J0 : Int)), e6, e7, e8, e9, e10, e11, e12, e13, e14, e15, e16, e17, ?_, hB, c0, c1, c2, c3, c4, fun _ => rfl, c6, c7, c8, c9, c10, c11, c12, c13, c14, c15, c16, c17, c18, cx⟩
          simp only [putAll, Act.put, List.setIfInBounds_toArray, List.set_cons_zero, List.set_cons_succ]
          all_goals rfl
        | 6, _, hd, hk =>
          have h2 : d 2 = true := hk 2 (by decide +kernel)
          have h5 : d 5 = true := hk 5 (by decide +kernel)
          obtain rfl := c2 h2
          obtain rfl := c5 h5
          apply wpOp_at
          case ho => rfl
          intro K hK
          simp only [putAll, Act.put, List.setIfInBounds_toArray, List.set_cons_zero, List.set_cons_succ]
          go_simp
          refine hK _ _ ⟨e0, e1, (.slice (some ⟨b3, o3, none⟩) M C3), e3, e4, (.int .i64 (J0 : Int)), (.pointer (some ⟨b3, o3 + J0, none⟩)), e7, e8, e9, e10, e11, e12, e13, e14, e15, e16, e17, ?_, hB, c0, c1, c2, c3, c4, c5, fun _ => rfl, c7, c8, c9, c10, c11, c12, c13, c14, c15, c16, c17, c18, cx⟩
          simp only [putAll, Act.put, List.setIfInBounds_toArray, List.set_cons_zero, List.set_cons_succ]
          all_goals rfl
        | 7, _, hd, hk =>
          have h6 : d 6 = true := hk 6 (by decide +kernel)
          obtain rfl := c6 h6
          have z0 := cell_later hB V0.out
          apply wpOp_at
          case ho => rfl
          intro K hK
          simp only [putAll, Act.put, List.setIfInBounds_toArray, List.set_cons_zero, List.set_cons_succ]
          go_simp
          refine hK _ _ ⟨e0, e1, e2, e3, e4, e5, (.pointer (some ⟨b3, o3 + J0, none⟩)), (.int .i64 yt), e8, e9, e10, e11, e12, e13, e14, e15, e16, e17, ?_, hB, c0, c1, c2, c3, c4, c5, c6, fun _ => rfl, c8, c9, c10, c11, c12, c13, c14, c15, c16, c17, c18, cx⟩
          simp only [putAll, Act.put, List.setIfInBounds_toArray, List.set_cons_zero, List.set_cons_succ]
          all_goals rfl
        | 8, _, hd, hk =>
          apply wpOp_at
          case ho => rfl
          intro K hK
          simp only [putAll, Act.put, List.setIfInBounds_toArray, List.set_cons_zero, List.set_cons_succ]
          go_simp
          refine hK _ _ ⟨e0, e1, e2, e3, e4, e5, e6, e7, (.slice (some ⟨b3, o3, none⟩) M C3), e9, e10, e11, e12, e13, e14, e15, e16, e17, ?_, hB, c0, c1, c2, c3, c4, c5, c6, c7, fun _ => rfl, c9, c10, c11, c12, c13, c14, c15, c16, c17, c18, cx⟩
          simp only [putAll, Act.put, List.setIfInBounds_toArray, List.set_cons_zero, List.set_cons_succ]
          all_goals rfl
        | 9, _, hd, hk =>
          apply wpOp_at
          case ho => rfl
          intro K hK
          simp only [putAll, Act.put, List.setIfInBounds_toArray, List.set_cons_zero, List.set_cons_succ]
          go_simp
          refine hK _ _ ⟨e0, e1, e2, e3, e4, e5, e6, e7, e8, (.int .i64 (k : Int)), e10, e11, e12, e13, e14, e15, e16, e17, ?_, hB, c0, c1, c2, c3, c4, c5, c6, c7, c8, fun _ => rfl, c10, c11, c12, c13, c14, c15, c16, c17, c18, cx⟩
          simp only [putAll, Act.put, List.setIfInBounds_toArray, List.set_cons_zero, List.set_cons_succ]
          all_goals rfl
        | 10, _, hd, hk =>
          have h9 : d 9 = true := hk 9 (by decide +kernel)
          obtain rfl := c9 h9
          apply wpOp_at
          case ho => rfl
          intro K hK
          simp only [putAll, Act.put, List.setIfInBounds_toArray, List.set_cons_zero, List.set_cons_succ]
          go_simp
          refine hK _ _ ⟨e0, e1, e2, e3, e4, e5, e6, e7, e8, (.int .i64 (k : Int)), (.int .i64 (2 * (k : Int))), e11, e12, e13, e14, e15, e16, e17, ?_, hB, c0, c1, c2, c3, c4, c5, c6, c7, c8, c9, fun _ => rfl, c11, c12, c13, c14, c15, c16, c17, c18, cx⟩
          simp only [putAll, Act.put, List.setIfInBounds_toArray, List.set_cons_zero, List.set_cons_succ]
          all_goals rfl
        | 11, _, hd, hk =>
          have h10 : d 10 = true := hk 10 (by decide +kernel)
          obtain rfl := c10 h10
          apply wpOp_at
          case ho => rfl
          intro K hK
          simp only [putAll, Act.put, List.setIfInBounds_toArray, List.set_cons_zero, List.set_cons_succ]
          go_simp
          refine hK _ _ ⟨e0, e1, e2, e3, e4, e5, e6, e7, e8, e9, (.int .i64 (2 * (k : Int))), (.int .i64 (J1 : Int)), e12, e13, e14, e15, e16, e17, ?_, hB, c0, c1, c2, c3, c4, c5, c6, c7, c8, c9, c10, fun _ => rfl, c12, c13, c14, c15, c16, c17, c18, cx⟩
          simp only [putAll, Act.put, List.setIfInBounds_toArray, List.set_cons_zero, List.set_cons_succ]
          all_goals rfl
        | 12, _, hd, hk =>
          have h8 : d 8 = true := hk 8 (by decide +kernel)
          have h11 : d 11 = true := hk 11 (by decide +kernel)
          obtain rfl := c8 h8
          obtain rfl := c11 h11
          apply wpOp_at
          case ho => rfl
          intro K hK
          simp only [putAll, Act.put, List.setIfInBounds_toArray, List.set_cons_zero, List.set_cons_succ]
          go_simp
          refine hK _ _ ⟨e0, e1, e2, e3, e4, e5, e6, e7, (.slice (some ⟨b3, o3, none⟩) M C3), e9, e10, (.int .i64 (J1 : Int)), (.pointer (some ⟨b3, o3 + J1, none⟩)), e13, e14, e15, e16, e17, ?_, hB, c0, c1, c2, c3, c4, c5, c6, c7, c8, c9, c10, c11, fun _ => rfl, c13, c14, c15, c16, c17, c18, cx⟩
          simp only [putAll, Act.put, List.setIfInBounds_toArray, List.set_cons_zero, List.set_cons_succ]
          all_goals rfl
        | 13, _, hd, hk =>
          have h12 : d 12 = true := hk 12 (by decide +kernel)
          obtain rfl := c12 h12
          have z0 := cell_later hB V1.out
          apply wpOp_at
          case ho => rfl
          intro K hK
          simp only [putAll, Act.put, List.setIfInBounds_toArray, List.set_cons_zero, List.set_cons_succ]
          go_simp
          refine hK _ _ ⟨e0, e1, e2, e3, e4, e5, e6, e7, e8, e9, e10, e11, (.pointer (some ⟨b3, o3 + J1, none⟩)), (.int .i64 yp), e14, e15, e16, e17, ?_, hB, c0, c1, c2, c3, c4, c5, c6, c7, c8, c9, c10, c11, c12, fun _ => rfl, c14, c15, c16, c17, c18, cx⟩
          simp only [putAll, Act.put, List.setIfInBounds_toArray, List.set_cons_zero, List.set_cons_succ]
          all_goals rfl
        | 14, _, hd, hk =>
          have h7 : d 7 = true := hk 7 (by decide +kernel)
          have h13 : d 13 = true := hk 13 (by decide +kernel)
          obtain rfl := c7 h7
          obtain rfl := c13 h13
          apply wpOp_at
          case ho => rfl
          intro K hK
          simp only [putAll, Act.put, List.setIfInBounds_toArray, List.set_cons_zero, List.set_cons_succ]
          go_simp
          refine hK _ _ ⟨e0, e1, e2, e3, e4, e5, e6, (.int .i64 yt), e8, e9, e10, e11, e12, (.int .i64 yp), (.agg #[.int .i64 yt, .int .i64 yp]), e15, e16, e17, ?_, hB, c0, c1, c2, c3, c4, c5, c6, c7, c8, c9, c10, c11, c12, c13, fun _ => rfl, c15, c16, c17, c18, cx⟩
          simp only [putAll, Act.put, List.setIfInBounds_toArray, List.set_cons_zero, List.set_cons_succ]
          all_goals rfl
        | 15, _, hd, hk =>
          have h14 : d 14 = true := hk 14 (by decide +kernel)
          obtain rfl := c14 h14
          have hb := below_box w' (.cells #[.int .i64 yt, .int .i64 yp] 32)
          apply wpOp_at
          case ho => rfl
          intro K hK
          simp only [putAll, Act.put, List.setIfInBounds_toArray, List.set_cons_zero, List.set_cons_succ]
          go_simp
          refine hK _ _ ⟨e0, e1, e2, e3, e4, e5, e6, e7, e8, e9, e10, e11, e12, e13, (.agg #[.int .i64 yt, .int .i64 yp]), .slice (some ⟨w'.heap.size, 0, none⟩) 1 1, e16, e17, ?_, hB.trans (hb.mono hB.size), c0, c1, c2, c3, c4, c5, c6, c7, c8, c9, c10, c11, c12, c13, c14, fun _ => fun _ => ⟨_, rfl, Whole.made w' _ _⟩, fun h => Bool.noConfusion (hd.symm.trans (c16 h).2.1), c17, fun h => Bool.noConfusion (hd.symm.trans (c16 (c18 h).1).2.1), fun h => ⟨(cx h).1.alloc _, own_later (cx h).2 hb⟩⟩
          simp only [putAll, Act.put, List.setIfInBounds_toArray, List.set_cons_zero, List.set_cons_succ]
          all_goals rfl
        | 16, _, hd, hk =>
          have h1 : d 1 = true := hk 1 (by decide +kernel)
          have h15 : d 15 = true := hk 15 (by decide +kernel)
          have e1' := (c1 h1).symm
          subst e1'
          obtain ⟨g, rfl, hw⟩ := c15 h15 hd
          obtain ⟨A9, C9, w9, hrun, q1, q2, q3⟩ := looks_push_at yt yp hEk hw (cx hd).2 hB.size (by omega)
          obtain ⟨hfine, happV, happW⟩ := fine_of hrun
          have hX9 := (q3.whole (cx hd).1 (fun e => ((cx hd).1.not_row (by decide) (cx hd).2) e.symm)).1
          clear hrun
          apply wpOp_at
          case ho => rfl
          intro K hK
          simp only [putAll, Act.put, List.setIfInBounds_toArray, List.set_cons_zero, List.set_cons_succ]
          go_simp
          refine hK _ _ ⟨e0, sv, e2, e3, e4, e5, e6, e7, e8, e9, e10, e11, e12, e13, e14, .slice (some ⟨g, 0, none⟩) 1 1, .slice A9 (k + 1) C9, e17, ?_, hB.trans q2, c0, c1, c2, c3, c4, c5, c6, c7, c8, c9, c10, c11, c12, c13, c14, fun _ h => Bool.noConfusion (show true = false from h), fun _ => ⟨h1, h15, fun _ => ⟨A9, C9, rfl, hX9, q1⟩⟩, c17, fun h => absurd ((c18 h).1.symm.trans hd) (by decide), fun h => Bool.noConfusion (show true = false from h)⟩
          simp only [putAll, Act.put, List.setIfInBounds_toArray, List.set_cons_zero, List.set_cons_succ]
          all_goals rfl
        | 17, _, hd, hk =>
          apply wpOp_at
          case ho => rfl
          intro K hK
          simp only [putAll, Act.put, List.setIfInBounds_toArray, List.set_cons_zero, List.set_cons_succ]
          go_simp
          refine hK _ _ ⟨e0, e1, e2, e3, e4, e5, e6, e7, e8, e9, e10, e11, e12, e13, e14, e15, e16, (.pointer (some ⟨w3.heap.size, 10, none⟩)), ?_, hB, c0, c1, c2, c3, c4, c5, c6, c7, c8, c9, c10, c11, c12, c13, c14, c15, c16, fun _ => rfl, c18, cx⟩
          simp only [putAll, Act.put, List.setIfInBounds_toArray, List.set_cons_zero, List.set_cons_succ]
          all_goals rfl
        | 18, _, hd, hk =>
          have h16 : d 16 = true := hk 16 (by decide +kernel)
          have h17 : d 17 = true := hk 17 (by decide +kernel)
          obtain rfl := c17 h17
          have e1' := (c1 (c16 h16).1).symm
          subst e1'
          obtain ⟨A9, C9, rfl, hX, hO⟩ := (c16 h16).2.2 hd
          have M10 := hX.cell 10
          have y10 := hX.free 10
          have hS := m10_set (rv' := .slice A9 (k + 1) C9) hX
          have hOs := hO.kept (grownBy_set w' ⟨w3.heap.size, 10, none⟩ (.slice A9 (k + 1) C9)) (.inr (hX.not_row (by decide) hO).symm)
          have hlg := hX.lt
          apply wpOp_at
          case ho => rfl
          intro K hK
          simp only [putAll, Act.put, List.setIfInBounds_toArray, List.set_cons_zero, List.set_cons_succ]
          go_simp
          refine hK _ _ ⟨e0, sv, e2, e3, e4, e5, e6, e7, e8, e9, e10, e11, e12, e13, e14, e15, .slice A9 (k + 1) C9, (.pointer (some ⟨w3.heap.size, 10, none⟩)), ?_, hB.setCell (p := ⟨w3.heap.size, 10, none⟩) (Nat.le_refl _) _, c0, c1, c2, c3, c4, c5, c6, c7, c8, c9, c10, c11, c12, c13, c14, fun _ h => absurd (h16.symm.trans h) (by decide), fun _ => ⟨(c16 h16).1, (c16 h16).2.1, fun h => Bool.noConfusion (show true = false from h)⟩, c17, fun _ => ⟨h16, A9, C9, rfl, hS, hOs⟩, fun h => absurd (h16.symm.trans h) (by decide)⟩
          simp only [putAll, Act.put, List.setIfInBounds_toArray, List.set_cons_zero, List.set_cons_succ]
          all_goals rfl
        | k + 19, hi, _, _ => exact absurd hi (by simp)
      case ends =>
        intro d a' w' hJ hall
        obtain ⟨e0, e1, e2, e3, e4, e5, e6, e7, e8, e9, e10, e11, e12, e13, e14, e15, e16, e17, rfl, hB, c0, c1, c2, c3, c4, c5, c6, c7, c8, c9, c10, c11, c12, c13, c14, c15, c16, c17, c18, cx⟩ := hJ
        obtain ⟨h16, A9, C9, rfl, hX, hO⟩ := c18 (hall 18 (by decide +kernel))
        have HbE := Lib.hid hB
        have HXe := Lib.hid hX
        have HOe := Lib.hid hO
        clear c0 c1 c2 c3 c4 c5 c6 c7 c8 c9 c10 c11 c12 c13 c14 c15 c16 c17 c18 cx hall hB hX hO h16
        simp only [putAll, Act.put, List.setIfInBounds_toArray, List.set_cons_zero, List.set_cons_succ]
        go_wp2_with fail
        go_roundw
        case rel => exact ⟨k + 1, _, by omega, by go_num, HbE.out, HXe.out, HOe.out⟩
        case measure => simp [intOf]; omega
    · obtain rfl : k = N := by omega
      go_wp2_with fail
      exact Hexit.out _ _ _ _ _ _ _ _ _ _ _ _ _ _ _ _ _ _ _ _ _ _ _ _ _ _ Hbr HXr HO
end Go.Proofs.Ytfpadcfahfanoaa
