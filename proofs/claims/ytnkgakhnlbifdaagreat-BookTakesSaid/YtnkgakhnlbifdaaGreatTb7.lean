/- Parts, as far as BookTakesCards reaches them, of: RefBookLoop1. No law is proved here. -/
import Derived.Test.YtnkgakhnlbifdaaGreatTb5
import Derived.Test.YtnkgakhnlbifdaaGreatTb6
import Derived.Test.YtnkgakhnlbifdaaGreatTb0
import Derived.IntWalk
import Derived.BigRegion
import Derived.WalkSmall
import Derived.Test.YtnkgakhnlbifdaaGreatTbQ
namespace Go.Proofs.YtnkgakhnlbifdaaGreat
open Go.RowKit
def loopsIn : Code → List Code
 | .loop c => [c]
 | .seq a b => loopsIn a ++ loopsIn b
 | .cond _ a b => loopsIn a ++ loopsIn b
 | .block _ c => loopsIn c
 | .scope c => loopsIn c
 | _ => []
theorem n16_of {d : Nat → Bool} {i j : Nat} (hd : d i = false) (h : d j = true → d i = true) : d j = false := by
 cases e : d j with
 | false => rfl
 | true => exact absurd ((h e).symm.trans hd) (by decide)
theorem two_next {k L j M J : Nat} (h1 : 2 * k = j) (h2 : 2 * L = M) (hk : k < L) (hJ : j + 1 = J) : j < M ∧ J < M := by omega
theorem two_most {L M : Nat} (hL : L ≤ 40) (h2 : 2 * L = M) : M ≤ 80 := by omega
theorem idx_one {j J M : Nat} (hJ : j + 1 = J) (h : j < M) (hM : M ≤ 80) : IntKind.i64.wrap ((j : Int) + 1) = (J : Int) ∧ wrap64 ((j : Int) + 1) = (J : Int) :=
 ⟨by rw [IntWalk.i64_in _ (by omega)]; omega, by rw [IntWalk.wrap64_in _ (by omega)]; omega⟩
theorem two_up {k j : Nat} (h : 2 * k = j) : 2 * (k + 1) = j + 2 := by omega
theorem measure_two {j M : Nat} (h : j < M) : M - (intOf (.int .i64 ((j : Int) + 2))).toNat < M - (intOf (.int .i64 (j : Int))).toNat := by
 simp only [intOf]
 omega
theorem idx_two {j M : Nat} (h : j < M) (hM : M ≤ 80) : IntKind.i64.wrap ((j : Int) + 2) = (j : Int) + 2 ∧ wrap64 ((j : Int) + 2) = (j : Int) + 2 :=
 ⟨by rw [IntWalk.i64_in _ (by omega)], by rw [IntWalk.wrap64_in _ (by omega)]⟩
noncomputable def ktakeBody (k : Nat) : Code := ((Tryz.f8.body.map loopsIn).getD [])[k]?.getD .skip
attribute [local go_sem ↓] run_fine
set_option maxRecDepth 1000000 in
set_option maxHeartbeats 16000000 in
theorem ktake_loop1 (L M : Nat) (who : Int) (x : Bk) (rv ov nv tv uv iv : Value) (E : List Rq) (ls : List Nat) (A : Option Addr) (C : Nat) (w3 wr0 : World)
 (hL : L ≤ 40) (HM : Hid (2 * L = M)) (hlen : ls.length = M) (HN : Hid (Nums wr0 (.slice A M C) (ls.map fun v : Nat => (v : Int)))) (HA : Hid (∀ ad, A = some ad → ad.block ≠ w3.heap.size))
 (HE : Hid (∀ i, i < L → rqAt E i = ⟨((ls[2 * i]?.getD 0 : Nat) : Int), who, ((ls[2 * i + 1]?.getD 0 : Nat) : Int)⟩)) (hG : w3.heap.size < wr0.heap.size) (Hb0 : Hid (Below w3.heap.size w3 wr0))
 (Q0 : Exit → Act → World → Prop) (s0 s2 s3 s4 s5 s6 s7 s8 s9 s10 s11 s12 s16 s17 s18 s19 s20 s21 s22 s23 s24 s25 s26 s27 s28 s29 s30 s31 s32 s33 s34 s35 s36 s37 s38 s39 s40 s41 s42 s43 s44 s45 s46 s47 s48 s49 s50 s51 s52 s53 s54 s55 s56 s57 s58 s59 s60 s84 s85 s86 s87 s88 s89 s90 s91 s92 s93 s94 s95 s96 s97 s98 s99 s100 s101 s102 s103 s104 s105 s106 s107 s108 s109 s110 s111 s112 s113 s114 s115 s116 s117 s118 s119 s120 s121 s122 s123 s124 s125 s126 s127 s128 s129 s130 s131 s132 s133 s134 s135 s136 s137 s138 s139 s140 s141 s142 s143 s144 s145 s146 s147 s148 s149 s150 s151 s152 s153 s154 s155 s156 s157 s158 s159 s160 s161 s162 s163 s164 s165 s166 s167 s168 s169 s170 s171 s172 s173 s174 s175 s176 s177 s178 s179 s180 s181 s182 s183 s184 s185 s186 s187 s188 s189 s190 s191 s192 s193 s194 s195 s196 s197 s198 s199 s200 s201 s202 s203 s204 s205 s206 s207 s208 s209 s210 s211 s212 s213 s214 s215 s216 s217 s218 s219 s220 s221 s222 s223 s224 s225 s226 s227 s228 s229 s230 s231 s232 s233 s234 s235 s236 s237 s238 s239 s240 s241 s242 s243 s244 s245 s246 s247 s248 s249 s250 s251 s252 s253 s254 s255 s256 s257 s258 s259 s260 s261 s262 s263 s264 s265 s266 s267 s268 s269 s270 s271 s272 s273 s274 s275 s276 s277 s278 s279 s280 s281 s282 s283 s284 s285 s286 s287 s288 s289 s290 s291 s292 s293 s294 s295 s296 s297 s298 s299 s300 s301 s302 s303 s304 s305 s306 s307 s308 s309 s310 s311 s312 s313 : Value) (u61 u62 u63 u64 u65 u66 u67 u68 u69 u70 u71 u72 u73 u74 u75 u76 u77 u78 u79 u80 u81 u82 u83 : Value)
 (hexit : ∀ (wr : World) (sv v61 v62 v63 v64 v65 v66 v67 v68 v69 v70 v71 v72 v73 v74 v75 v76 v77 v78 v79 v80 v81 v82 v83 : Value), Hid (ButG w3.heap.size wr0 wr) → Hid (Whole wr w3.heap.size 37 (bkCells x rv sv ov nv tv uv iv)) → Hid (wr.ownsRow wr0.heap.size 67 3 sv L (flatCells 3 L (fun i j => rqc (rqAt E i) j))) → Q0 (.exit 0) ⟨(s0 :: (.int .i64 who) :: s2 :: s3 :: s4 :: s5 :: s6 :: s7 :: s8 :: s9 :: s10 :: s11 :: s12 :: (.pointer (some ⟨w3.heap.size, 0, none⟩)) :: (.slice A M C) :: (.int .i64 (M : Int)) :: s16 :: s17 :: s18 :: s19 :: s20 :: s21 :: s22 :: s23 :: s24 :: s25 :: s26 :: s27 :: s28 :: s29 :: s30 :: s31 :: s32 :: s33 :: s34 :: s35 :: s36 :: s37 :: s38 :: s39 :: s40 :: s41 :: s42 :: s43 :: s44 :: s45 :: s46 :: s47 :: s48 :: s49 :: s50 :: s51 :: s52 :: s53 :: s54 :: s55 :: s56 :: s57 :: s58 :: s59 :: s60 :: v61 :: v62 :: v63 :: v64 :: v65 :: v66 :: v67 :: v68 :: v69 :: v70 :: v71 :: v72 :: v73 :: v74 :: v75 :: v76 :: v77 :: v78 :: v79 :: v80 :: v81 :: v82 :: v83 :: s84 :: s85 :: s86 :: s87 :: s88 :: s89 :: s90 :: s91 :: s92 :: s93 :: s94 :: s95 :: s96 :: s97 :: s98 :: s99 :: s100 :: s101 :: s102 :: s103 :: s104 :: s105 :: s106 :: s107 :: s108 :: s109 :: s110 :: s111 :: s112 :: s113 :: s114 :: s115 :: s116 :: s117 :: s118 :: s119 :: s120 :: s121 :: s122 :: s123 :: s124 :: s125 :: s126 :: s127 :: s128 :: s129 :: s130 :: s131 :: s132 :: s133 :: s134 :: s135 :: s136 :: s137 :: s138 :: s139 :: s140 :: s141 :: s142 :: s143 :: s144 :: s145 :: s146 :: s147 :: s148 :: s149 :: s150 :: s151 :: s152 :: s153 :: s154 :: s155 :: s156 :: s157 :: s158 :: s159 :: s160 :: s161 :: s162 :: s163 :: s164 :: s165 :: s166 :: s167 :: s168 :: s169 :: s170 :: s171 :: s172 :: s173 :: s174 :: s175 :: s176 :: s177 :: s178 :: s179 :: s180 :: s181 :: s182 :: s183 :: s184 :: s185 :: s186 :: s187 :: s188 :: s189 :: s190 :: s191 :: s192 :: s193 :: s194 :: s195 :: s196 :: s197 :: s198 :: s199 :: s200 :: s201 :: s202 :: s203 :: s204 :: s205 :: s206 :: s207 :: s208 :: s209 :: s210 :: s211 :: s212 :: s213 :: s214 :: s215 :: s216 :: s217 :: s218 :: s219 :: s220 :: s221 :: s222 :: s223 :: s224 :: s225 :: s226 :: s227 :: s228 :: s229 :: s230 :: s231 :: s232 :: s233 :: s234 :: s235 :: s236 :: s237 :: s238 :: s239 :: s240 :: s241 :: s242 :: s243 :: s244 :: s245 :: s246 :: s247 :: s248 :: s249 :: s250 :: s251 :: s252 :: s253 :: s254 :: s255 :: s256 :: s257 :: s258 :: s259 :: s260 :: s261 :: s262 :: s263 :: s264 :: s265 :: s266 :: s267 :: s268 :: s269 :: s270 :: s271 :: s272 :: s273 :: s274 :: s275 :: s276 :: s277 :: s278 :: s279 :: s280 :: s281 :: s282 :: s283 :: s284 :: s285 :: s286 :: s287 :: s288 :: s289 :: s290 :: s291 :: s292 :: s293 :: s294 :: s295 :: s296 :: s297 :: s298 :: s299 :: s300 :: s301 :: s302 :: s303 :: s304 :: s305 :: s306 :: s307 :: s308 :: s309 :: s310 :: s311 :: s312 :: s313 :: []).toArray, []⟩ wr)
 (HX0 : Hid (Whole wr0 w3.heap.size 37 (bkCells x rv (.slice none 0 0) ov nv tv uv iv))) :
 Code.wp Tryz.prog (Code.loop (ktakeBody 0)) Q0 ⟨(s0 :: (.int .i64 who) :: s2 :: s3 :: s4 :: s5 :: s6 :: s7 :: s8 :: s9 :: s10 :: s11 :: s12 :: (.pointer (some ⟨w3.heap.size, 0, none⟩)) :: (.slice A M C) :: (.int .i64 0) :: s16 :: s17 :: s18 :: s19 :: s20 :: s21 :: s22 :: s23 :: s24 :: s25 :: s26 :: s27 :: s28 :: s29 :: s30 :: s31 :: s32 :: s33 :: s34 :: s35 :: s36 :: s37 :: s38 :: s39 :: s40 :: s41 :: s42 :: s43 :: s44 :: s45 :: s46 :: s47 :: s48 :: s49 :: s50 :: s51 :: s52 :: s53 :: s54 :: s55 :: s56 :: s57 :: s58 :: s59 :: s60 :: u61 :: u62 :: u63 :: u64 :: u65 :: u66 :: u67 :: u68 :: u69 :: u70 :: u71 :: u72 :: u73 :: u74 :: u75 :: u76 :: u77 :: u78 :: u79 :: u80 :: u81 :: u82 :: u83 :: s84 :: s85 :: s86 :: s87 :: s88 :: s89 :: s90 :: s91 :: s92 :: s93 :: s94 :: s95 :: s96 :: s97 :: s98 :: s99 :: s100 :: s101 :: s102 :: s103 :: s104 :: s105 :: s106 :: s107 :: s108 :: s109 :: s110 :: s111 :: s112 :: s113 :: s114 :: s115 :: s116 :: s117 :: s118 :: s119 :: s120 :: s121 :: s122 :: s123 :: s124 :: s125 :: s126 :: s127 :: s128 :: s129 :: s130 :: s131 :: s132 :: s133 :: s134 :: s135 :: s136 :: s137 :: s138 :: s139 :: s140 :: s141 :: s142 :: s143 :: s144 :: s145 :: s146 :: s147 :: s148 :: s149 :: s150 :: s151 :: s152 :: s153 :: s154 :: s155 :: s156 :: s157 :: s158 :: s159 :: s160 :: s161 :: s162 :: s163 :: s164 :: s165 :: s166 :: s167 :: s168 :: s169 :: s170 :: s171 :: s172 :: s173 :: s174 :: s175 :: s176 :: s177 :: s178 :: s179 :: s180 :: s181 :: s182 :: s183 :: s184 :: s185 :: s186 :: s187 :: s188 :: s189 :: s190 :: s191 :: s192 :: s193 :: s194 :: s195 :: s196 :: s197 :: s198 :: s199 :: s200 :: s201 :: s202 :: s203 :: s204 :: s205 :: s206 :: s207 :: s208 :: s209 :: s210 :: s211 :: s212 :: s213 :: s214 :: s215 :: s216 :: s217 :: s218 :: s219 :: s220 :: s221 :: s222 :: s223 :: s224 :: s225 :: s226 :: s227 :: s228 :: s229 :: s230 :: s231 :: s232 :: s233 :: s234 :: s235 :: s236 :: s237 :: s238 :: s239 :: s240 :: s241 :: s242 :: s243 :: s244 :: s245 :: s246 :: s247 :: s248 :: s249 :: s250 :: s251 :: s252 :: s253 :: s254 :: s255 :: s256 :: s257 :: s258 :: s259 :: s260 :: s261 :: s262 :: s263 :: s264 :: s265 :: s266 :: s267 :: s268 :: s269 :: s270 :: s271 :: s272 :: s273 :: s274 :: s275 :: s276 :: s277 :: s278 :: s279 :: s280 :: s281 :: s282 :: s283 :: s284 :: s285 :: s286 :: s287 :: s288 :: s289 :: s290 :: s291 :: s292 :: s293 :: s294 :: s295 :: s296 :: s297 :: s298 :: s299 :: s300 :: s301 :: s302 :: s303 :: s304 :: s305 :: s306 :: s307 :: s308 :: s309 :: s310 :: s311 :: s312 :: s313 :: []).toArray, []⟩ wr0 := by
 have Hexit := Lib.hid hexit; clear hexit
 have Hlen := Lib.hid hlen; clear hlen
 conv => arg 2; arg 1; whnf
 go_loopw [15] (fun s15 wr => ∃ (k j : Nat) (sv : Value), k ≤ L ∧ Hid (2 * k = j) ∧ s15 = .int .i64 (j : Int) ∧ Hid (ButG w3.heap.size wr0 wr) ∧ Hid (Whole wr w3.heap.size 37 (bkCells x rv sv ov nv tv uv iv)) ∧ Hid (wr.ownsRow wr0.heap.size 67 3 sv k (flatCells 3 k (fun i j => rqc (rqAt E i) j)))) (fun s15 _ => M - (intOf s15).toNat)
 case atStart => exact ⟨0, 0, _, Nat.zero_le _, rfl, rfl, ButG.refl _ _, HX0.out, World.ownsRow_nil _ _ _ _⟩
 case round =>
  clear HX0
  obtain ⟨k, j, sv, hk, Hj, rfl, HBG, HXr, HO⟩ := hrel
  by_cases hkL : k < L
  · have hjM : j < M := (two_next Hj.out HM.out hkL rfl).1
    obtain ⟨b, off, rfl, _, c0⟩ := HN.out.at (i := j) (by rw [List.length_map, Hlen.out]; exact hjM)
    obtain ⟨b', off', hbo, _, c1⟩ := HN.out.at (i := j + 1) (by rw [List.length_map, Hlen.out]; exact (two_next Hj.out HM.out hkL rfl).2)
    obtain ⟨rfl, rfl⟩ : b = b' ∧ off = off' := by simpa using hbo
    have hbG : b ≠ w3.heap.size := HA.out ⟨b, off, none⟩ rfl
    obtain ⟨yt, Hyt⟩ : ∃ z : Int, Hid (((ls[j]?.getD 0 : Nat) : Int) = z) := ⟨_, rfl⟩
    obtain ⟨ym, Hym⟩ : ∃ z : Int, Hid (((ls[j + 1]?.getD 0 : Nat) : Int) = z) := ⟨_, rfl⟩
    have e0 : ((ls.map fun v : Nat => (v : Int))[j]?.getD 0) = yt := by rw [← Hyt.out, List.getElem?_map, List.getElem?_eq_getElem (by rw [Hlen.out]; exact hjM)]; rfl
    have e1 : ((ls.map fun v : Nat => (v : Int))[j + 1]?.getD 0) = ym := by rw [← Hym.out, List.getElem?_map, List.getElem?_eq_getElem (by rw [Hlen.out]; exact (two_next Hj.out HM.out hkL rfl).2)]; rfl
    rw [e0] at c0
    rw [e1] at c1
    obtain ⟨J, HJ⟩ : ∃ z : Nat, Hid (j + 1 = z) := ⟨_, rfl⟩
    rw [show off + (j + 1) = off + J by rw [HJ.out]] at c1
    have V0 := Lib.hid c0
    have V1 := Lib.hid c1
    have hEk : rqAt E k = ⟨yt, who, ym⟩ := by rw [HE.out k hkL, show 2 * k = j from Hj.out, Hyt.out, Hym.out]
    have HEk := Lib.hid hEk
    have hsz := HBG.out.size
    have x0 : (0 : Int) ≤ (j : Int) := Int.natCast_nonneg j
    have x1 : (j : Int) < (M : Int) := Int.ofNat_lt.2 hjM
    obtain ⟨x2, x3⟩ := idx_one HJ.out hjM (two_most hL HM.out)
    obtain ⟨x6, x7⟩ := idx_two hjM (two_most hL HM.out)
    have x4 : (0 : Int) ≤ (J : Int) := Int.natCast_nonneg J
    have x5 : (J : Int) < (M : Int) := Int.ofNat_lt.2 (two_next Hj.out HM.out hkL HJ.out).2
    have HkM : Hid (k ≤ 1000) := Nat.le_trans hk (Nat.le_trans hL (by decide))
    have hlx := HXr.out.lt
    have Hbr := Lib.hid (HBG.out.below Hb0.out (Nat.le_of_lt hG))
    obtain ⟨⟨z0, z1, z2, z3⟩, _⟩ := bk_cells HXr.out
    clear z0 z1 z3 e0 e1 c0 c1 hEk
    go_wp2_with fail
    refine region_any fun a0 Ha0 => ?_
    have HND : Hid (([67, 68, 69, 70, 71, 72, 73, 74, 75, 76, 77, 78, 79, 80, 81, 82, 83] : List Nat).Nodup) := by show List.Nodup _; decide
    have hsz : a0.tmps.size = 314 := by rw [Ha0.out]; rfl
    have r1 : slot a0 1 = (.int .i64 who) := by rw [Ha0.out]; rfl
    have r13 : slot a0 13 = (.pointer (some ⟨w3.heap.size, 0, none⟩)) := by rw [Ha0.out]; rfl
    have r14 : slot a0 14 = (.slice (some ⟨b, off, none⟩) M C) := by rw [Ha0.out]; rfl
    have r15 : slot a0 15 = (.int .i64 (j : Int)) := by rw [Ha0.out]; rfl
    refine wp_region_each_at ?hm ?hb (fun a0 d a' w' => ∃ (e0 e1 e2 e3 e4 e5 e6 e7 e8 e9 e10 e11 e12 e13 e14 e15 e16 : Value), a' = putAll a0 [(67, e0), (68, e1), (69, e2), (70, e3), (71, e4), (72, e5), (73, e6), (74, e7), (75, e8), (76, e9), (77, e10), (78, e11), (79, e12), (80, e13), (81, e14), (82, e15), (83, e16)] ∧ Below w3.heap.size w3 w' ∧ (d 0 = true → e0 = (.pointer (some ⟨w3.heap.size, 2, none⟩))) ∧ (d 1 = true → e1 = sv) ∧ (d 2 = true → e2 = (.slice (some ⟨b, off, none⟩) M C)) ∧ (d 3 = true → e3 = (.int .i64 (j : Int))) ∧ (d 4 = true → e4 = (.pointer (some ⟨b, off + j, none⟩))) ∧ (d 5 = true → e5 = (.int .i64 yt)) ∧ (d 6 = true → e6 = (.int .i64 who)) ∧ (d 7 = true → e7 = (.agg #[.int .i64 yt, .int .i64 who])) ∧ (d 8 = true → e8 = (.slice (some ⟨b, off, none⟩) M C)) ∧ (d 9 = true → e9 = (.int .i64 (j : Int))) ∧ (d 10 = true → e10 = (.int .i64 (J : Int))) ∧ (d 11 = true → e11 = (.pointer (some ⟨b, off + J, none⟩))) ∧ (d 12 = true → e12 = (.int .i64 ym)) ∧ (d 13 = true → e13 = (.agg #[.int .i64 yt, .int .i64 who, .int .i64 ym])) ∧ (d 14 = true → (d 15 = false → ∃ g, e14 = .slice (some ⟨g, 0, none⟩) 1 1 ∧ Whole w' g 67 #[.int .i64 yt, .int .i64 who, .int .i64 ym])) ∧ (d 15 = true → (d 1 = true ∧ d 14 = true ∧ (d 17 = false → ∃ A C, e15 = .slice A (k + 1) C ∧ Whole w' w3.heap.size 37 (bkCells x rv sv ov nv tv uv iv) ∧ w'.ownsRow wr0.heap.size 67 3 (.slice A (k + 1) C) (k + 1) (flatCells 3 (k + 1) (fun i j => rqc (rqAt E i) j))))) ∧ (d 16 = true → e16 = (.pointer (some ⟨w3.heap.size, 2, none⟩))) ∧ (d 17 = true → (d 15 = true ∧ ∃ A C, e15 = .slice A (k + 1) C ∧ Whole w' w3.heap.size 37 (bkCells x rv (.slice A (k + 1) C) ov nv tv uv iv) ∧ w'.ownsRow wr0.heap.size 67 3 (.slice A (k + 1) C) (k + 1) (flatCells 3 (k + 1) (fun i j => rqc (rqAt E i) j)))) ∧ (d 15 = false → Whole w' w3.heap.size 37 (bkCells x rv sv ov nv tv uv iv) ∧ w'.ownsRow wr0.heap.size 67 3 sv k (flatCells 3 k (fun i j => rqc (rqAt E i) j))) ∧ ButG w3.heap.size wr0 w') ?h0 ?step ?ends
    case hm => kernel_rfl
    case hb => kernel_rfl
    case h0 =>
     refine ⟨_, _, _, _, _, _, _, _, _, _, _, _, _, _, _, _, _, putAll_same a0 [67, 68, 69, 70, 71, 72, 73, 74, 75, 76, 77, 78, 79, 80, 81, 82, 83], Hbr.out.drew, fun h => absurd h (by decide), fun h => absurd h (by decide), fun h => absurd h (by decide), fun h => absurd h (by decide), fun h => absurd h (by decide), fun h => absurd h (by decide), fun h => absurd h (by decide), fun h => absurd h (by decide), fun h => absurd h (by decide), fun h => absurd h (by decide), fun h => absurd h (by decide), fun h => absurd h (by decide), fun h => absurd h (by decide), fun h => absurd h (by decide), fun h => absurd h (by decide), fun h => absurd h (by decide), fun h => absurd h (by decide), fun h => absurd h (by decide), fun _ => ⟨HXr.out.drew, own_later HO.out (Below.refl _ _).drew⟩, HBG.out.next (Below.refl _ _).drew⟩
    case step =>
     intro i d a' w' hi hJ hd hk
     obtain ⟨e0, e1, e2, e3, e4, e5, e6, e7, e8, e9, e10, e11, e12, e13, e14, e15, e16, rfl, hB, c0, c1, c2, c3, c4, c5, c6, c7, c8, c9, c10, c11, c12, c13, c14, c15, c16, c17, cx, cg⟩ := hJ
     match i, hi, hd, hk with
     | 0, _, hd, hk =>
       obtain ⟨fr, HFR, f1, f13, f14, f15⟩ : ∃ fr, Hid (putAll a0 [(67, e0), (68, e1), (69, e2), (70, e3), (71, e4), (72, e5), (73, e6), (74, e7), (75, e8), (76, e9), (77, e10), (78, e11), (79, e12), (80, e13), (81, e14), (82, e15), (83, e16)] = fr) ∧ fr.tmps[1]? = some ((.int .i64 who)) ∧ fr.tmps[13]? = some ((.pointer (some ⟨w3.heap.size, 0, none⟩))) ∧ fr.tmps[14]? = some ((.slice (some ⟨b, off, none⟩) M C)) ∧ fr.tmps[15]? = some ((.int .i64 (j : Int))) := ⟨_, rfl, far_base a0 _ 1 (by rw [hsz]; decide) r1 rfl, far_base a0 _ 13 (by rw [hsz]; decide) r13 rfl, far_base a0 _ 14 (by rw [hsz]; decide) r14 rfl, far_base a0 _ 15 (by rw [hsz]; decide) r15 rfl⟩
       rw [HFR.out]
       apply wpOp_at
       case ho => rfl
       intro K hK
       go_simp
       refine hK _ _ ⟨(.pointer (some ⟨w3.heap.size, 2, none⟩)), e1, e2, e3, e4, e5, e6, e7, e8, e9, e10, e11, e12, e13, e14, e15, e16, (by rw [← HFR.out]; exact put_upd 0 rfl HND.out), hB, fun _ => rfl, c1, c2, c3, c4, c5, c6, c7, c8, c9, c10, c11, c12, c13, c14, c15, c16, c17, cx, cg⟩
     | 1, _, hd, hk =>
       have h0 : d 0 = true := hk 0 (by decide +kernel)
       obtain rfl := c0 h0
       have n15 : d 15 = false := n16_of hd fun h => (c15 h).1
       obtain ⟨⟨_, _, M2, _⟩, _⟩ := bk_cells (cx n15).1
       obtain ⟨fr, HFR, f67, f1, f13, f14, f15⟩ : ∃ fr, Hid (putAll a0 [(67, (.pointer (some ⟨w3.heap.size, 2, none⟩))), (68, e1), (69, e2), (70, e3), (71, e4), (72, e5), (73, e6), (74, e7), (75, e8), (76, e9), (77, e10), (78, e11), (79, e12), (80, e13), (81, e14), (82, e15), (83, e16)] = fr) ∧ fr.tmps[67]? = some ((.pointer (some ⟨w3.heap.size, 2, none⟩))) ∧ fr.tmps[1]? = some ((.int .i64 who)) ∧ fr.tmps[13]? = some ((.pointer (some ⟨w3.heap.size, 0, none⟩))) ∧ fr.tmps[14]? = some ((.slice (some ⟨b, off, none⟩) M C)) ∧ fr.tmps[15]? = some ((.int .i64 (j : Int))) := ⟨_, rfl, far_get a0 _ 67 (by rw [hsz]; decide), far_base a0 _ 1 (by rw [hsz]; decide) r1 rfl, far_base a0 _ 13 (by rw [hsz]; decide) r13 rfl, far_base a0 _ 14 (by rw [hsz]; decide) r14 rfl, far_base a0 _ 15 (by rw [hsz]; decide) r15 rfl⟩
       rw [HFR.out]
       apply wpOp_at
       case ho => rfl
       intro K hK
       go_simp
       refine hK _ _ ⟨(.pointer (some ⟨w3.heap.size, 2, none⟩)), sv, e2, e3, e4, e5, e6, e7, e8, e9, e10, e11, e12, e13, e14, e15, e16, (by rw [← HFR.out]; exact put_upd 1 rfl HND.out), hB, c0, fun _ => rfl, c2, c3, c4, c5, c6, c7, c8, c9, c10, c11, c12, c13, c14, fun h => absurd (n15.symm.trans h) (by decide), c16, c17, cx, cg⟩
     | 2, _, hd, hk =>
       obtain ⟨fr, HFR, f1, f13, f14, f15⟩ : ∃ fr, Hid (putAll a0 [(67, e0), (68, e1), (69, e2), (70, e3), (71, e4), (72, e5), (73, e6), (74, e7), (75, e8), (76, e9), (77, e10), (78, e11), (79, e12), (80, e13), (81, e14), (82, e15), (83, e16)] = fr) ∧ fr.tmps[1]? = some ((.int .i64 who)) ∧ fr.tmps[13]? = some ((.pointer (some ⟨w3.heap.size, 0, none⟩))) ∧ fr.tmps[14]? = some ((.slice (some ⟨b, off, none⟩) M C)) ∧ fr.tmps[15]? = some ((.int .i64 (j : Int))) := ⟨_, rfl, far_base a0 _ 1 (by rw [hsz]; decide) r1 rfl, far_base a0 _ 13 (by rw [hsz]; decide) r13 rfl, far_base a0 _ 14 (by rw [hsz]; decide) r14 rfl, far_base a0 _ 15 (by rw [hsz]; decide) r15 rfl⟩
       rw [HFR.out]
       apply wpOp_at
       case ho => rfl
       intro K hK
       go_simp
       refine hK _ _ ⟨e0, e1, (.slice (some ⟨b, off, none⟩) M C), e3, e4, e5, e6, e7, e8, e9, e10, e11, e12, e13, e14, e15, e16, (by rw [← HFR.out]; exact put_upd 2 rfl HND.out), hB, c0, c1, fun _ => rfl, c3, c4, c5, c6, c7, c8, c9, c10, c11, c12, c13, c14, c15, c16, c17, cx, cg⟩
     | 3, _, hd, hk =>
       obtain ⟨fr, HFR, f1, f13, f14, f15⟩ : ∃ fr, Hid (putAll a0 [(67, e0), (68, e1), (69, e2), (70, e3), (71, e4), (72, e5), (73, e6), (74, e7), (75, e8), (76, e9), (77, e10), (78, e11), (79, e12), (80, e13), (81, e14), (82, e15), (83, e16)] = fr) ∧ fr.tmps[1]? = some ((.int .i64 who)) ∧ fr.tmps[13]? = some ((.pointer (some ⟨w3.heap.size, 0, none⟩))) ∧ fr.tmps[14]? = some ((.slice (some ⟨b, off, none⟩) M C)) ∧ fr.tmps[15]? = some ((.int .i64 (j : Int))) := ⟨_, rfl, far_base a0 _ 1 (by rw [hsz]; decide) r1 rfl, far_base a0 _ 13 (by rw [hsz]; decide) r13 rfl, far_base a0 _ 14 (by rw [hsz]; decide) r14 rfl, far_base a0 _ 15 (by rw [hsz]; decide) r15 rfl⟩
       rw [HFR.out]
       apply wpOp_at
       case ho => rfl
       intro K hK
       go_simp
       refine hK _ _ ⟨e0, e1, e2, (.int .i64 (j : Int)), e4, e5, e6, e7, e8, e9, e10, e11, e12, e13, e14, e15, e16, (by rw [← HFR.out]; exact put_upd 3 rfl HND.out), hB, c0, c1, c2, fun _ => rfl, c4, c5, c6, c7, c8, c9, c10, c11, c12, c13, c14, c15, c16, c17, cx, cg⟩
     | 4, _, hd, hk =>
       have h2 : d 2 = true := hk 2 (by decide +kernel)
       have h3 : d 3 = true := hk 3 (by decide +kernel)
       obtain rfl := c2 h2
       obtain rfl := c3 h3
       obtain ⟨fr, HFR, f69, f70, f1, f13, f14, f15⟩ : ∃ fr, Hid (putAll a0 [(67, e0), (68, e1), (69, (.slice (some ⟨b, off, none⟩) M C)), (70, (.int .i64 (j : Int))), (71, e4), (72, e5), (73, e6), (74, e7), (75, e8), (76, e9), (77, e10), (78, e11), (79, e12), (80, e13), (81, e14), (82, e15), (83, e16)] = fr) ∧ fr.tmps[69]? = some ((.slice (some ⟨b, off, none⟩) M C)) ∧ fr.tmps[70]? = some ((.int .i64 (j : Int))) ∧ fr.tmps[1]? = some ((.int .i64 who)) ∧ fr.tmps[13]? = some ((.pointer (some ⟨w3.heap.size, 0, none⟩))) ∧ fr.tmps[14]? = some ((.slice (some ⟨b, off, none⟩) M C)) ∧ fr.tmps[15]? = some ((.int .i64 (j : Int))) := ⟨_, rfl, far_get a0 _ 69 (by rw [hsz]; decide), far_get a0 _ 70 (by rw [hsz]; decide), far_base a0 _ 1 (by rw [hsz]; decide) r1 rfl, far_base a0 _ 13 (by rw [hsz]; decide) r13 rfl, far_base a0 _ 14 (by rw [hsz]; decide) r14 rfl, far_base a0 _ 15 (by rw [hsz]; decide) r15 rfl⟩
       rw [HFR.out]
       apply wpOp_at
       case ho => rfl
       intro K hK
       go_simp
       refine hK _ _ ⟨e0, e1, (.slice (some ⟨b, off, none⟩) M C), (.int .i64 (j : Int)), (.pointer (some ⟨b, off + j, none⟩)), e5, e6, e7, e8, e9, e10, e11, e12, e13, e14, e15, e16, (by rw [← HFR.out]; exact put_upd 4 rfl HND.out), hB, c0, c1, c2, c3, fun _ => rfl, c5, c6, c7, c8, c9, c10, c11, c12, c13, c14, c15, c16, c17, cx, cg⟩
     | 5, _, hd, hk =>
       have h4 : d 4 = true := hk 4 (by decide +kernel)
       obtain rfl := c4 h4
       have z0 := cg.cell_of V0.out hbG
       obtain ⟨fr, HFR, f71, f1, f13, f14, f15⟩ : ∃ fr, Hid (putAll a0 [(67, e0), (68, e1), (69, e2), (70, e3), (71, (.pointer (some ⟨b, off + j, none⟩))), (72, e5), (73, e6), (74, e7), (75, e8), (76, e9), (77, e10), (78, e11), (79, e12), (80, e13), (81, e14), (82, e15), (83, e16)] = fr) ∧ fr.tmps[71]? = some ((.pointer (some ⟨b, off + j, none⟩))) ∧ fr.tmps[1]? = some ((.int .i64 who)) ∧ fr.tmps[13]? = some ((.pointer (some ⟨w3.heap.size, 0, none⟩))) ∧ fr.tmps[14]? = some ((.slice (some ⟨b, off, none⟩) M C)) ∧ fr.tmps[15]? = some ((.int .i64 (j : Int))) := ⟨_, rfl, far_get a0 _ 71 (by rw [hsz]; decide), far_base a0 _ 1 (by rw [hsz]; decide) r1 rfl, far_base a0 _ 13 (by rw [hsz]; decide) r13 rfl, far_base a0 _ 14 (by rw [hsz]; decide) r14 rfl, far_base a0 _ 15 (by rw [hsz]; decide) r15 rfl⟩
       rw [HFR.out]
       apply wpOp_at
       case ho => rfl
       intro K hK
       go_simp
       refine hK _ _ ⟨e0, e1, e2, e3, (.pointer (some ⟨b, off + j, none⟩)), (.int .i64 yt), e6, e7, e8, e9, e10, e11, e12, e13, e14, e15, e16, (by rw [← HFR.out]; exact put_upd 5 rfl HND.out), hB, c0, c1, c2, c3, c4, fun _ => rfl, c6, c7, c8, c9, c10, c11, c12, c13, c14, c15, c16, c17, cx, cg⟩
     | 6, _, hd, hk =>
       obtain ⟨fr, HFR, f1, f13, f14, f15⟩ : ∃ fr, Hid (putAll a0 [(67, e0), (68, e1), (69, e2), (70, e3), (71, e4), (72, e5), (73, e6), (74, e7), (75, e8), (76, e9), (77, e10), (78, e11), (79, e12), (80, e13), (81, e14), (82, e15), (83, e16)] = fr) ∧ fr.tmps[1]? = some ((.int .i64 who)) ∧ fr.tmps[13]? = some ((.pointer (some ⟨w3.heap.size, 0, none⟩))) ∧ fr.tmps[14]? = some ((.slice (some ⟨b, off, none⟩) M C)) ∧ fr.tmps[15]? = some ((.int .i64 (j : Int))) := ⟨_, rfl, far_base a0 _ 1 (by rw [hsz]; decide) r1 rfl, far_base a0 _ 13 (by rw [hsz]; decide) r13 rfl, far_base a0 _ 14 (by rw [hsz]; decide) r14 rfl, far_base a0 _ 15 (by rw [hsz]; decide) r15 rfl⟩
       rw [HFR.out]
       apply wpOp_at
       case ho => rfl
       intro K hK
       go_simp
       refine hK _ _ ⟨e0, e1, e2, e3, e4, e5, (.int .i64 who), e7, e8, e9, e10, e11, e12, e13, e14, e15, e16, (by rw [← HFR.out]; exact put_upd 6 rfl HND.out), hB, c0, c1, c2, c3, c4, c5, fun _ => rfl, c7, c8, c9, c10, c11, c12, c13, c14, c15, c16, c17, cx, cg⟩
     | 7, _, hd, hk =>
       have h5 : d 5 = true := hk 5 (by decide +kernel)
       have h6 : d 6 = true := hk 6 (by decide +kernel)
       obtain rfl := c5 h5
       obtain rfl := c6 h6
       obtain ⟨fr, HFR, f72, f73, f1, f13, f14, f15⟩ : ∃ fr, Hid (putAll a0 [(67, e0), (68, e1), (69, e2), (70, e3), (71, e4), (72, (.int .i64 yt)), (73, (.int .i64 who)), (74, e7), (75, e8), (76, e9), (77, e10), (78, e11), (79, e12), (80, e13), (81, e14), (82, e15), (83, e16)] = fr) ∧ fr.tmps[72]? = some ((.int .i64 yt)) ∧ fr.tmps[73]? = some ((.int .i64 who)) ∧ fr.tmps[1]? = some ((.int .i64 who)) ∧ fr.tmps[13]? = some ((.pointer (some ⟨w3.heap.size, 0, none⟩))) ∧ fr.tmps[14]? = some ((.slice (some ⟨b, off, none⟩) M C)) ∧ fr.tmps[15]? = some ((.int .i64 (j : Int))) := ⟨_, rfl, far_get a0 _ 72 (by rw [hsz]; decide), far_get a0 _ 73 (by rw [hsz]; decide), far_base a0 _ 1 (by rw [hsz]; decide) r1 rfl, far_base a0 _ 13 (by rw [hsz]; decide) r13 rfl, far_base a0 _ 14 (by rw [hsz]; decide) r14 rfl, far_base a0 _ 15 (by rw [hsz]; decide) r15 rfl⟩
       rw [HFR.out]
       apply wpOp_at
       case ho => rfl
       intro K hK
       go_simp
       refine hK _ _ ⟨e0, e1, e2, e3, e4, (.int .i64 yt), (.int .i64 who), (.agg #[.int .i64 yt, .int .i64 who]), e8, e9, e10, e11, e12, e13, e14, e15, e16, (by rw [← HFR.out]; exact put_upd 7 rfl HND.out), hB, c0, c1, c2, c3, c4, c5, c6, fun _ => rfl, c8, c9, c10, c11, c12, c13, c14, c15, c16, c17, cx, cg⟩
     | 8, _, hd, hk =>
       obtain ⟨fr, HFR, f1, f13, f14, f15⟩ : ∃ fr, Hid (putAll a0 [(67, e0), (68, e1), (69, e2), (70, e3), (71, e4), (72, e5), (73, e6), (74, e7), (75, e8), (76, e9), (77, e10), (78, e11), (79, e12), (80, e13), (81, e14), (82, e15), (83, e16)] = fr) ∧ fr.tmps[1]? = some ((.int .i64 who)) ∧ fr.tmps[13]? = some ((.pointer (some ⟨w3.heap.size, 0, none⟩))) ∧ fr.tmps[14]? = some ((.slice (some ⟨b, off, none⟩) M C)) ∧ fr.tmps[15]? = some ((.int .i64 (j : Int))) := ⟨_, rfl, far_base a0 _ 1 (by rw [hsz]; decide) r1 rfl, far_base a0 _ 13 (by rw [hsz]; decide) r13 rfl, far_base a0 _ 14 (by rw [hsz]; decide) r14 rfl, far_base a0 _ 15 (by rw [hsz]; decide) r15 rfl⟩
       rw [HFR.out]
       apply wpOp_at
       case ho => rfl
       intro K hK
       go_simp
       refine hK _ _ ⟨e0, e1, e2, e3, e4, e5, e6, e7, (.slice (some ⟨b, off, none⟩) M C), e9, e10, e11, e12, e13, e14, e15, e16, (by rw [← HFR.out]; exact put_upd 8 rfl HND.out), hB, c0, c1, c2, c3, c4, c5, c6, c7, fun _ => rfl, c9, c10, c11, c12, c13, c14, c15, c16, c17, cx, cg⟩
     | 9, _, hd, hk =>
       obtain ⟨fr, HFR, f1, f13, f14, f15⟩ : ∃ fr, Hid (putAll a0 [(67, e0), (68, e1), (69, e2), (70, e3), (71, e4), (72, e5), (73, e6), (74, e7), (75, e8), (76, e9), (77, e10), (78, e11), (79, e12), (80, e13), (81, e14), (82, e15), (83, e16)] = fr) ∧ fr.tmps[1]? = some ((.int .i64 who)) ∧ fr.tmps[13]? = some ((.pointer (some ⟨w3.heap.size, 0, none⟩))) ∧ fr.tmps[14]? = some ((.slice (some ⟨b, off, none⟩) M C)) ∧ fr.tmps[15]? = some ((.int .i64 (j : Int))) := ⟨_, rfl, far_base a0 _ 1 (by rw [hsz]; decide) r1 rfl, far_base a0 _ 13 (by rw [hsz]; decide) r13 rfl, far_base a0 _ 14 (by rw [hsz]; decide) r14 rfl, far_base a0 _ 15 (by rw [hsz]; decide) r15 rfl⟩
       rw [HFR.out]
       apply wpOp_at
       case ho => rfl
       intro K hK
       go_simp
       refine hK _ _ ⟨e0, e1, e2, e3, e4, e5, e6, e7, e8, (.int .i64 (j : Int)), e10, e11, e12, e13, e14, e15, e16, (by rw [← HFR.out]; exact put_upd 9 rfl HND.out), hB, c0, c1, c2, c3, c4, c5, c6, c7, c8, fun _ => rfl, c10, c11, c12, c13, c14, c15, c16, c17, cx, cg⟩
     | 10, _, hd, hk =>
       have h9 : d 9 = true := hk 9 (by decide +kernel)
       obtain rfl := c9 h9
       obtain ⟨fr, HFR, f76, f1, f13, f14, f15⟩ : ∃ fr, Hid (putAll a0 [(67, e0), (68, e1), (69, e2), (70, e3), (71, e4), (72, e5), (73, e6), (74, e7), (75, e8), (76, (.int .i64 (j : Int))), (77, e10), (78, e11), (79, e12), (80, e13), (81, e14), (82, e15), (83, e16)] = fr) ∧ fr.tmps[76]? = some ((.int .i64 (j : Int))) ∧ fr.tmps[1]? = some ((.int .i64 who)) ∧ fr.tmps[13]? = some ((.pointer (some ⟨w3.heap.size, 0, none⟩))) ∧ fr.tmps[14]? = some ((.slice (some ⟨b, off, none⟩) M C)) ∧ fr.tmps[15]? = some ((.int .i64 (j : Int))) := ⟨_, rfl, far_get a0 _ 76 (by rw [hsz]; decide), far_base a0 _ 1 (by rw [hsz]; decide) r1 rfl, far_base a0 _ 13 (by rw [hsz]; decide) r13 rfl, far_base a0 _ 14 (by rw [hsz]; decide) r14 rfl, far_base a0 _ 15 (by rw [hsz]; decide) r15 rfl⟩
       rw [HFR.out]
       apply wpOp_at
       case ho => rfl
       intro K hK
       go_simp
       refine hK _ _ ⟨e0, e1, e2, e3, e4, e5, e6, e7, e8, (.int .i64 (j : Int)), (.int .i64 (J : Int)), e11, e12, e13, e14, e15, e16, (by rw [← HFR.out]; exact put_upd 10 rfl HND.out), hB, c0, c1, c2, c3, c4, c5, c6, c7, c8, c9, fun _ => rfl, c11, c12, c13, c14, c15, c16, c17, cx, cg⟩
     | 11, _, hd, hk =>
       have h8 : d 8 = true := hk 8 (by decide +kernel)
       have h10 : d 10 = true := hk 10 (by decide +kernel)
       obtain rfl := c8 h8
       obtain rfl := c10 h10
       obtain ⟨fr, HFR, f75, f77, f1, f13, f14, f15⟩ : ∃ fr, Hid (putAll a0 [(67, e0), (68, e1), (69, e2), (70, e3), (71, e4), (72, e5), (73, e6), (74, e7), (75, (.slice (some ⟨b, off, none⟩) M C)), (76, e9), (77, (.int .i64 (J : Int))), (78, e11), (79, e12), (80, e13), (81, e14), (82, e15), (83, e16)] = fr) ∧ fr.tmps[75]? = some ((.slice (some ⟨b, off, none⟩) M C)) ∧ fr.tmps[77]? = some ((.int .i64 (J : Int))) ∧ fr.tmps[1]? = some ((.int .i64 who)) ∧ fr.tmps[13]? = some ((.pointer (some ⟨w3.heap.size, 0, none⟩))) ∧ fr.tmps[14]? = some ((.slice (some ⟨b, off, none⟩) M C)) ∧ fr.tmps[15]? = some ((.int .i64 (j : Int))) := ⟨_, rfl, far_get a0 _ 75 (by rw [hsz]; decide), far_get a0 _ 77 (by rw [hsz]; decide), far_base a0 _ 1 (by rw [hsz]; decide) r1 rfl, far_base a0 _ 13 (by rw [hsz]; decide) r13 rfl, far_base a0 _ 14 (by rw [hsz]; decide) r14 rfl, far_base a0 _ 15 (by rw [hsz]; decide) r15 rfl⟩
       rw [HFR.out]
       apply wpOp_at
       case ho => rfl
       intro K hK
       go_simp
       refine hK _ _ ⟨e0, e1, e2, e3, e4, e5, e6, e7, (.slice (some ⟨b, off, none⟩) M C), e9, (.int .i64 (J : Int)), (.pointer (some ⟨b, off + J, none⟩)), e12, e13, e14, e15, e16, (by rw [← HFR.out]; exact put_upd 11 rfl HND.out), hB, c0, c1, c2, c3, c4, c5, c6, c7, c8, c9, c10, fun _ => rfl, c12, c13, c14, c15, c16, c17, cx, cg⟩
     | 12, _, hd, hk =>
       have h11 : d 11 = true := hk 11 (by decide +kernel)
       obtain rfl := c11 h11
       have z0 := cg.cell_of V1.out hbG
       obtain ⟨fr, HFR, f78, f1, f13, f14, f15⟩ : ∃ fr, Hid (putAll a0 [(67, e0), (68, e1), (69, e2), (70, e3), (71, e4), (72, e5), (73, e6), (74, e7), (75, e8), (76, e9), (77, e10), (78, (.pointer (some ⟨b, off + J, none⟩))), (79, e12), (80, e13), (81, e14), (82, e15), (83, e16)] = fr) ∧ fr.tmps[78]? = some ((.pointer (some ⟨b, off + J, none⟩))) ∧ fr.tmps[1]? = some ((.int .i64 who)) ∧ fr.tmps[13]? = some ((.pointer (some ⟨w3.heap.size, 0, none⟩))) ∧ fr.tmps[14]? = some ((.slice (some ⟨b, off, none⟩) M C)) ∧ fr.tmps[15]? = some ((.int .i64 (j : Int))) := ⟨_, rfl, far_get a0 _ 78 (by rw [hsz]; decide), far_base a0 _ 1 (by rw [hsz]; decide) r1 rfl, far_base a0 _ 13 (by rw [hsz]; decide) r13 rfl, far_base a0 _ 14 (by rw [hsz]; decide) r14 rfl, far_base a0 _ 15 (by rw [hsz]; decide) r15 rfl⟩
       rw [HFR.out]
       apply wpOp_at
       case ho => rfl
       intro K hK
       go_simp
       refine hK _ _ ⟨e0, e1, e2, e3, e4, e5, e6, e7, e8, e9, e10, (.pointer (some ⟨b, off + J, none⟩)), (.int .i64 ym), e13, e14, e15, e16, (by rw [← HFR.out]; exact put_upd 12 rfl HND.out), hB, c0, c1, c2, c3, c4, c5, c6, c7, c8, c9, c10, c11, fun _ => rfl, c13, c14, c15, c16, c17, cx, cg⟩
     | 13, _, hd, hk =>
       have h7 : d 7 = true := hk 7 (by decide +kernel)
       have h12 : d 12 = true := hk 12 (by decide +kernel)
       obtain rfl := c7 h7
       obtain rfl := c12 h12
       obtain ⟨fr, HFR, f74, f79, f1, f13, f14, f15⟩ : ∃ fr, Hid (putAll a0 [(67, e0), (68, e1), (69, e2), (70, e3), (71, e4), (72, e5), (73, e6), (74, (.agg #[.int .i64 yt, .int .i64 who])), (75, e8), (76, e9), (77, e10), (78, e11), (79, (.int .i64 ym)), (80, e13), (81, e14), (82, e15), (83, e16)] = fr) ∧ fr.tmps[74]? = some ((.agg #[.int .i64 yt, .int .i64 who])) ∧ fr.tmps[79]? = some ((.int .i64 ym)) ∧ fr.tmps[1]? = some ((.int .i64 who)) ∧ fr.tmps[13]? = some ((.pointer (some ⟨w3.heap.size, 0, none⟩))) ∧ fr.tmps[14]? = some ((.slice (some ⟨b, off, none⟩) M C)) ∧ fr.tmps[15]? = some ((.int .i64 (j : Int))) := ⟨_, rfl, far_get a0 _ 74 (by rw [hsz]; decide), far_get a0 _ 79 (by rw [hsz]; decide), far_base a0 _ 1 (by rw [hsz]; decide) r1 rfl, far_base a0 _ 13 (by rw [hsz]; decide) r13 rfl, far_base a0 _ 14 (by rw [hsz]; decide) r14 rfl, far_base a0 _ 15 (by rw [hsz]; decide) r15 rfl⟩
       rw [HFR.out]
       apply wpOp_at
       case ho => rfl
       intro K hK
       go_simp
       refine hK _ _ ⟨e0, e1, e2, e3, e4, e5, e6, (.agg #[.int .i64 yt, .int .i64 who]), e8, e9, e10, e11, (.int .i64 ym), (.agg #[.int .i64 yt, .int .i64 who, .int .i64 ym]), e14, e15, e16, (by rw [← HFR.out]; exact put_upd 13 rfl HND.out), hB, c0, c1, c2, c3, c4, c5, c6, c7, c8, c9, c10, c11, c12, fun _ => rfl, c14, c15, c16, c17, cx, cg⟩
     | 14, _, hd, hk =>
       have h13 : d 13 = true := hk 13 (by decide +kernel)
       obtain rfl := c13 h13
       have hb := below_box w' (.cells #[.int .i64 yt, .int .i64 who, .int .i64 ym] 67)
       obtain ⟨fr, HFR, f80, f1, f13, f14, f15⟩ : ∃ fr, Hid (putAll a0 [(67, e0), (68, e1), (69, e2), (70, e3), (71, e4), (72, e5), (73, e6), (74, e7), (75, e8), (76, e9), (77, e10), (78, e11), (79, e12), (80, (.agg #[.int .i64 yt, .int .i64 who, .int .i64 ym])), (81, e14), (82, e15), (83, e16)] = fr) ∧ fr.tmps[80]? = some ((.agg #[.int .i64 yt, .int .i64 who, .int .i64 ym])) ∧ fr.tmps[1]? = some ((.int .i64 who)) ∧ fr.tmps[13]? = some ((.pointer (some ⟨w3.heap.size, 0, none⟩))) ∧ fr.tmps[14]? = some ((.slice (some ⟨b, off, none⟩) M C)) ∧ fr.tmps[15]? = some ((.int .i64 (j : Int))) := ⟨_, rfl, far_get a0 _ 80 (by rw [hsz]; decide), far_base a0 _ 1 (by rw [hsz]; decide) r1 rfl, far_base a0 _ 13 (by rw [hsz]; decide) r13 rfl, far_base a0 _ 14 (by rw [hsz]; decide) r14 rfl, far_base a0 _ 15 (by rw [hsz]; decide) r15 rfl⟩
       rw [HFR.out]
       apply wpOp_at
       case ho => rfl
       intro K hK
       go_simp
       refine hK _ _ ⟨e0, e1, e2, e3, e4, e5, e6, e7, e8, e9, e10, e11, e12, (.agg #[.int .i64 yt, .int .i64 who, .int .i64 ym]), .slice (some ⟨w'.heap.size, 0, none⟩) 1 1, e15, e16, (by rw [← HFR.out]; exact put_upd 14 rfl HND.out), hB.trans (hb.mono hB.size), c0, c1, c2, c3, c4, c5, c6, c7, c8, c9, c10, c11, c12, c13, fun _ => fun _ => ⟨_, rfl, Whole.made w' _ _⟩, fun h => Bool.noConfusion (hd.symm.trans (c15 h).2.1), c16, fun h => Bool.noConfusion (hd.symm.trans (c15 (c17 h).1).2.1), fun h => ⟨(cx h).1.alloc _, own_later (cx h).2 hb⟩, cg.next hb⟩
     | 15, _, hd, hk =>
       have h1 : d 1 = true := hk 1 (by decide +kernel)
       have h14 : d 14 = true := hk 14 (by decide +kernel)
       have e1' := (c1 h1).symm
       subst e1'
       obtain ⟨g, rfl, hw⟩ := c14 h14 hd
       obtain ⟨A9, C9, w9, hrun, q1, q2, q3⟩ := req_push_at HEk.out (cx hd).2 hw HkM.out cg.size
       obtain ⟨hfine, happV, happW⟩ := fine_of hrun
       have hX9 := (q3.whole (cx hd).1 (own_not (cx hd).2 hG)).1
       clear hrun
       obtain ⟨fr, HFR, f68, f81, f1, f13, f14, f15⟩ : ∃ fr, Hid (putAll a0 [(67, e0), (68, sv), (69, e2), (70, e3), (71, e4), (72, e5), (73, e6), (74, e7), (75, e8), (76, e9), (77, e10), (78, e11), (79, e12), (80, e13), (81, .slice (some ⟨g, 0, none⟩) 1 1), (82, e15), (83, e16)] = fr) ∧ fr.tmps[68]? = some (sv) ∧ fr.tmps[81]? = some (.slice (some ⟨g, 0, none⟩) 1 1) ∧ fr.tmps[1]? = some ((.int .i64 who)) ∧ fr.tmps[13]? = some ((.pointer (some ⟨w3.heap.size, 0, none⟩))) ∧ fr.tmps[14]? = some ((.slice (some ⟨b, off, none⟩) M C)) ∧ fr.tmps[15]? = some ((.int .i64 (j : Int))) := ⟨_, rfl, far_get a0 _ 68 (by rw [hsz]; decide), far_get a0 _ 81 (by rw [hsz]; decide), far_base a0 _ 1 (by rw [hsz]; decide) r1 rfl, far_base a0 _ 13 (by rw [hsz]; decide) r13 rfl, far_base a0 _ 14 (by rw [hsz]; decide) r14 rfl, far_base a0 _ 15 (by rw [hsz]; decide) r15 rfl⟩
       rw [HFR.out]
       apply wpOp_at
       case ho => rfl
       intro K hK
       go_simp
       refine hK _ _ ⟨e0, sv, e2, e3, e4, e5, e6, e7, e8, e9, e10, e11, e12, e13, .slice (some ⟨g, 0, none⟩) 1 1, .slice A9 (k + 1) C9, e16, (by rw [← HFR.out]; exact put_upd 15 rfl HND.out), hB.trans (q2.mono (Nat.le_of_lt hG)), c0, c1, c2, c3, c4, c5, c6, c7, c8, c9, c10, c11, c12, c13, fun _ h => Bool.noConfusion (show true = false from h), fun _ => ⟨h1, h14, fun _ => ⟨A9, C9, rfl, hX9, q1⟩⟩, c16, fun h => absurd ((c17 h).1.symm.trans hd) (by decide), fun h => Bool.noConfusion (show true = false from h), cg.grown q2⟩
     | 16, _, hd, hk =>
       obtain ⟨fr, HFR, f1, f13, f14, f15⟩ : ∃ fr, Hid (putAll a0 [(67, e0), (68, e1), (69, e2), (70, e3), (71, e4), (72, e5), (73, e6), (74, e7), (75, e8), (76, e9), (77, e10), (78, e11), (79, e12), (80, e13), (81, e14), (82, e15), (83, e16)] = fr) ∧ fr.tmps[1]? = some ((.int .i64 who)) ∧ fr.tmps[13]? = some ((.pointer (some ⟨w3.heap.size, 0, none⟩))) ∧ fr.tmps[14]? = some ((.slice (some ⟨b, off, none⟩) M C)) ∧ fr.tmps[15]? = some ((.int .i64 (j : Int))) := ⟨_, rfl, far_base a0 _ 1 (by rw [hsz]; decide) r1 rfl, far_base a0 _ 13 (by rw [hsz]; decide) r13 rfl, far_base a0 _ 14 (by rw [hsz]; decide) r14 rfl, far_base a0 _ 15 (by rw [hsz]; decide) r15 rfl⟩
       rw [HFR.out]
       apply wpOp_at
       case ho => rfl
       intro K hK
       go_simp
       refine hK _ _ ⟨e0, e1, e2, e3, e4, e5, e6, e7, e8, e9, e10, e11, e12, e13, e14, e15, (.pointer (some ⟨w3.heap.size, 2, none⟩)), (by rw [← HFR.out]; exact put_upd 16 rfl HND.out), hB, c0, c1, c2, c3, c4, c5, c6, c7, c8, c9, c10, c11, c12, c13, c14, c15, fun _ => rfl, c17, cx, cg⟩
     | 17, _, hd, hk =>
       have h15 : d 15 = true := hk 15 (by decide +kernel)
       have h16 : d 16 = true := hk 16 (by decide +kernel)
       obtain rfl := c16 h16
       have e1' := (c1 (c15 h15).1).symm
       subst e1'
       obtain ⟨A9, C9, rfl, hX, hO⟩ := (c15 h15).2.2 hd
       have M10 := hX.cell 2
       have y10 := hX.free 2
       have hS := bk_set2 (u := .slice A9 (k + 1) C9) hX
       have hOs := own_low hO (p := ⟨w3.heap.size, 2, none⟩) hG (.slice A9 (k + 1) C9)
       have hlg := hX.lt
       obtain ⟨fr, HFR, f82, f83, f1, f13, f14, f15⟩ : ∃ fr, Hid (putAll a0 [(67, e0), (68, sv), (69, e2), (70, e3), (71, e4), (72, e5), (73, e6), (74, e7), (75, e8), (76, e9), (77, e10), (78, e11), (79, e12), (80, e13), (81, e14), (82, .slice A9 (k + 1) C9), (83, (.pointer (some ⟨w3.heap.size, 2, none⟩)))] = fr) ∧ fr.tmps[82]? = some (.slice A9 (k + 1) C9) ∧ fr.tmps[83]? = some ((.pointer (some ⟨w3.heap.size, 2, none⟩))) ∧ fr.tmps[1]? = some ((.int .i64 who)) ∧ fr.tmps[13]? = some ((.pointer (some ⟨w3.heap.size, 0, none⟩))) ∧ fr.tmps[14]? = some ((.slice (some ⟨b, off, none⟩) M C)) ∧ fr.tmps[15]? = some ((.int .i64 (j : Int))) := ⟨_, rfl, far_get a0 _ 82 (by rw [hsz]; decide), far_get a0 _ 83 (by rw [hsz]; decide), far_base a0 _ 1 (by rw [hsz]; decide) r1 rfl, far_base a0 _ 13 (by rw [hsz]; decide) r13 rfl, far_base a0 _ 14 (by rw [hsz]; decide) r14 rfl, far_base a0 _ 15 (by rw [hsz]; decide) r15 rfl⟩
       rw [HFR.out]
       apply wpOp_at
       case ho => rfl
       intro K hK
       go_simp
       refine hK _ _ ⟨e0, sv, e2, e3, e4, e5, e6, e7, e8, e9, e10, e11, e12, e13, e14, .slice A9 (k + 1) C9, (.pointer (some ⟨w3.heap.size, 2, none⟩)), HFR.out.symm, hB.setCell (p := ⟨w3.heap.size, 2, none⟩) (Nat.le_refl _) _, c0, c1, c2, c3, c4, c5, c6, c7, c8, c9, c10, c11, c12, c13, fun _ h => absurd (h15.symm.trans h) (by decide), fun _ => ⟨(c15 h15).1, (c15 h15).2.1, fun h => Bool.noConfusion (show true = false from h)⟩, c16, fun _ => ⟨h15, A9, C9, rfl, hS, hOs⟩, fun h => absurd (h15.symm.trans h) (by decide), cg.set 2 _⟩
     | k + 18, hi, _, _ => exact absurd hi (by simp)
    case ends =>
     intro d a' w' hJ hall
     obtain ⟨e0, e1, e2, e3, e4, e5, e6, e7, e8, e9, e10, e11, e12, e13, e14, e15, e16, rfl, hB, c0, c1, c2, c3, c4, c5, c6, c7, c8, c9, c10, c11, c12, c13, c14, c15, c16, c17, cx, cg⟩ := hJ
     have ha0 := Ha0.out
     subst ha0
     clear Ha0 HND hsz r1 r13 r14 r15
     obtain ⟨h15, A9, C9, rfl, hX, hO⟩ := c17 (hall 17 (by decide +kernel))
     have HgE := Lib.hid cg
     have HXe := Lib.hid hX
     have HOe := Lib.hid hO
     clear c0 c1 c2 c3 c4 c5 c6 c7 c8 c9 c10 c11 c12 c13 c14 c15 c16 c17 cx cg hall hB hX hO h15
     simp only [putAll, Act.put, qA, qB, qC]
     go_wp2_with fail
     go_roundw
     case rel => exact ⟨k + 1, j + 2, _, hkL, two_up Hj.out, by go_num, HgE.out, HXe.out, HOe.out⟩
     case measure => exact measure_two hjM
  · obtain rfl : k = L := Nat.le_antisymm hk (Nat.not_lt.1 hkL)
    obtain rfl : j = M := Hj.out.symm.trans HM.out
    go_wp2_with fail
    exact Hexit.out _ _ _ _ _ _ _ _ _ _ _ _ _ _ _ _ _ _ _ _ _ _ _ _ _ HBG HXr HO
end Go.Proofs.YtnkgakhnlbifdaaGreat
