/- Parts, as far as BookTakesCards reaches them, of: RefBookLoop2. No law is proved here. -/
import Derived.Test.YtnkgakhnlbifdaaGreatTb5
import Derived.Test.YtnkgakhnlbifdaaGreatTb6
import Derived.Test.YtnkgakhnlbifdaaGreatTb7
import Derived.IntWalk
import Derived.BigRegion
import Derived.WalkSmall
import Derived.Test.YtnkgakhnlbifdaaGreatTbQ
namespace Go.Proofs.YtnkgakhnlbifdaaGreat
open Go.RowKit
attribute [local go_sem ↓] run_fine
set_option maxRecDepth 1000000 in
set_option maxHeartbeats 16000000 in
theorem ktake_loop2 (L M G6 G8 : Nat) (who : Int) (x : Bk) (rv lv nv tv uv iv : Value) (E : List Rq) (ls : List Nat) (A : Option Addr) (C : Nat) (w3 wr0 : World)
 (hL : L ≤ 40) (HM : Hid (2 * L = M)) (hlen : ls.length = M) (HN : Hid (Nums wr0 (.slice A M C) (ls.map fun v : Nat => (v : Int)))) (HA : Hid (∀ ad, A = some ad → ad.block ≠ w3.heap.size))
 (HE : Hid (∀ i, i < L → rqAt E i = ⟨((ls[2 * i]?.getD 0 : Nat) : Int), who, ((ls[2 * i + 1]?.getD 0 : Nat) : Int)⟩)) (HZ8 : Hid (Whole wr0 G8 37 (bkCells bk0 (.slice none 0 0) (.slice none 0 0) (.slice none 0 0) (.slice none 0 0) (.slice none 0 0) (.slice none 0 0) (.slice none 0 0)))) (HZ6 : Hid (Whole wr0 G6 37 (bkCells bk0 (.slice none 0 0) (.slice none 0 0) (.slice none 0 0) (.slice none 0 0) (.slice none 0 0) (.slice none 0 0) (.slice none 0 0)))) (h8 : G8 ≠ w3.heap.size) (h6 : G6 ≠ w3.heap.size) (hG : w3.heap.size < wr0.heap.size) (Hb0 : Hid (Below w3.heap.size w3 wr0))
 (Q0 : Exit → Act → World → Prop) (s0 s2 s3 s4 s5 s9 s10 s11 s12 s15 s17 s18 s19 s20 s21 s22 s23 s24 s25 s26 s27 s28 s29 s30 s31 s32 s33 s34 s35 s36 s37 s38 s39 s40 s41 s42 s43 s44 s45 s46 s47 s48 s49 s50 s51 s52 s53 s54 s55 s56 s57 s58 s59 s60 s61 s62 s63 s64 s65 s66 s67 s68 s69 s70 s71 s72 s73 s74 s75 s76 s77 s78 s79 s80 s81 s82 s83 s84 s85 s86 s87 s88 s89 s90 s91 s92 s93 s94 s95 s126 s127 s128 s129 s130 s131 s132 s133 s134 s135 s136 s137 s138 s139 s140 s141 s142 s143 s144 s145 s146 s147 s148 s149 s150 s151 s152 s153 s154 s155 s156 s157 s158 s159 s160 s161 s162 s163 s164 s165 s166 s167 s168 s169 s170 s171 s172 s173 s174 s175 s176 s177 s178 s179 s180 s181 s182 s183 s184 s185 s186 s187 s188 s189 s190 s191 s192 s193 s194 s195 s196 s197 s198 s199 s200 s201 s202 s203 s204 s205 s206 s207 s208 s209 s210 s211 s212 s213 s214 s215 s216 s217 s218 s219 s220 s221 s222 s223 s224 s225 s226 s227 s228 s229 s230 s231 s232 s233 s234 s235 s236 s237 s238 s239 s240 s241 s242 s243 s244 s245 s246 s247 s248 s249 s250 s251 s252 s253 s254 s255 s256 s257 s258 s259 s260 s261 s262 s263 s264 s265 s266 s267 s268 s269 s270 s271 s272 s273 s274 s275 s276 s277 s278 s279 s280 s281 s282 s283 s284 s285 s286 s287 s288 s289 s290 s291 s292 s293 s294 s295 s296 s297 s298 s299 s300 s301 s302 s303 s304 s305 s306 s307 s308 s309 s310 s311 s312 s313 : Value) (u7 u96 u97 u98 u99 u100 u101 u102 u103 u104 u105 u106 u107 u108 u109 u110 u111 u112 u113 u114 u115 u116 u117 u118 u119 u120 u121 u122 u123 u124 u125 : Value)
 (hexit : ∀ (wr : World) (sv v7 v96 v97 v98 v99 v100 v101 v102 v103 v104 v105 v106 v107 v108 v109 v110 v111 v112 v113 v114 v115 v116 v117 v118 v119 v120 v121 v122 v123 v124 v125 : Value), Hid (ButG w3.heap.size wr0 wr) → Hid (Whole wr w3.heap.size 37 (bkCells x rv lv sv nv tv uv iv)) → Hid (wr.ownsRow wr0.heap.size 69 3 sv L (flatCells 3 L (fun i j => rqc (rqAt E i) j))) → Q0 (.exit 2) ⟨(s0 :: (.int .i64 who) :: s2 :: s3 :: s4 :: s5 :: (.pointer (some ⟨G6, 0, none⟩)) :: v7 :: (.pointer (some ⟨G8, 0, none⟩)) :: s9 :: s10 :: s11 :: s12 :: (.pointer (some ⟨w3.heap.size, 0, none⟩)) :: (.slice A M C) :: s15 :: (.int .i64 (M : Int)) :: s17 :: s18 :: s19 :: s20 :: s21 :: s22 :: s23 :: s24 :: s25 :: s26 :: s27 :: s28 :: s29 :: s30 :: s31 :: s32 :: s33 :: s34 :: s35 :: s36 :: s37 :: s38 :: s39 :: s40 :: s41 :: s42 :: s43 :: s44 :: s45 :: s46 :: s47 :: s48 :: s49 :: s50 :: s51 :: s52 :: s53 :: s54 :: s55 :: s56 :: s57 :: s58 :: s59 :: s60 :: s61 :: s62 :: s63 :: s64 :: s65 :: s66 :: s67 :: s68 :: s69 :: s70 :: s71 :: s72 :: s73 :: s74 :: s75 :: s76 :: s77 :: s78 :: s79 :: s80 :: s81 :: s82 :: s83 :: s84 :: s85 :: s86 :: s87 :: s88 :: s89 :: s90 :: s91 :: s92 :: s93 :: s94 :: s95 :: v96 :: v97 :: v98 :: v99 :: v100 :: v101 :: v102 :: v103 :: v104 :: v105 :: v106 :: v107 :: v108 :: v109 :: v110 :: v111 :: v112 :: v113 :: v114 :: v115 :: v116 :: v117 :: v118 :: v119 :: v120 :: v121 :: v122 :: v123 :: v124 :: v125 :: s126 :: s127 :: s128 :: s129 :: s130 :: s131 :: s132 :: s133 :: s134 :: s135 :: s136 :: s137 :: s138 :: s139 :: s140 :: s141 :: s142 :: s143 :: s144 :: s145 :: s146 :: s147 :: s148 :: s149 :: s150 :: s151 :: s152 :: s153 :: s154 :: s155 :: s156 :: s157 :: s158 :: s159 :: s160 :: s161 :: s162 :: s163 :: s164 :: s165 :: s166 :: s167 :: s168 :: s169 :: s170 :: s171 :: s172 :: s173 :: s174 :: s175 :: s176 :: s177 :: s178 :: s179 :: s180 :: s181 :: s182 :: s183 :: s184 :: s185 :: s186 :: s187 :: s188 :: s189 :: s190 :: s191 :: s192 :: s193 :: s194 :: s195 :: s196 :: s197 :: s198 :: s199 :: s200 :: s201 :: s202 :: s203 :: s204 :: s205 :: s206 :: s207 :: s208 :: s209 :: s210 :: s211 :: s212 :: s213 :: s214 :: s215 :: s216 :: s217 :: s218 :: s219 :: s220 :: s221 :: s222 :: s223 :: s224 :: s225 :: s226 :: s227 :: s228 :: s229 :: s230 :: s231 :: s232 :: s233 :: s234 :: s235 :: s236 :: s237 :: s238 :: s239 :: s240 :: s241 :: s242 :: s243 :: s244 :: s245 :: s246 :: s247 :: s248 :: s249 :: s250 :: s251 :: s252 :: s253 :: s254 :: s255 :: s256 :: s257 :: s258 :: s259 :: s260 :: s261 :: s262 :: s263 :: s264 :: s265 :: s266 :: s267 :: s268 :: s269 :: s270 :: s271 :: s272 :: s273 :: s274 :: s275 :: s276 :: s277 :: s278 :: s279 :: s280 :: s281 :: s282 :: s283 :: s284 :: s285 :: s286 :: s287 :: s288 :: s289 :: s290 :: s291 :: s292 :: s293 :: s294 :: s295 :: s296 :: s297 :: s298 :: s299 :: s300 :: s301 :: s302 :: s303 :: s304 :: s305 :: s306 :: s307 :: s308 :: s309 :: s310 :: s311 :: s312 :: s313 :: []).toArray, []⟩ wr)
 (hret : ∀ (wr : World) (i : Nat) (v16 v96 v97 v98 v99 v100 v101 v102 v103 v104 v105 v106 v107 v108 v109 v110 v111 v112 v113 v114 v115 v116 v117 v118 v119 v120 v121 v122 v123 v124 v125 : Value), Hid (i < L) → Hid (99 < ls[2 * i + 1]?.getD 0) → Hid (ButG w3.heap.size wr0 wr) → Q0 .ret ⟨(s0 :: (.int .i64 who) :: s2 :: s3 :: s4 :: s5 :: (.pointer (some ⟨G6, 0, none⟩)) :: (.bool false) :: (.pointer (some ⟨G8, 0, none⟩)) :: s9 :: s10 :: s11 :: s12 :: (.pointer (some ⟨w3.heap.size, 0, none⟩)) :: (.slice A M C) :: s15 :: v16 :: s17 :: s18 :: s19 :: s20 :: s21 :: s22 :: s23 :: s24 :: s25 :: s26 :: s27 :: s28 :: s29 :: s30 :: s31 :: s32 :: s33 :: s34 :: s35 :: s36 :: s37 :: s38 :: s39 :: s40 :: s41 :: s42 :: s43 :: s44 :: s45 :: s46 :: s47 :: s48 :: s49 :: s50 :: s51 :: s52 :: s53 :: s54 :: s55 :: s56 :: s57 :: s58 :: s59 :: s60 :: s61 :: s62 :: s63 :: s64 :: s65 :: s66 :: s67 :: s68 :: s69 :: s70 :: s71 :: s72 :: s73 :: s74 :: s75 :: s76 :: s77 :: s78 :: s79 :: s80 :: s81 :: s82 :: s83 :: s84 :: s85 :: s86 :: s87 :: s88 :: s89 :: s90 :: s91 :: s92 :: s93 :: s94 :: s95 :: v96 :: v97 :: v98 :: v99 :: v100 :: v101 :: v102 :: v103 :: v104 :: v105 :: v106 :: v107 :: v108 :: v109 :: v110 :: v111 :: v112 :: v113 :: v114 :: v115 :: v116 :: v117 :: v118 :: v119 :: v120 :: v121 :: v122 :: v123 :: v124 :: v125 :: s126 :: s127 :: s128 :: s129 :: s130 :: s131 :: s132 :: s133 :: s134 :: s135 :: s136 :: s137 :: s138 :: s139 :: s140 :: s141 :: s142 :: s143 :: s144 :: s145 :: s146 :: s147 :: s148 :: s149 :: s150 :: s151 :: s152 :: s153 :: s154 :: s155 :: s156 :: s157 :: s158 :: s159 :: s160 :: s161 :: s162 :: s163 :: s164 :: s165 :: s166 :: s167 :: s168 :: s169 :: s170 :: s171 :: s172 :: s173 :: s174 :: s175 :: s176 :: s177 :: s178 :: s179 :: s180 :: s181 :: s182 :: s183 :: s184 :: s185 :: s186 :: s187 :: s188 :: s189 :: s190 :: s191 :: s192 :: s193 :: s194 :: s195 :: s196 :: s197 :: s198 :: s199 :: s200 :: s201 :: s202 :: s203 :: s204 :: s205 :: s206 :: s207 :: s208 :: s209 :: s210 :: s211 :: s212 :: s213 :: s214 :: s215 :: s216 :: s217 :: s218 :: s219 :: s220 :: s221 :: s222 :: s223 :: s224 :: s225 :: s226 :: s227 :: s228 :: s229 :: s230 :: s231 :: s232 :: s233 :: s234 :: s235 :: s236 :: s237 :: s238 :: s239 :: s240 :: s241 :: s242 :: s243 :: s244 :: s245 :: s246 :: s247 :: s248 :: s249 :: s250 :: s251 :: s252 :: s253 :: s254 :: s255 :: s256 :: s257 :: s258 :: s259 :: s260 :: s261 :: s262 :: s263 :: s264 :: s265 :: s266 :: s267 :: s268 :: s269 :: s270 :: s271 :: s272 :: s273 :: s274 :: s275 :: s276 :: s277 :: s278 :: s279 :: s280 :: s281 :: s282 :: s283 :: s284 :: s285 :: s286 :: s287 :: s288 :: s289 :: s290 :: s291 :: s292 :: s293 :: s294 :: s295 :: s296 :: s297 :: s298 :: s299 :: s300 :: s301 :: s302 :: s303 :: s304 :: s305 :: s306 :: s307 :: s308 :: s309 :: s310 :: s311 :: s312 :: s313 :: []).toArray, []⟩ (bk12 wr G6 bk0 (.slice none 0 0) (.slice none 0 0) (.slice none 0 0) (.slice none 0 0) (.slice none 0 0) (.slice none 0 0) (.slice none 0 0)))
 (HX0 : Hid (Whole wr0 w3.heap.size 37 (bkCells x rv lv (.slice none 0 0) nv tv uv iv))) :
 Code.wp Tryz.prog (Code.loop (ktakeBody 1)) Q0 ⟨(s0 :: (.int .i64 who) :: s2 :: s3 :: s4 :: s5 :: (.pointer (some ⟨G6, 0, none⟩)) :: u7 :: (.pointer (some ⟨G8, 0, none⟩)) :: s9 :: s10 :: s11 :: s12 :: (.pointer (some ⟨w3.heap.size, 0, none⟩)) :: (.slice A M C) :: s15 :: (.int .i64 0) :: s17 :: s18 :: s19 :: s20 :: s21 :: s22 :: s23 :: s24 :: s25 :: s26 :: s27 :: s28 :: s29 :: s30 :: s31 :: s32 :: s33 :: s34 :: s35 :: s36 :: s37 :: s38 :: s39 :: s40 :: s41 :: s42 :: s43 :: s44 :: s45 :: s46 :: s47 :: s48 :: s49 :: s50 :: s51 :: s52 :: s53 :: s54 :: s55 :: s56 :: s57 :: s58 :: s59 :: s60 :: s61 :: s62 :: s63 :: s64 :: s65 :: s66 :: s67 :: s68 :: s69 :: s70 :: s71 :: s72 :: s73 :: s74 :: s75 :: s76 :: s77 :: s78 :: s79 :: s80 :: s81 :: s82 :: s83 :: s84 :: s85 :: s86 :: s87 :: s88 :: s89 :: s90 :: s91 :: s92 :: s93 :: s94 :: s95 :: u96 :: u97 :: u98 :: u99 :: u100 :: u101 :: u102 :: u103 :: u104 :: u105 :: u106 :: u107 :: u108 :: u109 :: u110 :: u111 :: u112 :: u113 :: u114 :: u115 :: u116 :: u117 :: u118 :: u119 :: u120 :: u121 :: u122 :: u123 :: u124 :: u125 :: s126 :: s127 :: s128 :: s129 :: s130 :: s131 :: s132 :: s133 :: s134 :: s135 :: s136 :: s137 :: s138 :: s139 :: s140 :: s141 :: s142 :: s143 :: s144 :: s145 :: s146 :: s147 :: s148 :: s149 :: s150 :: s151 :: s152 :: s153 :: s154 :: s155 :: s156 :: s157 :: s158 :: s159 :: s160 :: s161 :: s162 :: s163 :: s164 :: s165 :: s166 :: s167 :: s168 :: s169 :: s170 :: s171 :: s172 :: s173 :: s174 :: s175 :: s176 :: s177 :: s178 :: s179 :: s180 :: s181 :: s182 :: s183 :: s184 :: s185 :: s186 :: s187 :: s188 :: s189 :: s190 :: s191 :: s192 :: s193 :: s194 :: s195 :: s196 :: s197 :: s198 :: s199 :: s200 :: s201 :: s202 :: s203 :: s204 :: s205 :: s206 :: s207 :: s208 :: s209 :: s210 :: s211 :: s212 :: s213 :: s214 :: s215 :: s216 :: s217 :: s218 :: s219 :: s220 :: s221 :: s222 :: s223 :: s224 :: s225 :: s226 :: s227 :: s228 :: s229 :: s230 :: s231 :: s232 :: s233 :: s234 :: s235 :: s236 :: s237 :: s238 :: s239 :: s240 :: s241 :: s242 :: s243 :: s244 :: s245 :: s246 :: s247 :: s248 :: s249 :: s250 :: s251 :: s252 :: s253 :: s254 :: s255 :: s256 :: s257 :: s258 :: s259 :: s260 :: s261 :: s262 :: s263 :: s264 :: s265 :: s266 :: s267 :: s268 :: s269 :: s270 :: s271 :: s272 :: s273 :: s274 :: s275 :: s276 :: s277 :: s278 :: s279 :: s280 :: s281 :: s282 :: s283 :: s284 :: s285 :: s286 :: s287 :: s288 :: s289 :: s290 :: s291 :: s292 :: s293 :: s294 :: s295 :: s296 :: s297 :: s298 :: s299 :: s300 :: s301 :: s302 :: s303 :: s304 :: s305 :: s306 :: s307 :: s308 :: s309 :: s310 :: s311 :: s312 :: s313 :: []).toArray, []⟩ wr0 := by
 have Hexit := Lib.hid hexit; clear hexit
 have Hret := Lib.hid hret; clear hret
 have Hh8 := Lib.hid h8; clear h8
 have Hh6 := Lib.hid h6; clear h6
 have Hlen := Lib.hid hlen; clear hlen
 conv => arg 2; arg 1; whnf
 go_loopw [16] (fun s16 wr => ∃ (k j : Nat) (sv : Value), k ≤ L ∧ Hid (2 * k = j) ∧ s16 = .int .i64 (j : Int) ∧ Hid (ButG w3.heap.size wr0 wr) ∧ Hid (Whole wr w3.heap.size 37 (bkCells x rv lv sv nv tv uv iv)) ∧ Hid (wr.ownsRow wr0.heap.size 69 3 sv k (flatCells 3 k (fun i j => rqc (rqAt E i) j)))) (fun s16 _ => M - (intOf s16).toNat)
 case atStart => exact ⟨0, 0, _, Nat.zero_le _, rfl, rfl, ButG.refl _ _, HX0.out, World.ownsRow_nil _ _ _ _⟩
 case round =>
  clear HX0
  obtain ⟨k, j, sv, hk, Hj, rfl, HBG, HXr, HO⟩ := hrel
  by_cases hkL : k < L
  · have hjM : j < M := (two_next Hj.out HM.out hkL rfl).1
    obtain ⟨b, off, rfl, _, c0⟩ := HN.out.at (i := j) (by rw [List.length_map, Hlen.out]; exact hjM)
    obtain ⟨b', off', hbo, _, c1⟩ := HN.out.at (i := j + 1) (by rw [List.length_map, Hlen.out]; exact (two_next Hj.out HM.out hkL rfl).2)
    obtain ⟨rfl, rfl⟩ : b = b' ∧ off = off' := by simpa using hbo
    have hbG : b ≠ w3.heap.size := HA.out ⟨b, off, none⟩ rfl
    obtain ⟨yt, Hyt⟩ : ∃ z : Int, Hid (((ls[j]?.getD 0 : Nat) : Int) = z) := ⟨_, rfl⟩
    obtain ⟨ym, Hym⟩ : ∃ z : Int, Hid (((ls[j + 1]?.getD 0 : Nat) : Int) = z) := ⟨_, rfl⟩
    have e0 : ((ls.map fun v : Nat => (v : Int))[j]?.getD 0) = yt := by rw [← Hyt.out, List.getElem?_map, List.getElem?_eq_getElem (by rw [Hlen.out]; exact hjM)]; rfl
    have e1 : ((ls.map fun v : Nat => (v : Int))[j + 1]?.getD 0) = ym := by rw [← Hym.out, List.getElem?_map, List.getElem?_eq_getElem (by rw [Hlen.out]; exact (two_next Hj.out HM.out hkL rfl).2)]; rfl
    rw [e0] at c0
    rw [e1] at c1
    obtain ⟨J, HJ⟩ : ∃ z : Nat, Hid (j + 1 = z) := ⟨_, rfl⟩
    rw [show off + (j + 1) = off + J by rw [HJ.out]] at c1
    have V0 := Lib.hid c0
    have V1 := Lib.hid c1
    have hEk : rqAt E k = ⟨yt, who, ym⟩ := by rw [HE.out k hkL, show 2 * k = j from Hj.out, Hyt.out, Hym.out]
    have HEk := Lib.hid hEk
    have hsz := HBG.out.size
    have x0 : (0 : Int) ≤ (j : Int) := Int.natCast_nonneg j
    have x1 : (j : Int) < (M : Int) := Int.ofNat_lt.2 hjM
    obtain ⟨x2, x3⟩ := idx_one HJ.out hjM (two_most hL HM.out)
    obtain ⟨x6, x7⟩ := idx_two hjM (two_most hL HM.out)
    have x4 : (0 : Int) ≤ (J : Int) := Int.natCast_nonneg J
    have x5 : (J : Int) < (M : Int) := Int.ofNat_lt.2 (two_next Hj.out HM.out hkL HJ.out).2
    have w1 := HBG.out.cell_of V1.out hbG
    by_cases hbad : 99 < ym
    · have HZr8 := Lib.hid (HZ8.out.butG HBG.out Hh8.out)
      have HZr6 := Lib.hid (HZ6.out.butG HBG.out Hh6.out)
      have Hbad : Hid (99 < ls[2 * k + 1]?.getD 0) := by
       show 99 < _
       rw [show 2 * k = j from Hj.out, ← Int.ofNat_lt]
       exact Hym.out ▸ hbad
      have HkL := Lib.hid hkL
      obtain ⟨⟨p0, p1, p2, p3⟩, ⟨p4, p5, p6, p7⟩, p8, p9, p10, p11⟩ := bk_cells HZr8.out
      obtain ⟨⟨q0, q1, q2, q3⟩, ⟨q4, q5, q6, q7⟩, q8, q9, q10, q11⟩ := bk_cells HZr6.out
      simp only at p0 p4 p6 p7 p11 q0 q4 q6 q7 q11
      have fq := HZr6.out.free
      go_wp2_with fail
      exact Hret.out _ k _ _ _ _ _ _ _ _ _ _ _ _ _ _ _ _ _ _ _ _ _ _ _ _ _ _ _ _ _ _ _ HkL Hbad HBG
    have HkM : Hid (k ≤ 1000) := Nat.le_trans hk (Nat.le_trans hL (by decide))
    have hlx := HXr.out.lt
    have Hbr := Lib.hid (HBG.out.below Hb0.out (Nat.le_of_lt hG))
    obtain ⟨⟨z0, z1, z2, z3⟩, _⟩ := bk_cells HXr.out
    clear z0 z1 z3 e0 e1 c0 c1 hEk
    go_wp2_with fail
    refine region_any fun a0 Ha0 => ?_
    have HND : Hid (([109, 110, 111, 112, 113, 114, 115, 116, 117, 118, 119, 120, 121, 122, 123, 124, 125] : List Nat).Nodup) := by show List.Nodup _; decide
    have hsz : a0.tmps.size = 314 := by rw [Ha0.out]; rfl
    have r1 : slot a0 1 = (.int .i64 who) := by rw [Ha0.out]; rfl
    have r13 : slot a0 13 = (.pointer (some ⟨w3.heap.size, 0, none⟩)) := by rw [Ha0.out]; rfl
    have r14 : slot a0 14 = (.slice (some ⟨b, off, none⟩) M C) := by rw [Ha0.out]; rfl
    have r16 : slot a0 16 = (.int .i64 (j : Int)) := by rw [Ha0.out]; rfl
    refine wp_region_each_at ?hm ?hb (fun a0 d a' w' => ∃ (e0 e1 e2 e3 e4 e5 e6 e7 e8 e9 e10 e11 e12 e13 e14 e15 e16 : Value), a' = putAll a0 [(109, e0), (110, e1), (111, e2), (112, e3), (113, e4), (114, e5), (115, e6), (116, e7), (117, e8), (118, e9), (119, e10), (120, e11), (121, e12), (122, e13), (123, e14), (124, e15), (125, e16)] ∧ Below w3.heap.size w3 w' ∧ (d 0 = true → e0 = (.pointer (some ⟨w3.heap.size, 3, none⟩))) ∧ (d 1 = true → e1 = sv) ∧ (d 2 = true → e2 = (.slice (some ⟨b, off, none⟩) M C)) ∧ (d 3 = true → e3 = (.int .i64 (j : Int))) ∧ (d 4 = true → e4 = (.pointer (some ⟨b, off + j, none⟩))) ∧ (d 5 = true → e5 = (.int .i64 yt)) ∧ (d 6 = true → e6 = (.int .i64 who)) ∧ (d 7 = true → e7 = (.agg #[.int .i64 yt, .int .i64 who])) ∧ (d 8 = true → e8 = (.slice (some ⟨b, off, none⟩) M C)) ∧ (d 9 = true → e9 = (.int .i64 (j : Int))) ∧ (d 10 = true → e10 = (.int .i64 (J : Int))) ∧ (d 11 = true → e11 = (.pointer (some ⟨b, off + J, none⟩))) ∧ (d 12 = true → e12 = (.int .i64 ym)) ∧ (d 13 = true → e13 = (.agg #[.int .i64 yt, .int .i64 who, .int .i64 ym])) ∧ (d 14 = true → (d 15 = false → ∃ g, e14 = .slice (some ⟨g, 0, none⟩) 1 1 ∧ Whole w' g 69 #[.int .i64 yt, .int .i64 who, .int .i64 ym])) ∧ (d 15 = true → (d 1 = true ∧ d 14 = true ∧ (d 17 = false → ∃ A C, e15 = .slice A (k + 1) C ∧ Whole w' w3.heap.size 37 (bkCells x rv lv sv nv tv uv iv) ∧ w'.ownsRow wr0.heap.size 69 3 (.slice A (k + 1) C) (k + 1) (flatCells 3 (k + 1) (fun i j => rqc (rqAt E i) j))))) ∧ (d 16 = true → e16 = (.pointer (some ⟨w3.heap.size, 3, none⟩))) ∧ (d 17 = true → (d 15 = true ∧ ∃ A C, e15 = .slice A (k + 1) C ∧ Whole w' w3.heap.size 37 (bkCells x rv lv (.slice A (k + 1) C) nv tv uv iv) ∧ w'.ownsRow wr0.heap.size 69 3 (.slice A (k + 1) C) (k + 1) (flatCells 3 (k + 1) (fun i j => rqc (rqAt E i) j)))) ∧ (d 15 = false → Whole w' w3.heap.size 37 (bkCells x rv lv sv nv tv uv iv) ∧ w'.ownsRow wr0.heap.size 69 3 sv k (flatCells 3 k (fun i j => rqc (rqAt E i) j))) ∧ ButG w3.heap.size wr0 w') ?h0 ?step ?ends
    case hm => kernel_rfl
    case hb => kernel_rfl
    case h0 =>
     refine ⟨_, _, _, _, _, _, _, _, _, _, _, _, _, _, _, _, _, putAll_same a0 [109, 110, 111, 112, 113, 114, 115, 116, 117, 118, 119, 120, 121, 122, 123, 124, 125], Hbr.out.drew, fun h => absurd h (by decide), fun h => absurd h (by decide), fun h => absurd h (by decide), fun h => absurd h (by decide), fun h => absurd h (by decide), fun h => absurd h (by decide), fun h => absurd h (by decide), fun h => absurd h (by decide), fun h => absurd h (by decide), fun h => absurd h (by decide), fun h => absurd h (by decide), fun h => absurd h (by decide), fun h => absurd h (by decide), fun h => absurd h (by decide), fun h => absurd h (by decide), fun h => absurd h (by decide), fun h => absurd h (by decide), fun h => absurd h (by decide), fun _ => ⟨HXr.out.drew, own_later HO.out (Below.refl _ _).drew⟩, HBG.out.next (Below.refl _ _).drew⟩
    case step =>
     intro i d a' w' hi hJ hd hk
     obtain ⟨e0, e1, e2, e3, e4, e5, e6, e7, e8, e9, e10, e11, e12, e13, e14, e15, e16, rfl, hB, c0, c1, c2, c3, c4, c5, c6, c7, c8, c9, c10, c11, c12, c13, c14, c15, c16, c17, cx, cg⟩ := hJ
     match i, hi, hd, hk with
     | 0, _, hd, hk =>
       obtain ⟨fr, HFR, f1, f13, f14, f16⟩ : ∃ fr, Hid (putAll a0 [(109, e0), (110, e1), (111, e2), (112, e3), (113, e4), (114, e5), (115, e6), (116, e7), (117, e8), (118, e9), (119, e10), (120, e11), (121, e12), (122, e13), (123, e14), (124, e15), (125, e16)] = fr) ∧ fr.tmps[1]? = some ((.int .i64 who)) ∧ fr.tmps[13]? = some ((.pointer (some ⟨w3.heap.size, 0, none⟩))) ∧ fr.tmps[14]? = some ((.slice (some ⟨b, off, none⟩) M C)) ∧ fr.tmps[16]? = some ((.int .i64 (j : Int))) := ⟨_, rfl, far_base a0 _ 1 (by rw [hsz]; decide) r1 rfl, far_base a0 _ 13 (by rw [hsz]; decide) r13 rfl, far_base a0 _ 14 (by rw [hsz]; decide) r14 rfl, far_base a0 _ 16 (by rw [hsz]; decide) r16 rfl⟩
       rw [HFR.out]
       apply wpOp_at
       case ho => rfl
       intro K hK
       go_simp
       refine hK _ _ ⟨(.pointer (some ⟨w3.heap.size, 3, none⟩)), e1, e2, e3, e4, e5, e6, e7, e8, e9, e10, e11, e12, e13, e14, e15, e16, (by rw [← HFR.out]; exact put_upd 0 rfl HND.out), hB, fun _ => rfl, c1, c2, c3, c4, c5, c6, c7, c8, c9, c10, c11, c12, c13, c14, c15, c16, c17, cx, cg⟩
     | 1, _, hd, hk =>
       have h0 : d 0 = true := hk 0 (by decide +kernel)
       obtain rfl := c0 h0
       have n15 : d 15 = false := n16_of hd fun h => (c15 h).1
       obtain ⟨⟨_, _, _, M2⟩, _⟩ := bk_cells (cx n15).1
       obtain ⟨fr, HFR, f109, f1, f13, f14, f16⟩ : ∃ fr, Hid (putAll a0 [(109, (.pointer (some ⟨w3.heap.size, 3, none⟩))), (110, e1), (111, e2), (112, e3), (113, e4), (114, e5), (115, e6), (116, e7), (117, e8), (118, e9), (119, e10), (120, e11), (121, e12), (122, e13), (123, e14), (124, e15), (125, e16)] = fr) ∧ fr.tmps[109]? = some ((.pointer (some ⟨w3.heap.size, 3, none⟩))) ∧ fr.tmps[1]? = some ((.int .i64 who)) ∧ fr.tmps[13]? = some ((.pointer (some ⟨w3.heap.size, 0, none⟩))) ∧ fr.tmps[14]? = some ((.slice (some ⟨b, off, none⟩) M C)) ∧ fr.tmps[16]? = some ((.int .i64 (j : Int))) := ⟨_, rfl, far_get a0 _ 109 (by rw [hsz]; decide), far_base a0 _ 1 (by rw [hsz]; decide) r1 rfl, far_base a0 _ 13 (by rw [hsz]; decide) r13 rfl, far_base a0 _ 14 (by rw [hsz]; decide) r14 rfl, far_base a0 _ 16 (by rw [hsz]; decide) r16 rfl⟩
       rw [HFR.out]
       apply wpOp_at
       case ho => rfl
       intro K hK
       go_simp
       refine hK _ _ ⟨(.pointer (some ⟨w3.heap.size, 3, none⟩)), sv, e2, e3, e4, e5, e6, e7, e8, e9, e10, e11, e12, e13, e14, e15, e16, (by rw [← HFR.out]; exact put_upd 1 rfl HND.out), hB, c0, fun _ => rfl, c2, c3, c4, c5, c6, c7, c8, c9, c10, c11, c12, c13, c14, fun h => absurd (n15.symm.trans h) (by decide), c16, c17, cx, cg⟩
     | 2, _, hd, hk =>
       obtain ⟨fr, HFR, f1, f13, f14, f16⟩ : ∃ fr, Hid (putAll a0 [(109, e0), (110, e1), (111, e2), (112, e3), (113, e4), (114, e5), (115, e6), (116, e7), (117, e8), (118, e9), (119, e10), (120, e11), (121, e12), (122, e13), (123, e14), (124, e15), (125, e16)] = fr) ∧ fr.tmps[1]? = some ((.int .i64 who)) ∧ fr.tmps[13]? = some ((.pointer (some ⟨w3.heap.size, 0, none⟩))) ∧ fr.tmps[14]? = some ((.slice (some ⟨b, off, none⟩) M C)) ∧ fr.tmps[16]? = some ((.int .i64 (j : Int))) := ⟨_, rfl, far_base a0 _ 1 (by rw [hsz]; decide) r1 rfl, far_base a0 _ 13 (by rw [hsz]; decide) r13 rfl, far_base a0 _ 14 (by rw [hsz]; decide) r14 rfl, far_base a0 _ 16 (by rw [hsz]; decide) r16 rfl⟩
       rw [HFR.out]
       apply wpOp_at
       case ho => rfl
       intro K hK
       go_simp
       refine hK _ _ ⟨e0, e1, (.slice (some ⟨b, off, none⟩) M C), e3, e4, e5, e6, e7, e8, e9, e10, e11, e12, e13, e14, e15, e16, (by rw [← HFR.out]; exact put_upd 2 rfl HND.out), hB, c0, c1, fun _ => rfl, c3, c4, c5, c6, c7, c8, c9, c10, c11, c12, c13, c14, c15, c16, c17, cx, cg⟩
     | 3, _, hd, hk =>
       obtain ⟨fr, HFR, f1, f13, f14, f16⟩ : ∃ fr, Hid (putAll a0 [(109, e0), (110, e1), (111, e2), (112, e3), (113, e4), (114, e5), (115, e6), (116, e7), (117, e8), (118, e9), (119, e10), (120, e11), (121, e12), (122, e13), (123, e14), (124, e15), (125, e16)] = fr) ∧ fr.tmps[1]? = some ((.int .i64 who)) ∧ fr.tmps[13]? = some ((.pointer (some ⟨w3.heap.size, 0, none⟩))) ∧ fr.tmps[14]? = some ((.slice (some ⟨b, off, none⟩) M C)) ∧ fr.tmps[16]? = some ((.int .i64 (j : Int))) := ⟨_, rfl, far_base a0 _ 1 (by rw [hsz]; decide) r1 rfl, far_base a0 _ 13 (by rw [hsz]; decide) r13 rfl, far_base a0 _ 14 (by rw [hsz]; decide) r14 rfl, far_base a0 _ 16 (by rw [hsz]; decide) r16 rfl⟩
       rw [HFR.out]
       apply wpOp_at
       case ho => rfl
       intro K hK
       go_simp
       refine hK _ _ ⟨e0, e1, e2, (.int .i64 (j : Int)), e4, e5, e6, e7, e8, e9, e10, e11, e12, e13, e14, e15, e16, (by rw [← HFR.out]; exact put_upd 3 rfl HND.out), hB, c0, c1, c2, fun _ => rfl, c4, c5, c6, c7, c8, c9, c10, c11, c12, c13, c14, c15, c16, c17, cx, cg⟩
     | 4, _, hd, hk =>
       have h2 : d 2 = true := hk 2 (by decide +kernel)
       have h3 : d 3 = true := hk 3 (by decide +kernel)
       obtain rfl := c2 h2
       obtain rfl := c3 h3
       obtain ⟨fr, HFR, f111, f112, f1, f13, f14, f16⟩ : ∃ fr, Hid (putAll a0 [(109, e0), (110, e1), (111, (.slice (some ⟨b, off, none⟩) M C)), (112, (.int .i64 (j : Int))), (113, e4), (114, e5), (115, e6), (116, e7), (117, e8), (118, e9), (119, e10), (120, e11), (121, e12), (122, e13), (123, e14), (124, e15), (125, e16)] = fr) ∧ fr.tmps[111]? = some ((.slice (some ⟨b, off, none⟩) M C)) ∧ fr.tmps[112]? = some ((.int .i64 (j : Int))) ∧ fr.tmps[1]? = some ((.int .i64 who)) ∧ fr.tmps[13]? = some ((.pointer (some ⟨w3.heap.size, 0, none⟩))) ∧ fr.tmps[14]? = some ((.slice (some ⟨b, off, none⟩) M C)) ∧ fr.tmps[16]? = some ((.int .i64 (j : Int))) := ⟨_, rfl, far_get a0 _ 111 (by rw [hsz]; decide), far_get a0 _ 112 (by rw [hsz]; decide), far_base a0 _ 1 (by rw [hsz]; decide) r1 rfl, far_base a0 _ 13 (by rw [hsz]; decide) r13 rfl, far_base a0 _ 14 (by rw [hsz]; decide) r14 rfl, far_base a0 _ 16 (by rw [hsz]; decide) r16 rfl⟩
       rw [HFR.out]
       apply wpOp_at
       case ho => rfl
       intro K hK
       go_simp
       refine hK _ _ ⟨e0, e1, (.slice (some ⟨b, off, none⟩) M C), (.int .i64 (j : Int)), (.pointer (some ⟨b, off + j, none⟩)), e5, e6, e7, e8, e9, e10, e11, e12, e13, e14, e15, e16, (by rw [← HFR.out]; exact put_upd 4 rfl HND.out), hB, c0, c1, c2, c3, fun _ => rfl, c5, c6, c7, c8, c9, c10, c11, c12, c13, c14, c15, c16, c17, cx, cg⟩
     | 5, _, hd, hk =>
       have h4 : d 4 = true := hk 4 (by decide +kernel)
       obtain rfl := c4 h4
       have z0 := cg.cell_of V0.out hbG
       obtain ⟨fr, HFR, f113, f1, f13, f14, f16⟩ : ∃ fr, Hid (putAll a0 [(109, e0), (110, e1), (111, e2), (112, e3), (113, (.pointer (some ⟨b, off + j, none⟩))), (114, e5), (115, e6), (116, e7), (117, e8), (118, e9), (119, e10), (120, e11), (121, e12), (122, e13), (123, e14), (124, e15), (125, e16)] = fr) ∧ fr.tmps[113]? = some ((.pointer (some ⟨b, off + j, none⟩))) ∧ fr.tmps[1]? = some ((.int .i64 who)) ∧ fr.tmps[13]? = some ((.pointer (some ⟨w3.heap.size, 0, none⟩))) ∧ fr.tmps[14]? = some ((.slice (some ⟨b, off, none⟩) M C)) ∧ fr.tmps[16]? = some ((.int .i64 (j : Int))) := ⟨_, rfl, far_get a0 _ 113 (by rw [hsz]; decide), far_base a0 _ 1 (by rw [hsz]; decide) r1 rfl, far_base a0 _ 13 (by rw [hsz]; decide) r13 rfl, far_base a0 _ 14 (by rw [hsz]; decide) r14 rfl, far_base a0 _ 16 (by rw [hsz]; decide) r16 rfl⟩
       rw [HFR.out]
       apply wpOp_at
       case ho => rfl
       intro K hK
       go_simp
       refine hK _ _ ⟨e0, e1, e2, e3, (.pointer (some ⟨b, off + j, none⟩)), (.int .i64 yt), e6, e7, e8, e9, e10, e11, e12, e13, e14, e15, e16, (by rw [← HFR.out]; exact put_upd 5 rfl HND.out), hB, c0, c1, c2, c3, c4, fun _ => rfl, c6, c7, c8, c9, c10, c11, c12, c13, c14, c15, c16, c17, cx, cg⟩
     | 6, _, hd, hk =>
       obtain ⟨fr, HFR, f1, f13, f14, f16⟩ : ∃ fr, Hid (putAll a0 [(109, e0), (110, e1), (111, e2), (112, e3), (113, e4), (114, e5), (115, e6), (116, e7), (117, e8), (118, e9), (119, e10), (120, e11), (121, e12), (122, e13), (123, e14), (124, e15), (125, e16)] = fr) ∧ fr.tmps[1]? = some ((.int .i64 who)) ∧ fr.tmps[13]? = some ((.pointer (some ⟨w3.heap.size, 0, none⟩))) ∧ fr.tmps[14]? = some ((.slice (some ⟨b, off, none⟩) M C)) ∧ fr.tmps[16]? = some ((.int .i64 (j : Int))) := ⟨_, rfl, far_base a0 _ 1 (by rw [hsz]; decide) r1 rfl, far_base a0 _ 13 (by rw [hsz]; decide) r13 rfl, far_base a0 _ 14 (by rw [hsz]; decide) r14 rfl, far_base a0 _ 16 (by rw [hsz]; decide) r16 rfl⟩
       rw [HFR.out]
       apply wpOp_at
       case ho => rfl
       intro K hK
       go_simp
       refine hK _ _ ⟨e0, e1, e2, e3, e4, e5, (.int .i64 who), e7, e8, e9, e10, e11, e12, e13, e14, e15, e16, (by rw [← HFR.out]; exact put_upd 6 rfl HND.out), hB, c0, c1, c2, c3, c4, c5, fun _ => rfl, c7, c8, c9, c10, c11, c12, c13, c14, c15, c16, c17, cx, cg⟩
     | 7, _, hd, hk =>
       have h5 : d 5 = true := hk 5 (by decide +kernel)
       have h6 : d 6 = true := hk 6 (by decide +kernel)
       obtain rfl := c5 h5
       obtain rfl := c6 h6
       obtain ⟨fr, HFR, f114, f115, f1, f13, f14, f16⟩ : ∃ fr, Hid (putAll a0 [(109, e0), (110, e1), (111, e2), (112, e3), (113, e4), (114, (.int .i64 yt)), (115, (.int .i64 who)), (116, e7), (117, e8), (118, e9), (119, e10), (120, e11), (121, e12), (122, e13), (123, e14), (124, e15), (125, e16)] = fr) ∧ fr.tmps[114]? = some ((.int .i64 yt)) ∧ fr.tmps[115]? = some ((.int .i64 who)) ∧ fr.tmps[1]? = some ((.int .i64 who)) ∧ fr.tmps[13]? = some ((.pointer (some ⟨w3.heap.size, 0, none⟩))) ∧ fr.tmps[14]? = some ((.slice (some ⟨b, off, none⟩) M C)) ∧ fr.tmps[16]? = some ((.int .i64 (j : Int))) := ⟨_, rfl, far_get a0 _ 114 (by rw [hsz]; decide), far_get a0 _ 115 (by rw [hsz]; decide), far_base a0 _ 1 (by rw [hsz]; decide) r1 rfl, far_base a0 _ 13 (by rw [hsz]; decide) r13 rfl, far_base a0 _ 14 (by rw [hsz]; decide) r14 rfl, far_base a0 _ 16 (by rw [hsz]; decide) r16 rfl⟩
       rw [HFR.out]
       apply wpOp_at
       case ho => rfl
       intro K hK
       go_simp
       refine hK _ _ ⟨e0, e1, e2, e3, e4, (.int .i64 yt), (.int .i64 who), (.agg #[.int .i64 yt, .int .i64 who]), e8, e9, e10, e11, e12, e13, e14, e15, e16, (by rw [← HFR.out]; exact put_upd 7 rfl HND.out), hB, c0, c1, c2, c3, c4, c5, c6, fun _ => rfl, c8, c9, c10, c11, c12, c13, c14, c15, c16, c17, cx, cg⟩
     | 8, _, hd, hk =>
       obtain ⟨fr, HFR, f1, f13, f14, f16⟩ : ∃ fr, Hid (putAll a0 [(109, e0), (110, e1), (111, e2), (112, e3), (113, e4), (114, e5), (115, e6), (116, e7), (117, e8), (118, e9), (119, e10), (120, e11), (121, e12), (122, e13), (123, e14), (124, e15), (125, e16)] = fr) ∧ fr.tmps[1]? = some ((.int .i64 who)) ∧ fr.tmps[13]? = some ((.pointer (some ⟨w3.heap.size, 0, none⟩))) ∧ fr.tmps[14]? = some ((.slice (some ⟨b, off, none⟩) M C)) ∧ fr.tmps[16]? = some ((.int .i64 (j : Int))) := ⟨_, rfl, far_base a0 _ 1 (by rw [hsz]; decide) r1 rfl, far_base a0 _ 13 (by rw [hsz]; decide) r13 rfl, far_base a0 _ 14 (by rw [hsz]; decide) r14 rfl, far_base a0 _ 16 (by rw [hsz]; decide) r16 rfl⟩
       rw [HFR.out]
       apply wpOp_at
       case ho => rfl
       intro K hK
       go_simp
       refine hK _ _ ⟨e0, e1, e2, e3, e4, e5, e6, e7, (.slice (some ⟨b, off, none⟩) M C), e9, e10, e11, e12, e13, e14, e15, e16, (by rw [← HFR.out]; exact put_upd 8 rfl HND.out), hB, c0, c1, c2, c3, c4, c5, c6, c7, fun _ => rfl, c9, c10, c11, c12, c13, c14, c15, c16, c17, cx, cg⟩
     | 9, _, hd, hk =>
       obtain ⟨fr, HFR, f1, f13, f14, f16⟩ : ∃ fr, Hid (putAll a0 [(109, e0), (110, e1), (111, e2), (112, e3), (113, e4), (114, e5), (115, e6), (116, e7), (117, e8), (118, e9), (119, e10), (120, e11), (121, e12), (122, e13), (123, e14), (124, e15), (125, e16)] = fr) ∧ fr.tmps[1]? = some ((.int .i64 who)) ∧ fr.tmps[13]? = some ((.pointer (some ⟨w3.heap.size, 0, none⟩))) ∧ fr.tmps[14]? = some ((.slice (some ⟨b, off, none⟩) M C)) ∧ fr.tmps[16]? = some ((.int .i64 (j : Int))) := ⟨_, rfl, far_base a0 _ 1 (by rw [hsz]; decide) r1 rfl, far_base a0 _ 13 (by rw [hsz]; decide) r13 rfl, far_base a0 _ 14 (by rw [hsz]; decide) r14 rfl, far_base a0 _ 16 (by rw [hsz]; decide) r16 rfl⟩
       rw [HFR.out]
       apply wpOp_at
       case ho => rfl
       intro K hK
       go_simp
       refine hK _ _ ⟨e0, e1, e2, e3, e4, e5, e6, e7, e8, (.int .i64 (j : Int)), e10, e11, e12, e13, e14, e15, e16, (by rw [← HFR.out]; exact put_upd 9 rfl HND.out), hB, c0, c1, c2, c3, c4, c5, c6, c7, c8, fun _ => rfl, c10, c11, c12, c13, c14, c15, c16, c17, cx, cg⟩
     | 10, _, hd, hk =>
       have h9 : d 9 = true := hk 9 (by decide +kernel)
       obtain rfl := c9 h9
       obtain ⟨fr, HFR, f118, f1, f13, f14, f16⟩ : ∃ fr, Hid (putAll a0 [(109, e0), (110, e1), (111, e2), (112, e3), (113, e4), (114, e5), (115, e6), (116, e7), (117, e8), (118, (.int .i64 (j : Int))), (119, e10), (120, e11), (121, e12), (122, e13), (123, e14), (124, e15), (125, e16)] = fr) ∧ fr.tmps[118]? = some ((.int .i64 (j : Int))) ∧ fr.tmps[1]? = some ((.int .i64 who)) ∧ fr.tmps[13]? = some ((.pointer (some ⟨w3.heap.size, 0, none⟩))) ∧ fr.tmps[14]? = some ((.slice (some ⟨b, off, none⟩) M C)) ∧ fr.tmps[16]? = some ((.int .i64 (j : Int))) := ⟨_, rfl, far_get a0 _ 118 (by rw [hsz]; decide), far_base a0 _ 1 (by rw [hsz]; decide) r1 rfl, far_base a0 _ 13 (by rw [hsz]; decide) r13 rfl, far_base a0 _ 14 (by rw [hsz]; decide) r14 rfl, far_base a0 _ 16 (by rw [hsz]; decide) r16 rfl⟩
       rw [HFR.out]
       apply wpOp_at
       case ho => rfl
       intro K hK
       go_simp
       refine hK _ _ ⟨e0, e1, e2, e3, e4, e5, e6, e7, e8, (.int .i64 (j : Int)), (.int .i64 (J : Int)), e11, e12, e13, e14, e15, e16, (by rw [← HFR.out]; exact put_upd 10 rfl HND.out), hB, c0, c1, c2, c3, c4, c5, c6, c7, c8, c9, fun _ => rfl, c11, c12, c13, c14, c15, c16, c17, cx, cg⟩
     | 11, _, hd, hk =>
       have h8 : d 8 = true := hk 8 (by decide +kernel)
       have h10 : d 10 = true := hk 10 (by decide +kernel)
       obtain rfl := c8 h8
       obtain rfl := c10 h10
       obtain ⟨fr, HFR, f117, f119, f1, f13, f14, f16⟩ : ∃ fr, Hid (putAll a0 [(109, e0), (110, e1), (111, e2), (112, e3), (113, e4), (114, e5), (115, e6), (116, e7), (117, (.slice (some ⟨b, off, none⟩) M C)), (118, e9), (119, (.int .i64 (J : Int))), (120, e11), (121, e12), (122, e13), (123, e14), (124, e15), (125, e16)] = fr) ∧ fr.tmps[117]? = some ((.slice (some ⟨b, off, none⟩) M C)) ∧ fr.tmps[119]? = some ((.int .i64 (J : Int))) ∧ fr.tmps[1]? = some ((.int .i64 who)) ∧ fr.tmps[13]? = some ((.pointer (some ⟨w3.heap.size, 0, none⟩))) ∧ fr.tmps[14]? = some ((.slice (some ⟨b, off, none⟩) M C)) ∧ fr.tmps[16]? = some ((.int .i64 (j : Int))) := ⟨_, rfl, far_get a0 _ 117 (by rw [hsz]; decide), far_get a0 _ 119 (by rw [hsz]; decide), far_base a0 _ 1 (by rw [hsz]; decide) r1 rfl, far_base a0 _ 13 (by rw [hsz]; decide) r13 rfl, far_base a0 _ 14 (by rw [hsz]; decide) r14 rfl, far_base a0 _ 16 (by rw [hsz]; decide) r16 rfl⟩
       rw [HFR.out]
       apply wpOp_at
       case ho => rfl
       intro K hK
       go_simp
       refine hK _ _ ⟨e0, e1, e2, e3, e4, e5, e6, e7, (.slice (some ⟨b, off, none⟩) M C), e9, (.int .i64 (J : Int)), (.pointer (some ⟨b, off + J, none⟩)), e12, e13, e14, e15, e16, (by rw [← HFR.out]; exact put_upd 11 rfl HND.out), hB, c0, c1, c2, c3, c4, c5, c6, c7, c8, c9, c10, fun _ => rfl, c12, c13, c14, c15, c16, c17, cx, cg⟩
     | 12, _, hd, hk =>
       have h11 : d 11 = true := hk 11 (by decide +kernel)
       obtain rfl := c11 h11
       have z0 := cg.cell_of V1.out hbG
       obtain ⟨fr, HFR, f120, f1, f13, f14, f16⟩ : ∃ fr, Hid (putAll a0 [(109, e0), (110, e1), (111, e2), (112, e3), (113, e4), (114, e5), (115, e6), (116, e7), (117, e8), (118, e9), (119, e10), (120, (.pointer (some ⟨b, off + J, none⟩))), (121, e12), (122, e13), (123, e14), (124, e15), (125, e16)] = fr) ∧ fr.tmps[120]? = some ((.pointer (some ⟨b, off + J, none⟩))) ∧ fr.tmps[1]? = some ((.int .i64 who)) ∧ fr.tmps[13]? = some ((.pointer (some ⟨w3.heap.size, 0, none⟩))) ∧ fr.tmps[14]? = some ((.slice (some ⟨b, off, none⟩) M C)) ∧ fr.tmps[16]? = some ((.int .i64 (j : Int))) := ⟨_, rfl, far_get a0 _ 120 (by rw [hsz]; decide), far_base a0 _ 1 (by rw [hsz]; decide) r1 rfl, far_base a0 _ 13 (by rw [hsz]; decide) r13 rfl, far_base a0 _ 14 (by rw [hsz]; decide) r14 rfl, far_base a0 _ 16 (by rw [hsz]; decide) r16 rfl⟩
       rw [HFR.out]
       apply wpOp_at
       case ho => rfl
       intro K hK
       go_simp
       refine hK _ _ ⟨e0, e1, e2, e3, e4, e5, e6, e7, e8, e9, e10, (.pointer (some ⟨b, off + J, none⟩)), (.int .i64 ym), e13, e14, e15, e16, (by rw [← HFR.out]; exact put_upd 12 rfl HND.out), hB, c0, c1, c2, c3, c4, c5, c6, c7, c8, c9, c10, c11, fun _ => rfl, c13, c14, c15, c16, c17, cx, cg⟩
     | 13, _, hd, hk =>
       have h7 : d 7 = true := hk 7 (by decide +kernel)
       have h12 : d 12 = true := hk 12 (by decide +kernel)
       obtain rfl := c7 h7
       obtain rfl := c12 h12
       obtain ⟨fr, HFR, f116, f121, f1, f13, f14, f16⟩ : ∃ fr, Hid (putAll a0 [(109, e0), (110, e1), (111, e2), (112, e3), (113, e4), (114, e5), (115, e6), (116, (.agg #[.int .i64 yt, .int .i64 who])), (117, e8), (118, e9), (119, e10), (120, e11), (121, (.int .i64 ym)), (122, e13), (123, e14), (124, e15), (125, e16)] = fr) ∧ fr.tmps[116]? = some ((.agg #[.int .i64 yt, .int .i64 who])) ∧ fr.tmps[121]? = some ((.int .i64 ym)) ∧ fr.tmps[1]? = some ((.int .i64 who)) ∧ fr.tmps[13]? = some ((.pointer (some ⟨w3.heap.size, 0, none⟩))) ∧ fr.tmps[14]? = some ((.slice (some ⟨b, off, none⟩) M C)) ∧ fr.tmps[16]? = some ((.int .i64 (j : Int))) := ⟨_, rfl, far_get a0 _ 116 (by rw [hsz]; decide), far_get a0 _ 121 (by rw [hsz]; decide), far_base a0 _ 1 (by rw [hsz]; decide) r1 rfl, far_base a0 _ 13 (by rw [hsz]; decide) r13 rfl, far_base a0 _ 14 (by rw [hsz]; decide) r14 rfl, far_base a0 _ 16 (by rw [hsz]; decide) r16 rfl⟩
       rw [HFR.out]
       apply wpOp_at
       case ho => rfl
       intro K hK
       go_simp
       refine hK _ _ ⟨e0, e1, e2, e3, e4, e5, e6, (.agg #[.int .i64 yt, .int .i64 who]), e8, e9, e10, e11, (.int .i64 ym), (.agg #[.int .i64 yt, .int .i64 who, .int .i64 ym]), e14, e15, e16, (by rw [← HFR.out]; exact put_upd 13 rfl HND.out), hB, c0, c1, c2, c3, c4, c5, c6, c7, c8, c9, c10, c11, c12, fun _ => rfl, c14, c15, c16, c17, cx, cg⟩
     | 14, _, hd, hk =>
       have h13 : d 13 = true := hk 13 (by decide +kernel)
       obtain rfl := c13 h13
       have hb := below_box w' (.cells #[.int .i64 yt, .int .i64 who, .int .i64 ym] 69)
       obtain ⟨fr, HFR, f122, f1, f13, f14, f16⟩ : ∃ fr, Hid (putAll a0 [(109, e0), (110, e1), (111, e2), (112, e3), (113, e4), (114, e5), (115, e6), (116, e7), (117, e8), (118, e9), (119, e10), (120, e11), (121, e12), (122, (.agg #[.int .i64 yt, .int .i64 who, .int .i64 ym])), (123, e14), (124, e15), (125, e16)] = fr) ∧ fr.tmps[122]? = some ((.agg #[.int .i64 yt, .int .i64 who, .int .i64 ym])) ∧ fr.tmps[1]? = some ((.int .i64 who)) ∧ fr.tmps[13]? = some ((.pointer (some ⟨w3.heap.size, 0, none⟩))) ∧ fr.tmps[14]? = some ((.slice (some ⟨b, off, none⟩) M C)) ∧ fr.tmps[16]? = some ((.int .i64 (j : Int))) := ⟨_, rfl, far_get a0 _ 122 (by rw [hsz]; decide), far_base a0 _ 1 (by rw [hsz]; decide) r1 rfl, far_base a0 _ 13 (by rw [hsz]; decide) r13 rfl, far_base a0 _ 14 (by rw [hsz]; decide) r14 rfl, far_base a0 _ 16 (by rw [hsz]; decide) r16 rfl⟩
       rw [HFR.out]
       apply wpOp_at
       case ho => rfl
       intro K hK
       go_simp
       refine hK _ _ ⟨e0, e1, e2, e3, e4, e5, e6, e7, e8, e9, e10, e11, e12, (.agg #[.int .i64 yt, .int .i64 who, .int .i64 ym]), .slice (some ⟨w'.heap.size, 0, none⟩) 1 1, e15, e16, (by rw [← HFR.out]; exact put_upd 14 rfl HND.out), hB.trans (hb.mono hB.size), c0, c1, c2, c3, c4, c5, c6, c7, c8, c9, c10, c11, c12, c13, fun _ => fun _ => ⟨_, rfl, Whole.made w' _ _⟩, fun h => Bool.noConfusion (hd.symm.trans (c15 h).2.1), c16, fun h => Bool.noConfusion (hd.symm.trans (c15 (c17 h).1).2.1), fun h => ⟨(cx h).1.alloc _, own_later (cx h).2 hb⟩, cg.next hb⟩
     | 15, _, hd, hk =>
       have h1 : d 1 = true := hk 1 (by decide +kernel)
       have h14 : d 14 = true := hk 14 (by decide +kernel)
       have e1' := (c1 h1).symm
       subst e1'
       obtain ⟨g, rfl, hw⟩ := c14 h14 hd
       obtain ⟨A9, C9, w9, hrun, q1, q2, q3⟩ := out_push_at HEk.out (cx hd).2 hw HkM.out cg.size
       obtain ⟨hfine, happV, happW⟩ := fine_of hrun
       have hX9 := (q3.whole (cx hd).1 (own_not (cx hd).2 hG)).1
       clear hrun
       obtain ⟨fr, HFR, f110, f123, f1, f13, f14, f16⟩ : ∃ fr, Hid (putAll a0 [(109, e0), (110, sv), (111, e2), (112, e3), (113, e4), (114, e5), (115, e6), (116, e7), (117, e8), (118, e9), (119, e10), (120, e11), (121, e12), (122, e13), (123, .slice (some ⟨g, 0, none⟩) 1 1), (124, e15), (125, e16)] = fr) ∧ fr.tmps[110]? = some (sv) ∧ fr.tmps[123]? = some (.slice (some ⟨g, 0, none⟩) 1 1) ∧ fr.tmps[1]? = some ((.int .i64 who)) ∧ fr.tmps[13]? = some ((.pointer (some ⟨w3.heap.size, 0, none⟩))) ∧ fr.tmps[14]? = some ((.slice (some ⟨b, off, none⟩) M C)) ∧ fr.tmps[16]? = some ((.int .i64 (j : Int))) := ⟨_, rfl, far_get a0 _ 110 (by rw [hsz]; decide), far_get a0 _ 123 (by rw [hsz]; decide), far_base a0 _ 1 (by rw [hsz]; decide) r1 rfl, far_base a0 _ 13 (by rw [hsz]; decide) r13 rfl, far_base a0 _ 14 (by rw [hsz]; decide) r14 rfl, far_base a0 _ 16 (by rw [hsz]; decide) r16 rfl⟩
       rw [HFR.out]
       apply wpOp_at
       case ho => rfl
       intro K hK
       go_simp
       refine hK _ _ ⟨e0, sv, e2, e3, e4, e5, e6, e7, e8, e9, e10, e11, e12, e13, .slice (some ⟨g, 0, none⟩) 1 1, .slice A9 (k + 1) C9, e16, (by rw [← HFR.out]; exact put_upd 15 rfl HND.out), hB.trans (q2.mono (Nat.le_of_lt hG)), c0, c1, c2, c3, c4, c5, c6, c7, c8, c9, c10, c11, c12, c13, fun _ h => Bool.noConfusion (show true = false from h), fun _ => ⟨h1, h14, fun _ => ⟨A9, C9, rfl, hX9, q1⟩⟩, c16, fun h => absurd ((c17 h).1.symm.trans hd) (by decide), fun h => Bool.noConfusion (show true = false from h), cg.grown q2⟩
     | 16, _, hd, hk =>
       obtain ⟨fr, HFR, f1, f13, f14, f16⟩ : ∃ fr, Hid (putAll a0 [(109, e0), (110, e1), (111, e2), (112, e3), (113, e4), (114, e5), (115, e6), (116, e7), (117, e8), (118, e9), (119, e10), (120, e11), (121, e12), (122, e13), (123, e14), (124, e15), (125, e16)] = fr) ∧ fr.tmps[1]? = some ((.int .i64 who)) ∧ fr.tmps[13]? = some ((.pointer (some ⟨w3.heap.size, 0, none⟩))) ∧ fr.tmps[14]? = some ((.slice (some ⟨b, off, none⟩) M C)) ∧ fr.tmps[16]? = some ((.int .i64 (j : Int))) := ⟨_, rfl, far_base a0 _ 1 (by rw [hsz]; decide) r1 rfl, far_base a0 _ 13 (by rw [hsz]; decide) r13 rfl, far_base a0 _ 14 (by rw [hsz]; decide) r14 rfl, far_base a0 _ 16 (by rw [hsz]; decide) r16 rfl⟩
       rw [HFR.out]
       apply wpOp_at
       case ho => rfl
       intro K hK
       go_simp
       refine hK _ _ ⟨e0, e1, e2, e3, e4, e5, e6, e7, e8, e9, e10, e11, e12, e13, e14, e15, (.pointer (some ⟨w3.heap.size, 3, none⟩)), (by rw [← HFR.out]; exact put_upd 16 rfl HND.out), hB, c0, c1, c2, c3, c4, c5, c6, c7, c8, c9, c10, c11, c12, c13, c14, c15, fun _ => rfl, c17, cx, cg⟩
     | 17, _, hd, hk =>
       have h15 : d 15 = true := hk 15 (by decide +kernel)
       have h16 : d 16 = true := hk 16 (by decide +kernel)
       obtain rfl := c16 h16
       have e1' := (c1 (c15 h15).1).symm
       subst e1'
       obtain ⟨A9, C9, rfl, hX, hO⟩ := (c15 h15).2.2 hd
       have M10 := hX.cell 3
       have y10 := hX.free 3
       have hS := bk_set3 (u := .slice A9 (k + 1) C9) hX
       have hOs := own_low hO (p := ⟨w3.heap.size, 3, none⟩) hG (.slice A9 (k + 1) C9)
       have hlg := hX.lt
       obtain ⟨fr, HFR, f124, f125, f1, f13, f14, f16⟩ : ∃ fr, Hid (putAll a0 [(109, e0), (110, sv), (111, e2), (112, e3), (113, e4), (114, e5), (115, e6), (116, e7), (117, e8), (118, e9), (119, e10), (120, e11), (121, e12), (122, e13), (123, e14), (124, .slice A9 (k + 1) C9), (125, (.pointer (some ⟨w3.heap.size, 3, none⟩)))] = fr) ∧ fr.tmps[124]? = some (.slice A9 (k + 1) C9) ∧ fr.tmps[125]? = some ((.pointer (some ⟨w3.heap.size, 3, none⟩))) ∧ fr.tmps[1]? = some ((.int .i64 who)) ∧ fr.tmps[13]? = some ((.pointer (some ⟨w3.heap.size, 0, none⟩))) ∧ fr.tmps[14]? = some ((.slice (some ⟨b, off, none⟩) M C)) ∧ fr.tmps[16]? = some ((.int .i64 (j : Int))) := ⟨_, rfl, far_get a0 _ 124 (by rw [hsz]; decide), far_get a0 _ 125 (by rw [hsz]; decide), far_base a0 _ 1 (by rw [hsz]; decide) r1 rfl, far_base a0 _ 13 (by rw [hsz]; decide) r13 rfl, far_base a0 _ 14 (by rw [hsz]; decide) r14 rfl, far_base a0 _ 16 (by rw [hsz]; decide) r16 rfl⟩
       rw [HFR.out]
       apply wpOp_at
       case ho => rfl
       intro K hK
       go_simp
       refine hK _ _ ⟨e0, sv, e2, e3, e4, e5, e6, e7, e8, e9, e10, e11, e12, e13, e14, .slice A9 (k + 1) C9, (.pointer (some ⟨w3.heap.size, 3, none⟩)), HFR.out.symm, hB.setCell (p := ⟨w3.heap.size, 3, none⟩) (Nat.le_refl _) _, c0, c1, c2, c3, c4, c5, c6, c7, c8, c9, c10, c11, c12, c13, fun _ h => absurd (h15.symm.trans h) (by decide), fun _ => ⟨(c15 h15).1, (c15 h15).2.1, fun h => Bool.noConfusion (show true = false from h)⟩, c16, fun _ => ⟨h15, A9, C9, rfl, hS, hOs⟩, fun h => absurd (h15.symm.trans h) (by decide), cg.set 3 _⟩
     | k + 18, hi, _, _ => exact absurd hi (by simp)
    case ends =>
     intro d a' w' hJ hall
     obtain ⟨e0, e1, e2, e3, e4, e5, e6, e7, e8, e9, e10, e11, e12, e13, e14, e15, e16, rfl, hB, c0, c1, c2, c3, c4, c5, c6, c7, c8, c9, c10, c11, c12, c13, c14, c15, c16, c17, cx, cg⟩ := hJ
     have ha0 := Ha0.out
     subst ha0
     clear Ha0 HND hsz r1 r13 r14 r16
     obtain ⟨h15, A9, C9, rfl, hX, hO⟩ := c17 (hall 17 (by decide +kernel))
     have HgE := Lib.hid cg
     have HXe := Lib.hid hX
     have HOe := Lib.hid hO
     clear c0 c1 c2 c3 c4 c5 c6 c7 c8 c9 c10 c11 c12 c13 c14 c15 c16 c17 cx cg hall hB hX hO h15
     simp only [putAll, Act.put, qA, qB, qC]
     go_wp2_with fail
     go_roundw
     case rel => exact ⟨k + 1, j + 2, _, hkL, two_up Hj.out, by go_num, HgE.out, HXe.out, HOe.out⟩
     case measure => exact measure_two hjM
  · obtain rfl : k = L := Nat.le_antisymm hk (Nat.not_lt.1 hkL)
    obtain rfl : j = M := Hj.out.symm.trans HM.out
    go_wp2_with fail
    exact Hexit.out _ _ _ _ _ _ _ _ _ _ _ _ _ _ _ _ _ _ _ _ _ _ _ _ _ _ _ _ _ _ _ _ _ HBG HXr HO
end Go.Proofs.YtnkgakhnlbifdaaGreat
