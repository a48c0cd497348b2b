/- Parts, as far as BookTakesCards reaches them, of: RefBookLoop3. No law is proved here. -/
import Derived.Test.YtnkgakhnlbifdaaGreatTb7
import Derived.Test.YtnkgakhnlbifdaaGreatTb5
import Derived.Test.YtnkgakhnlbifdaaGreatTbQ
namespace Go.Proofs.YtnkgakhnlbifdaaGreat
open Go.RowKit
theorem note_idx {k N M P J H : Nat} (hk : k < N) (hN : N ≤ 16) (hM : 1 + 7 * N + 2 = M) (hP : 7 * k = P) (hJ : 1 + P = J) (hH : J + 7 = H) :
 (IntKind.i64.wrap (7 * (k : Int)) = (P : Int) ∧ IntKind.i64.wrap (1 + (P : Int)) = (J : Int) ∧ IntKind.i64.wrap (8 + (P : Int)) = (H : Int)) ∧
 (wrap64 (7 * (k : Int)) = (P : Int) ∧ wrap64 (1 + (P : Int)) = (J : Int) ∧ wrap64 (8 + (P : Int)) = (H : Int)) ∧ J + 7 ≤ M ∧ IntKind.i64.wrap ((k : Int) + 1) = (k : Int) + 1 ∧ wrap64 ((k : Int) + 1) = (k : Int) + 1 := by
 refine ⟨⟨?_, ?_, ?_⟩, ⟨?_, ?_, ?_⟩, by omega, ?_, ?_⟩
 · rw [IntWalk.i64_in _ (by omega)]; omega
 · rw [IntWalk.i64_in _ (by omega)]; omega
 · rw [IntWalk.i64_in _ (by omega)]; omega
 · rw [IntWalk.wrap64_in _ (by omega)]; omega
 · rw [IntWalk.wrap64_in _ (by omega)]; omega
 · rw [IntWalk.wrap64_in _ (by omega)]; omega
 · rw [IntWalk.i64_in _ (by omega)]
 · rw [IntWalk.wrap64_in _ (by omega)]
theorem measure_one {k N : Nat} (h : k < N) : N - (intOf (.int .i64 ((k : Int) + 1))).toNat < N - (intOf (.int .i64 (k : Int))).toNat := by
 simp only [intOf]
 omega
theorem elem_n17 : Tryz.prog.underlying 33 = some (.slice (Tryz.prog.elem 33)) := by kernel_rfl
theorem size_n17 (w : World) : (sizeOf (Tryz.prog.elem 33)).run Tryz.prog w = .ok 1 w := by kernel_rfl
theorem seven_of (b off M C J : Nat) {H : Nat} (hH : J + 7 = H) (h : J + 7 ≤ C) (w : World) :
 (Instr.slice 33 (.slice (some ⟨b, off, none⟩) M C) (some (.int .i64 (J : Int))) (some (.int .i64 (H : Int))) none).run Tryz.prog w = .ok (.slice (some ⟨b, off + J, none⟩) 7 (C - J)) w := by
 subst hH
 rw [run_slice_lh w 33 (some ⟨b, off, none⟩) M C elem_n17 .i64 .i64 (J : Int) ((J + 7 : Nat) : Int) (by omega) (by omega) (by omega), size_n17]
 have e : sliced (some ⟨b, off, none⟩) J (J + 7) C 1 = .slice (some ⟨b, off + J, none⟩) 7 (C - J) := by
  unfold sliced
  rw [if_neg (by omega)]
  simp [Addr.add]
 simp only [Result.andThen, Int.toNat_natCast, e]
theorem list_cell {w : World} {b off M C : Nat} {ls : List Nat} (hN : Nums w (.slice (some ⟨b, off, none⟩) M C) (ls.map fun v : Nat => (v : Int))) {i : Nat} (hi : i < ls.length) : w.cell? ⟨b, off + i, none⟩ = some (.int .i64 ((ls[i]?.getD 0 : Nat) : Int)) := by
 obtain ⟨b', off', e, _, c⟩ := hN.at (i := i) (by rw [List.length_map]; exact hi)
 simp only [Option.some.injEq, Addr.mk.injEq, and_true] at e
 obtain ⟨rfl, rfl⟩ := e
 rw [c, List.getElem?_map, List.getElem?_eq_getElem hi]
 rfl
attribute [local go_sem ↓] run_fine
set_option maxRecDepth 1000000 in
set_option maxHeartbeats 16000000 in
theorem ktake_loop3 (N M G3 : Nat) (x : Bk) (rv lv ov tv uv iv : Value) (q r pp kk cc : Int) (E : List Nt) (ls : List Nat) (A : Option Addr) (C : Nat) (w3 wr0 : World)
 (hN16 : N ≤ 16) (HM : Hid (1 + 7 * N + 2 = M)) (hlen : ls.length = M) (HN : Hid (Nums wr0 (.slice A M C) (ls.map fun v : Nat => (v : Int)))) (HA : Hid (∀ ad, A = some ad → ad.block ≠ w3.heap.size))
 (HE : Hid (∀ i, i < N → ntAt E i = mkNote ls i)) (HC3 : Hid (Whole wr0 G3 23 (cfCells ⟨(N : Int), q, r, pp, kk, cc⟩))) (h3 : G3 ≠ w3.heap.size) (hG : w3.heap.size < wr0.heap.size) (Hb0 : Hid (Below w3.heap.size w3 wr0))
 (Q0 : Exit → Act → World → Prop) (s0 s1 s2 s4 s5 s6 s7 s8 s9 s10 s11 s12 s15 s16 s19 s20 s21 s22 s23 s24 s25 s26 s27 s28 s29 s30 s31 s32 s33 s34 s35 s36 s37 s38 s39 s40 s41 s42 s43 s44 s45 s46 s47 s48 s49 s50 s51 s52 s53 s54 s55 s56 s57 s58 s59 s60 s61 s62 s63 s64 s65 s66 s67 s68 s69 s70 s71 s72 s73 s74 s75 s76 s77 s78 s79 s80 s81 s82 s83 s84 s85 s86 s87 s88 s89 s90 s91 s92 s93 s94 s95 s96 s97 s98 s99 s100 s101 s102 s103 s104 s105 s106 s107 s108 s109 s110 s111 s112 s113 s114 s115 s116 s117 s118 s119 s120 s121 s122 s123 s124 s125 s126 s127 s128 s129 s130 s131 s132 s133 s134 s135 s136 s137 s138 s139 s140 s141 s142 s143 s188 s189 s190 s191 s192 s193 s194 s195 s196 s197 s198 s199 s200 s201 s202 s203 s204 s205 s206 s207 s208 s209 s210 s211 s212 s213 s214 s215 s216 s217 s218 s219 s220 s221 s222 s223 s224 s225 s226 s227 s228 s229 s230 s231 s232 s233 s234 s235 s236 s237 s238 s239 s240 s241 s242 s243 s244 s245 s246 s247 s248 s249 s250 s251 s252 s253 s254 s255 s256 s257 s258 s259 s260 s261 s262 s263 s264 s265 s266 s267 s268 s269 s270 s271 s272 s273 s274 s275 s276 s277 s278 s279 s280 s281 s282 s283 s284 s285 s286 s287 s288 s289 s290 s291 s292 s293 s294 s295 s296 s297 s298 s299 s300 s301 s302 s303 s304 s305 s306 s307 s308 s309 s310 s311 s312 s313 : Value) (u18 u144 u145 u146 u147 u148 u149 u150 u151 u152 u153 u154 u155 u156 u157 u158 u159 u160 u161 u162 u163 u164 u165 u166 u167 u168 u169 u170 u171 u172 u173 u174 u175 u176 u177 u178 u179 u180 u181 u182 u183 u184 u185 u186 u187 : Value)
 (hexit : ∀ (wr : World) (sv v18 v144 v145 v146 v147 v148 v149 v150 v151 v152 v153 v154 v155 v156 v157 v158 v159 v160 v161 v162 v163 v164 v165 v166 v167 v168 v169 v170 v171 v172 v173 v174 v175 v176 v177 v178 v179 v180 v181 v182 v183 v184 v185 v186 v187 : Value), Hid (ButG w3.heap.size wr0 wr) → Hid (Whole wr w3.heap.size 37 (bkCells x rv lv ov sv tv uv iv)) → Hid (wr.ownsRow wr0.heap.size 71 7 sv N (flatCells 7 N (fun i j => ntc (ntAt E i) j))) → Q0 (.exit 4) ⟨(s0 :: s1 :: s2 :: (.pointer (some ⟨G3, 0, none⟩)) :: s4 :: s5 :: s6 :: s7 :: s8 :: s9 :: s10 :: s11 :: s12 :: (.pointer (some ⟨w3.heap.size, 0, none⟩)) :: (.slice A M C) :: s15 :: s16 :: (.int .i64 (N : Int)) :: v18 :: s19 :: s20 :: s21 :: s22 :: s23 :: s24 :: s25 :: s26 :: s27 :: s28 :: s29 :: s30 :: s31 :: s32 :: s33 :: s34 :: s35 :: s36 :: s37 :: s38 :: s39 :: s40 :: s41 :: s42 :: s43 :: s44 :: s45 :: s46 :: s47 :: s48 :: s49 :: s50 :: s51 :: s52 :: s53 :: s54 :: s55 :: s56 :: s57 :: s58 :: s59 :: s60 :: s61 :: s62 :: s63 :: s64 :: s65 :: s66 :: s67 :: s68 :: s69 :: s70 :: s71 :: s72 :: s73 :: s74 :: s75 :: s76 :: s77 :: s78 :: s79 :: s80 :: s81 :: s82 :: s83 :: s84 :: s85 :: s86 :: s87 :: s88 :: s89 :: s90 :: s91 :: s92 :: s93 :: s94 :: s95 :: s96 :: s97 :: s98 :: s99 :: s100 :: s101 :: s102 :: s103 :: s104 :: s105 :: s106 :: s107 :: s108 :: s109 :: s110 :: s111 :: s112 :: s113 :: s114 :: s115 :: s116 :: s117 :: s118 :: s119 :: s120 :: s121 :: s122 :: s123 :: s124 :: s125 :: s126 :: s127 :: s128 :: s129 :: s130 :: s131 :: s132 :: s133 :: s134 :: s135 :: s136 :: s137 :: s138 :: s139 :: s140 :: s141 :: s142 :: s143 :: v144 :: v145 :: v146 :: v147 :: v148 :: v149 :: v150 :: v151 :: v152 :: v153 :: v154 :: v155 :: v156 :: v157 :: v158 :: v159 :: v160 :: v161 :: v162 :: v163 :: v164 :: v165 :: v166 :: v167 :: v168 :: v169 :: v170 :: v171 :: v172 :: v173 :: v174 :: v175 :: v176 :: v177 :: v178 :: v179 :: v180 :: v181 :: v182 :: v183 :: v184 :: v185 :: v186 :: v187 :: s188 :: s189 :: s190 :: s191 :: s192 :: s193 :: s194 :: s195 :: s196 :: s197 :: s198 :: s199 :: s200 :: s201 :: s202 :: s203 :: s204 :: s205 :: s206 :: s207 :: s208 :: s209 :: s210 :: s211 :: s212 :: s213 :: s214 :: s215 :: s216 :: s217 :: s218 :: s219 :: s220 :: s221 :: s222 :: s223 :: s224 :: s225 :: s226 :: s227 :: s228 :: s229 :: s230 :: s231 :: s232 :: s233 :: s234 :: s235 :: s236 :: s237 :: s238 :: s239 :: s240 :: s241 :: s242 :: s243 :: s244 :: s245 :: s246 :: s247 :: s248 :: s249 :: s250 :: s251 :: s252 :: s253 :: s254 :: s255 :: s256 :: s257 :: s258 :: s259 :: s260 :: s261 :: s262 :: s263 :: s264 :: s265 :: s266 :: s267 :: s268 :: s269 :: s270 :: s271 :: s272 :: s273 :: s274 :: s275 :: s276 :: s277 :: s278 :: s279 :: s280 :: s281 :: s282 :: s283 :: s284 :: s285 :: s286 :: s287 :: s288 :: s289 :: s290 :: s291 :: s292 :: s293 :: s294 :: s295 :: s296 :: s297 :: s298 :: s299 :: s300 :: s301 :: s302 :: s303 :: s304 :: s305 :: s306 :: s307 :: s308 :: s309 :: s310 :: s311 :: s312 :: s313 :: []).toArray, []⟩ wr)
 (HX0 : Hid (Whole wr0 w3.heap.size 37 (bkCells x rv lv ov (.slice none 0 0) tv uv iv))) :
 Code.wp Tryz.prog (Code.loop (ktakeBody 2)) Q0 ⟨(s0 :: s1 :: s2 :: (.pointer (some ⟨G3, 0, none⟩)) :: s4 :: s5 :: s6 :: s7 :: s8 :: s9 :: s10 :: s11 :: s12 :: (.pointer (some ⟨w3.heap.size, 0, none⟩)) :: (.slice A M C) :: s15 :: s16 :: (.int .i64 0) :: u18 :: s19 :: s20 :: s21 :: s22 :: s23 :: s24 :: s25 :: s26 :: s27 :: s28 :: s29 :: s30 :: s31 :: s32 :: s33 :: s34 :: s35 :: s36 :: s37 :: s38 :: s39 :: s40 :: s41 :: s42 :: s43 :: s44 :: s45 :: s46 :: s47 :: s48 :: s49 :: s50 :: s51 :: s52 :: s53 :: s54 :: s55 :: s56 :: s57 :: s58 :: s59 :: s60 :: s61 :: s62 :: s63 :: s64 :: s65 :: s66 :: s67 :: s68 :: s69 :: s70 :: s71 :: s72 :: s73 :: s74 :: s75 :: s76 :: s77 :: s78 :: s79 :: s80 :: s81 :: s82 :: s83 :: s84 :: s85 :: s86 :: s87 :: s88 :: s89 :: s90 :: s91 :: s92 :: s93 :: s94 :: s95 :: s96 :: s97 :: s98 :: s99 :: s100 :: s101 :: s102 :: s103 :: s104 :: s105 :: s106 :: s107 :: s108 :: s109 :: s110 :: s111 :: s112 :: s113 :: s114 :: s115 :: s116 :: s117 :: s118 :: s119 :: s120 :: s121 :: s122 :: s123 :: s124 :: s125 :: s126 :: s127 :: s128 :: s129 :: s130 :: s131 :: s132 :: s133 :: s134 :: s135 :: s136 :: s137 :: s138 :: s139 :: s140 :: s141 :: s142 :: s143 :: u144 :: u145 :: u146 :: u147 :: u148 :: u149 :: u150 :: u151 :: u152 :: u153 :: u154 :: u155 :: u156 :: u157 :: u158 :: u159 :: u160 :: u161 :: u162 :: u163 :: u164 :: u165 :: u166 :: u167 :: u168 :: u169 :: u170 :: u171 :: u172 :: u173 :: u174 :: u175 :: u176 :: u177 :: u178 :: u179 :: u180 :: u181 :: u182 :: u183 :: u184 :: u185 :: u186 :: u187 :: s188 :: s189 :: s190 :: s191 :: s192 :: s193 :: s194 :: s195 :: s196 :: s197 :: s198 :: s199 :: s200 :: s201 :: s202 :: s203 :: s204 :: s205 :: s206 :: s207 :: s208 :: s209 :: s210 :: s211 :: s212 :: s213 :: s214 :: s215 :: s216 :: s217 :: s218 :: s219 :: s220 :: s221 :: s222 :: s223 :: s224 :: s225 :: s226 :: s227 :: s228 :: s229 :: s230 :: s231 :: s232 :: s233 :: s234 :: s235 :: s236 :: s237 :: s238 :: s239 :: s240 :: s241 :: s242 :: s243 :: s244 :: s245 :: s246 :: s247 :: s248 :: s249 :: s250 :: s251 :: s252 :: s253 :: s254 :: s255 :: s256 :: s257 :: s258 :: s259 :: s260 :: s261 :: s262 :: s263 :: s264 :: s265 :: s266 :: s267 :: s268 :: s269 :: s270 :: s271 :: s272 :: s273 :: s274 :: s275 :: s276 :: s277 :: s278 :: s279 :: s280 :: s281 :: s282 :: s283 :: s284 :: s285 :: s286 :: s287 :: s288 :: s289 :: s290 :: s291 :: s292 :: s293 :: s294 :: s295 :: s296 :: s297 :: s298 :: s299 :: s300 :: s301 :: s302 :: s303 :: s304 :: s305 :: s306 :: s307 :: s308 :: s309 :: s310 :: s311 :: s312 :: s313 :: []).toArray, []⟩ wr0 := by
 have Hexit := Lib.hid hexit; clear hexit
 have Hlen := Lib.hid hlen; clear hlen
 have H3 := Lib.hid h3; clear h3
 have HN16 := Lib.hid hN16; clear hN16
 conv => arg 2; arg 1; whnf
 go_loopw [17] (fun s17 wr => ∃ (k : Nat) (sv : Value), k ≤ N ∧ s17 = .int .i64 (k : Int) ∧ Hid (ButG w3.heap.size wr0 wr) ∧ Hid (Whole wr w3.heap.size 37 (bkCells x rv lv ov sv tv uv iv)) ∧ Hid (wr.ownsRow wr0.heap.size 71 7 sv k (flatCells 7 k (fun i j => ntc (ntAt E i) j)))) (fun s17 _ => N - (intOf s17).toNat)
 case atStart => exact ⟨0, _, Nat.zero_le _, rfl, ButG.refl _ _, HX0.out, World.ownsRow_nil _ _ _ _⟩
 case round =>
  clear HX0
  obtain ⟨k, sv, hk, rfl, HBG, HXr, HO⟩ := hrel
  have HCr := Lib.hid (HC3.out.butG HBG.out H3.out)
  obtain ⟨d0, d1, d2, d3, d4, d5⟩ := config_cells HCr.out
  simp only at d0 d1 d2 d3 d4 d5
  clear d1 d2 d3 d4 d5
  by_cases hkN : k < N
  · obtain ⟨P, HP⟩ : ∃ z : Nat, Hid (7 * k = z) := ⟨_, rfl⟩
    obtain ⟨J, HJ⟩ : ∃ z : Nat, Hid (1 + P = z) := ⟨_, rfl⟩
    obtain ⟨H, HH⟩ : ∃ z : Nat, Hid (J + 7 = z) := ⟨_, rfl⟩
    obtain ⟨⟨x1, x2, x3⟩, ⟨x4, x5, x6⟩, hJM, x7, x8⟩ := note_idx hkN HN16.out HM.out HP.out HJ.out HH.out
    obtain ⟨b, off, rfl, _, _⟩ := HN.out.at (i := J) (by rw [List.length_map, Hlen.out]; exact Nat.lt_of_lt_of_le (Nat.lt_add_of_pos_right (by decide)) hJM)
    have hbG : b ≠ w3.heap.size := HA.out ⟨b, off, none⟩ rfl
    have hMC : M ≤ C := HN.out.cap.1
    have HCEL : Hid (∀ i, i < 7 → wr0.cell? ⟨b, off + J + i, none⟩ = some (.int .i64 ((ls[J + i]?.getD 0 : Nat) : Int))) := fun i hi => by
     rw [Nat.add_assoc]
     exact list_cell HN.out (by rw [Hlen.out]; exact Nat.lt_of_lt_of_le (Nat.add_lt_add_left hi J) hJM)
    obtain ⟨y0, Hy0⟩ : ∃ z : Int, Hid (((ls[J + 0]?.getD 0 : Nat) : Int) = z) := ⟨_, rfl⟩
    obtain ⟨y1, Hy1⟩ : ∃ z : Int, Hid (((ls[J + 1]?.getD 0 : Nat) : Int) = z) := ⟨_, rfl⟩
    obtain ⟨y2, Hy2⟩ : ∃ z : Int, Hid (((ls[J + 2]?.getD 0 : Nat) : Int) = z) := ⟨_, rfl⟩
    obtain ⟨y3, Hy3⟩ : ∃ z : Int, Hid (((ls[J + 3]?.getD 0 : Nat) : Int) = z) := ⟨_, rfl⟩
    obtain ⟨y4, Hy4⟩ : ∃ z : Int, Hid (((ls[J + 4]?.getD 0 : Nat) : Int) = z) := ⟨_, rfl⟩
    obtain ⟨y5, Hy5⟩ : ∃ z : Int, Hid (((ls[J + 5]?.getD 0 : Nat) : Int) = z) := ⟨_, rfl⟩
    obtain ⟨y6, Hy6⟩ : ∃ z : Int, Hid (((ls[J + 6]?.getD 0 : Nat) : Int) = z) := ⟨_, rfl⟩
    have HEk : Hid (ntAt E k = ⟨y0, y1, y2, y3, y4, y5, y6⟩) := by
     show _ = _
     rw [HE.out k hkN]
     unfold mkNote
     rw [show 1 + 7 * k = J by rw [show 7 * k = P from HP.out]; exact HJ.out, ← Hy0.out, ← Hy1.out, ← Hy2.out, ← Hy3.out, ← Hy4.out, ← Hy5.out, ← Hy6.out]
     rfl
    have V0 : Hid (wr0.cell? ⟨b, off + J, none⟩ = some (.int .i64 y0)) := by have h := HCEL.out 0 (by decide); rw [Hy0.out] at h; exact h
    have V1 : Hid (wr0.cell? ⟨b, off + J + 1, none⟩ = some (.int .i64 y1)) := by have h := HCEL.out 1 (by decide); rw [Hy1.out] at h; exact h
    have V2 : Hid (wr0.cell? ⟨b, off + J + 2, none⟩ = some (.int .i64 y2)) := by have h := HCEL.out 2 (by decide); rw [Hy2.out] at h; exact h
    have V3 : Hid (wr0.cell? ⟨b, off + J + 3, none⟩ = some (.int .i64 y3)) := by have h := HCEL.out 3 (by decide); rw [Hy3.out] at h; exact h
    have V4 : Hid (wr0.cell? ⟨b, off + J + 4, none⟩ = some (.int .i64 y4)) := by have h := HCEL.out 4 (by decide); rw [Hy4.out] at h; exact h
    have V5 : Hid (wr0.cell? ⟨b, off + J + 5, none⟩ = some (.int .i64 y5)) := by have h := HCEL.out 5 (by decide); rw [Hy5.out] at h; exact h
    have V6 : Hid (wr0.cell? ⟨b, off + J + 6, none⟩ = some (.int .i64 y6)) := by have h := HCEL.out 6 (by decide); rw [Hy6.out] at h; exact h
    have hsz := HBG.out.size
    have k0 : (0 : Int) ≤ (k : Int) := Int.natCast_nonneg k
    have k1 : (k : Int) < (N : Int) := Int.ofNat_lt.2 hkN
    have j0 : (0 : Int) ≤ (J : Int) := Int.natCast_nonneg J
    have hsl : ∀ W : World, (Instr.slice 33 (.slice (some ⟨b, off, none⟩) M C) (some (.int .i64 (J : Int))) (some (.int .i64 (H : Int))) none).run Tryz.prog W = .ok (.slice (some ⟨b, off + J, none⟩) 7 (C - J)) W := seven_of b off M C J HH.out (Nat.le_trans hJM hMC)
    have j1 : (J : Int) ≤ (H : Int) := Int.ofNat_le.2 (by rw [← HH.out]; exact Nat.le_add_right _ _)
    have j2 : (H : Int) ≤ (C : Int) := Int.ofNat_le.2 (by rw [← HH.out]; exact Nat.le_trans hJM hMC)
    clear hJM hMC
    have HkM : Hid (k ≤ 1000) := Nat.le_trans hk (Nat.le_trans HN16.out (by decide))
    have hlx := HXr.out.lt
    have Hbr := Lib.hid (HBG.out.below Hb0.out (Nat.le_of_lt hG))
    go_wp2_with fail
    refine region_any fun a0 Ha0 => ?_
    have HND : Hid (([158, 159, 160, 161, 162, 163, 164, 165, 166, 167, 168, 169, 170, 171, 172, 173, 174, 175, 176, 177, 178, 179, 180, 181, 182, 183, 184, 185, 186, 187] : List Nat).Nodup) := by show List.Nodup _; decide
    have hsz : a0.tmps.size = 314 := by rw [Ha0.out]; rfl
    have r13 : slot a0 13 = (.pointer (some ⟨w3.heap.size, 0, none⟩)) := by rw [Ha0.out]; rfl
    have r18 : slot a0 18 = (.slice (some ⟨b, off + J, none⟩) 7 (C - J)) := by rw [Ha0.out]; rfl
    refine wp_region_each_at ?hm ?hb (fun a0 d a' w' => ∃ (e0 e1 e2 e3 e4 e5 e6 e7 e8 e9 e10 e11 e12 e13 e14 e15 e16 e17 e18 e19 e20 e21 e22 e23 e24 e25 e26 e27 e28 e29 : Value), a' = putAll a0 [(158, e0), (159, e1), (160, e2), (161, e3), (162, e4), (163, e5), (164, e6), (165, e7), (166, e8), (167, e9), (168, e10), (169, e11), (170, e12), (171, e13), (172, e14), (173, e15), (174, e16), (175, e17), (176, e18), (177, e19), (178, e20), (179, e21), (180, e22), (181, e23), (182, e24), (183, e25), (184, e26), (185, e27), (186, e28), (187, e29)] ∧ Below w3.heap.size w3 w' ∧ (d 0 = true → e0 = (.pointer (some ⟨w3.heap.size, 5, none⟩))) ∧ (d 1 = true → e1 = sv) ∧ (d 2 = true → e2 = (.slice (some ⟨b, off + J, none⟩) 7 (C - J))) ∧ (d 3 = true → e3 = (.pointer (some ⟨b, off + J, none⟩))) ∧ (d 4 = true → e4 = (.int .i64 y0)) ∧ (d 5 = true → e5 = (.slice (some ⟨b, off + J, none⟩) 7 (C - J))) ∧ (d 6 = true → e6 = (.pointer (some ⟨b, off + J + 1, none⟩))) ∧ (d 7 = true → e7 = (.int .i64 y1)) ∧ (d 8 = true → e8 = (.slice (some ⟨b, off + J, none⟩) 7 (C - J))) ∧ (d 9 = true → e9 = (.pointer (some ⟨b, off + J + 2, none⟩))) ∧ (d 10 = true → e10 = (.int .i64 y2)) ∧ (d 11 = true → e11 = (.agg #[.int .i64 y1, .int .i64 y2])) ∧ (d 12 = true → e12 = (.slice (some ⟨b, off + J, none⟩) 7 (C - J))) ∧ (d 13 = true → e13 = (.pointer (some ⟨b, off + J + 3, none⟩))) ∧ (d 14 = true → e14 = (.int .i64 y3)) ∧ (d 15 = true → e15 = (.agg #[.int .i64 y1, .int .i64 y2, .int .i64 y3])) ∧ (d 16 = true → e16 = (.slice (some ⟨b, off + J, none⟩) 7 (C - J))) ∧ (d 17 = true → e17 = (.pointer (some ⟨b, off + J + 4, none⟩))) ∧ (d 18 = true → e18 = (.int .i64 y4)) ∧ (d 19 = true → e19 = (.slice (some ⟨b, off + J, none⟩) 7 (C - J))) ∧ (d 20 = true → e20 = (.pointer (some ⟨b, off + J + 5, none⟩))) ∧ (d 21 = true → e21 = (.int .i64 y5)) ∧ (d 22 = true → e22 = (.slice (some ⟨b, off + J, none⟩) 7 (C - J))) ∧ (d 23 = true → e23 = (.pointer (some ⟨b, off + J + 6, none⟩))) ∧ (d 24 = true → e24 = (.int .i64 y6)) ∧ (d 25 = true → e25 = (.agg #[.int .i64 y5, .int .i64 y6])) ∧ (d 26 = true → e26 = (.agg #[.int .i64 y0, .int .i64 y1, .int .i64 y2, .int .i64 y3, .int .i64 y4, .int .i64 y5, .int .i64 y6])) ∧ (d 27 = true → (d 28 = false → ∃ g, e27 = .slice (some ⟨g, 0, none⟩) 1 1 ∧ Whole w' g 71 #[.int .i64 y0, .int .i64 y1, .int .i64 y2, .int .i64 y3, .int .i64 y4, .int .i64 y5, .int .i64 y6])) ∧ (d 28 = true → (d 1 = true ∧ d 27 = true ∧ (d 30 = false → ∃ A C, e28 = .slice A (k + 1) C ∧ Whole w' w3.heap.size 37 (bkCells x rv lv ov sv tv uv iv) ∧ w'.ownsRow wr0.heap.size 71 7 (.slice A (k + 1) C) (k + 1) (flatCells 7 (k + 1) (fun i j => ntc (ntAt E i) j))))) ∧ (d 29 = true → e29 = (.pointer (some ⟨w3.heap.size, 5, none⟩))) ∧ (d 30 = true → (d 28 = true ∧ ∃ A C, e28 = .slice A (k + 1) C ∧ Whole w' w3.heap.size 37 (bkCells x rv lv ov (.slice A (k + 1) C) tv uv iv) ∧ w'.ownsRow wr0.heap.size 71 7 (.slice A (k + 1) C) (k + 1) (flatCells 7 (k + 1) (fun i j => ntc (ntAt E i) j)))) ∧ (d 28 = false → Whole w' w3.heap.size 37 (bkCells x rv lv ov sv tv uv iv) ∧ w'.ownsRow wr0.heap.size 71 7 sv k (flatCells 7 k (fun i j => ntc (ntAt E i) j))) ∧ ButG w3.heap.size wr0 w') ?h0 ?step ?ends
    case hm => kernel_rfl
    case hb => kernel_rfl
    case h0 =>
     refine ⟨_, _, _, _, _, _, _, _, _, _, _, _, _, _, _, _, _, _, _, _, _, _, _, _, _, _, _, _, _, _, putAll_same a0 [158, 159, 160, 161, 162, 163, 164, 165, 166, 167, 168, 169, 170, 171, 172, 173, 174, 175, 176, 177, 178, 179, 180, 181, 182, 183, 184, 185, 186, 187], Hbr.out.drew, fun h => absurd h (by decide), fun h => absurd h (by decide), fun h => absurd h (by decide), fun h => absurd h (by decide), fun h => absurd h (by decide), fun h => absurd h (by decide), fun h => absurd h (by decide), fun h => absurd h (by decide), fun h => absurd h (by decide), fun h => absurd h (by decide), fun h => absurd h (by decide), fun h => absurd h (by decide), fun h => absurd h (by decide), fun h => absurd h (by decide), fun h => absurd h (by decide), fun h => absurd h (by decide), fun h => absurd h (by decide), fun h => absurd h (by decide), fun h => absurd h (by decide), fun h => absurd h (by decide), fun h => absurd h (by decide), fun h => absurd h (by decide), fun h => absurd h (by decide), fun h => absurd h (by decide), fun h => absurd h (by decide), fun h => absurd h (by decide), fun h => absurd h (by decide), fun h => absurd h (by decide), fun h => absurd h (by decide), fun h => absurd h (by decide), fun h => absurd h (by decide), fun _ => ⟨HXr.out.drew, own_later HO.out (Below.refl _ _).drew⟩, HBG.out.next (Below.refl _ _).drew⟩
    case step =>
     intro i d a' w' hi hJ hd hk
     obtain ⟨e0, e1, e2, e3, e4, e5, e6, e7, e8, e9, e10, e11, e12, e13, e14, e15, e16, e17, e18, e19, e20, e21, e22, e23, e24, e25, e26, e27, e28, e29, rfl, hC⟩ := hJ
     obtain ⟨hB, hC⟩ := hC
     obtain ⟨c0, hC⟩ := hC
     obtain ⟨c1, hC⟩ := hC
     obtain ⟨c2, hC⟩ := hC
     obtain ⟨c3, hC⟩ := hC
     obtain ⟨c4, hC⟩ := hC
     obtain ⟨c5, hC⟩ := hC
     obtain ⟨c6, hC⟩ := hC
     obtain ⟨c7, hC⟩ := hC
     obtain ⟨c8, hC⟩ := hC
     obtain ⟨c9, hC⟩ := hC
     obtain ⟨c10, hC⟩ := hC
     obtain ⟨c11, hC⟩ := hC
     obtain ⟨c12, hC⟩ := hC
     obtain ⟨c13, hC⟩ := hC
     obtain ⟨c14, hC⟩ := hC
     obtain ⟨c15, hC⟩ := hC
     obtain ⟨c16, hC⟩ := hC
     obtain ⟨c17, hC⟩ := hC
     obtain ⟨c18, hC⟩ := hC
     obtain ⟨c19, hC⟩ := hC
     obtain ⟨c20, hC⟩ := hC
     obtain ⟨c21, hC⟩ := hC
     obtain ⟨c22, hC⟩ := hC
     obtain ⟨c23, hC⟩ := hC
     obtain ⟨c24, hC⟩ := hC
     obtain ⟨c25, hC⟩ := hC
     obtain ⟨c26, hC⟩ := hC
     obtain ⟨c27, hC⟩ := hC
     obtain ⟨c28, hC⟩ := hC
     obtain ⟨c29, hC⟩ := hC
     obtain ⟨c30, hC⟩ := hC
     obtain ⟨cx, hC⟩ := hC
     have cg := hC
     clear hC
     match i, hi, hd, hk with
     | 0, _, hd, hk =>
       obtain ⟨fr, HFR, f13, f18⟩ : ∃ fr, Hid (putAll a0 [(158, e0), (159, e1), (160, e2), (161, e3), (162, e4), (163, e5), (164, e6), (165, e7), (166, e8), (167, e9), (168, e10), (169, e11), (170, e12), (171, e13), (172, e14), (173, e15), (174, e16), (175, e17), (176, e18), (177, e19), (178, e20), (179, e21), (180, e22), (181, e23), (182, e24), (183, e25), (184, e26), (185, e27), (186, e28), (187, e29)] = fr) ∧ fr.tmps[13]? = some ((.pointer (some ⟨w3.heap.size, 0, none⟩))) ∧ fr.tmps[18]? = some ((.slice (some ⟨b, off + J, none⟩) 7 (C - J))) := ⟨_, rfl, far_base a0 _ 13 (by rw [hsz]; decide) r13 rfl, far_base a0 _ 18 (by rw [hsz]; decide) r18 rfl⟩
       rw [HFR.out]
       apply wpOp_at
       case ho => rfl
       intro K hK
       go_simp
       refine hK _ _ ⟨(.pointer (some ⟨w3.heap.size, 5, none⟩)), e1, e2, e3, e4, e5, e6, e7, e8, e9, e10, e11, e12, e13, e14, e15, e16, e17, e18, e19, e20, e21, e22, e23, e24, e25, e26, e27, e28, e29, (by rw [← HFR.out]; exact put_upd 0 rfl HND.out), hB, fun _ => rfl, c1, c2, c3, c4, c5, c6, c7, c8, c9, c10, c11, c12, c13, c14, c15, c16, c17, c18, c19, c20, c21, c22, c23, c24, c25, c26, c27, c28, c29, c30, cx, cg⟩
     | 1, _, hd, hk =>
       have h0 : d 0 = true := hk 0 (by decide +kernel)
       obtain rfl := c0 h0
       have nap : d 28 = false := n16_of hd fun h => (c28 h).1
       obtain ⟨_, ⟨_, M5, _, _⟩, _⟩ := bk_cells (cx nap).1
       obtain ⟨fr, HFR, f158, f13, f18⟩ : ∃ fr, Hid (putAll a0 [(158, (.pointer (some ⟨w3.heap.size, 5, none⟩))), (159, e1), (160, e2), (161, e3), (162, e4), (163, e5), (164, e6), (165, e7), (166, e8), (167, e9), (168, e10), (169, e11), (170, e12), (171, e13), (172, e14), (173, e15), (174, e16), (175, e17), (176, e18), (177, e19), (178, e20), (179, e21), (180, e22), (181, e23), (182, e24), (183, e25), (184, e26), (185, e27), (186, e28), (187, e29)] = fr) ∧ fr.tmps[158]? = some ((.pointer (some ⟨w3.heap.size, 5, none⟩))) ∧ fr.tmps[13]? = some ((.pointer (some ⟨w3.heap.size, 0, none⟩))) ∧ fr.tmps[18]? = some ((.slice (some ⟨b, off + J, none⟩) 7 (C - J))) := ⟨_, rfl, far_get a0 _ 158 (by rw [hsz]; decide), far_base a0 _ 13 (by rw [hsz]; decide) r13 rfl, far_base a0 _ 18 (by rw [hsz]; decide) r18 rfl⟩
       rw [HFR.out]
       apply wpOp_at
       case ho => rfl
       intro K hK
       go_simp
       refine hK _ _ ⟨(.pointer (some ⟨w3.heap.size, 5, none⟩)), sv, e2, e3, e4, e5, e6, e7, e8, e9, e10, e11, e12, e13, e14, e15, e16, e17, e18, e19, e20, e21, e22, e23, e24, e25, e26, e27, e28, e29, (by rw [← HFR.out]; exact put_upd 1 rfl HND.out), hB, c0, fun _ => rfl, c2, c3, c4, c5, c6, c7, c8, c9, c10, c11, c12, c13, c14, c15, c16, c17, c18, c19, c20, c21, c22, c23, c24, c25, c26, c27, fun h => absurd (nap.symm.trans h) (by decide), c29, c30, cx, cg⟩
     | 2, _, hd, hk =>
       obtain ⟨fr, HFR, f13, f18⟩ : ∃ fr, Hid (putAll a0 [(158, e0), (159, e1), (160, e2), (161, e3), (162, e4), (163, e5), (164, e6), (165, e7), (166, e8), (167, e9), (168, e10), (169, e11), (170, e12), (171, e13), (172, e14), (173, e15), (174, e16), (175, e17), (176, e18), (177, e19), (178, e20), (179, e21), (180, e22), (181, e23), (182, e24), (183, e25), (184, e26), (185, e27), (186, e28), (187, e29)] = fr) ∧ fr.tmps[13]? = some ((.pointer (some ⟨w3.heap.size, 0, none⟩))) ∧ fr.tmps[18]? = some ((.slice (some ⟨b, off + J, none⟩) 7 (C - J))) := ⟨_, rfl, far_base a0 _ 13 (by rw [hsz]; decide) r13 rfl, far_base a0 _ 18 (by rw [hsz]; decide) r18 rfl⟩
       rw [HFR.out]
       apply wpOp_at
       case ho => rfl
       intro K hK
       go_simp
       refine hK _ _ ⟨e0, e1, (.slice (some ⟨b, off + J, none⟩) 7 (C - J)), e3, e4, e5, e6, e7, e8, e9, e10, e11, e12, e13, e14, e15, e16, e17, e18, e19, e20, e21, e22, e23, e24, e25, e26, e27, e28, e29, (by rw [← HFR.out]; exact put_upd 2 rfl HND.out), hB, c0, c1, fun _ => rfl, c3, c4, c5, c6, c7, c8, c9, c10, c11, c12, c13, c14, c15, c16, c17, c18, c19, c20, c21, c22, c23, c24, c25, c26, c27, c28, c29, c30, cx, cg⟩
     | 3, _, hd, hk =>
       have h2 : d 2 = true := hk 2 (by decide +kernel)
       obtain rfl := c2 h2
       obtain ⟨fr, HFR, f160, f13, f18⟩ : ∃ fr, Hid (putAll a0 [(158, e0), (159, e1), (160, (.slice (some ⟨b, off + J, none⟩) 7 (C - J))), (161, e3), (162, e4), (163, e5), (164, e6), (165, e7), (166, e8), (167, e9), (168, e10), (169, e11), (170, e12), (171, e13), (172, e14), (173, e15), (174, e16), (175, e17), (176, e18), (177, e19), (178, e20), (179, e21), (180, e22), (181, e23), (182, e24), (183, e25), (184, e26), (185, e27), (186, e28), (187, e29)] = fr) ∧ fr.tmps[160]? = some ((.slice (some ⟨b, off + J, none⟩) 7 (C - J))) ∧ fr.tmps[13]? = some ((.pointer (some ⟨w3.heap.size, 0, none⟩))) ∧ fr.tmps[18]? = some ((.slice (some ⟨b, off + J, none⟩) 7 (C - J))) := ⟨_, rfl, far_get a0 _ 160 (by rw [hsz]; decide), far_base a0 _ 13 (by rw [hsz]; decide) r13 rfl, far_base a0 _ 18 (by rw [hsz]; decide) r18 rfl⟩
       rw [HFR.out]
       apply wpOp_at
       case ho => rfl
       intro K hK
       go_simp
       refine hK _ _ ⟨e0, e1, (.slice (some ⟨b, off + J, none⟩) 7 (C - J)), (.pointer (some ⟨b, off + J, none⟩)), e4, e5, e6, e7, e8, e9, e10, e11, e12, e13, e14, e15, e16, e17, e18, e19, e20, e21, e22, e23, e24, e25, e26, e27, e28, e29, (by rw [← HFR.out]; exact put_upd 3 rfl HND.out), hB, c0, c1, c2, fun _ => rfl, c4, c5, c6, c7, c8, c9, c10, c11, c12, c13, c14, c15, c16, c17, c18, c19, c20, c21, c22, c23, c24, c25, c26, c27, c28, c29, c30, cx, cg⟩
     | 4, _, hd, hk =>
       have h3 : d 3 = true := hk 3 (by decide +kernel)
       obtain rfl := c3 h3
       have z0 := cg.cell_of V0.out hbG
       obtain ⟨fr, HFR, f161, f13, f18⟩ : ∃ fr, Hid (putAll a0 [(158, e0), (159, e1), (160, e2), (161, (.pointer (some ⟨b, off + J, none⟩))), (162, e4), (163, e5), (164, e6), (165, e7), (166, e8), (167, e9), (168, e10), (169, e11), (170, e12), (171, e13), (172, e14), (173, e15), (174, e16), (175, e17), (176, e18), (177, e19), (178, e20), (179, e21), (180, e22), (181, e23), (182, e24), (183, e25), (184, e26), (185, e27), (186, e28), (187, e29)] = fr) ∧ fr.tmps[161]? = some ((.pointer (some ⟨b, off + J, none⟩))) ∧ fr.tmps[13]? = some ((.pointer (some ⟨w3.heap.size, 0, none⟩))) ∧ fr.tmps[18]? = some ((.slice (some ⟨b, off + J, none⟩) 7 (C - J))) := ⟨_, rfl, far_get a0 _ 161 (by rw [hsz]; decide), far_base a0 _ 13 (by rw [hsz]; decide) r13 rfl, far_base a0 _ 18 (by rw [hsz]; decide) r18 rfl⟩
       rw [HFR.out]
       apply wpOp_at
       case ho => rfl
       intro K hK
       go_simp
       refine hK _ _ ⟨e0, e1, e2, (.pointer (some ⟨b, off + J, none⟩)), (.int .i64 y0), e5, e6, e7, e8, e9, e10, e11, e12, e13, e14, e15, e16, e17, e18, e19, e20, e21, e22, e23, e24, e25, e26, e27, e28, e29, (by rw [← HFR.out]; exact put_upd 4 rfl HND.out), hB, c0, c1, c2, c3, fun _ => rfl, c5, c6, c7, c8, c9, c10, c11, c12, c13, c14, c15, c16, c17, c18, c19, c20, c21, c22, c23, c24, c25, c26, c27, c28, c29, c30, cx, cg⟩
     | 5, _, hd, hk =>
       obtain ⟨fr, HFR, f13, f18⟩ : ∃ fr, Hid (putAll a0 [(158, e0), (159, e1), (160, e2), (161, e3), (162, e4), (163, e5), (164, e6), (165, e7), (166, e8), (167, e9), (168, e10), (169, e11), (170, e12), (171, e13), (172, e14), (173, e15), (174, e16), (175, e17), (176, e18), (177, e19), (178, e20), (179, e21), (180, e22), (181, e23), (182, e24), (183, e25), (184, e26), (185, e27), (186, e28), (187, e29)] = fr) ∧ fr.tmps[13]? = some ((.pointer (some ⟨w3.heap.size, 0, none⟩))) ∧ fr.tmps[18]? = some ((.slice (some ⟨b, off + J, none⟩) 7 (C - J))) := ⟨_, rfl, far_base a0 _ 13 (by rw [hsz]; decide) r13 rfl, far_base a0 _ 18 (by rw [hsz]; decide) r18 rfl⟩
       rw [HFR.out]
       apply wpOp_at
       case ho => rfl
       intro K hK
       go_simp
       refine hK _ _ ⟨e0, e1, e2, e3, e4, (.slice (some ⟨b, off + J, none⟩) 7 (C - J)), e6, e7, e8, e9, e10, e11, e12, e13, e14, e15, e16, e17, e18, e19, e20, e21, e22, e23, e24, e25, e26, e27, e28, e29, (by rw [← HFR.out]; exact put_upd 5 rfl HND.out), hB, c0, c1, c2, c3, c4, fun _ => rfl, c6, c7, c8, c9, c10, c11, c12, c13, c14, c15, c16, c17, c18, c19, c20, c21, c22, c23, c24, c25, c26, c27, c28, c29, c30, cx, cg⟩
     | 6, _, hd, hk =>
       have h5 : d 5 = true := hk 5 (by decide +kernel)
       obtain rfl := c5 h5
       obtain ⟨fr, HFR, f163, f13, f18⟩ : ∃ fr, Hid (putAll a0 [(158, e0), (159, e1), (160, e2), (161, e3), (162, e4), (163, (.slice (some ⟨b, off + J, none⟩) 7 (C - J))), (164, e6), (165, e7), (166, e8), (167, e9), (168, e10), (169, e11), (170, e12), (171, e13), (172, e14), (173, e15), (174, e16), (175, e17), (176, e18), (177, e19), (178, e20), (179, e21), (180, e22), (181, e23), (182, e24), (183, e25), (184, e26), (185, e27), (186, e28), (187, e29)] = fr) ∧ fr.tmps[163]? = some ((.slice (some ⟨b, off + J, none⟩) 7 (C - J))) ∧ fr.tmps[13]? = some ((.pointer (some ⟨w3.heap.size, 0, none⟩))) ∧ fr.tmps[18]? = some ((.slice (some ⟨b, off + J, none⟩) 7 (C - J))) := ⟨_, rfl, far_get a0 _ 163 (by rw [hsz]; decide), far_base a0 _ 13 (by rw [hsz]; decide) r13 rfl, far_base a0 _ 18 (by rw [hsz]; decide) r18 rfl⟩
       rw [HFR.out]
       apply wpOp_at
       case ho => rfl
       intro K hK
       go_simp
       refine hK _ _ ⟨e0, e1, e2, e3, e4, (.slice (some ⟨b, off + J, none⟩) 7 (C - J)), (.pointer (some ⟨b, off + J + 1, none⟩)), e7, e8, e9, e10, e11, e12, e13, e14, e15, e16, e17, e18, e19, e20, e21, e22, e23, e24, e25, e26, e27, e28, e29, (by rw [← HFR.out]; exact put_upd 6 rfl HND.out), hB, c0, c1, c2, c3, c4, c5, fun _ => rfl, c7, c8, c9, c10, c11, c12, c13, c14, c15, c16, c17, c18, c19, c20, c21, c22, c23, c24, c25, c26, c27, c28, c29, c30, cx, cg⟩
     | 7, _, hd, hk =>
       have h6 : d 6 = true := hk 6 (by decide +kernel)
       obtain rfl := c6 h6
       have z0 := cg.cell_of V1.out hbG
       obtain ⟨fr, HFR, f164, f13, f18⟩ : ∃ fr, Hid (putAll a0 [(158, e0), (159, e1), (160, e2), (161, e3), (162, e4), (163, e5), (164, (.pointer (some ⟨b, off + J + 1, none⟩))), (165, e7), (166, e8), (167, e9), (168, e10), (169, e11), (170, e12), (171, e13), (172, e14), (173, e15), (174, e16), (175, e17), (176, e18), (177, e19), (178, e20), (179, e21), (180, e22), (181, e23), (182, e24), (183, e25), (184, e26), (185, e27), (186, e28), (187, e29)] = fr) ∧ fr.tmps[164]? = some ((.pointer (some ⟨b, off + J + 1, none⟩))) ∧ fr.tmps[13]? = some ((.pointer (some ⟨w3.heap.size, 0, none⟩))) ∧ fr.tmps[18]? = some ((.slice (some ⟨b, off + J, none⟩) 7 (C - J))) := ⟨_, rfl, far_get a0 _ 164 (by rw [hsz]; decide), far_base a0 _ 13 (by rw [hsz]; decide) r13 rfl, far_base a0 _ 18 (by rw [hsz]; decide) r18 rfl⟩
       rw [HFR.out]
       apply wpOp_at
       case ho => rfl
       intro K hK
       go_simp
       refine hK _ _ ⟨e0, e1, e2, e3, e4, e5, (.pointer (some ⟨b, off + J + 1, none⟩)), (.int .i64 y1), e8, e9, e10, e11, e12, e13, e14, e15, e16, e17, e18, e19, e20, e21, e22, e23, e24, e25, e26, e27, e28, e29, (by rw [← HFR.out]; exact put_upd 7 rfl HND.out), hB, c0, c1, c2, c3, c4, c5, c6, fun _ => rfl, c8, c9, c10, c11, c12, c13, c14, c15, c16, c17, c18, c19, c20, c21, c22, c23, c24, c25, c26, c27, c28, c29, c30, cx, cg⟩
     | 8, _, hd, hk =>
       obtain ⟨fr, HFR, f13, f18⟩ : ∃ fr, Hid (putAll a0 [(158, e0), (159, e1), (160, e2), (161, e3), (162, e4), (163, e5), (164, e6), (165, e7), (166, e8), (167, e9), (168, e10), (169, e11), (170, e12), (171, e13), (172, e14), (173, e15), (174, e16), (175, e17), (176, e18), (177, e19), (178, e20), (179, e21), (180, e22), (181, e23), (182, e24), (183, e25), (184, e26), (185, e27), (186, e28), (187, e29)] = fr) ∧ fr.tmps[13]? = some ((.pointer (some ⟨w3.heap.size, 0, none⟩))) ∧ fr.tmps[18]? = some ((.slice (some ⟨b, off + J, none⟩) 7 (C - J))) := ⟨_, rfl, far_base a0 _ 13 (by rw [hsz]; decide) r13 rfl, far_base a0 _ 18 (by rw [hsz]; decide) r18 rfl⟩
       rw [HFR.out]
       apply wpOp_at
       case ho => rfl
       intro K hK
       go_simp
       refine hK _ _ ⟨e0, e1, e2, e3, e4, e5, e6, e7, (.slice (some ⟨b, off + J, none⟩) 7 (C - J)), e9, e10, e11, e12, e13, e14, e15, e16, e17, e18, e19, e20, e21, e22, e23, e24, e25, e26, e27, e28, e29, (by rw [← HFR.out]; exact put_upd 8 rfl HND.out), hB, c0, c1, c2, c3, c4, c5, c6, c7, fun _ => rfl, c9, c10, c11, c12, c13, c14, c15, c16, c17, c18, c19, c20, c21, c22, c23, c24, c25, c26, c27, c28, c29, c30, cx, cg⟩
     | 9, _, hd, hk =>
       have h8 : d 8 = true := hk 8 (by decide +kernel)
       obtain rfl := c8 h8
       obtain ⟨fr, HFR, f166, f13, f18⟩ : ∃ fr, Hid (putAll a0 [(158, e0), (159, e1), (160, e2), (161, e3), (162, e4), (163, e5), (164, e6), (165, e7), (166, (.slice (some ⟨b, off + J, none⟩) 7 (C - J))), (167, e9), (168, e10), (169, e11), (170, e12), (171, e13), (172, e14), (173, e15), (174, e16), (175, e17), (176, e18), (177, e19), (178, e20), (179, e21), (180, e22), (181, e23), (182, e24), (183, e25), (184, e26), (185, e27), (186, e28), (187, e29)] = fr) ∧ fr.tmps[166]? = some ((.slice (some ⟨b, off + J, none⟩) 7 (C - J))) ∧ fr.tmps[13]? = some ((.pointer (some ⟨w3.heap.size, 0, none⟩))) ∧ fr.tmps[18]? = some ((.slice (some ⟨b, off + J, none⟩) 7 (C - J))) := ⟨_, rfl, far_get a0 _ 166 (by rw [hsz]; decide), far_base a0 _ 13 (by rw [hsz]; decide) r13 rfl, far_base a0 _ 18 (by rw [hsz]; decide) r18 rfl⟩
       rw [HFR.out]
       apply wpOp_at
       case ho => rfl
       intro K hK
       go_simp
       refine hK _ _ ⟨e0, e1, e2, e3, e4, e5, e6, e7, (.slice (some ⟨b, off + J, none⟩) 7 (C - J)), (.pointer (some ⟨b, off + J + 2, none⟩)), e10, e11, e12, e13, e14, e15, e16, e17, e18, e19, e20, e21, e22, e23, e24, e25, e26, e27, e28, e29, (by rw [← HFR.out]; exact put_upd 9 rfl HND.out), hB, c0, c1, c2, c3, c4, c5, c6, c7, c8, fun _ => rfl, c10, c11, c12, c13, c14, c15, c16, c17, c18, c19, c20, c21, c22, c23, c24, c25, c26, c27, c28, c29, c30, cx, cg⟩
     | 10, _, hd, hk =>
       have h9 : d 9 = true := hk 9 (by decide +kernel)
       obtain rfl := c9 h9
       have z0 := cg.cell_of V2.out hbG
       obtain ⟨fr, HFR, f167, f13, f18⟩ : ∃ fr, Hid (putAll a0 [(158, e0), (159, e1), (160, e2), (161, e3), (162, e4), (163, e5), (164, e6), (165, e7), (166, e8), (167, (.pointer (some ⟨b, off + J + 2, none⟩))), (168, e10), (169, e11), (170, e12), (171, e13), (172, e14), (173, e15), (174, e16), (175, e17), (176, e18), (177, e19), (178, e20), (179, e21), (180, e22), (181, e23), (182, e24), (183, e25), (184, e26), (185, e27), (186, e28), (187, e29)] = fr) ∧ fr.tmps[167]? = some ((.pointer (some ⟨b, off + J + 2, none⟩))) ∧ fr.tmps[13]? = some ((.pointer (some ⟨w3.heap.size, 0, none⟩))) ∧ fr.tmps[18]? = some ((.slice (some ⟨b, off + J, none⟩) 7 (C - J))) := ⟨_, rfl, far_get a0 _ 167 (by rw [hsz]; decide), far_base a0 _ 13 (by rw [hsz]; decide) r13 rfl, far_base a0 _ 18 (by rw [hsz]; decide) r18 rfl⟩
       rw [HFR.out]
       apply wpOp_at
       case ho => rfl
       intro K hK
       go_simp
       refine hK _ _ ⟨e0, e1, e2, e3, e4, e5, e6, e7, e8, (.pointer (some ⟨b, off + J + 2, none⟩)), (.int .i64 y2), e11, e12, e13, e14, e15, e16, e17, e18, e19, e20, e21, e22, e23, e24, e25, e26, e27, e28, e29, (by rw [← HFR.out]; exact put_upd 10 rfl HND.out), hB, c0, c1, c2, c3, c4, c5, c6, c7, c8, c9, fun _ => rfl, c11, c12, c13, c14, c15, c16, c17, c18, c19, c20, c21, c22, c23, c24, c25, c26, c27, c28, c29, c30, cx, cg⟩
     | 11, _, hd, hk =>
       have h7 : d 7 = true := hk 7 (by decide +kernel)
       have h10 : d 10 = true := hk 10 (by decide +kernel)
       obtain rfl := c7 h7
       obtain rfl := c10 h10
       obtain ⟨fr, HFR, f165, f168, f13, f18⟩ : ∃ fr, Hid (putAll a0 [(158, e0), (159, e1), (160, e2), (161, e3), (162, e4), (163, e5), (164, e6), (165, (.int .i64 y1)), (166, e8), (167, e9), (168, (.int .i64 y2)), (169, e11), (170, e12), (171, e13), (172, e14), (173, e15), (174, e16), (175, e17), (176, e18), (177, e19), (178, e20), (179, e21), (180, e22), (181, e23), (182, e24), (183, e25), (184, e26), (185, e27), (186, e28), (187, e29)] = fr) ∧ fr.tmps[165]? = some ((.int .i64 y1)) ∧ fr.tmps[168]? = some ((.int .i64 y2)) ∧ fr.tmps[13]? = some ((.pointer (some ⟨w3.heap.size, 0, none⟩))) ∧ fr.tmps[18]? = some ((.slice (some ⟨b, off + J, none⟩) 7 (C - J))) := ⟨_, rfl, far_get a0 _ 165 (by rw [hsz]; decide), far_get a0 _ 168 (by rw [hsz]; decide), far_base a0 _ 13 (by rw [hsz]; decide) r13 rfl, far_base a0 _ 18 (by rw [hsz]; decide) r18 rfl⟩
       rw [HFR.out]
       apply wpOp_at
       case ho => rfl
       intro K hK
       go_simp
       refine hK _ _ ⟨e0, e1, e2, e3, e4, e5, e6, (.int .i64 y1), e8, e9, (.int .i64 y2), (.agg #[.int .i64 y1, .int .i64 y2]), e12, e13, e14, e15, e16, e17, e18, e19, e20, e21, e22, e23, e24, e25, e26, e27, e28, e29, (by rw [← HFR.out]; exact put_upd 11 rfl HND.out), hB, c0, c1, c2, c3, c4, c5, c6, c7, c8, c9, c10, fun _ => rfl, c12, c13, c14, c15, c16, c17, c18, c19, c20, c21, c22, c23, c24, c25, c26, c27, c28, c29, c30, cx, cg⟩
     | 12, _, hd, hk =>
       obtain ⟨fr, HFR, f13, f18⟩ : ∃ fr, Hid (putAll a0 [(158, e0), (159, e1), (160, e2), (161, e3), (162, e4), (163, e5), (164, e6), (165, e7), (166, e8), (167, e9), (168, e10), (169, e11), (170, e12), (171, e13), (172, e14), (173, e15), (174, e16), (175, e17), (176, e18), (177, e19), (178, e20), (179, e21), (180, e22), (181, e23), (182, e24), (183, e25), (184, e26), (185, e27), (186, e28), (187, e29)] = fr) ∧ fr.tmps[13]? = some ((.pointer (some ⟨w3.heap.size, 0, none⟩))) ∧ fr.tmps[18]? = some ((.slice (some ⟨b, off + J, none⟩) 7 (C - J))) := ⟨_, rfl, far_base a0 _ 13 (by rw [hsz]; decide) r13 rfl, far_base a0 _ 18 (by rw [hsz]; decide) r18 rfl⟩
       rw [HFR.out]
       apply wpOp_at
       case ho => rfl
       intro K hK
       go_simp
       refine hK _ _ ⟨e0, e1, e2, e3, e4, e5, e6, e7, e8, e9, e10, e11, (.slice (some ⟨b, off + J, none⟩) 7 (C - J)), e13, e14, e15, e16, e17, e18, e19, e20, e21, e22, e23, e24, e25, e26, e27, e28, e29, (by rw [← HFR.out]; exact put_upd 12 rfl HND.out), hB, c0, c1, c2, c3, c4, c5, c6, c7, c8, c9, c10, c11, fun _ => rfl, c13, c14, c15, c16, c17, c18, c19, c20, c21, c22, c23, c24, c25, c26, c27, c28, c29, c30, cx, cg⟩
     | 13, _, hd, hk =>
       have h12 : d 12 = true := hk 12 (by decide +kernel)
       obtain rfl := c12 h12
       obtain ⟨fr, HFR, f170, f13, f18⟩ : ∃ fr, Hid (putAll a0 [(158, e0), (159, e1), (160, e2), (161, e3), (162, e4), (163, e5), (164, e6), (165, e7), (166, e8), (167, e9), (168, e10), (169, e11), (170, (.slice (some ⟨b, off + J, none⟩) 7 (C - J))), (171, e13), (172, e14), (173, e15), (174, e16), (175, e17), (176, e18), (177, e19), (178, e20), (179, e21), (180, e22), (181, e23), (182, e24), (183, e25), (184, e26), (185, e27), (186, e28), (187, e29)] = fr) ∧ fr.tmps[170]? = some ((.slice (some ⟨b, off + J, none⟩) 7 (C - J))) ∧ fr.tmps[13]? = some ((.pointer (some ⟨w3.heap.size, 0, none⟩))) ∧ fr.tmps[18]? = some ((.slice (some ⟨b, off + J, none⟩) 7 (C - J))) := ⟨_, rfl, far_get a0 _ 170 (by rw [hsz]; decide), far_base a0 _ 13 (by rw [hsz]; decide) r13 rfl, far_base a0 _ 18 (by rw [hsz]; decide) r18 rfl⟩
       rw [HFR.out]
       apply wpOp_at
       case ho => rfl
       intro K hK
       go_simp
       refine hK _ _ ⟨e0, e1, e2, e3, e4, e5, e6, e7, e8, e9, e10, e11, (.slice (some ⟨b, off + J, none⟩) 7 (C - J)), (.pointer (some ⟨b, off + J + 3, none⟩)), e14, e15, e16, e17, e18, e19, e20, e21, e22, e23, e24, e25, e26, e27, e28, e29, (by rw [← HFR.out]; exact put_upd 13 rfl HND.out), hB, c0, c1, c2, c3, c4, c5, c6, c7, c8, c9, c10, c11, c12, fun _ => rfl, c14, c15, c16, c17, c18, c19, c20, c21, c22, c23, c24, c25, c26, c27, c28, c29, c30, cx, cg⟩
     | 14, _, hd, hk =>
       have h13 : d 13 = true := hk 13 (by decide +kernel)
       obtain rfl := c13 h13
       have z0 := cg.cell_of V3.out hbG
       obtain ⟨fr, HFR, f171, f13, f18⟩ : ∃ fr, Hid (putAll a0 [(158, e0), (159, e1), (160, e2), (161, e3), (162, e4), (163, e5), (164, e6), (165, e7), (166, e8), (167, e9), (168, e10), (169, e11), (170, e12), (171, (.pointer (some ⟨b, off + J + 3, none⟩))), (172, e14), (173, e15), (174, e16), (175, e17), (176, e18), (177, e19), (178, e20), (179, e21), (180, e22), (181, e23), (182, e24), (183, e25), (184, e26), (185, e27), (186, e28), (187, e29)] = fr) ∧ fr.tmps[171]? = some ((.pointer (some ⟨b, off + J + 3, none⟩))) ∧ fr.tmps[13]? = some ((.pointer (some ⟨w3.heap.size, 0, none⟩))) ∧ fr.tmps[18]? = some ((.slice (some ⟨b, off + J, none⟩) 7 (C - J))) := ⟨_, rfl, far_get a0 _ 171 (by rw [hsz]; decide), far_base a0 _ 13 (by rw [hsz]; decide) r13 rfl, far_base a0 _ 18 (by rw [hsz]; decide) r18 rfl⟩
       rw [HFR.out]
       apply wpOp_at
       case ho => rfl
       intro K hK
       go_simp
       refine hK _ _ ⟨e0, e1, e2, e3, e4, e5, e6, e7, e8, e9, e10, e11, e12, (.pointer (some ⟨b, off + J + 3, none⟩)), (.int .i64 y3), e15, e16, e17, e18, e19, e20, e21, e22, e23, e24, e25, e26, e27, e28, e29, (by rw [← HFR.out]; exact put_upd 14 rfl HND.out), hB, c0, c1, c2, c3, c4, c5, c6, c7, c8, c9, c10, c11, c12, c13, fun _ => rfl, c15, c16, c17, c18, c19, c20, c21, c22, c23, c24, c25, c26, c27, c28, c29, c30, cx, cg⟩
     | 15, _, hd, hk =>
       have h11 : d 11 = true := hk 11 (by decide +kernel)
       have h14 : d 14 = true := hk 14 (by decide +kernel)
       obtain rfl := c11 h11
       obtain rfl := c14 h14
       obtain ⟨fr, HFR, f169, f172, f13, f18⟩ : ∃ fr, Hid (putAll a0 [(158, e0), (159, e1), (160, e2), (161, e3), (162, e4), (163, e5), (164, e6), (165, e7), (166, e8), (167, e9), (168, e10), (169, (.agg #[.int .i64 y1, .int .i64 y2])), (170, e12), (171, e13), (172, (.int .i64 y3)), (173, e15), (174, e16), (175, e17), (176, e18), (177, e19), (178, e20), (179, e21), (180, e22), (181, e23), (182, e24), (183, e25), (184, e26), (185, e27), (186, e28), (187, e29)] = fr) ∧ fr.tmps[169]? = some ((.agg #[.int .i64 y1, .int .i64 y2])) ∧ fr.tmps[172]? = some ((.int .i64 y3)) ∧ fr.tmps[13]? = some ((.pointer (some ⟨w3.heap.size, 0, none⟩))) ∧ fr.tmps[18]? = some ((.slice (some ⟨b, off + J, none⟩) 7 (C - J))) := ⟨_, rfl, far_get a0 _ 169 (by rw [hsz]; decide), far_get a0 _ 172 (by rw [hsz]; decide), far_base a0 _ 13 (by rw [hsz]; decide) r13 rfl, far_base a0 _ 18 (by rw [hsz]; decide) r18 rfl⟩
       rw [HFR.out]
       apply wpOp_at
       case ho => rfl
       intro K hK
       go_simp
       refine hK _ _ ⟨e0, e1, e2, e3, e4, e5, e6, e7, e8, e9, e10, (.agg #[.int .i64 y1, .int .i64 y2]), e12, e13, (.int .i64 y3), (.agg #[.int .i64 y1, .int .i64 y2, .int .i64 y3]), e16, e17, e18, e19, e20, e21, e22, e23, e24, e25, e26, e27, e28, e29, (by rw [← HFR.out]; exact put_upd 15 rfl HND.out), hB, c0, c1, c2, c3, c4, c5, c6, c7, c8, c9, c10, c11, c12, c13, c14, fun _ => rfl, c16, c17, c18, c19, c20, c21, c22, c23, c24, c25, c26, c27, c28, c29, c30, cx, cg⟩
     | 16, _, hd, hk =>
       obtain ⟨fr, HFR, f13, f18⟩ : ∃ fr, Hid (putAll a0 [(158, e0), (159, e1), (160, e2), (161, e3), (162, e4), (163, e5), (164, e6), (165, e7), (166, e8), (167, e9), (168, e10), (169, e11), (170, e12), (171, e13), (172, e14), (173, e15), (174, e16), (175, e17), (176, e18), (177, e19), (178, e20), (179, e21), (180, e22), (181, e23), (182, e24), (183, e25), (184, e26), (185, e27), (186, e28), (187, e29)] = fr) ∧ fr.tmps[13]? = some ((.pointer (some ⟨w3.heap.size, 0, none⟩))) ∧ fr.tmps[18]? = some ((.slice (some ⟨b, off + J, none⟩) 7 (C - J))) := ⟨_, rfl, far_base a0 _ 13 (by rw [hsz]; decide) r13 rfl, far_base a0 _ 18 (by rw [hsz]; decide) r18 rfl⟩
       rw [HFR.out]
       apply wpOp_at
       case ho => rfl
       intro K hK
       go_simp
       refine hK _ _ ⟨e0, e1, e2, e3, e4, e5, e6, e7, e8, e9, e10, e11, e12, e13, e14, e15, (.slice (some ⟨b, off + J, none⟩) 7 (C - J)), e17, e18, e19, e20, e21, e22, e23, e24, e25, e26, e27, e28, e29, (by rw [← HFR.out]; exact put_upd 16 rfl HND.out), hB, c0, c1, c2, c3, c4, c5, c6, c7, c8, c9, c10, c11, c12, c13, c14, c15, fun _ => rfl, c17, c18, c19, c20, c21, c22, c23, c24, c25, c26, c27, c28, c29, c30, cx, cg⟩
     | 17, _, hd, hk =>
       have h16 : d 16 = true := hk 16 (by decide +kernel)
       obtain rfl := c16 h16
       obtain ⟨fr, HFR, f174, f13, f18⟩ : ∃ fr, Hid (putAll a0 [(158, e0), (159, e1), (160, e2), (161, e3), (162, e4), (163, e5), (164, e6), (165, e7), (166, e8), (167, e9), (168, e10), (169, e11), (170, e12), (171, e13), (172, e14), (173, e15), (174, (.slice (some ⟨b, off + J, none⟩) 7 (C - J))), (175, e17), (176, e18), (177, e19), (178, e20), (179, e21), (180, e22), (181, e23), (182, e24), (183, e25), (184, e26), (185, e27), (186, e28), (187, e29)] = fr) ∧ fr.tmps[174]? = some ((.slice (some ⟨b, off + J, none⟩) 7 (C - J))) ∧ fr.tmps[13]? = some ((.pointer (some ⟨w3.heap.size, 0, none⟩))) ∧ fr.tmps[18]? = some ((.slice (some ⟨b, off + J, none⟩) 7 (C - J))) := ⟨_, rfl, far_get a0 _ 174 (by rw [hsz]; decide), far_base a0 _ 13 (by rw [hsz]; decide) r13 rfl, far_base a0 _ 18 (by rw [hsz]; decide) r18 rfl⟩
       rw [HFR.out]
       apply wpOp_at
       case ho => rfl
       intro K hK
       go_simp
       refine hK _ _ ⟨e0, e1, e2, e3, e4, e5, e6, e7, e8, e9, e10, e11, e12, e13, e14, e15, (.slice (some ⟨b, off + J, none⟩) 7 (C - J)), (.pointer (some ⟨b, off + J + 4, none⟩)), e18, e19, e20, e21, e22, e23, e24, e25, e26, e27, e28, e29, (by rw [← HFR.out]; exact put_upd 17 rfl HND.out), hB, c0, c1, c2, c3, c4, c5, c6, c7, c8, c9, c10, c11, c12, c13, c14, c15, c16, fun _ => rfl, c18, c19, c20, c21, c22, c23, c24, c25, c26, c27, c28, c29, c30, cx, cg⟩
     | 18, _, hd, hk =>
       have h17 : d 17 = true := hk 17 (by decide +kernel)
       obtain rfl := c17 h17
       have z0 := cg.cell_of V4.out hbG
       obtain ⟨fr, HFR, f175, f13, f18⟩ : ∃ fr, Hid (putAll a0 [(158, e0), (159, e1), (160, e2), (161, e3), (162, e4), (163, e5), (164, e6), (165, e7), (166, e8), (167, e9), (168, e10), (169, e11), (170, e12), (171, e13), (172, e14), (173, e15), (174, e16), (175, (.pointer (some ⟨b, off + J + 4, none⟩))), (176, e18), (177, e19), (178, e20), (179, e21), (180, e22), (181, e23), (182, e24), (183, e25), (184, e26), (185, e27), (186, e28), (187, e29)] = fr) ∧ fr.tmps[175]? = some ((.pointer (some ⟨b, off + J + 4, none⟩))) ∧ fr.tmps[13]? = some ((.pointer (some ⟨w3.heap.size, 0, none⟩))) ∧ fr.tmps[18]? = some ((.slice (some ⟨b, off + J, none⟩) 7 (C - J))) := ⟨_, rfl, far_get a0 _ 175 (by rw [hsz]; decide), far_base a0 _ 13 (by rw [hsz]; decide) r13 rfl, far_base a0 _ 18 (by rw [hsz]; decide) r18 rfl⟩
       rw [HFR.out]
       apply wpOp_at
       case ho => rfl
       intro K hK
       go_simp
       refine hK _ _ ⟨e0, e1, e2, e3, e4, e5, e6, e7, e8, e9, e10, e11, e12, e13, e14, e15, e16, (.pointer (some ⟨b, off + J + 4, none⟩)), (.int .i64 y4), e19, e20, e21, e22, e23, e24, e25, e26, e27, e28, e29, (by rw [← HFR.out]; exact put_upd 18 rfl HND.out), hB, c0, c1, c2, c3, c4, c5, c6, c7, c8, c9, c10, c11, c12, c13, c14, c15, c16, c17, fun _ => rfl, c19, c20, c21, c22, c23, c24, c25, c26, c27, c28, c29, c30, cx, cg⟩
     | 19, _, hd, hk =>
       obtain ⟨fr, HFR, f13, f18⟩ : ∃ fr, Hid (putAll a0 [(158, e0), (159, e1), (160, e2), (161, e3), (162, e4), (163, e5), (164, e6), (165, e7), (166, e8), (167, e9), (168, e10), (169, e11), (170, e12), (171, e13), (172, e14), (173, e15), (174, e16), (175, e17), (176, e18), (177, e19), (178, e20), (179, e21), (180, e22), (181, e23), (182, e24), (183, e25), (184, e26), (185, e27), (186, e28), (187, e29)] = fr) ∧ fr.tmps[13]? = some ((.pointer (some ⟨w3.heap.size, 0, none⟩))) ∧ fr.tmps[18]? = some ((.slice (some ⟨b, off + J, none⟩) 7 (C - J))) := ⟨_, rfl, far_base a0 _ 13 (by rw [hsz]; decide) r13 rfl, far_base a0 _ 18 (by rw [hsz]; decide) r18 rfl⟩
       rw [HFR.out]
       apply wpOp_at
       case ho => rfl
       intro K hK
       go_simp
       refine hK _ _ ⟨e0, e1, e2, e3, e4, e5, e6, e7, e8, e9, e10, e11, e12, e13, e14, e15, e16, e17, e18, (.slice (some ⟨b, off + J, none⟩) 7 (C - J)), e20, e21, e22, e23, e24, e25, e26, e27, e28, e29, (by rw [← HFR.out]; exact put_upd 19 rfl HND.out), hB, c0, c1, c2, c3, c4, c5, c6, c7, c8, c9, c10, c11, c12, c13, c14, c15, c16, c17, c18, fun _ => rfl, c20, c21, c22, c23, c24, c25, c26, c27, c28, c29, c30, cx, cg⟩
     | 20, _, hd, hk =>
       have h19 : d 19 = true := hk 19 (by decide +kernel)
       obtain rfl := c19 h19
       obtain ⟨fr, HFR, f177, f13, f18⟩ : ∃ fr, Hid (putAll a0 [(158, e0), (159, e1), (160, e2), (161, e3), (162, e4), (163, e5), (164, e6), (165, e7), (166, e8), (167, e9), (168, e10), (169, e11), (170, e12), (171, e13), (172, e14), (173, e15), (174, e16), (175, e17), (176, e18), (177, (.slice (some ⟨b, off + J, none⟩) 7 (C - J))), (178, e20), (179, e21), (180, e22), (181, e23), (182, e24), (183, e25), (184, e26), (185, e27), (186, e28), (187, e29)] = fr) ∧ fr.tmps[177]? = some ((.slice (some ⟨b, off + J, none⟩) 7 (C - J))) ∧ fr.tmps[13]? = some ((.pointer (some ⟨w3.heap.size, 0, none⟩))) ∧ fr.tmps[18]? = some ((.slice (some ⟨b, off + J, none⟩) 7 (C - J))) := ⟨_, rfl, far_get a0 _ 177 (by rw [hsz]; decide), far_base a0 _ 13 (by rw [hsz]; decide) r13 rfl, far_base a0 _ 18 (by rw [hsz]; decide) r18 rfl⟩
       rw [HFR.out]
       apply wpOp_at
       case ho => rfl
       intro K hK
       go_simp
       refine hK _ _ ⟨e0, e1, e2, e3, e4, e5, e6, e7, e8, e9, e10, e11, e12, e13, e14, e15, e16, e17, e18, (.slice (some ⟨b, off + J, none⟩) 7 (C - J)), (.pointer (some ⟨b, off + J + 5, none⟩)), e21, e22, e23, e24, e25, e26, e27, e28, e29, (by rw [← HFR.out]; exact put_upd 20 rfl HND.out), hB, c0, c1, c2, c3, c4, c5, c6, c7, c8, c9, c10, c11, c12, c13, c14, c15, c16, c17, c18, c19, fun _ => rfl, c21, c22, c23, c24, c25, c26, c27, c28, c29, c30, cx, cg⟩
     | 21, _, hd, hk =>
       have h20 : d 20 = true := hk 20 (by decide +kernel)
       obtain rfl := c20 h20
       have z0 := cg.cell_of V5.out hbG
       obtain ⟨fr, HFR, f178, f13, f18⟩ : ∃ fr, Hid (putAll a0 [(158, e0), (159, e1), (160, e2), (161, e3), (162, e4), (163, e5), (164, e6), (165, e7), (166, e8), (167, e9), (168, e10), (169, e11), (170, e12), (171, e13), (172, e14), (173, e15), (174, e16), (175, e17), (176, e18), (177, e19), (178, (.pointer (some ⟨b, off + J + 5, none⟩))), (179, e21), (180, e22), (181, e23), (182, e24), (183, e25), (184, e26), (185, e27), (186, e28), (187, e29)] = fr) ∧ fr.tmps[178]? = some ((.pointer (some ⟨b, off + J + 5, none⟩))) ∧ fr.tmps[13]? = some ((.pointer (some ⟨w3.heap.size, 0, none⟩))) ∧ fr.tmps[18]? = some ((.slice (some ⟨b, off + J, none⟩) 7 (C - J))) := ⟨_, rfl, far_get a0 _ 178 (by rw [hsz]; decide), far_base a0 _ 13 (by rw [hsz]; decide) r13 rfl, far_base a0 _ 18 (by rw [hsz]; decide) r18 rfl⟩
       rw [HFR.out]
       apply wpOp_at
       case ho => rfl
       intro K hK
       go_simp
       refine hK _ _ ⟨e0, e1, e2, e3, e4, e5, e6, e7, e8, e9, e10, e11, e12, e13, e14, e15, e16, e17, e18, e19, (.pointer (some ⟨b, off + J + 5, none⟩)), (.int .i64 y5), e22, e23, e24, e25, e26, e27, e28, e29, (by rw [← HFR.out]; exact put_upd 21 rfl HND.out), hB, c0, c1, c2, c3, c4, c5, c6, c7, c8, c9, c10, c11, c12, c13, c14, c15, c16, c17, c18, c19, c20, fun _ => rfl, c22, c23, c24, c25, c26, c27, c28, c29, c30, cx, cg⟩
     | 22, _, hd, hk =>
       obtain ⟨fr, HFR, f13, f18⟩ : ∃ fr, Hid (putAll a0 [(158, e0), (159, e1), (160, e2), (161, e3), (162, e4), (163, e5), (164, e6), (165, e7), (166, e8), (167, e9), (168, e10), (169, e11), (170, e12), (171, e13), (172, e14), (173, e15), (174, e16), (175, e17), (176, e18), (177, e19), (178, e20), (179, e21), (180, e22), (181, e23), (182, e24), (183, e25), (184, e26), (185, e27), (186, e28), (187, e29)] = fr) ∧ fr.tmps[13]? = some ((.pointer (some ⟨w3.heap.size, 0, none⟩))) ∧ fr.tmps[18]? = some ((.slice (some ⟨b, off + J, none⟩) 7 (C - J))) := ⟨_, rfl, far_base a0 _ 13 (by rw [hsz]; decide) r13 rfl, far_base a0 _ 18 (by rw [hsz]; decide) r18 rfl⟩
       rw [HFR.out]
       apply wpOp_at
       case ho => rfl
       intro K hK
       go_simp
       refine hK _ _ ⟨e0, e1, e2, e3, e4, e5, e6, e7, e8, e9, e10, e11, e12, e13, e14, e15, e16, e17, e18, e19, e20, e21, (.slice (some ⟨b, off + J, none⟩) 7 (C - J)), e23, e24, e25, e26, e27, e28, e29, (by rw [← HFR.out]; exact put_upd 22 rfl HND.out), hB, c0, c1, c2, c3, c4, c5, c6, c7, c8, c9, c10, c11, c12, c13, c14, c15, c16, c17, c18, c19, c20, c21, fun _ => rfl, c23, c24, c25, c26, c27, c28, c29, c30, cx, cg⟩
     | 23, _, hd, hk =>
       have h22 : d 22 = true := hk 22 (by decide +kernel)
       obtain rfl := c22 h22
       obtain ⟨fr, HFR, f180, f13, f18⟩ : ∃ fr, Hid (putAll a0 [(158, e0), (159, e1), (160, e2), (161, e3), (162, e4), (163, e5), (164, e6), (165, e7), (166, e8), (167, e9), (168, e10), (169, e11), (170, e12), (171, e13), (172, e14), (173, e15), (174, e16), (175, e17), (176, e18), (177, e19), (178, e20), (179, e21), (180, (.slice (some ⟨b, off + J, none⟩) 7 (C - J))), (181, e23), (182, e24), (183, e25), (184, e26), (185, e27), (186, e28), (187, e29)] = fr) ∧ fr.tmps[180]? = some ((.slice (some ⟨b, off + J, none⟩) 7 (C - J))) ∧ fr.tmps[13]? = some ((.pointer (some ⟨w3.heap.size, 0, none⟩))) ∧ fr.tmps[18]? = some ((.slice (some ⟨b, off + J, none⟩) 7 (C - J))) := ⟨_, rfl, far_get a0 _ 180 (by rw [hsz]; decide), far_base a0 _ 13 (by rw [hsz]; decide) r13 rfl, far_base a0 _ 18 (by rw [hsz]; decide) r18 rfl⟩
       rw [HFR.out]
       apply wpOp_at
       case ho => rfl
       intro K hK
       go_simp
       refine hK _ _ ⟨e0, e1, e2, e3, e4, e5, e6, e7, e8, e9, e10, e11, e12, e13, e14, e15, e16, e17, e18, e19, e20, e21, (.slice (some ⟨b, off + J, none⟩) 7 (C - J)), (.pointer (some ⟨b, off + J + 6, none⟩)), e24, e25, e26, e27, e28, e29, (by rw [← HFR.out]; exact put_upd 23 rfl HND.out), hB, c0, c1, c2, c3, c4, c5, c6, c7, c8, c9, c10, c11, c12, c13, c14, c15, c16, c17, c18, c19, c20, c21, c22, fun _ => rfl, c24, c25, c26, c27, c28, c29, c30, cx, cg⟩
     | 24, _, hd, hk =>
       have h23 : d 23 = true := hk 23 (by decide +kernel)
       obtain rfl := c23 h23
       have z0 := cg.cell_of V6.out hbG
       obtain ⟨fr, HFR, f181, f13, f18⟩ : ∃ fr, Hid (putAll a0 [(158, e0), (159, e1), (160, e2), (161, e3), (162, e4), (163, e5), (164, e6), (165, e7), (166, e8), (167, e9), (168, e10), (169, e11), (170, e12), (171, e13), (172, e14), (173, e15), (174, e16), (175, e17), (176, e18), (177, e19), (178, e20), (179, e21), (180, e22), (181, (.pointer (some ⟨b, off + J + 6, none⟩))), (182, e24), (183, e25), (184, e26), (185, e27), (186, e28), (187, e29)] = fr) ∧ fr.tmps[181]? = some ((.pointer (some ⟨b, off + J + 6, none⟩))) ∧ fr.tmps[13]? = some ((.pointer (some ⟨w3.heap.size, 0, none⟩))) ∧ fr.tmps[18]? = some ((.slice (some ⟨b, off + J, none⟩) 7 (C - J))) := ⟨_, rfl, far_get a0 _ 181 (by rw [hsz]; decide), far_base a0 _ 13 (by rw [hsz]; decide) r13 rfl, far_base a0 _ 18 (by rw [hsz]; decide) r18 rfl⟩
       rw [HFR.out]
       apply wpOp_at
       case ho => rfl
       intro K hK
       go_simp
       refine hK _ _ ⟨e0, e1, e2, e3, e4, e5, e6, e7, e8, e9, e10, e11, e12, e13, e14, e15, e16, e17, e18, e19, e20, e21, e22, (.pointer (some ⟨b, off + J + 6, none⟩)), (.int .i64 y6), e25, e26, e27, e28, e29, (by rw [← HFR.out]; exact put_upd 24 rfl HND.out), hB, c0, c1, c2, c3, c4, c5, c6, c7, c8, c9, c10, c11, c12, c13, c14, c15, c16, c17, c18, c19, c20, c21, c22, c23, fun _ => rfl, c25, c26, c27, c28, c29, c30, cx, cg⟩
     | 25, _, hd, hk =>
       have h21 : d 21 = true := hk 21 (by decide +kernel)
       have h24 : d 24 = true := hk 24 (by decide +kernel)
       obtain rfl := c21 h21
       obtain rfl := c24 h24
       obtain ⟨fr, HFR, f179, f182, f13, f18⟩ : ∃ fr, Hid (putAll a0 [(158, e0), (159, e1), (160, e2), (161, e3), (162, e4), (163, e5), (164, e6), (165, e7), (166, e8), (167, e9), (168, e10), (169, e11), (170, e12), (171, e13), (172, e14), (173, e15), (174, e16), (175, e17), (176, e18), (177, e19), (178, e20), (179, (.int .i64 y5)), (180, e22), (181, e23), (182, (.int .i64 y6)), (183, e25), (184, e26), (185, e27), (186, e28), (187, e29)] = fr) ∧ fr.tmps[179]? = some ((.int .i64 y5)) ∧ fr.tmps[182]? = some ((.int .i64 y6)) ∧ fr.tmps[13]? = some ((.pointer (some ⟨w3.heap.size, 0, none⟩))) ∧ fr.tmps[18]? = some ((.slice (some ⟨b, off + J, none⟩) 7 (C - J))) := ⟨_, rfl, far_get a0 _ 179 (by rw [hsz]; decide), far_get a0 _ 182 (by rw [hsz]; decide), far_base a0 _ 13 (by rw [hsz]; decide) r13 rfl, far_base a0 _ 18 (by rw [hsz]; decide) r18 rfl⟩
       rw [HFR.out]
       apply wpOp_at
       case ho => rfl
       intro K hK
       go_simp
       refine hK _ _ ⟨e0, e1, e2, e3, e4, e5, e6, e7, e8, e9, e10, e11, e12, e13, e14, e15, e16, e17, e18, e19, e20, (.int .i64 y5), e22, e23, (.int .i64 y6), (.agg #[.int .i64 y5, .int .i64 y6]), e26, e27, e28, e29, (by rw [← HFR.out]; exact put_upd 25 rfl HND.out), hB, c0, c1, c2, c3, c4, c5, c6, c7, c8, c9, c10, c11, c12, c13, c14, c15, c16, c17, c18, c19, c20, c21, c22, c23, c24, fun _ => rfl, c26, c27, c28, c29, c30, cx, cg⟩
     | 26, _, hd, hk =>
       have h4 : d 4 = true := hk 4 (by decide +kernel)
       have h15 : d 15 = true := hk 15 (by decide +kernel)
       have h18 : d 18 = true := hk 18 (by decide +kernel)
       have h25 : d 25 = true := hk 25 (by decide +kernel)
       obtain rfl := c4 h4
       obtain rfl := c15 h15
       obtain rfl := c18 h18
       obtain rfl := c25 h25
       obtain ⟨fr, HFR, f162, f173, f176, f183, f13, f18⟩ : ∃ fr, Hid (putAll a0 [(158, e0), (159, e1), (160, e2), (161, e3), (162, (.int .i64 y0)), (163, e5), (164, e6), (165, e7), (166, e8), (167, e9), (168, e10), (169, e11), (170, e12), (171, e13), (172, e14), (173, (.agg #[.int .i64 y1, .int .i64 y2, .int .i64 y3])), (174, e16), (175, e17), (176, (.int .i64 y4)), (177, e19), (178, e20), (179, e21), (180, e22), (181, e23), (182, e24), (183, (.agg #[.int .i64 y5, .int .i64 y6])), (184, e26), (185, e27), (186, e28), (187, e29)] = fr) ∧ fr.tmps[162]? = some ((.int .i64 y0)) ∧ fr.tmps[173]? = some ((.agg #[.int .i64 y1, .int .i64 y2, .int .i64 y3])) ∧ fr.tmps[176]? = some ((.int .i64 y4)) ∧ fr.tmps[183]? = some ((.agg #[.int .i64 y5, .int .i64 y6])) ∧ fr.tmps[13]? = some ((.pointer (some ⟨w3.heap.size, 0, none⟩))) ∧ fr.tmps[18]? = some ((.slice (some ⟨b, off + J, none⟩) 7 (C - J))) := ⟨_, rfl, far_get a0 _ 162 (by rw [hsz]; decide), far_get a0 _ 173 (by rw [hsz]; decide), far_get a0 _ 176 (by rw [hsz]; decide), far_get a0 _ 183 (by rw [hsz]; decide), far_base a0 _ 13 (by rw [hsz]; decide) r13 rfl, far_base a0 _ 18 (by rw [hsz]; decide) r18 rfl⟩
       rw [HFR.out]
       apply wpOp_at
       case ho => rfl
       intro K hK
       go_simp
       refine hK _ _ ⟨e0, e1, e2, e3, (.int .i64 y0), e5, e6, e7, e8, e9, e10, e11, e12, e13, e14, (.agg #[.int .i64 y1, .int .i64 y2, .int .i64 y3]), e16, e17, (.int .i64 y4), e19, e20, e21, e22, e23, e24, (.agg #[.int .i64 y5, .int .i64 y6]), (.agg #[.int .i64 y0, .int .i64 y1, .int .i64 y2, .int .i64 y3, .int .i64 y4, .int .i64 y5, .int .i64 y6]), e27, e28, e29, (by rw [← HFR.out]; exact put_upd 26 rfl HND.out), hB, c0, c1, c2, c3, c4, c5, c6, c7, c8, c9, c10, c11, c12, c13, c14, c15, c16, c17, c18, c19, c20, c21, c22, c23, c24, c25, fun _ => rfl, c27, c28, c29, c30, cx, cg⟩
     | 27, _, hd, hk =>
       have h26 : d 26 = true := hk 26 (by decide +kernel)
       obtain rfl := c26 h26
       have hb := below_box w' (.cells #[.int .i64 y0, .int .i64 y1, .int .i64 y2, .int .i64 y3, .int .i64 y4, .int .i64 y5, .int .i64 y6] 71)
       obtain ⟨fr, HFR, f184, f13, f18⟩ : ∃ fr, Hid (putAll a0 [(158, e0), (159, e1), (160, e2), (161, e3), (162, e4), (163, e5), (164, e6), (165, e7), (166, e8), (167, e9), (168, e10), (169, e11), (170, e12), (171, e13), (172, e14), (173, e15), (174, e16), (175, e17), (176, e18), (177, e19), (178, e20), (179, e21), (180, e22), (181, e23), (182, e24), (183, e25), (184, (.agg #[.int .i64 y0, .int .i64 y1, .int .i64 y2, .int .i64 y3, .int .i64 y4, .int .i64 y5, .int .i64 y6])), (185, e27), (186, e28), (187, e29)] = fr) ∧ fr.tmps[184]? = some ((.agg #[.int .i64 y0, .int .i64 y1, .int .i64 y2, .int .i64 y3, .int .i64 y4, .int .i64 y5, .int .i64 y6])) ∧ fr.tmps[13]? = some ((.pointer (some ⟨w3.heap.size, 0, none⟩))) ∧ fr.tmps[18]? = some ((.slice (some ⟨b, off + J, none⟩) 7 (C - J))) := ⟨_, rfl, far_get a0 _ 184 (by rw [hsz]; decide), far_base a0 _ 13 (by rw [hsz]; decide) r13 rfl, far_base a0 _ 18 (by rw [hsz]; decide) r18 rfl⟩
       rw [HFR.out]
       apply wpOp_at
       case ho => rfl
       intro K hK
       go_simp
       refine hK _ _ ⟨e0, e1, e2, e3, e4, e5, e6, e7, e8, e9, e10, e11, e12, e13, e14, e15, e16, e17, e18, e19, e20, e21, e22, e23, e24, e25, (.agg #[.int .i64 y0, .int .i64 y1, .int .i64 y2, .int .i64 y3, .int .i64 y4, .int .i64 y5, .int .i64 y6]), .slice (some ⟨w'.heap.size, 0, none⟩) 1 1, e28, e29, (by rw [← HFR.out]; exact put_upd 27 rfl HND.out), hB.trans (hb.mono hB.size), c0, c1, c2, c3, c4, c5, c6, c7, c8, c9, c10, c11, c12, c13, c14, c15, c16, c17, c18, c19, c20, c21, c22, c23, c24, c25, c26, fun _ => fun _ => ⟨_, rfl, Whole.made w' _ _⟩, fun h => Bool.noConfusion (hd.symm.trans (c28 h).2.1), c29, fun h => Bool.noConfusion (hd.symm.trans (c28 (c30 h).1).2.1), fun h => ⟨(cx h).1.alloc _, own_later (cx h).2 hb⟩, cg.next hb⟩
     | 28, _, hd, hk =>
       have h1 : d 1 = true := hk 1 (by decide +kernel)
       have h27 : d 27 = true := hk 27 (by decide +kernel)
       have e1' := (c1 h1).symm
       subst e1'
       obtain ⟨g, rfl, hw⟩ := c27 h27 hd
       obtain ⟨A9, C9, w9, hrun, q1, q2, q3⟩ := nt_push_at HEk.out (cx hd).2 hw HkM.out cg.size
       obtain ⟨hfine, happV, happW⟩ := fine_of hrun
       have hX9 := (q3.whole (cx hd).1 (own_not (cx hd).2 hG)).1
       clear hrun
       obtain ⟨fr, HFR, f159, f185, f13, f18⟩ : ∃ fr, Hid (putAll a0 [(158, e0), (159, sv), (160, e2), (161, e3), (162, e4), (163, e5), (164, e6), (165, e7), (166, e8), (167, e9), (168, e10), (169, e11), (170, e12), (171, e13), (172, e14), (173, e15), (174, e16), (175, e17), (176, e18), (177, e19), (178, e20), (179, e21), (180, e22), (181, e23), (182, e24), (183, e25), (184, e26), (185, .slice (some ⟨g, 0, none⟩) 1 1), (186, e28), (187, e29)] = fr) ∧ fr.tmps[159]? = some (sv) ∧ fr.tmps[185]? = some (.slice (some ⟨g, 0, none⟩) 1 1) ∧ fr.tmps[13]? = some ((.pointer (some ⟨w3.heap.size, 0, none⟩))) ∧ fr.tmps[18]? = some ((.slice (some ⟨b, off + J, none⟩) 7 (C - J))) := ⟨_, rfl, far_get a0 _ 159 (by rw [hsz]; decide), far_get a0 _ 185 (by rw [hsz]; decide), far_base a0 _ 13 (by rw [hsz]; decide) r13 rfl, far_base a0 _ 18 (by rw [hsz]; decide) r18 rfl⟩
       rw [HFR.out]
       apply wpOp_at
       case ho => rfl
       intro K hK
       go_simp
       refine hK _ _ ⟨e0, sv, e2, e3, e4, e5, e6, e7, e8, e9, e10, e11, e12, e13, e14, e15, e16, e17, e18, e19, e20, e21, e22, e23, e24, e25, e26, .slice (some ⟨g, 0, none⟩) 1 1, .slice A9 (k + 1) C9, e29, (by rw [← HFR.out]; exact put_upd 28 rfl HND.out), hB.trans (q2.mono (Nat.le_of_lt hG)), c0, c1, c2, c3, c4, c5, c6, c7, c8, c9, c10, c11, c12, c13, c14, c15, c16, c17, c18, c19, c20, c21, c22, c23, c24, c25, c26, fun _ h => Bool.noConfusion (show true = false from h), fun _ => ⟨h1, h27, fun _ => ⟨A9, C9, rfl, hX9, q1⟩⟩, c29, fun h => absurd ((c30 h).1.symm.trans hd) (by decide), fun h => Bool.noConfusion (show true = false from h), cg.grown q2⟩
     | 29, _, hd, hk =>
       obtain ⟨fr, HFR, f13, f18⟩ : ∃ fr, Hid (putAll a0 [(158, e0), (159, e1), (160, e2), (161, e3), (162, e4), (163, e5), (164, e6), (165, e7), (166, e8), (167, e9), (168, e10), (169, e11), (170, e12), (171, e13), (172, e14), (173, e15), (174, e16), (175, e17), (176, e18), (177, e19), (178, e20), (179, e21), (180, e22), (181, e23), (182, e24), (183, e25), (184, e26), (185, e27), (186, e28), (187, e29)] = fr) ∧ fr.tmps[13]? = some ((.pointer (some ⟨w3.heap.size, 0, none⟩))) ∧ fr.tmps[18]? = some ((.slice (some ⟨b, off + J, none⟩) 7 (C - J))) := ⟨_, rfl, far_base a0 _ 13 (by rw [hsz]; decide) r13 rfl, far_base a0 _ 18 (by rw [hsz]; decide) r18 rfl⟩
       rw [HFR.out]
       apply wpOp_at
       case ho => rfl
       intro K hK
       go_simp
       refine hK _ _ ⟨e0, e1, e2, e3, e4, e5, e6, e7, e8, e9, e10, e11, e12, e13, e14, e15, e16, e17, e18, e19, e20, e21, e22, e23, e24, e25, e26, e27, e28, (.pointer (some ⟨w3.heap.size, 5, none⟩)), (by rw [← HFR.out]; exact put_upd 29 rfl HND.out), hB, c0, c1, c2, c3, c4, c5, c6, c7, c8, c9, c10, c11, c12, c13, c14, c15, c16, c17, c18, c19, c20, c21, c22, c23, c24, c25, c26, c27, c28, fun _ => rfl, c30, cx, cg⟩
     | 30, _, hd, hk =>
       have h28 : d 28 = true := hk 28 (by decide +kernel)
       have h29 : d 29 = true := hk 29 (by decide +kernel)
       obtain rfl := c29 h29
       have e1' := (c1 (c28 h28).1).symm
       subst e1'
       obtain ⟨A9, C9, rfl, hX, hO⟩ := (c28 h28).2.2 hd
       have M10 := hX.cell 5
       have y10 := hX.free 5
       have hS := bk_set5 (u := .slice A9 (k + 1) C9) hX
       have hOs := own_low hO (p := ⟨w3.heap.size, 5, none⟩) hG (.slice A9 (k + 1) C9)
       have hlg := hX.lt
       obtain ⟨fr, HFR, f186, f187, f13, f18⟩ : ∃ fr, Hid (putAll a0 [(158, e0), (159, sv), (160, e2), (161, e3), (162, e4), (163, e5), (164, e6), (165, e7), (166, e8), (167, e9), (168, e10), (169, e11), (170, e12), (171, e13), (172, e14), (173, e15), (174, e16), (175, e17), (176, e18), (177, e19), (178, e20), (179, e21), (180, e22), (181, e23), (182, e24), (183, e25), (184, e26), (185, e27), (186, .slice A9 (k + 1) C9), (187, (.pointer (some ⟨w3.heap.size, 5, none⟩)))] = fr) ∧ fr.tmps[186]? = some (.slice A9 (k + 1) C9) ∧ fr.tmps[187]? = some ((.pointer (some ⟨w3.heap.size, 5, none⟩))) ∧ fr.tmps[13]? = some ((.pointer (some ⟨w3.heap.size, 0, none⟩))) ∧ fr.tmps[18]? = some ((.slice (some ⟨b, off + J, none⟩) 7 (C - J))) := ⟨_, rfl, far_get a0 _ 186 (by rw [hsz]; decide), far_get a0 _ 187 (by rw [hsz]; decide), far_base a0 _ 13 (by rw [hsz]; decide) r13 rfl, far_base a0 _ 18 (by rw [hsz]; decide) r18 rfl⟩
       rw [HFR.out]
       apply wpOp_at
       case ho => rfl
       intro K hK
       go_simp
       refine hK _ _ ⟨e0, sv, e2, e3, e4, e5, e6, e7, e8, e9, e10, e11, e12, e13, e14, e15, e16, e17, e18, e19, e20, e21, e22, e23, e24, e25, e26, e27, .slice A9 (k + 1) C9, (.pointer (some ⟨w3.heap.size, 5, none⟩)), HFR.out.symm, hB.setCell (p := ⟨w3.heap.size, 5, none⟩) (Nat.le_refl _) _, c0, c1, c2, c3, c4, c5, c6, c7, c8, c9, c10, c11, c12, c13, c14, c15, c16, c17, c18, c19, c20, c21, c22, c23, c24, c25, c26, fun _ h => absurd (h28.symm.trans h) (by decide), fun _ => ⟨(c28 h28).1, (c28 h28).2.1, fun h => Bool.noConfusion (show true = false from h)⟩, c29, fun _ => ⟨h28, A9, C9, rfl, hS, hOs⟩, fun h => absurd (h28.symm.trans h) (by decide), cg.set 5 _⟩
     | k + 31, hi, _, _ => exact absurd hi (by simp)
    case ends =>
     intro d a' w' hJ hall
     obtain ⟨e0, e1, e2, e3, e4, e5, e6, e7, e8, e9, e10, e11, e12, e13, e14, e15, e16, e17, e18, e19, e20, e21, e22, e23, e24, e25, e26, e27, e28, e29, rfl, hC⟩ := hJ
     obtain ⟨hB, hC⟩ := hC
     obtain ⟨c0, hC⟩ := hC
     obtain ⟨c1, hC⟩ := hC
     obtain ⟨c2, hC⟩ := hC
     obtain ⟨c3, hC⟩ := hC
     obtain ⟨c4, hC⟩ := hC
     obtain ⟨c5, hC⟩ := hC
     obtain ⟨c6, hC⟩ := hC
     obtain ⟨c7, hC⟩ := hC
     obtain ⟨c8, hC⟩ := hC
     obtain ⟨c9, hC⟩ := hC
     obtain ⟨c10, hC⟩ := hC
     obtain ⟨c11, hC⟩ := hC
     obtain ⟨c12, hC⟩ := hC
     obtain ⟨c13, hC⟩ := hC
     obtain ⟨c14, hC⟩ := hC
     obtain ⟨c15, hC⟩ := hC
     obtain ⟨c16, hC⟩ := hC
     obtain ⟨c17, hC⟩ := hC
     obtain ⟨c18, hC⟩ := hC
     obtain ⟨c19, hC⟩ := hC
     obtain ⟨c20, hC⟩ := hC
     obtain ⟨c21, hC⟩ := hC
     obtain ⟨c22, hC⟩ := hC
     obtain ⟨c23, hC⟩ := hC
     obtain ⟨c24, hC⟩ := hC
     obtain ⟨c25, hC⟩ := hC
     obtain ⟨c26, hC⟩ := hC
     obtain ⟨c27, hC⟩ := hC
     obtain ⟨c28, hC⟩ := hC
     obtain ⟨c29, hC⟩ := hC
     obtain ⟨c30, hC⟩ := hC
     obtain ⟨cx, hC⟩ := hC
     have cg := hC
     clear hC
     have ha0 := Ha0.out
     subst ha0
     clear Ha0 HND hsz r13 r18
     obtain ⟨hap, A9, C9, rfl, hX, hO⟩ := c30 (hall 30 (by decide +kernel))
     have HgE := Lib.hid cg
     have HXe := Lib.hid hX
     have HOe := Lib.hid hO
     clear c0 c1 c2 c3 c4 c5 c6 c7 c8 c9 c10 c11 c12 c13 c14 c15 c16 c17 c18 c19 c20 c21 c22 c23 c24 c25 c26 c27 c28 c29 c30 cx cg hall hB hX hO hap
     simp only [putAll, Act.put, qA, qB, qC]
     go_wp2_with fail
     go_roundw
     case rel => exact ⟨k + 1, _, hkN, by go_num, HgE.out, HXe.out, HOe.out⟩
     case measure => exact measure_one hkN
  · obtain rfl : k = N := Nat.le_antisymm hk (Nat.not_lt.1 hkN)
    go_wp2_with fail
    exact Hexit.out _ _ _ _ _ _ _ _ _ _ _ _ _ _ _ _ _ _ _ _ _ _ _ _ _ _ _ _ _ _ _ _ _ _ _ _ _ _ _ _ _ _ _ _ _ _ _ HBG HXr HO
end Go.Proofs.YtnkgakhnlbifdaaGreat
