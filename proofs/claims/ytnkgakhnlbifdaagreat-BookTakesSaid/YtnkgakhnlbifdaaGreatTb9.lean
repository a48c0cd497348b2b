/- Parts, as far as BookTakesCards reaches them, of: RefBookLoop4. No law is proved here. -/
import Derived.Test.YtnkgakhnlbifdaaGreatTb8
import Derived.Test.YtnkgakhnlbifdaaGreatTbQ
namespace Go.Proofs.YtnkgakhnlbifdaaGreat
open Go.RowKit
def tellF (l : List Nat) (i : Nat) : Bool := l[3 * i]?.getD 0 == 1
def useF (l : List Nat) (i : Nat) : Int := ((l[3 * i + 1]?.getD 0 : Nat) : Int)
def incF (l : List Nat) (i : Nat) : Int := ((l[3 * i + 2]?.getD 0 : Nat) : Int)
theorem three_idx {k N M P P1 P2 : Nat} (hk : k < N) (hN : N ≤ 16) (hM : 3 * N + 1 = M) (hP : 3 * k = P) (h1 : P + 1 = P1) (h2 : P + 2 = P2) :
 (IntKind.i64.wrap (3 * (k : Int)) = (P : Int) ∧ IntKind.i64.wrap ((P : Int) + 1) = (P1 : Int) ∧ IntKind.i64.wrap ((P : Int) + 2) = (P2 : Int)) ∧
 (wrap64 (3 * (k : Int)) = (P : Int) ∧ wrap64 ((P : Int) + 1) = (P1 : Int) ∧ wrap64 ((P : Int) + 2) = (P2 : Int)) ∧ (P < M ∧ P1 < M ∧ P2 < M) ∧ IntKind.i64.wrap ((k : Int) + 1) = (k : Int) + 1 ∧ wrap64 ((k : Int) + 1) = (k : Int) + 1 := by
 refine ⟨⟨?_, ?_, ?_⟩, ⟨?_, ?_, ?_⟩, ⟨by omega, by omega, by omega⟩, ?_, ?_⟩
 · rw [IntWalk.i64_in _ (by omega)]; omega
 · rw [IntWalk.i64_in _ (by omega)]; omega
 · rw [IntWalk.i64_in _ (by omega)]; omega
 · rw [IntWalk.wrap64_in _ (by omega)]; omega
 · rw [IntWalk.wrap64_in _ (by omega)]; omega
 · rw [IntWalk.wrap64_in _ (by omega)]; omega
 · rw [IntWalk.i64_in _ (by omega)]
 · rw [IntWalk.wrap64_in _ (by omega)]
theorem one_cast (n : Nat) : ((n : Int) == 1) = (n == 1) := by
 by_cases h : n = 1
 · subst h; rfl
 · rw [beq_eq_false_iff_ne.2 h, beq_eq_false_iff_ne.2 (by omega)]
set_option maxRecDepth 1000000 in
set_option maxHeartbeats 16000000 in
attribute [local go_sem ↓] run_fine in
theorem ktake_loop4 (N M G3 G6 G8 : Nat) (x : Bk) (rv lv ov nv : Value) (q r pp kk cc : Int) (ls : List Nat) (A : Option Addr) (C : Nat) (w3 wr0 : World)
 (hN16 : N ≤ 16) (HM : Hid (3 * N + 1 = M)) (hlen : ls.length = M) (HN : Hid (Nums wr0 (.slice A M C) (ls.map fun v : Nat => (v : Int)))) (HA : Hid (∀ ad, A = some ad → ad.block ≠ w3.heap.size))
 (HC3 : Hid (Whole wr0 G3 23 (cfCells ⟨(N : Int), q, r, pp, kk, cc⟩))) (h3 : G3 ≠ w3.heap.size) (HZ8 : Hid (Whole wr0 G8 37 (bkCells bk0 (.slice none 0 0) (.slice none 0 0) (.slice none 0 0) (.slice none 0 0) (.slice none 0 0) (.slice none 0 0) (.slice none 0 0)))) (HZ6 : Hid (Whole wr0 G6 37 (bkCells bk0 (.slice none 0 0) (.slice none 0 0) (.slice none 0 0) (.slice none 0 0) (.slice none 0 0) (.slice none 0 0) (.slice none 0 0)))) (h8 : G8 ≠ w3.heap.size) (h6 : G6 ≠ w3.heap.size) (hG : w3.heap.size < wr0.heap.size) (Hb0 : Hid (Below w3.heap.size w3 wr0))
 (Q0 : Exit → Act → World → Prop) (s0 s1 s2 s4 s5 s9 s10 s11 s12 s15 s16 s17 s18 s20 s21 s22 s23 s24 s25 s26 s27 s28 s29 s30 s31 s32 s33 s34 s35 s36 s37 s38 s39 s40 s41 s42 s43 s44 s45 s46 s47 s48 s49 s50 s51 s52 s53 s54 s55 s56 s57 s58 s59 s60 s61 s62 s63 s64 s65 s66 s67 s68 s69 s70 s71 s72 s73 s74 s75 s76 s77 s78 s79 s80 s81 s82 s83 s84 s85 s86 s87 s88 s89 s90 s91 s92 s93 s94 s95 s96 s97 s98 s99 s100 s101 s102 s103 s104 s105 s106 s107 s108 s109 s110 s111 s112 s113 s114 s115 s116 s117 s118 s119 s120 s121 s122 s123 s124 s125 s126 s127 s128 s129 s130 s131 s132 s133 s134 s135 s136 s137 s138 s139 s140 s141 s142 s143 s144 s145 s146 s147 s148 s149 s150 s151 s152 s153 s154 s155 s156 s157 s158 s159 s160 s161 s162 s163 s164 s165 s166 s167 s168 s169 s170 s171 s172 s173 s174 s175 s176 s177 s178 s179 s180 s181 s182 s183 s184 s185 s186 s187 s188 s189 s190 s191 s192 s193 s194 s195 s196 s197 s198 s199 s200 s201 s202 s203 s204 s205 s206 s207 s208 s209 s210 s211 s212 s213 s214 s215 s216 s217 s218 s219 s220 s221 s222 s223 s224 s225 s226 s227 s228 s229 s230 s231 s232 s233 s234 s235 s236 s237 s238 s239 s293 s294 s295 s296 s297 s298 s299 s300 s301 s302 s303 s304 s305 s306 s307 s308 s309 s310 s311 s312 s313 : Value) (u7 u240 u241 u242 u243 u244 u245 u246 u247 u248 u249 u250 u251 u252 u253 u254 u255 u256 u257 u258 u259 u260 u261 u262 u263 u264 u265 u266 u267 u268 u269 u270 u271 u272 u273 u274 u275 u276 u277 u278 u279 u280 u281 u282 u283 u284 u285 u286 u287 u288 u289 u290 u291 u292 : Value)
 (hexit : ∀ (wr : World) (tv uv iv v7 v240 v241 v242 v243 v244 v245 v246 v247 v248 v249 v250 v251 v252 v253 v254 v255 v256 v257 v258 v259 v260 v261 v262 v263 v264 v265 v266 v267 v268 v269 v270 v271 v272 v273 v274 v275 v276 v277 v278 v279 v280 v281 v282 v283 v284 v285 v286 v287 v288 v289 v290 v291 v292 : Value), Hid (∀ i, i < N → ls[3 * i]?.getD 0 = 0 ∨ ls[3 * i]?.getD 0 = 1) → Hid (ButG w3.heap.size wr0 wr) → Hid (Whole wr w3.heap.size 37 (bkCells x rv lv ov nv tv uv iv)) → Hid (wr.ownsRow wr0.heap.size 4 1 tv N (flatCells 1 N (fun i _ => .bool (tellF ls i)))) → Hid (wr.ownsRow wr0.heap.size 2 1 uv N (flatCells 1 N (fun i _ => .int .i64 (useF ls i)))) → Hid (wr.ownsRow wr0.heap.size 2 1 iv N (flatCells 1 N (fun i _ => .int .i64 (incF ls i)))) → Hid (ApartV uv iv) → Q0 (.exit 6) ⟨(s0 :: s1 :: s2 :: (.pointer (some ⟨G3, 0, none⟩)) :: s4 :: s5 :: (.pointer (some ⟨G6, 0, none⟩)) :: v7 :: (.pointer (some ⟨G8, 0, none⟩)) :: s9 :: s10 :: s11 :: s12 :: (.pointer (some ⟨w3.heap.size, 0, none⟩)) :: (.slice A M C) :: s15 :: s16 :: s17 :: s18 :: (.int .i64 (N : Int)) :: s20 :: s21 :: s22 :: s23 :: s24 :: s25 :: s26 :: s27 :: s28 :: s29 :: s30 :: s31 :: s32 :: s33 :: s34 :: s35 :: s36 :: s37 :: s38 :: s39 :: s40 :: s41 :: s42 :: s43 :: s44 :: s45 :: s46 :: s47 :: s48 :: s49 :: s50 :: s51 :: s52 :: s53 :: s54 :: s55 :: s56 :: s57 :: s58 :: s59 :: s60 :: s61 :: s62 :: s63 :: s64 :: s65 :: s66 :: s67 :: s68 :: s69 :: s70 :: s71 :: s72 :: s73 :: s74 :: s75 :: s76 :: s77 :: s78 :: s79 :: s80 :: s81 :: s82 :: s83 :: s84 :: s85 :: s86 :: s87 :: s88 :: s89 :: s90 :: s91 :: s92 :: s93 :: s94 :: s95 :: s96 :: s97 :: s98 :: s99 :: s100 :: s101 :: s102 :: s103 :: s104 :: s105 :: s106 :: s107 :: s108 :: s109 :: s110 :: s111 :: s112 :: s113 :: s114 :: s115 :: s116 :: s117 :: s118 :: s119 :: s120 :: s121 :: s122 :: s123 :: s124 :: s125 :: s126 :: s127 :: s128 :: s129 :: s130 :: s131 :: s132 :: s133 :: s134 :: s135 :: s136 :: s137 :: s138 :: s139 :: s140 :: s141 :: s142 :: s143 :: s144 :: s145 :: s146 :: s147 :: s148 :: s149 :: s150 :: s151 :: s152 :: s153 :: s154 :: s155 :: s156 :: s157 :: s158 :: s159 :: s160 :: s161 :: s162 :: s163 :: s164 :: s165 :: s166 :: s167 :: s168 :: s169 :: s170 :: s171 :: s172 :: s173 :: s174 :: s175 :: s176 :: s177 :: s178 :: s179 :: s180 :: s181 :: s182 :: s183 :: s184 :: s185 :: s186 :: s187 :: s188 :: s189 :: s190 :: s191 :: s192 :: s193 :: s194 :: s195 :: s196 :: s197 :: s198 :: s199 :: s200 :: s201 :: s202 :: s203 :: s204 :: s205 :: s206 :: s207 :: s208 :: s209 :: s210 :: s211 :: s212 :: s213 :: s214 :: s215 :: s216 :: s217 :: s218 :: s219 :: s220 :: s221 :: s222 :: s223 :: s224 :: s225 :: s226 :: s227 :: s228 :: s229 :: s230 :: s231 :: s232 :: s233 :: s234 :: s235 :: s236 :: s237 :: s238 :: s239 :: v240 :: v241 :: v242 :: v243 :: v244 :: v245 :: v246 :: v247 :: v248 :: v249 :: v250 :: v251 :: v252 :: v253 :: v254 :: v255 :: v256 :: v257 :: v258 :: v259 :: v260 :: v261 :: v262 :: v263 :: v264 :: v265 :: v266 :: v267 :: v268 :: v269 :: v270 :: v271 :: v272 :: v273 :: v274 :: v275 :: v276 :: v277 :: v278 :: v279 :: v280 :: v281 :: v282 :: v283 :: v284 :: v285 :: v286 :: v287 :: v288 :: v289 :: v290 :: v291 :: v292 :: s293 :: s294 :: s295 :: s296 :: s297 :: s298 :: s299 :: s300 :: s301 :: s302 :: s303 :: s304 :: s305 :: s306 :: s307 :: s308 :: s309 :: s310 :: s311 :: s312 :: s313 :: []).toArray, []⟩ wr)
 (hret : ∀ (wr : World) (i : Nat) (v19 v240 v241 v242 v243 v244 v245 v246 v247 v248 v249 v250 v251 v252 v253 v254 v255 v256 v257 v258 v259 v260 v261 v262 v263 v264 v265 v266 v267 v268 v269 v270 v271 v272 v273 v274 v275 v276 v277 v278 v279 v280 v281 v282 v283 v284 v285 v286 v287 v288 v289 v290 v291 v292 : Value), Hid (i < N) → Hid (¬ (ls[3 * i]?.getD 0 = 0 ∨ ls[3 * i]?.getD 0 = 1)) → Hid (ButG w3.heap.size wr0 wr) → Q0 .ret ⟨(s0 :: s1 :: s2 :: (.pointer (some ⟨G3, 0, none⟩)) :: s4 :: s5 :: (.pointer (some ⟨G6, 0, none⟩)) :: (.bool false) :: (.pointer (some ⟨G8, 0, none⟩)) :: s9 :: s10 :: s11 :: s12 :: (.pointer (some ⟨w3.heap.size, 0, none⟩)) :: (.slice A M C) :: s15 :: s16 :: s17 :: s18 :: v19 :: s20 :: s21 :: s22 :: s23 :: s24 :: s25 :: s26 :: s27 :: s28 :: s29 :: s30 :: s31 :: s32 :: s33 :: s34 :: s35 :: s36 :: s37 :: s38 :: s39 :: s40 :: s41 :: s42 :: s43 :: s44 :: s45 :: s46 :: s47 :: s48 :: s49 :: s50 :: s51 :: s52 :: s53 :: s54 :: s55 :: s56 :: s57 :: s58 :: s59 :: s60 :: s61 :: s62 :: s63 :: s64 :: s65 :: s66 :: s67 :: s68 :: s69 :: s70 :: s71 :: s72 :: s73 :: s74 :: s75 :: s76 :: s77 :: s78 :: s79 :: s80 :: s81 :: s82 :: s83 :: s84 :: s85 :: s86 :: s87 :: s88 :: s89 :: s90 :: s91 :: s92 :: s93 :: s94 :: s95 :: s96 :: s97 :: s98 :: s99 :: s100 :: s101 :: s102 :: s103 :: s104 :: s105 :: s106 :: s107 :: s108 :: s109 :: s110 :: s111 :: s112 :: s113 :: s114 :: s115 :: s116 :: s117 :: s118 :: s119 :: s120 :: s121 :: s122 :: s123 :: s124 :: s125 :: s126 :: s127 :: s128 :: s129 :: s130 :: s131 :: s132 :: s133 :: s134 :: s135 :: s136 :: s137 :: s138 :: s139 :: s140 :: s141 :: s142 :: s143 :: s144 :: s145 :: s146 :: s147 :: s148 :: s149 :: s150 :: s151 :: s152 :: s153 :: s154 :: s155 :: s156 :: s157 :: s158 :: s159 :: s160 :: s161 :: s162 :: s163 :: s164 :: s165 :: s166 :: s167 :: s168 :: s169 :: s170 :: s171 :: s172 :: s173 :: s174 :: s175 :: s176 :: s177 :: s178 :: s179 :: s180 :: s181 :: s182 :: s183 :: s184 :: s185 :: s186 :: s187 :: s188 :: s189 :: s190 :: s191 :: s192 :: s193 :: s194 :: s195 :: s196 :: s197 :: s198 :: s199 :: s200 :: s201 :: s202 :: s203 :: s204 :: s205 :: s206 :: s207 :: s208 :: s209 :: s210 :: s211 :: s212 :: s213 :: s214 :: s215 :: s216 :: s217 :: s218 :: s219 :: s220 :: s221 :: s222 :: s223 :: s224 :: s225 :: s226 :: s227 :: s228 :: s229 :: s230 :: s231 :: s232 :: s233 :: s234 :: s235 :: s236 :: s237 :: s238 :: s239 :: v240 :: v241 :: v242 :: v243 :: v244 :: v245 :: v246 :: v247 :: v248 :: v249 :: v250 :: v251 :: v252 :: v253 :: v254 :: v255 :: v256 :: v257 :: v258 :: v259 :: v260 :: v261 :: v262 :: v263 :: v264 :: v265 :: v266 :: v267 :: v268 :: v269 :: v270 :: v271 :: v272 :: v273 :: v274 :: v275 :: v276 :: v277 :: v278 :: v279 :: v280 :: v281 :: v282 :: v283 :: v284 :: v285 :: v286 :: v287 :: v288 :: v289 :: v290 :: v291 :: v292 :: s293 :: s294 :: s295 :: s296 :: s297 :: s298 :: s299 :: s300 :: s301 :: s302 :: s303 :: s304 :: s305 :: s306 :: s307 :: s308 :: s309 :: s310 :: s311 :: s312 :: s313 :: []).toArray, []⟩ (bk12 wr G6 bk0 (.slice none 0 0) (.slice none 0 0) (.slice none 0 0) (.slice none 0 0) (.slice none 0 0) (.slice none 0 0) (.slice none 0 0)))
 (HX0 : Hid (Whole wr0 w3.heap.size 37 (bkCells x rv lv ov nv (.slice none 0 0) (.slice none 0 0) (.slice none 0 0)))) :
 Code.wp Tryz.prog (Code.loop (ktakeBody 3)) Q0 ⟨(s0 :: s1 :: s2 :: (.pointer (some ⟨G3, 0, none⟩)) :: s4 :: s5 :: (.pointer (some ⟨G6, 0, none⟩)) :: u7 :: (.pointer (some ⟨G8, 0, none⟩)) :: s9 :: s10 :: s11 :: s12 :: (.pointer (some ⟨w3.heap.size, 0, none⟩)) :: (.slice A M C) :: s15 :: s16 :: s17 :: s18 :: (.int .i64 0) :: s20 :: s21 :: s22 :: s23 :: s24 :: s25 :: s26 :: s27 :: s28 :: s29 :: s30 :: s31 :: s32 :: s33 :: s34 :: s35 :: s36 :: s37 :: s38 :: s39 :: s40 :: s41 :: s42 :: s43 :: s44 :: s45 :: s46 :: s47 :: s48 :: s49 :: s50 :: s51 :: s52 :: s53 :: s54 :: s55 :: s56 :: s57 :: s58 :: s59 :: s60 :: s61 :: s62 :: s63 :: s64 :: s65 :: s66 :: s67 :: s68 :: s69 :: s70 :: s71 :: s72 :: s73 :: s74 :: s75 :: s76 :: s77 :: s78 :: s79 :: s80 :: s81 :: s82 :: s83 :: s84 :: s85 :: s86 :: s87 :: s88 :: s89 :: s90 :: s91 :: s92 :: s93 :: s94 :: s95 :: s96 :: s97 :: s98 :: s99 :: s100 :: s101 :: s102 :: s103 :: s104 :: s105 :: s106 :: s107 :: s108 :: s109 :: s110 :: s111 :: s112 :: s113 :: s114 :: s115 :: s116 :: s117 :: s118 :: s119 :: s120 :: s121 :: s122 :: s123 :: s124 :: s125 :: s126 :: s127 :: s128 :: s129 :: s130 :: s131 :: s132 :: s133 :: s134 :: s135 :: s136 :: s137 :: s138 :: s139 :: s140 :: s141 :: s142 :: s143 :: s144 :: s145 :: s146 :: s147 :: s148 :: s149 :: s150 :: s151 :: s152 :: s153 :: s154 :: s155 :: s156 :: s157 :: s158 :: s159 :: s160 :: s161 :: s162 :: s163 :: s164 :: s165 :: s166 :: s167 :: s168 :: s169 :: s170 :: s171 :: s172 :: s173 :: s174 :: s175 :: s176 :: s177 :: s178 :: s179 :: s180 :: s181 :: s182 :: s183 :: s184 :: s185 :: s186 :: s187 :: s188 :: s189 :: s190 :: s191 :: s192 :: s193 :: s194 :: s195 :: s196 :: s197 :: s198 :: s199 :: s200 :: s201 :: s202 :: s203 :: s204 :: s205 :: s206 :: s207 :: s208 :: s209 :: s210 :: s211 :: s212 :: s213 :: s214 :: s215 :: s216 :: s217 :: s218 :: s219 :: s220 :: s221 :: s222 :: s223 :: s224 :: s225 :: s226 :: s227 :: s228 :: s229 :: s230 :: s231 :: s232 :: s233 :: s234 :: s235 :: s236 :: s237 :: s238 :: s239 :: u240 :: u241 :: u242 :: u243 :: u244 :: u245 :: u246 :: u247 :: u248 :: u249 :: u250 :: u251 :: u252 :: u253 :: u254 :: u255 :: u256 :: u257 :: u258 :: u259 :: u260 :: u261 :: u262 :: u263 :: u264 :: u265 :: u266 :: u267 :: u268 :: u269 :: u270 :: u271 :: u272 :: u273 :: u274 :: u275 :: u276 :: u277 :: u278 :: u279 :: u280 :: u281 :: u282 :: u283 :: u284 :: u285 :: u286 :: u287 :: u288 :: u289 :: u290 :: u291 :: u292 :: s293 :: s294 :: s295 :: s296 :: s297 :: s298 :: s299 :: s300 :: s301 :: s302 :: s303 :: s304 :: s305 :: s306 :: s307 :: s308 :: s309 :: s310 :: s311 :: s312 :: s313 :: []).toArray, []⟩ wr0 := by
 have Hexit := Lib.hid hexit; clear hexit
 have Hret := Lib.hid hret; clear hret
 have Hlen := Lib.hid hlen; clear hlen
 have H3 := Lib.hid h3; clear h3
 have Hh8 := Lib.hid h8; clear h8
 have Hh6 := Lib.hid h6; clear h6
 have HN16 := Lib.hid hN16; clear hN16
 conv => arg 2; arg 1; whnf
 go_loopw [19] (fun s19 wr => ∃ (k : Nat) (tv uv iv : Value), k ≤ N ∧ s19 = .int .i64 (k : Int) ∧ Hid (∀ i, i < k → ls[3 * i]?.getD 0 = 0 ∨ ls[3 * i]?.getD 0 = 1) ∧ Hid (ButG w3.heap.size wr0 wr) ∧ Hid (Whole wr w3.heap.size 37 (bkCells x rv lv ov nv tv uv iv)) ∧ Hid (wr.ownsRow wr0.heap.size 4 1 tv k (flatCells 1 k (fun i _ => .bool (tellF ls i)))) ∧ Hid (wr.ownsRow wr0.heap.size 2 1 uv k (flatCells 1 k (fun i _ => .int .i64 (useF ls i)))) ∧ Hid (wr.ownsRow wr0.heap.size 2 1 iv k (flatCells 1 k (fun i _ => .int .i64 (incF ls i)))) ∧ Hid (ApartV uv iv)) (fun s19 _ => N - (intOf s19).toNat)
 case atStart => exact ⟨0, _, _, _, Nat.zero_le _, rfl, fun i hi => absurd hi (Nat.not_lt_zero _), ButG.refl _ _, HX0.out, World.ownsRow_nil _ _ _ _, World.ownsRow_nil _ _ _ _, World.ownsRow_nil _ _ _ _, apart_nil _ _ rfl _⟩
 case round =>
  clear HX0
  obtain ⟨k, tv, uv, iv, hk, rfl, Hfl, HBG, HXr, HOT, HOU, HOI, HAP⟩ := hrel
  have HCr := Lib.hid (HC3.out.butG HBG.out H3.out)
  obtain ⟨d0, d1, d2, d3, d4, d5⟩ := config_cells HCr.out
  simp only at d0 d1 d2 d3 d4 d5
  clear d1 d2 d3 d4 d5
  by_cases hkN : k < N
  · obtain ⟨P, HP⟩ : ∃ z : Nat, Hid (3 * k = z) := ⟨_, rfl⟩
    obtain ⟨P1, HP1⟩ : ∃ z : Nat, Hid (P + 1 = z) := ⟨_, rfl⟩
    obtain ⟨P2, HP2⟩ : ∃ z : Nat, Hid (P + 2 = z) := ⟨_, rfl⟩
    obtain ⟨⟨x1, x2, x3⟩, ⟨x4, x5, x6⟩, ⟨hPM, hP1M, hP2M⟩, x7, x8⟩ := three_idx hkN HN16.out HM.out HP.out HP1.out HP2.out
    obtain ⟨b, off, rfl, _, _⟩ := HN.out.at (i := P) (by rw [List.length_map, Hlen.out]; exact hPM)
    have hbG : b ≠ w3.heap.size := HA.out ⟨b, off, none⟩ rfl
    obtain ⟨y0, Hy0⟩ : ∃ z : Int, Hid (((ls[P]?.getD 0 : Nat) : Int) = z) := ⟨_, rfl⟩
    obtain ⟨y1, Hy1⟩ : ∃ z : Int, Hid (((ls[P1]?.getD 0 : Nat) : Int) = z) := ⟨_, rfl⟩
    obtain ⟨y2, Hy2⟩ : ∃ z : Int, Hid (((ls[P2]?.getD 0 : Nat) : Int) = z) := ⟨_, rfl⟩
    have V0 : Hid (wr0.cell? ⟨b, off + P, none⟩ = some (.int .i64 y0)) := by have h := list_cell HN.out (i := P) (by rw [Hlen.out]; exact hPM); rw [Hy0.out] at h; exact h
    have V1 : Hid (wr0.cell? ⟨b, off + P1, none⟩ = some (.int .i64 y1)) := by have h := list_cell HN.out (i := P1) (by rw [Hlen.out]; exact hP1M); rw [Hy1.out] at h; exact h
    have V2 : Hid (wr0.cell? ⟨b, off + P2, none⟩ = some (.int .i64 y2)) := by have h := list_cell HN.out (i := P2) (by rw [Hlen.out]; exact hP2M); rw [Hy2.out] at h; exact h
    have HET : Hid (tellF ls k = (y0 == 1)) := by
     show _ = _
     unfold tellF
     rw [show 3 * k = P from HP.out, ← Hy0.out, one_cast]
    have HEU : Hid (useF ls k = y1) := by
     show _ = _
     unfold useF
     rw [show 3 * k = P from HP.out, show P + 1 = P1 from HP1.out]
     exact Hy1.out
    have HEI : Hid (incF ls k = y2) := by
     show _ = _
     unfold incF
     rw [show 3 * k = P from HP.out, show P + 2 = P2 from HP2.out]
     exact Hy2.out
    have hsz := HBG.out.size
    have k0 : (0 : Int) ≤ (k : Int) := Int.natCast_nonneg k
    have k1 : (k : Int) < (N : Int) := Int.ofNat_lt.2 hkN
    have j0 : (0 : Int) ≤ (P : Int) := Int.natCast_nonneg P
    have j1 : (P : Int) < (M : Int) := Int.ofNat_lt.2 hPM
    have j2 : (0 : Int) ≤ (P1 : Int) := Int.natCast_nonneg P1
    have j3 : (P1 : Int) < (M : Int) := Int.ofNat_lt.2 hP1M
    have j4 : (0 : Int) ≤ (P2 : Int) := Int.natCast_nonneg P2
    have j5 : (P2 : Int) < (M : Int) := Int.ofNat_lt.2 hP2M
    clear hPM hP1M hP2M
    have HkM : Hid (k ≤ 1000) := Nat.le_trans hk (Nat.le_trans HN16.out (by decide))
    have hc0 := HBG.out.cell_of V0.out hbG
    obtain ⟨fb, Hfb⟩ : ∃ z, Hid (decide (y0 = 0 ∨ y0 = 1) = z) := ⟨_, rfl⟩
    go_wp2_with fail
    refine (refkflag_calls y0 _).mono ?_
    rw [Hfb.out]
    rintro e w4 ⟨rfl, rfl⟩
    have HBG4 := Lib.hid HBG.out
    have HX4 := Lib.hid HXr.out
    have HT4 := Lib.hid HOT.out
    have HU4 := Lib.hid HOU.out
    have HI4 := Lib.hid HOI.out
    clear hc0 d0 HCr HBG HXr HOT HOU HOI
    cases fb with
    | false =>
      have HZr8 := Lib.hid (HZ8.out.butG HBG4.out Hh8.out)
      have HZr6 := Lib.hid (HZ6.out.butG HBG4.out Hh6.out)
      have Hbad : Hid (¬ (ls[3 * k]?.getD 0 = 0 ∨ ls[3 * k]?.getD 0 = 1)) := by
       show ¬ _
       have h9 := of_decide_eq_false Hfb.out
       rw [← Hy0.out] at h9
       rw [show 3 * k = P from HP.out]
       exact fun h => h9 (h.elim (fun e => Or.inl (by rw [e]; rfl)) (fun e => Or.inr (by rw [e]; rfl)))
      have HkN := Lib.hid hkN
      obtain ⟨⟨p0, p1, p2, p3⟩, ⟨p4, p5, p6, p7⟩, p8, p9, p10, p11⟩ := bk_cells HZr8.out
      obtain ⟨⟨q0, q1, q2, q3⟩, ⟨q4, q5, q6, q7⟩, q8, q9, q10, q11⟩ := bk_cells HZr6.out
      simp only at p0 p4 p6 p7 p11 q0 q4 q6 q7 q11
      have fq := HZr6.out.free
      go_wp2_with fail
      exact Hret.out _ k _ _ _ _ _ _ _ _ _ _ _ _ _ _ _ _ _ _ _ _ _ _ _ _ _ _ _ _ _ _ _ _ _ _ _ _ _ _ _ _ _ _ _ _ _ _ _ _ _ _ _ _ _ _ HkN Hbad HBG4
    | true =>
    have Hfk : Hid (∀ i, i < k + 1 → ls[3 * i]?.getD 0 = 0 ∨ ls[3 * i]?.getD 0 = 1) := fun i hi => by
     by_cases e : i = k
     · subst e
       have h9 := of_decide_eq_true Hfb.out
       rw [← Hy0.out] at h9
       rw [show 3 * i = P from HP.out]
       exact h9.elim (fun e => Or.inl (Int.ofNat.inj e)) (fun e => Or.inr (Int.ofNat.inj e))
     · exact Hfl.out i (Nat.lt_of_le_of_ne (Nat.le_of_lt_succ hi) e)
    have Hbr := Lib.hid (HBG4.out.below Hb0.out (Nat.le_of_lt hG))
    have hlx := HX4.out.lt
    go_wp2_with fail
    refine region_any fun a0 Ha0 => ?_
    have HND : Hid (([254, 255, 256, 257, 258, 259, 260, 261, 262, 263, 264, 265, 266] : List Nat).Nodup) := by show List.Nodup _; decide
    have hsz : a0.tmps.size = 314 := by rw [Ha0.out]; rfl
    have r13 : slot a0 13 = (.pointer (some ⟨w3.heap.size, 0, none⟩)) := by rw [Ha0.out]; rfl
    have r14 : slot a0 14 = (.slice (some ⟨b, off, none⟩) M C) := by rw [Ha0.out]; rfl
    have r19 : slot a0 19 = (.int .i64 (k : Int)) := by rw [Ha0.out]; rfl
    refine wp_region_each_at ?hm ?hb (fun a0 d a' w' => ∃ (e0 e1 e2 e3 e4 e5 e6 e7 e8 e9 e10 e11 e12 : Value), a' = putAll a0 [(254, e0), (255, e1), (256, e2), (257, e3), (258, e4), (259, e5), (260, e6), (261, e7), (262, e8), (263, e9), (264, e10), (265, e11), (266, e12)] ∧ Below w3.heap.size w3 w' ∧ (d 0 = true → e0 = (.pointer (some ⟨w3.heap.size, 6, none⟩))) ∧ (d 1 = true → e1 = (.pointer (some ⟨w3.heap.size, 8, none⟩))) ∧ (d 2 = true → e2 = tv) ∧ (d 3 = true → e3 = (.slice (some ⟨b, off, none⟩) M C)) ∧ (d 4 = true → e4 = (.int .i64 (k : Int))) ∧ (d 5 = true → e5 = (.int .i64 (P : Int))) ∧ (d 6 = true → e6 = (.pointer (some ⟨b, off + P, none⟩))) ∧ (d 7 = true → e7 = (.int .i64 y0)) ∧ (d 8 = true → e8 = (.bool (y0 == 1))) ∧ (d 9 = true → (d 10 = false → ∃ g, e9 = .slice (some ⟨g, 0, none⟩) 1 1 ∧ Whole w' g 4 #[.bool (y0 == 1)])) ∧ (d 10 = true → (d 2 = true ∧ d 9 = true ∧ (d 13 = false → ∃ A C, e10 = .slice A (k + 1) C ∧ Whole w' w3.heap.size 37 (bkCells x rv lv ov nv tv uv iv) ∧ w'.ownsRow wr0.heap.size 4 1 (.slice A (k + 1) C) (k + 1) (flatCells 1 (k + 1) (fun i _ => .bool (tellF ls i)))))) ∧ (d 11 = true → e11 = (.pointer (some ⟨w3.heap.size, 6, none⟩))) ∧ (d 12 = true → e12 = (.pointer (some ⟨w3.heap.size, 8, none⟩))) ∧ (d 13 = true → (d 10 = true ∧ ∃ A C, e10 = .slice A (k + 1) C ∧ Whole w' w3.heap.size 37 (bkCells x rv lv ov nv (.slice A (k + 1) C) uv iv) ∧ w'.ownsRow wr0.heap.size 4 1 (.slice A (k + 1) C) (k + 1) (flatCells 1 (k + 1) (fun i _ => .bool (tellF ls i))))) ∧ (d 10 = false → Whole w' w3.heap.size 37 (bkCells x rv lv ov nv tv uv iv) ∧ w'.ownsRow wr0.heap.size 4 1 tv k (flatCells 1 k (fun i _ => .bool (tellF ls i)))) ∧ ButG w3.heap.size wr0 w' ∧ w'.ownsRow wr0.heap.size 2 1 uv k (flatCells 1 k (fun i _ => .int .i64 (useF ls i))) ∧ w'.ownsRow wr0.heap.size 2 1 iv k (flatCells 1 k (fun i _ => .int .i64 (incF ls i)))) ?h0 ?step ?ends
    case hm => kernel_rfl
    case hb => kernel_rfl
    case h0 =>
     refine ⟨_, _, _, _, _, _, _, _, _, _, _, _, _, putAll_same a0 [254, 255, 256, 257, 258, 259, 260, 261, 262, 263, 264, 265, 266], Hbr.out.drew, fun h => absurd h (by decide), fun h => absurd h (by decide), fun h => absurd h (by decide), fun h => absurd h (by decide), fun h => absurd h (by decide), fun h => absurd h (by decide), fun h => absurd h (by decide), fun h => absurd h (by decide), fun h => absurd h (by decide), fun h => absurd h (by decide), fun h => absurd h (by decide), fun h => absurd h (by decide), fun h => absurd h (by decide), fun h => absurd h (by decide), fun _ => ⟨HX4.out.drew, own_later HT4.out (Below.refl _ _).drew⟩, HBG4.out.next (Below.refl _ _).drew, own_later HU4.out (Below.refl _ _).drew, own_later HI4.out (Below.refl _ _).drew⟩
    case step =>
     intro i d a' w' hi hJ hd hk
     obtain ⟨e0, e1, e2, e3, e4, e5, e6, e7, e8, e9, e10, e11, e12, rfl, hC⟩ := hJ
     obtain ⟨hB, hC⟩ := hC
     obtain ⟨c0, hC⟩ := hC
     obtain ⟨c1, hC⟩ := hC
     obtain ⟨c2, hC⟩ := hC
     obtain ⟨c3, hC⟩ := hC
     obtain ⟨c4, hC⟩ := hC
     obtain ⟨c5, hC⟩ := hC
     obtain ⟨c6, hC⟩ := hC
     obtain ⟨c7, hC⟩ := hC
     obtain ⟨c8, hC⟩ := hC
     obtain ⟨c9, hC⟩ := hC
     obtain ⟨c10, hC⟩ := hC
     obtain ⟨c11, hC⟩ := hC
     obtain ⟨c12, hC⟩ := hC
     obtain ⟨c13, hC⟩ := hC
     obtain ⟨cx, hC⟩ := hC
     obtain ⟨cg, hC⟩ := hC
     obtain ⟨co1, hC⟩ := hC
     have co2 := hC
     clear hC
     match i, hi, hd, hk with
     | 0, _, hd, hk =>
       obtain ⟨fr, HFR, f13, f14, f19⟩ : ∃ fr, Hid (putAll a0 [(254, e0), (255, e1), (256, e2), (257, e3), (258, e4), (259, e5), (260, e6), (261, e7), (262, e8), (263, e9), (264, e10), (265, e11), (266, e12)] = fr) ∧ fr.tmps[13]? = some ((.pointer (some ⟨w3.heap.size, 0, none⟩))) ∧ fr.tmps[14]? = some ((.slice (some ⟨b, off, none⟩) M C)) ∧ fr.tmps[19]? = some ((.int .i64 (k : Int))) := ⟨_, rfl, far_base a0 _ 13 (by rw [hsz]; decide) r13 rfl, far_base a0 _ 14 (by rw [hsz]; decide) r14 rfl, far_base a0 _ 19 (by rw [hsz]; decide) r19 rfl⟩
       rw [HFR.out]
       apply wpOp_at
       case ho => rfl
       intro K hK
       go_simp
       refine hK _ _ ⟨(.pointer (some ⟨w3.heap.size, 6, none⟩)), e1, e2, e3, e4, e5, e6, e7, e8, e9, e10, e11, e12, (by rw [← HFR.out]; exact put_upd 0 rfl HND.out), hB, fun _ => rfl, c1, c2, c3, c4, c5, c6, c7, c8, c9, c10, c11, c12, c13, cx, cg, co1, co2⟩
     | 1, _, hd, hk =>
       have h0 : d 0 = true := hk 0 (by decide +kernel)
       obtain rfl := c0 h0
       obtain ⟨fr, HFR, f254, f13, f14, f19⟩ : ∃ fr, Hid (putAll a0 [(254, (.pointer (some ⟨w3.heap.size, 6, none⟩))), (255, e1), (256, e2), (257, e3), (258, e4), (259, e5), (260, e6), (261, e7), (262, e8), (263, e9), (264, e10), (265, e11), (266, e12)] = fr) ∧ fr.tmps[254]? = some ((.pointer (some ⟨w3.heap.size, 6, none⟩))) ∧ fr.tmps[13]? = some ((.pointer (some ⟨w3.heap.size, 0, none⟩))) ∧ fr.tmps[14]? = some ((.slice (some ⟨b, off, none⟩) M C)) ∧ fr.tmps[19]? = some ((.int .i64 (k : Int))) := ⟨_, rfl, far_get a0 _ 254 (by rw [hsz]; decide), far_base a0 _ 13 (by rw [hsz]; decide) r13 rfl, far_base a0 _ 14 (by rw [hsz]; decide) r14 rfl, far_base a0 _ 19 (by rw [hsz]; decide) r19 rfl⟩
       rw [HFR.out]
       apply wpOp_at
       case ho => rfl
       intro K hK
       go_simp
       refine hK _ _ ⟨(.pointer (some ⟨w3.heap.size, 6, none⟩)), (.pointer (some ⟨w3.heap.size, 8, none⟩)), e2, e3, e4, e5, e6, e7, e8, e9, e10, e11, e12, (by rw [← HFR.out]; exact put_upd 1 rfl HND.out), hB, c0, fun _ => rfl, c2, c3, c4, c5, c6, c7, c8, c9, c10, c11, c12, c13, cx, cg, co1, co2⟩
     | 2, _, hd, hk =>
       have h1 : d 1 = true := hk 1 (by decide +kernel)
       obtain rfl := c1 h1
       have nap : d 10 = false := n16_of hd fun h => (c10 h).1
       obtain ⟨_, _, M8, _, _, _⟩ := bk_cells (cx nap).1
       obtain ⟨fr, HFR, f255, f13, f14, f19⟩ : ∃ fr, Hid (putAll a0 [(254, e0), (255, (.pointer (some ⟨w3.heap.size, 8, none⟩))), (256, e2), (257, e3), (258, e4), (259, e5), (260, e6), (261, e7), (262, e8), (263, e9), (264, e10), (265, e11), (266, e12)] = fr) ∧ fr.tmps[255]? = some ((.pointer (some ⟨w3.heap.size, 8, none⟩))) ∧ fr.tmps[13]? = some ((.pointer (some ⟨w3.heap.size, 0, none⟩))) ∧ fr.tmps[14]? = some ((.slice (some ⟨b, off, none⟩) M C)) ∧ fr.tmps[19]? = some ((.int .i64 (k : Int))) := ⟨_, rfl, far_get a0 _ 255 (by rw [hsz]; decide), far_base a0 _ 13 (by rw [hsz]; decide) r13 rfl, far_base a0 _ 14 (by rw [hsz]; decide) r14 rfl, far_base a0 _ 19 (by rw [hsz]; decide) r19 rfl⟩
       rw [HFR.out]
       apply wpOp_at
       case ho => rfl
       intro K hK
       go_simp
       refine hK _ _ ⟨e0, (.pointer (some ⟨w3.heap.size, 8, none⟩)), tv, e3, e4, e5, e6, e7, e8, e9, e10, e11, e12, (by rw [← HFR.out]; exact put_upd 2 rfl HND.out), hB, c0, c1, fun _ => rfl, c3, c4, c5, c6, c7, c8, c9, fun h => absurd (nap.symm.trans h) (by decide), c11, c12, c13, cx, cg, co1, co2⟩
     | 3, _, hd, hk =>
       obtain ⟨fr, HFR, f13, f14, f19⟩ : ∃ fr, Hid (putAll a0 [(254, e0), (255, e1), (256, e2), (257, e3), (258, e4), (259, e5), (260, e6), (261, e7), (262, e8), (263, e9), (264, e10), (265, e11), (266, e12)] = fr) ∧ fr.tmps[13]? = some ((.pointer (some ⟨w3.heap.size, 0, none⟩))) ∧ fr.tmps[14]? = some ((.slice (some ⟨b, off, none⟩) M C)) ∧ fr.tmps[19]? = some ((.int .i64 (k : Int))) := ⟨_, rfl, far_base a0 _ 13 (by rw [hsz]; decide) r13 rfl, far_base a0 _ 14 (by rw [hsz]; decide) r14 rfl, far_base a0 _ 19 (by rw [hsz]; decide) r19 rfl⟩
       rw [HFR.out]
       apply wpOp_at
       case ho => rfl
       intro K hK
       go_simp
       refine hK _ _ ⟨e0, e1, e2, (.slice (some ⟨b, off, none⟩) M C), e4, e5, e6, e7, e8, e9, e10, e11, e12, (by rw [← HFR.out]; exact put_upd 3 rfl HND.out), hB, c0, c1, c2, fun _ => rfl, c4, c5, c6, c7, c8, c9, c10, c11, c12, c13, cx, cg, co1, co2⟩
     | 4, _, hd, hk =>
       obtain ⟨fr, HFR, f13, f14, f19⟩ : ∃ fr, Hid (putAll a0 [(254, e0), (255, e1), (256, e2), (257, e3), (258, e4), (259, e5), (260, e6), (261, e7), (262, e8), (263, e9), (264, e10), (265, e11), (266, e12)] = fr) ∧ fr.tmps[13]? = some ((.pointer (some ⟨w3.heap.size, 0, none⟩))) ∧ fr.tmps[14]? = some ((.slice (some ⟨b, off, none⟩) M C)) ∧ fr.tmps[19]? = some ((.int .i64 (k : Int))) := ⟨_, rfl, far_base a0 _ 13 (by rw [hsz]; decide) r13 rfl, far_base a0 _ 14 (by rw [hsz]; decide) r14 rfl, far_base a0 _ 19 (by rw [hsz]; decide) r19 rfl⟩
       rw [HFR.out]
       apply wpOp_at
       case ho => rfl
       intro K hK
       go_simp
       refine hK _ _ ⟨e0, e1, e2, e3, (.int .i64 (k : Int)), e5, e6, e7, e8, e9, e10, e11, e12, (by rw [← HFR.out]; exact put_upd 4 rfl HND.out), hB, c0, c1, c2, c3, fun _ => rfl, c5, c6, c7, c8, c9, c10, c11, c12, c13, cx, cg, co1, co2⟩
     | 5, _, hd, hk =>
       have h4 : d 4 = true := hk 4 (by decide +kernel)
       obtain rfl := c4 h4
       obtain ⟨fr, HFR, f258, f13, f14, f19⟩ : ∃ fr, Hid (putAll a0 [(254, e0), (255, e1), (256, e2), (257, e3), (258, (.int .i64 (k : Int))), (259, e5), (260, e6), (261, e7), (262, e8), (263, e9), (264, e10), (265, e11), (266, e12)] = fr) ∧ fr.tmps[258]? = some ((.int .i64 (k : Int))) ∧ fr.tmps[13]? = some ((.pointer (some ⟨w3.heap.size, 0, none⟩))) ∧ fr.tmps[14]? = some ((.slice (some ⟨b, off, none⟩) M C)) ∧ fr.tmps[19]? = some ((.int .i64 (k : Int))) := ⟨_, rfl, far_get a0 _ 258 (by rw [hsz]; decide), far_base a0 _ 13 (by rw [hsz]; decide) r13 rfl, far_base a0 _ 14 (by rw [hsz]; decide) r14 rfl, far_base a0 _ 19 (by rw [hsz]; decide) r19 rfl⟩
       rw [HFR.out]
       apply wpOp_at
       case ho => rfl
       intro K hK
       go_simp
       refine hK _ _ ⟨e0, e1, e2, e3, (.int .i64 (k : Int)), (.int .i64 (P : Int)), e6, e7, e8, e9, e10, e11, e12, (by rw [← HFR.out]; exact put_upd 5 rfl HND.out), hB, c0, c1, c2, c3, c4, fun _ => rfl, c6, c7, c8, c9, c10, c11, c12, c13, cx, cg, co1, co2⟩
     | 6, _, hd, hk =>
       have h3 : d 3 = true := hk 3 (by decide +kernel)
       have h5 : d 5 = true := hk 5 (by decide +kernel)
       obtain rfl := c3 h3
       obtain rfl := c5 h5
       obtain ⟨fr, HFR, f257, f259, f13, f14, f19⟩ : ∃ fr, Hid (putAll a0 [(254, e0), (255, e1), (256, e2), (257, (.slice (some ⟨b, off, none⟩) M C)), (258, e4), (259, (.int .i64 (P : Int))), (260, e6), (261, e7), (262, e8), (263, e9), (264, e10), (265, e11), (266, e12)] = fr) ∧ fr.tmps[257]? = some ((.slice (some ⟨b, off, none⟩) M C)) ∧ fr.tmps[259]? = some ((.int .i64 (P : Int))) ∧ fr.tmps[13]? = some ((.pointer (some ⟨w3.heap.size, 0, none⟩))) ∧ fr.tmps[14]? = some ((.slice (some ⟨b, off, none⟩) M C)) ∧ fr.tmps[19]? = some ((.int .i64 (k : Int))) := ⟨_, rfl, far_get a0 _ 257 (by rw [hsz]; decide), far_get a0 _ 259 (by rw [hsz]; decide), far_base a0 _ 13 (by rw [hsz]; decide) r13 rfl, far_base a0 _ 14 (by rw [hsz]; decide) r14 rfl, far_base a0 _ 19 (by rw [hsz]; decide) r19 rfl⟩
       rw [HFR.out]
       apply wpOp_at
       case ho => rfl
       intro K hK
       go_simp
       refine hK _ _ ⟨e0, e1, e2, (.slice (some ⟨b, off, none⟩) M C), e4, (.int .i64 (P : Int)), (.pointer (some ⟨b, off + P, none⟩)), e7, e8, e9, e10, e11, e12, (by rw [← HFR.out]; exact put_upd 6 rfl HND.out), hB, c0, c1, c2, c3, c4, c5, fun _ => rfl, c7, c8, c9, c10, c11, c12, c13, cx, cg, co1, co2⟩
     | 7, _, hd, hk =>
       have h6 : d 6 = true := hk 6 (by decide +kernel)
       obtain rfl := c6 h6
       have z0 := cg.cell_of V0.out hbG
       obtain ⟨fr, HFR, f260, f13, f14, f19⟩ : ∃ fr, Hid (putAll a0 [(254, e0), (255, e1), (256, e2), (257, e3), (258, e4), (259, e5), (260, (.pointer (some ⟨b, off + P, none⟩))), (261, e7), (262, e8), (263, e9), (264, e10), (265, e11), (266, e12)] = fr) ∧ fr.tmps[260]? = some ((.pointer (some ⟨b, off + P, none⟩))) ∧ fr.tmps[13]? = some ((.pointer (some ⟨w3.heap.size, 0, none⟩))) ∧ fr.tmps[14]? = some ((.slice (some ⟨b, off, none⟩) M C)) ∧ fr.tmps[19]? = some ((.int .i64 (k : Int))) := ⟨_, rfl, far_get a0 _ 260 (by rw [hsz]; decide), far_base a0 _ 13 (by rw [hsz]; decide) r13 rfl, far_base a0 _ 14 (by rw [hsz]; decide) r14 rfl, far_base a0 _ 19 (by rw [hsz]; decide) r19 rfl⟩
       rw [HFR.out]
       apply wpOp_at
       case ho => rfl
       intro K hK
       go_simp
       refine hK _ _ ⟨e0, e1, e2, e3, e4, e5, (.pointer (some ⟨b, off + P, none⟩)), (.int .i64 y0), e8, e9, e10, e11, e12, (by rw [← HFR.out]; exact put_upd 7 rfl HND.out), hB, c0, c1, c2, c3, c4, c5, c6, fun _ => rfl, c8, c9, c10, c11, c12, c13, cx, cg, co1, co2⟩
     | 8, _, hd, hk =>
       have h7 : d 7 = true := hk 7 (by decide +kernel)
       obtain rfl := c7 h7
       obtain ⟨fr, HFR, f261, f13, f14, f19⟩ : ∃ fr, Hid (putAll a0 [(254, e0), (255, e1), (256, e2), (257, e3), (258, e4), (259, e5), (260, e6), (261, (.int .i64 y0)), (262, e8), (263, e9), (264, e10), (265, e11), (266, e12)] = fr) ∧ fr.tmps[261]? = some ((.int .i64 y0)) ∧ fr.tmps[13]? = some ((.pointer (some ⟨w3.heap.size, 0, none⟩))) ∧ fr.tmps[14]? = some ((.slice (some ⟨b, off, none⟩) M C)) ∧ fr.tmps[19]? = some ((.int .i64 (k : Int))) := ⟨_, rfl, far_get a0 _ 261 (by rw [hsz]; decide), far_base a0 _ 13 (by rw [hsz]; decide) r13 rfl, far_base a0 _ 14 (by rw [hsz]; decide) r14 rfl, far_base a0 _ 19 (by rw [hsz]; decide) r19 rfl⟩
       rw [HFR.out]
       apply wpOp_at
       case ho => rfl
       intro K hK
       go_simp
       refine hK _ _ ⟨e0, e1, e2, e3, e4, e5, e6, (.int .i64 y0), (.bool (y0 == 1)), e9, e10, e11, e12, (by rw [← HFR.out]; exact put_upd 8 rfl HND.out), hB, c0, c1, c2, c3, c4, c5, c6, c7, fun _ => rfl, c9, c10, c11, c12, c13, cx, cg, co1, co2⟩
     | 9, _, hd, hk =>
       have h8 : d 8 = true := hk 8 (by decide +kernel)
       obtain rfl := c8 h8
       have hb := below_box w' (.cells #[.bool (y0 == 1)] 4)
       obtain ⟨fr, HFR, f262, f13, f14, f19⟩ : ∃ fr, Hid (putAll a0 [(254, e0), (255, e1), (256, e2), (257, e3), (258, e4), (259, e5), (260, e6), (261, e7), (262, (.bool (y0 == 1))), (263, e9), (264, e10), (265, e11), (266, e12)] = fr) ∧ fr.tmps[262]? = some ((.bool (y0 == 1))) ∧ fr.tmps[13]? = some ((.pointer (some ⟨w3.heap.size, 0, none⟩))) ∧ fr.tmps[14]? = some ((.slice (some ⟨b, off, none⟩) M C)) ∧ fr.tmps[19]? = some ((.int .i64 (k : Int))) := ⟨_, rfl, far_get a0 _ 262 (by rw [hsz]; decide), far_base a0 _ 13 (by rw [hsz]; decide) r13 rfl, far_base a0 _ 14 (by rw [hsz]; decide) r14 rfl, far_base a0 _ 19 (by rw [hsz]; decide) r19 rfl⟩
       rw [HFR.out]
       apply wpOp_at
       case ho => rfl
       intro K hK
       go_simp
       refine hK _ _ ⟨e0, e1, e2, e3, e4, e5, e6, e7, (.bool (y0 == 1)), .slice (some ⟨w'.heap.size, 0, none⟩) 1 1, e10, e11, e12, (by rw [← HFR.out]; exact put_upd 9 rfl HND.out), hB.trans (hb.mono hB.size), c0, c1, c2, c3, c4, c5, c6, c7, c8, fun _ => fun _ => ⟨_, rfl, Whole.made w' _ _⟩, fun h => Bool.noConfusion (hd.symm.trans (c10 h).2.1), c11, c12, fun h => Bool.noConfusion (hd.symm.trans (c10 (c13 h).1).2.1), fun h => ⟨(cx h).1.alloc _, own_later (cx h).2 hb⟩, cg.next hb, own_later co1 hb, own_later co2 hb⟩
     | 10, _, hd, hk =>
       have h2 : d 2 = true := hk 2 (by decide +kernel)
       have h9 : d 9 = true := hk 9 (by decide +kernel)
       have e1' := (c2 h2).symm
       subst e1'
       obtain ⟨g, rfl, hw⟩ := c9 h9 hd
       obtain ⟨A9, C9, w9, hrun, q1, q2, q3⟩ := flag_push_at HET.out (cx hd).2 hw HkM.out cg.size
       obtain ⟨hfine, happV, happW⟩ := fine_of hrun
       have hX9 := (q3.whole (cx hd).1 (own_not (cx hd).2 hG)).1
       have ho1 := (q3.beside co1 (own_sides co1 (cx hd).2 (by decide))).1
       have ho2 := (q3.beside co2 (own_sides co2 (cx hd).2 (by decide))).1
       clear hrun
       obtain ⟨fr, HFR, f256, f263, f13, f14, f19⟩ : ∃ fr, Hid (putAll a0 [(254, e0), (255, e1), (256, tv), (257, e3), (258, e4), (259, e5), (260, e6), (261, e7), (262, e8), (263, .slice (some ⟨g, 0, none⟩) 1 1), (264, e10), (265, e11), (266, e12)] = fr) ∧ fr.tmps[256]? = some (tv) ∧ fr.tmps[263]? = some (.slice (some ⟨g, 0, none⟩) 1 1) ∧ fr.tmps[13]? = some ((.pointer (some ⟨w3.heap.size, 0, none⟩))) ∧ fr.tmps[14]? = some ((.slice (some ⟨b, off, none⟩) M C)) ∧ fr.tmps[19]? = some ((.int .i64 (k : Int))) := ⟨_, rfl, far_get a0 _ 256 (by rw [hsz]; decide), far_get a0 _ 263 (by rw [hsz]; decide), far_base a0 _ 13 (by rw [hsz]; decide) r13 rfl, far_base a0 _ 14 (by rw [hsz]; decide) r14 rfl, far_base a0 _ 19 (by rw [hsz]; decide) r19 rfl⟩
       rw [HFR.out]
       apply wpOp_at
       case ho => rfl
       intro K hK
       go_simp
       refine hK _ _ ⟨e0, e1, tv, e3, e4, e5, e6, e7, e8, .slice (some ⟨g, 0, none⟩) 1 1, .slice A9 (k + 1) C9, e11, e12, (by rw [← HFR.out]; exact put_upd 10 rfl HND.out), hB.trans (q2.mono (Nat.le_of_lt hG)), c0, c1, c2, c3, c4, c5, c6, c7, c8, fun _ h => Bool.noConfusion (show true = false from h), fun _ => ⟨h2, h9, fun _ => ⟨A9, C9, rfl, hX9, q1⟩⟩, c11, c12, fun h => absurd ((c13 h).1.symm.trans hd) (by decide), fun h => Bool.noConfusion (show true = false from h), cg.grown q2, ho1, ho2⟩
     | 11, _, hd, hk =>
       obtain ⟨fr, HFR, f13, f14, f19⟩ : ∃ fr, Hid (putAll a0 [(254, e0), (255, e1), (256, e2), (257, e3), (258, e4), (259, e5), (260, e6), (261, e7), (262, e8), (263, e9), (264, e10), (265, e11), (266, e12)] = fr) ∧ fr.tmps[13]? = some ((.pointer (some ⟨w3.heap.size, 0, none⟩))) ∧ fr.tmps[14]? = some ((.slice (some ⟨b, off, none⟩) M C)) ∧ fr.tmps[19]? = some ((.int .i64 (k : Int))) := ⟨_, rfl, far_base a0 _ 13 (by rw [hsz]; decide) r13 rfl, far_base a0 _ 14 (by rw [hsz]; decide) r14 rfl, far_base a0 _ 19 (by rw [hsz]; decide) r19 rfl⟩
       rw [HFR.out]
       apply wpOp_at
       case ho => rfl
       intro K hK
       go_simp
       refine hK _ _ ⟨e0, e1, e2, e3, e4, e5, e6, e7, e8, e9, e10, (.pointer (some ⟨w3.heap.size, 6, none⟩)), e12, (by rw [← HFR.out]; exact put_upd 11 rfl HND.out), hB, c0, c1, c2, c3, c4, c5, c6, c7, c8, c9, c10, fun _ => rfl, c12, c13, cx, cg, co1, co2⟩
     | 12, _, hd, hk =>
       have h11 : d 11 = true := hk 11 (by decide +kernel)
       obtain rfl := c11 h11
       obtain ⟨fr, HFR, f265, f13, f14, f19⟩ : ∃ fr, Hid (putAll a0 [(254, e0), (255, e1), (256, e2), (257, e3), (258, e4), (259, e5), (260, e6), (261, e7), (262, e8), (263, e9), (264, e10), (265, (.pointer (some ⟨w3.heap.size, 6, none⟩))), (266, e12)] = fr) ∧ fr.tmps[265]? = some ((.pointer (some ⟨w3.heap.size, 6, none⟩))) ∧ fr.tmps[13]? = some ((.pointer (some ⟨w3.heap.size, 0, none⟩))) ∧ fr.tmps[14]? = some ((.slice (some ⟨b, off, none⟩) M C)) ∧ fr.tmps[19]? = some ((.int .i64 (k : Int))) := ⟨_, rfl, far_get a0 _ 265 (by rw [hsz]; decide), far_base a0 _ 13 (by rw [hsz]; decide) r13 rfl, far_base a0 _ 14 (by rw [hsz]; decide) r14 rfl, far_base a0 _ 19 (by rw [hsz]; decide) r19 rfl⟩
       rw [HFR.out]
       apply wpOp_at
       case ho => rfl
       intro K hK
       go_simp
       refine hK _ _ ⟨e0, e1, e2, e3, e4, e5, e6, e7, e8, e9, e10, (.pointer (some ⟨w3.heap.size, 6, none⟩)), (.pointer (some ⟨w3.heap.size, 8, none⟩)), (by rw [← HFR.out]; exact put_upd 12 rfl HND.out), hB, c0, c1, c2, c3, c4, c5, c6, c7, c8, c9, c10, c11, fun _ => rfl, c13, cx, cg, co1, co2⟩
     | 13, _, hd, hk =>
       have h10 : d 10 = true := hk 10 (by decide +kernel)
       have h12 : d 12 = true := hk 12 (by decide +kernel)
       obtain rfl := c12 h12
       have e1' := (c2 (c10 h10).1).symm
       subst e1'
       obtain ⟨A9, C9, rfl, hX, hO⟩ := (c10 h10).2.2 hd
       have M10 := hX.cell 8
       have y10 := hX.free 8
       have hS := bk_set8 (u := .slice A9 (k + 1) C9) hX
       have hOs := own_low hO (p := ⟨w3.heap.size, 8, none⟩) hG (.slice A9 (k + 1) C9)
       have ho1 := own_low co1 (p := ⟨w3.heap.size, 8, none⟩) hG (.slice A9 (k + 1) C9)
       have ho2 := own_low co2 (p := ⟨w3.heap.size, 8, none⟩) hG (.slice A9 (k + 1) C9)
       have hlg := hX.lt
       obtain ⟨fr, HFR, f264, f266, f13, f14, f19⟩ : ∃ fr, Hid (putAll a0 [(254, e0), (255, e1), (256, tv), (257, e3), (258, e4), (259, e5), (260, e6), (261, e7), (262, e8), (263, e9), (264, .slice A9 (k + 1) C9), (265, e11), (266, (.pointer (some ⟨w3.heap.size, 8, none⟩)))] = fr) ∧ fr.tmps[264]? = some (.slice A9 (k + 1) C9) ∧ fr.tmps[266]? = some ((.pointer (some ⟨w3.heap.size, 8, none⟩))) ∧ fr.tmps[13]? = some ((.pointer (some ⟨w3.heap.size, 0, none⟩))) ∧ fr.tmps[14]? = some ((.slice (some ⟨b, off, none⟩) M C)) ∧ fr.tmps[19]? = some ((.int .i64 (k : Int))) := ⟨_, rfl, far_get a0 _ 264 (by rw [hsz]; decide), far_get a0 _ 266 (by rw [hsz]; decide), far_base a0 _ 13 (by rw [hsz]; decide) r13 rfl, far_base a0 _ 14 (by rw [hsz]; decide) r14 rfl, far_base a0 _ 19 (by rw [hsz]; decide) r19 rfl⟩
       rw [HFR.out]
       apply wpOp_at
       case ho => rfl
       intro K hK
       go_simp
       refine hK _ _ ⟨e0, e1, tv, e3, e4, e5, e6, e7, e8, e9, .slice A9 (k + 1) C9, e11, (.pointer (some ⟨w3.heap.size, 8, none⟩)), HFR.out.symm, hB.setCell (p := ⟨w3.heap.size, 8, none⟩) (Nat.le_refl _) _, c0, c1, c2, c3, c4, c5, c6, c7, c8, fun _ h => absurd (h10.symm.trans h) (by decide), fun _ => ⟨(c10 h10).1, (c10 h10).2.1, fun h => Bool.noConfusion (show true = false from h)⟩, c11, c12, fun _ => ⟨h10, A9, C9, rfl, hS, hOs⟩, fun h => absurd (h10.symm.trans h) (by decide), cg.set 8 _, ho1, ho2⟩
     | k + 14, hi, _, _ => exact absurd hi (by simp)
    case ends =>
     intro d a' w5 hJ hall
     obtain ⟨e0, e1, e2, e3, e4, e5, e6, e7, e8, e9, e10, e11, e12, rfl, hC⟩ := hJ
     obtain ⟨hB, hC⟩ := hC
     obtain ⟨c0, hC⟩ := hC
     obtain ⟨c1, hC⟩ := hC
     obtain ⟨c2, hC⟩ := hC
     obtain ⟨c3, hC⟩ := hC
     obtain ⟨c4, hC⟩ := hC
     obtain ⟨c5, hC⟩ := hC
     obtain ⟨c6, hC⟩ := hC
     obtain ⟨c7, hC⟩ := hC
     obtain ⟨c8, hC⟩ := hC
     obtain ⟨c9, hC⟩ := hC
     obtain ⟨c10, hC⟩ := hC
     obtain ⟨c11, hC⟩ := hC
     obtain ⟨c12, hC⟩ := hC
     obtain ⟨c13, hC⟩ := hC
     obtain ⟨cx, hC⟩ := hC
     obtain ⟨cg, hC⟩ := hC
     obtain ⟨co1, hC⟩ := hC
     have co2 := hC
     clear hC
     have ha0 := Ha0.out
     subst ha0
     clear Ha0 HND hsz r13 r14 r19
     obtain ⟨h10, AT, CT, rfl, hX, hO⟩ := c13 (hall 13 (by decide +kernel))
     have HG5 := Lib.hid cg
     have HX5 := Lib.hid hX
     have HTn := Lib.hid hO
     have HU5 := Lib.hid co1
     have HI5 := Lib.hid co2
     have HB5 := Lib.hid hB
     clear c0 c1 c2 c3 c4 c5 c6 c7 c8 c9 c10 c11 c12 c13 cx cg co1 co2 hall hB hX hO h10
     simp only [putAll, Act.put, qA, qB, qC]
     have hlx5 := HX5.out.lt
     go_wp2_with fail
     refine region_any fun a0 Ha0 => ?_
     have HND : Hid (([267, 268, 269, 270, 271, 272, 273, 274, 275, 276, 277, 278, 279] : List Nat).Nodup) := by show List.Nodup _; decide
     have hsz : a0.tmps.size = 314 := by rw [Ha0.out]; rfl
     have r13 : slot a0 13 = (.pointer (some ⟨w3.heap.size, 0, none⟩)) := by rw [Ha0.out]; rfl
     have r14 : slot a0 14 = (.slice (some ⟨b, off, none⟩) M C) := by rw [Ha0.out]; rfl
     have r19 : slot a0 19 = (.int .i64 (k : Int)) := by rw [Ha0.out]; rfl
     refine wp_region_each_at ?hm ?hb (fun a0 d a' w' => ∃ (e0 e1 e2 e3 e4 e5 e6 e7 e8 e9 e10 e11 e12 : Value), a' = putAll a0 [(267, e0), (268, e1), (269, e2), (270, e3), (271, e4), (272, e5), (273, e6), (274, e7), (275, e8), (276, e9), (277, e10), (278, e11), (279, e12)] ∧ Below w3.heap.size w3 w' ∧ (d 0 = true → e0 = (.pointer (some ⟨w3.heap.size, 6, none⟩))) ∧ (d 1 = true → e1 = (.pointer (some ⟨w3.heap.size, 9, none⟩))) ∧ (d 2 = true → e2 = uv) ∧ (d 3 = true → e3 = (.slice (some ⟨b, off, none⟩) M C)) ∧ (d 4 = true → e4 = (.int .i64 (k : Int))) ∧ (d 5 = true → e5 = (.int .i64 (P : Int))) ∧ (d 6 = true → e6 = (.int .i64 (P1 : Int))) ∧ (d 7 = true → e7 = (.pointer (some ⟨b, off + P1, none⟩))) ∧ (d 8 = true → e8 = (.int .i64 y1)) ∧ (d 9 = true → (d 10 = false → ∃ g, e9 = .slice (some ⟨g, 0, none⟩) 1 1 ∧ Whole w' g 2 #[.int .i64 y1])) ∧ (d 10 = true → (d 2 = true ∧ d 9 = true ∧ (d 13 = false → ∃ A C, e10 = .slice A (k + 1) C ∧ Whole w' w3.heap.size 37 (bkCells x rv lv ov nv (.slice AT (k + 1) CT) uv iv) ∧ w'.ownsRow wr0.heap.size 2 1 (.slice A (k + 1) C) (k + 1) (flatCells 1 (k + 1) (fun i _ => .int .i64 (useF ls i))) ∧ ApartV iv (.slice A (k + 1) C)))) ∧ (d 11 = true → e11 = (.pointer (some ⟨w3.heap.size, 6, none⟩))) ∧ (d 12 = true → e12 = (.pointer (some ⟨w3.heap.size, 9, none⟩))) ∧ (d 13 = true → (d 10 = true ∧ ∃ A C, e10 = .slice A (k + 1) C ∧ Whole w' w3.heap.size 37 (bkCells x rv lv ov nv (.slice AT (k + 1) CT) (.slice A (k + 1) C) iv) ∧ w'.ownsRow wr0.heap.size 2 1 (.slice A (k + 1) C) (k + 1) (flatCells 1 (k + 1) (fun i _ => .int .i64 (useF ls i))) ∧ ApartV iv (.slice A (k + 1) C))) ∧ (d 10 = false → Whole w' w3.heap.size 37 (bkCells x rv lv ov nv (.slice AT (k + 1) CT) uv iv) ∧ w'.ownsRow wr0.heap.size 2 1 uv k (flatCells 1 k (fun i _ => .int .i64 (useF ls i)))) ∧ ButG w3.heap.size wr0 w' ∧ w'.ownsRow wr0.heap.size 4 1 (.slice AT (k + 1) CT) (k + 1) (flatCells 1 (k + 1) (fun i _ => .bool (tellF ls i))) ∧ w'.ownsRow wr0.heap.size 2 1 iv k (flatCells 1 k (fun i _ => .int .i64 (incF ls i)))) ?h0 ?step ?ends
     case hm => kernel_rfl
     case hb => kernel_rfl
     case h0 =>
      refine ⟨_, _, _, _, _, _, _, _, _, _, _, _, _, putAll_same a0 [267, 268, 269, 270, 271, 272, 273, 274, 275, 276, 277, 278, 279], HB5.out.drew, fun h => absurd h (by decide), fun h => absurd h (by decide), fun h => absurd h (by decide), fun h => absurd h (by decide), fun h => absurd h (by decide), fun h => absurd h (by decide), fun h => absurd h (by decide), fun h => absurd h (by decide), fun h => absurd h (by decide), fun h => absurd h (by decide), fun h => absurd h (by decide), fun h => absurd h (by decide), fun h => absurd h (by decide), fun h => absurd h (by decide), fun _ => ⟨HX5.out.drew, own_later HU5.out (Below.refl _ _).drew⟩, HG5.out.next (Below.refl _ _).drew, own_later HTn.out (Below.refl _ _).drew, own_later HI5.out (Below.refl _ _).drew⟩
     case step =>
      intro i d a' w' hi hJ hd hk
      obtain ⟨e0, e1, e2, e3, e4, e5, e6, e7, e8, e9, e10, e11, e12, rfl, hC⟩ := hJ
      obtain ⟨hB, hC⟩ := hC
      obtain ⟨c0, hC⟩ := hC
      obtain ⟨c1, hC⟩ := hC
      obtain ⟨c2, hC⟩ := hC
      obtain ⟨c3, hC⟩ := hC
      obtain ⟨c4, hC⟩ := hC
      obtain ⟨c5, hC⟩ := hC
      obtain ⟨c6, hC⟩ := hC
      obtain ⟨c7, hC⟩ := hC
      obtain ⟨c8, hC⟩ := hC
      obtain ⟨c9, hC⟩ := hC
      obtain ⟨c10, hC⟩ := hC
      obtain ⟨c11, hC⟩ := hC
      obtain ⟨c12, hC⟩ := hC
      obtain ⟨c13, hC⟩ := hC
      obtain ⟨cx, hC⟩ := hC
      obtain ⟨cg, hC⟩ := hC
      obtain ⟨co1, hC⟩ := hC
      have co2 := hC
      clear hC
      match i, hi, hd, hk with
      | 0, _, hd, hk =>
        obtain ⟨fr, HFR, f13, f14, f19⟩ : ∃ fr, Hid (putAll a0 [(267, e0), (268, e1), (269, e2), (270, e3), (271, e4), (272, e5), (273, e6), (274, e7), (275, e8), (276, e9), (277, e10), (278, e11), (279, e12)] = fr) ∧ fr.tmps[13]? = some ((.pointer (some ⟨w3.heap.size, 0, none⟩))) ∧ fr.tmps[14]? = some ((.slice (some ⟨b, off, none⟩) M C)) ∧ fr.tmps[19]? = some ((.int .i64 (k : Int))) := ⟨_, rfl, far_base a0 _ 13 (by rw [hsz]; decide) r13 rfl, far_base a0 _ 14 (by rw [hsz]; decide) r14 rfl, far_base a0 _ 19 (by rw [hsz]; decide) r19 rfl⟩
        rw [HFR.out]
        apply wpOp_at
        case ho => rfl
        intro K hK
        go_simp
        refine hK _ _ ⟨(.pointer (some ⟨w3.heap.size, 6, none⟩)), e1, e2, e3, e4, e5, e6, e7, e8, e9, e10, e11, e12, (by rw [← HFR.out]; exact put_upd 0 rfl HND.out), hB, fun _ => rfl, c1, c2, c3, c4, c5, c6, c7, c8, c9, c10, c11, c12, c13, cx, cg, co1, co2⟩
      | 1, _, hd, hk =>
        have h0 : d 0 = true := hk 0 (by decide +kernel)
        obtain rfl := c0 h0
        obtain ⟨fr, HFR, f267, f13, f14, f19⟩ : ∃ fr, Hid (putAll a0 [(267, (.pointer (some ⟨w3.heap.size, 6, none⟩))), (268, e1), (269, e2), (270, e3), (271, e4), (272, e5), (273, e6), (274, e7), (275, e8), (276, e9), (277, e10), (278, e11), (279, e12)] = fr) ∧ fr.tmps[267]? = some ((.pointer (some ⟨w3.heap.size, 6, none⟩))) ∧ fr.tmps[13]? = some ((.pointer (some ⟨w3.heap.size, 0, none⟩))) ∧ fr.tmps[14]? = some ((.slice (some ⟨b, off, none⟩) M C)) ∧ fr.tmps[19]? = some ((.int .i64 (k : Int))) := ⟨_, rfl, far_get a0 _ 267 (by rw [hsz]; decide), far_base a0 _ 13 (by rw [hsz]; decide) r13 rfl, far_base a0 _ 14 (by rw [hsz]; decide) r14 rfl, far_base a0 _ 19 (by rw [hsz]; decide) r19 rfl⟩
        rw [HFR.out]
        apply wpOp_at
        case ho => rfl
        intro K hK
        go_simp
        refine hK _ _ ⟨(.pointer (some ⟨w3.heap.size, 6, none⟩)), (.pointer (some ⟨w3.heap.size, 9, none⟩)), e2, e3, e4, e5, e6, e7, e8, e9, e10, e11, e12, (by rw [← HFR.out]; exact put_upd 1 rfl HND.out), hB, c0, fun _ => rfl, c2, c3, c4, c5, c6, c7, c8, c9, c10, c11, c12, c13, cx, cg, co1, co2⟩
      | 2, _, hd, hk =>
        have h1 : d 1 = true := hk 1 (by decide +kernel)
        obtain rfl := c1 h1
        have nap : d 10 = false := n16_of hd fun h => (c10 h).1
        obtain ⟨_, _, _, M8, _, _⟩ := bk_cells (cx nap).1
        obtain ⟨fr, HFR, f268, f13, f14, f19⟩ : ∃ fr, Hid (putAll a0 [(267, e0), (268, (.pointer (some ⟨w3.heap.size, 9, none⟩))), (269, e2), (270, e3), (271, e4), (272, e5), (273, e6), (274, e7), (275, e8), (276, e9), (277, e10), (278, e11), (279, e12)] = fr) ∧ fr.tmps[268]? = some ((.pointer (some ⟨w3.heap.size, 9, none⟩))) ∧ fr.tmps[13]? = some ((.pointer (some ⟨w3.heap.size, 0, none⟩))) ∧ fr.tmps[14]? = some ((.slice (some ⟨b, off, none⟩) M C)) ∧ fr.tmps[19]? = some ((.int .i64 (k : Int))) := ⟨_, rfl, far_get a0 _ 268 (by rw [hsz]; decide), far_base a0 _ 13 (by rw [hsz]; decide) r13 rfl, far_base a0 _ 14 (by rw [hsz]; decide) r14 rfl, far_base a0 _ 19 (by rw [hsz]; decide) r19 rfl⟩
        rw [HFR.out]
        apply wpOp_at
        case ho => rfl
        intro K hK
        go_simp
        refine hK _ _ ⟨e0, (.pointer (some ⟨w3.heap.size, 9, none⟩)), uv, e3, e4, e5, e6, e7, e8, e9, e10, e11, e12, (by rw [← HFR.out]; exact put_upd 2 rfl HND.out), hB, c0, c1, fun _ => rfl, c3, c4, c5, c6, c7, c8, c9, fun h => absurd (nap.symm.trans h) (by decide), c11, c12, c13, cx, cg, co1, co2⟩
      | 3, _, hd, hk =>
        obtain ⟨fr, HFR, f13, f14, f19⟩ : ∃ fr, Hid (putAll a0 [(267, e0), (268, e1), (269, e2), (270, e3), (271, e4), (272, e5), (273, e6), (274, e7), (275, e8), (276, e9), (277, e10), (278, e11), (279, e12)] = fr) ∧ fr.tmps[13]? = some ((.pointer (some ⟨w3.heap.size, 0, none⟩))) ∧ fr.tmps[14]? = some ((.slice (some ⟨b, off, none⟩) M C)) ∧ fr.tmps[19]? = some ((.int .i64 (k : Int))) := ⟨_, rfl, far_base a0 _ 13 (by rw [hsz]; decide) r13 rfl, far_base a0 _ 14 (by rw [hsz]; decide) r14 rfl, far_base a0 _ 19 (by rw [hsz]; decide) r19 rfl⟩
        rw [HFR.out]
        apply wpOp_at
        case ho => rfl
        intro K hK
        go_simp
        refine hK _ _ ⟨e0, e1, e2, (.slice (some ⟨b, off, none⟩) M C), e4, e5, e6, e7, e8, e9, e10, e11, e12, (by rw [← HFR.out]; exact put_upd 3 rfl HND.out), hB, c0, c1, c2, fun _ => rfl, c4, c5, c6, c7, c8, c9, c10, c11, c12, c13, cx, cg, co1, co2⟩
      | 4, _, hd, hk =>
        obtain ⟨fr, HFR, f13, f14, f19⟩ : ∃ fr, Hid (putAll a0 [(267, e0), (268, e1), (269, e2), (270, e3), (271, e4), (272, e5), (273, e6), (274, e7), (275, e8), (276, e9), (277, e10), (278, e11), (279, e12)] = fr) ∧ fr.tmps[13]? = some ((.pointer (some ⟨w3.heap.size, 0, none⟩))) ∧ fr.tmps[14]? = some ((.slice (some ⟨b, off, none⟩) M C)) ∧ fr.tmps[19]? = some ((.int .i64 (k : Int))) := ⟨_, rfl, far_base a0 _ 13 (by rw [hsz]; decide) r13 rfl, far_base a0 _ 14 (by rw [hsz]; decide) r14 rfl, far_base a0 _ 19 (by rw [hsz]; decide) r19 rfl⟩
        rw [HFR.out]
        apply wpOp_at
        case ho => rfl
        intro K hK
        go_simp
        refine hK _ _ ⟨e0, e1, e2, e3, (.int .i64 (k : Int)), e5, e6, e7, e8, e9, e10, e11, e12, (by rw [← HFR.out]; exact put_upd 4 rfl HND.out), hB, c0, c1, c2, c3, fun _ => rfl, c5, c6, c7, c8, c9, c10, c11, c12, c13, cx, cg, co1, co2⟩
      | 5, _, hd, hk =>
        have h4 : d 4 = true := hk 4 (by decide +kernel)
        obtain rfl := c4 h4
        obtain ⟨fr, HFR, f271, f13, f14, f19⟩ : ∃ fr, Hid (putAll a0 [(267, e0), (268, e1), (269, e2), (270, e3), (271, (.int .i64 (k : Int))), (272, e5), (273, e6), (274, e7), (275, e8), (276, e9), (277, e10), (278, e11), (279, e12)] = fr) ∧ fr.tmps[271]? = some ((.int .i64 (k : Int))) ∧ fr.tmps[13]? = some ((.pointer (some ⟨w3.heap.size, 0, none⟩))) ∧ fr.tmps[14]? = some ((.slice (some ⟨b, off, none⟩) M C)) ∧ fr.tmps[19]? = some ((.int .i64 (k : Int))) := ⟨_, rfl, far_get a0 _ 271 (by rw [hsz]; decide), far_base a0 _ 13 (by rw [hsz]; decide) r13 rfl, far_base a0 _ 14 (by rw [hsz]; decide) r14 rfl, far_base a0 _ 19 (by rw [hsz]; decide) r19 rfl⟩
        rw [HFR.out]
        apply wpOp_at
        case ho => rfl
        intro K hK
        go_simp
        refine hK _ _ ⟨e0, e1, e2, e3, (.int .i64 (k : Int)), (.int .i64 (P : Int)), e6, e7, e8, e9, e10, e11, e12, (by rw [← HFR.out]; exact put_upd 5 rfl HND.out), hB, c0, c1, c2, c3, c4, fun _ => rfl, c6, c7, c8, c9, c10, c11, c12, c13, cx, cg, co1, co2⟩
      | 6, _, hd, hk =>
        have h5 : d 5 = true := hk 5 (by decide +kernel)
        obtain rfl := c5 h5
        obtain ⟨fr, HFR, f272, f13, f14, f19⟩ : ∃ fr, Hid (putAll a0 [(267, e0), (268, e1), (269, e2), (270, e3), (271, e4), (272, (.int .i64 (P : Int))), (273, e6), (274, e7), (275, e8), (276, e9), (277, e10), (278, e11), (279, e12)] = fr) ∧ fr.tmps[272]? = some ((.int .i64 (P : Int))) ∧ fr.tmps[13]? = some ((.pointer (some ⟨w3.heap.size, 0, none⟩))) ∧ fr.tmps[14]? = some ((.slice (some ⟨b, off, none⟩) M C)) ∧ fr.tmps[19]? = some ((.int .i64 (k : Int))) := ⟨_, rfl, far_get a0 _ 272 (by rw [hsz]; decide), far_base a0 _ 13 (by rw [hsz]; decide) r13 rfl, far_base a0 _ 14 (by rw [hsz]; decide) r14 rfl, far_base a0 _ 19 (by rw [hsz]; decide) r19 rfl⟩
        rw [HFR.out]
        apply wpOp_at
        case ho => rfl
        intro K hK
        go_simp
        refine hK _ _ ⟨e0, e1, e2, e3, e4, (.int .i64 (P : Int)), (.int .i64 (P1 : Int)), e7, e8, e9, e10, e11, e12, (by rw [← HFR.out]; exact put_upd 6 rfl HND.out), hB, c0, c1, c2, c3, c4, c5, fun _ => rfl, c7, c8, c9, c10, c11, c12, c13, cx, cg, co1, co2⟩
      | 7, _, hd, hk =>
        have h3 : d 3 = true := hk 3 (by decide +kernel)
        have h6 : d 6 = true := hk 6 (by decide +kernel)
        obtain rfl := c3 h3
        obtain rfl := c6 h6
        obtain ⟨fr, HFR, f270, f273, f13, f14, f19⟩ : ∃ fr, Hid (putAll a0 [(267, e0), (268, e1), (269, e2), (270, (.slice (some ⟨b, off, none⟩) M C)), (271, e4), (272, e5), (273, (.int .i64 (P1 : Int))), (274, e7), (275, e8), (276, e9), (277, e10), (278, e11), (279, e12)] = fr) ∧ fr.tmps[270]? = some ((.slice (some ⟨b, off, none⟩) M C)) ∧ fr.tmps[273]? = some ((.int .i64 (P1 : Int))) ∧ fr.tmps[13]? = some ((.pointer (some ⟨w3.heap.size, 0, none⟩))) ∧ fr.tmps[14]? = some ((.slice (some ⟨b, off, none⟩) M C)) ∧ fr.tmps[19]? = some ((.int .i64 (k : Int))) := ⟨_, rfl, far_get a0 _ 270 (by rw [hsz]; decide), far_get a0 _ 273 (by rw [hsz]; decide), far_base a0 _ 13 (by rw [hsz]; decide) r13 rfl, far_base a0 _ 14 (by rw [hsz]; decide) r14 rfl, far_base a0 _ 19 (by rw [hsz]; decide) r19 rfl⟩
        rw [HFR.out]
        apply wpOp_at
        case ho => rfl
        intro K hK
        go_simp
        refine hK _ _ ⟨e0, e1, e2, (.slice (some ⟨b, off, none⟩) M C), e4, e5, (.int .i64 (P1 : Int)), (.pointer (some ⟨b, off + P1, none⟩)), e8, e9, e10, e11, e12, (by rw [← HFR.out]; exact put_upd 7 rfl HND.out), hB, c0, c1, c2, c3, c4, c5, c6, fun _ => rfl, c8, c9, c10, c11, c12, c13, cx, cg, co1, co2⟩
      | 8, _, hd, hk =>
        have h7 : d 7 = true := hk 7 (by decide +kernel)
        obtain rfl := c7 h7
        have z0 := cg.cell_of V1.out hbG
        obtain ⟨fr, HFR, f274, f13, f14, f19⟩ : ∃ fr, Hid (putAll a0 [(267, e0), (268, e1), (269, e2), (270, e3), (271, e4), (272, e5), (273, e6), (274, (.pointer (some ⟨b, off + P1, none⟩))), (275, e8), (276, e9), (277, e10), (278, e11), (279, e12)] = fr) ∧ fr.tmps[274]? = some ((.pointer (some ⟨b, off + P1, none⟩))) ∧ fr.tmps[13]? = some ((.pointer (some ⟨w3.heap.size, 0, none⟩))) ∧ fr.tmps[14]? = some ((.slice (some ⟨b, off, none⟩) M C)) ∧ fr.tmps[19]? = some ((.int .i64 (k : Int))) := ⟨_, rfl, far_get a0 _ 274 (by rw [hsz]; decide), far_base a0 _ 13 (by rw [hsz]; decide) r13 rfl, far_base a0 _ 14 (by rw [hsz]; decide) r14 rfl, far_base a0 _ 19 (by rw [hsz]; decide) r19 rfl⟩
        rw [HFR.out]
        apply wpOp_at
        case ho => rfl
        intro K hK
        go_simp
        refine hK _ _ ⟨e0, e1, e2, e3, e4, e5, e6, (.pointer (some ⟨b, off + P1, none⟩)), (.int .i64 y1), e9, e10, e11, e12, (by rw [← HFR.out]; exact put_upd 8 rfl HND.out), hB, c0, c1, c2, c3, c4, c5, c6, c7, fun _ => rfl, c9, c10, c11, c12, c13, cx, cg, co1, co2⟩
      | 9, _, hd, hk =>
        have h8 : d 8 = true := hk 8 (by decide +kernel)
        obtain rfl := c8 h8
        have hb := below_box w' (.cells #[.int .i64 y1] 2)
        obtain ⟨fr, HFR, f275, f13, f14, f19⟩ : ∃ fr, Hid (putAll a0 [(267, e0), (268, e1), (269, e2), (270, e3), (271, e4), (272, e5), (273, e6), (274, e7), (275, (.int .i64 y1)), (276, e9), (277, e10), (278, e11), (279, e12)] = fr) ∧ fr.tmps[275]? = some ((.int .i64 y1)) ∧ fr.tmps[13]? = some ((.pointer (some ⟨w3.heap.size, 0, none⟩))) ∧ fr.tmps[14]? = some ((.slice (some ⟨b, off, none⟩) M C)) ∧ fr.tmps[19]? = some ((.int .i64 (k : Int))) := ⟨_, rfl, far_get a0 _ 275 (by rw [hsz]; decide), far_base a0 _ 13 (by rw [hsz]; decide) r13 rfl, far_base a0 _ 14 (by rw [hsz]; decide) r14 rfl, far_base a0 _ 19 (by rw [hsz]; decide) r19 rfl⟩
        rw [HFR.out]
        apply wpOp_at
        case ho => rfl
        intro K hK
        go_simp
        refine hK _ _ ⟨e0, e1, e2, e3, e4, e5, e6, e7, (.int .i64 y1), .slice (some ⟨w'.heap.size, 0, none⟩) 1 1, e10, e11, e12, (by rw [← HFR.out]; exact put_upd 9 rfl HND.out), hB.trans (hb.mono hB.size), c0, c1, c2, c3, c4, c5, c6, c7, c8, fun _ => fun _ => ⟨_, rfl, Whole.made w' _ _⟩, fun h => Bool.noConfusion (hd.symm.trans (c10 h).2.1), c11, c12, fun h => Bool.noConfusion (hd.symm.trans (c10 (c13 h).1).2.1), fun h => ⟨(cx h).1.alloc _, own_later (cx h).2 hb⟩, cg.next hb, own_later co1 hb, own_later co2 hb⟩
      | 10, _, hd, hk =>
        have h2 : d 2 = true := hk 2 (by decide +kernel)
        have h9 : d 9 = true := hk 9 (by decide +kernel)
        have e1' := (c2 h2).symm
        subst e1'
        obtain ⟨g, rfl, hw⟩ := c9 h9 hd
        obtain ⟨A9, C9, w9, hrun, q1, q2, q3⟩ := num_push_at HEU.out (cx hd).2 hw HkM.out cg.size
        obtain ⟨hfine, happV, happW⟩ := fine_of hrun
        have hX9 := (q3.whole (cx hd).1 (own_not (cx hd).2 hG)).1
        have ho1 := (q3.beside co1 (own_sides co1 (cx hd).2 (by decide))).1
        have ho2 := (q3.beside co2 (HAP.out.symm)).1
        clear hrun
        obtain ⟨fr, HFR, f269, f276, f13, f14, f19⟩ : ∃ fr, Hid (putAll a0 [(267, e0), (268, e1), (269, uv), (270, e3), (271, e4), (272, e5), (273, e6), (274, e7), (275, e8), (276, .slice (some ⟨g, 0, none⟩) 1 1), (277, e10), (278, e11), (279, e12)] = fr) ∧ fr.tmps[269]? = some (uv) ∧ fr.tmps[276]? = some (.slice (some ⟨g, 0, none⟩) 1 1) ∧ fr.tmps[13]? = some ((.pointer (some ⟨w3.heap.size, 0, none⟩))) ∧ fr.tmps[14]? = some ((.slice (some ⟨b, off, none⟩) M C)) ∧ fr.tmps[19]? = some ((.int .i64 (k : Int))) := ⟨_, rfl, far_get a0 _ 269 (by rw [hsz]; decide), far_get a0 _ 276 (by rw [hsz]; decide), far_base a0 _ 13 (by rw [hsz]; decide) r13 rfl, far_base a0 _ 14 (by rw [hsz]; decide) r14 rfl, far_base a0 _ 19 (by rw [hsz]; decide) r19 rfl⟩
        rw [HFR.out]
        apply wpOp_at
        case ho => rfl
        intro K hK
        go_simp
        refine hK _ _ ⟨e0, e1, uv, e3, e4, e5, e6, e7, e8, .slice (some ⟨g, 0, none⟩) 1 1, .slice A9 (k + 1) C9, e11, e12, (by rw [← HFR.out]; exact put_upd 10 rfl HND.out), hB.trans (q2.mono (Nat.le_of_lt hG)), c0, c1, c2, c3, c4, c5, c6, c7, c8, fun _ h => Bool.noConfusion (show true = false from h), fun _ => ⟨h2, h9, fun _ => ⟨A9, C9, rfl, hX9, q1, (q3.beside co2 HAP.out.symm).2⟩⟩, c11, c12, fun h => absurd ((c13 h).1.symm.trans hd) (by decide), fun h => Bool.noConfusion (show true = false from h), cg.grown q2, ho1, ho2⟩
      | 11, _, hd, hk =>
        obtain ⟨fr, HFR, f13, f14, f19⟩ : ∃ fr, Hid (putAll a0 [(267, e0), (268, e1), (269, e2), (270, e3), (271, e4), (272, e5), (273, e6), (274, e7), (275, e8), (276, e9), (277, e10), (278, e11), (279, e12)] = fr) ∧ fr.tmps[13]? = some ((.pointer (some ⟨w3.heap.size, 0, none⟩))) ∧ fr.tmps[14]? = some ((.slice (some ⟨b, off, none⟩) M C)) ∧ fr.tmps[19]? = some ((.int .i64 (k : Int))) := ⟨_, rfl, far_base a0 _ 13 (by rw [hsz]; decide) r13 rfl, far_base a0 _ 14 (by rw [hsz]; decide) r14 rfl, far_base a0 _ 19 (by rw [hsz]; decide) r19 rfl⟩
        rw [HFR.out]
        apply wpOp_at
        case ho => rfl
        intro K hK
        go_simp
        refine hK _ _ ⟨e0, e1, e2, e3, e4, e5, e6, e7, e8, e9, e10, (.pointer (some ⟨w3.heap.size, 6, none⟩)), e12, (by rw [← HFR.out]; exact put_upd 11 rfl HND.out), hB, c0, c1, c2, c3, c4, c5, c6, c7, c8, c9, c10, fun _ => rfl, c12, c13, cx, cg, co1, co2⟩
      | 12, _, hd, hk =>
        have h11 : d 11 = true := hk 11 (by decide +kernel)
        obtain rfl := c11 h11
        obtain ⟨fr, HFR, f278, f13, f14, f19⟩ : ∃ fr, Hid (putAll a0 [(267, e0), (268, e1), (269, e2), (270, e3), (271, e4), (272, e5), (273, e6), (274, e7), (275, e8), (276, e9), (277, e10), (278, (.pointer (some ⟨w3.heap.size, 6, none⟩))), (279, e12)] = fr) ∧ fr.tmps[278]? = some ((.pointer (some ⟨w3.heap.size, 6, none⟩))) ∧ fr.tmps[13]? = some ((.pointer (some ⟨w3.heap.size, 0, none⟩))) ∧ fr.tmps[14]? = some ((.slice (some ⟨b, off, none⟩) M C)) ∧ fr.tmps[19]? = some ((.int .i64 (k : Int))) := ⟨_, rfl, far_get a0 _ 278 (by rw [hsz]; decide), far_base a0 _ 13 (by rw [hsz]; decide) r13 rfl, far_base a0 _ 14 (by rw [hsz]; decide) r14 rfl, far_base a0 _ 19 (by rw [hsz]; decide) r19 rfl⟩
        rw [HFR.out]
        apply wpOp_at
        case ho => rfl
        intro K hK
        go_simp
        refine hK _ _ ⟨e0, e1, e2, e3, e4, e5, e6, e7, e8, e9, e10, (.pointer (some ⟨w3.heap.size, 6, none⟩)), (.pointer (some ⟨w3.heap.size, 9, none⟩)), (by rw [← HFR.out]; exact put_upd 12 rfl HND.out), hB, c0, c1, c2, c3, c4, c5, c6, c7, c8, c9, c10, c11, fun _ => rfl, c13, cx, cg, co1, co2⟩
      | 13, _, hd, hk =>
        have h10 : d 10 = true := hk 10 (by decide +kernel)
        have h12 : d 12 = true := hk 12 (by decide +kernel)
        obtain rfl := c12 h12
        have e1' := (c2 (c10 h10).1).symm
        subst e1'
        obtain ⟨A9, C9, rfl, hX, hO, hap⟩ := (c10 h10).2.2 hd
        have M10 := hX.cell 9
        have y10 := hX.free 9
        have hS := bk_set9 (u := .slice A9 (k + 1) C9) hX
        have hOs := own_low hO (p := ⟨w3.heap.size, 9, none⟩) hG (.slice A9 (k + 1) C9)
        have ho1 := own_low co1 (p := ⟨w3.heap.size, 9, none⟩) hG (.slice A9 (k + 1) C9)
        have ho2 := own_low co2 (p := ⟨w3.heap.size, 9, none⟩) hG (.slice A9 (k + 1) C9)
        have hlg := hX.lt
        obtain ⟨fr, HFR, f277, f279, f13, f14, f19⟩ : ∃ fr, Hid (putAll a0 [(267, e0), (268, e1), (269, uv), (270, e3), (271, e4), (272, e5), (273, e6), (274, e7), (275, e8), (276, e9), (277, .slice A9 (k + 1) C9), (278, e11), (279, (.pointer (some ⟨w3.heap.size, 9, none⟩)))] = fr) ∧ fr.tmps[277]? = some (.slice A9 (k + 1) C9) ∧ fr.tmps[279]? = some ((.pointer (some ⟨w3.heap.size, 9, none⟩))) ∧ fr.tmps[13]? = some ((.pointer (some ⟨w3.heap.size, 0, none⟩))) ∧ fr.tmps[14]? = some ((.slice (some ⟨b, off, none⟩) M C)) ∧ fr.tmps[19]? = some ((.int .i64 (k : Int))) := ⟨_, rfl, far_get a0 _ 277 (by rw [hsz]; decide), far_get a0 _ 279 (by rw [hsz]; decide), far_base a0 _ 13 (by rw [hsz]; decide) r13 rfl, far_base a0 _ 14 (by rw [hsz]; decide) r14 rfl, far_base a0 _ 19 (by rw [hsz]; decide) r19 rfl⟩
        rw [HFR.out]
        apply wpOp_at
        case ho => rfl
        intro K hK
        go_simp
        refine hK _ _ ⟨e0, e1, uv, e3, e4, e5, e6, e7, e8, e9, .slice A9 (k + 1) C9, e11, (.pointer (some ⟨w3.heap.size, 9, none⟩)), HFR.out.symm, hB.setCell (p := ⟨w3.heap.size, 9, none⟩) (Nat.le_refl _) _, c0, c1, c2, c3, c4, c5, c6, c7, c8, fun _ h => absurd (h10.symm.trans h) (by decide), fun _ => ⟨(c10 h10).1, (c10 h10).2.1, fun h => Bool.noConfusion (show true = false from h)⟩, c11, c12, fun _ => ⟨h10, A9, C9, rfl, hS, hOs, hap⟩, fun h => absurd (h10.symm.trans h) (by decide), cg.set 9 _, ho1, ho2⟩
      | k + 14, hi, _, _ => exact absurd hi (by simp)
     case ends =>
      intro d a' w6 hJ hall
      obtain ⟨e0, e1, e2, e3, e4, e5, e6, e7, e8, e9, e10, e11, e12, rfl, hC⟩ := hJ
      obtain ⟨hB, hC⟩ := hC
      obtain ⟨c0, hC⟩ := hC
      obtain ⟨c1, hC⟩ := hC
      obtain ⟨c2, hC⟩ := hC
      obtain ⟨c3, hC⟩ := hC
      obtain ⟨c4, hC⟩ := hC
      obtain ⟨c5, hC⟩ := hC
      obtain ⟨c6, hC⟩ := hC
      obtain ⟨c7, hC⟩ := hC
      obtain ⟨c8, hC⟩ := hC
      obtain ⟨c9, hC⟩ := hC
      obtain ⟨c10, hC⟩ := hC
      obtain ⟨c11, hC⟩ := hC
      obtain ⟨c12, hC⟩ := hC
      obtain ⟨c13, hC⟩ := hC
      obtain ⟨cx, hC⟩ := hC
      obtain ⟨cg, hC⟩ := hC
      obtain ⟨co1, hC⟩ := hC
      have co2 := hC
      clear hC
      have ha0 := Ha0.out
      subst ha0
      clear Ha0 HND hsz r13 r14 r19
      obtain ⟨h10, AU, CU, rfl, hX, hO, hap⟩ := c13 (hall 13 (by decide +kernel))
      have HG6 := Lib.hid cg
      have HX6 := Lib.hid hX
      have HUn := Lib.hid hO
      have HT6 := Lib.hid co1
      have HI6 := Lib.hid co2
      have HB6 := Lib.hid hB
      have HAQ := Lib.hid hap
      clear c0 c1 c2 c3 c4 c5 c6 c7 c8 c9 c10 c11 c12 c13 cx cg co1 co2 hall hB hX hO h10 hap
      simp only [putAll, Act.put, qA, qB, qC]
      have hlx6 := HX6.out.lt
      go_wp2_with fail
      refine region_any fun a0 Ha0 => ?_
      have HND : Hid (([280, 281, 282, 283, 284, 285, 286, 287, 288, 289, 290, 291, 292] : List Nat).Nodup) := by show List.Nodup _; decide
      have hsz : a0.tmps.size = 314 := by rw [Ha0.out]; rfl
      have r13 : slot a0 13 = (.pointer (some ⟨w3.heap.size, 0, none⟩)) := by rw [Ha0.out]; rfl
      have r14 : slot a0 14 = (.slice (some ⟨b, off, none⟩) M C) := by rw [Ha0.out]; rfl
      have r19 : slot a0 19 = (.int .i64 (k : Int)) := by rw [Ha0.out]; rfl
      refine wp_region_each_at ?hm ?hb (fun a0 d a' w' => ∃ (e0 e1 e2 e3 e4 e5 e6 e7 e8 e9 e10 e11 e12 : Value), a' = putAll a0 [(280, e0), (281, e1), (282, e2), (283, e3), (284, e4), (285, e5), (286, e6), (287, e7), (288, e8), (289, e9), (290, e10), (291, e11), (292, e12)] ∧ Below w3.heap.size w3 w' ∧ (d 0 = true → e0 = (.pointer (some ⟨w3.heap.size, 6, none⟩))) ∧ (d 1 = true → e1 = (.pointer (some ⟨w3.heap.size, 10, none⟩))) ∧ (d 2 = true → e2 = iv) ∧ (d 3 = true → e3 = (.slice (some ⟨b, off, none⟩) M C)) ∧ (d 4 = true → e4 = (.int .i64 (k : Int))) ∧ (d 5 = true → e5 = (.int .i64 (P : Int))) ∧ (d 6 = true → e6 = (.int .i64 (P2 : Int))) ∧ (d 7 = true → e7 = (.pointer (some ⟨b, off + P2, none⟩))) ∧ (d 8 = true → e8 = (.int .i64 y2)) ∧ (d 9 = true → (d 10 = false → ∃ g, e9 = .slice (some ⟨g, 0, none⟩) 1 1 ∧ Whole w' g 2 #[.int .i64 y2])) ∧ (d 10 = true → (d 2 = true ∧ d 9 = true ∧ (d 13 = false → ∃ A C, e10 = .slice A (k + 1) C ∧ Whole w' w3.heap.size 37 (bkCells x rv lv ov nv (.slice AT (k + 1) CT) (.slice AU (k + 1) CU) iv) ∧ w'.ownsRow wr0.heap.size 2 1 (.slice A (k + 1) C) (k + 1) (flatCells 1 (k + 1) (fun i _ => .int .i64 (incF ls i))) ∧ ApartV (.slice AU (k + 1) CU) (.slice A (k + 1) C)))) ∧ (d 11 = true → e11 = (.pointer (some ⟨w3.heap.size, 6, none⟩))) ∧ (d 12 = true → e12 = (.pointer (some ⟨w3.heap.size, 10, none⟩))) ∧ (d 13 = true → (d 10 = true ∧ ∃ A C, e10 = .slice A (k + 1) C ∧ Whole w' w3.heap.size 37 (bkCells x rv lv ov nv (.slice AT (k + 1) CT) (.slice AU (k + 1) CU) (.slice A (k + 1) C)) ∧ w'.ownsRow wr0.heap.size 2 1 (.slice A (k + 1) C) (k + 1) (flatCells 1 (k + 1) (fun i _ => .int .i64 (incF ls i))) ∧ ApartV (.slice AU (k + 1) CU) (.slice A (k + 1) C))) ∧ (d 10 = false → Whole w' w3.heap.size 37 (bkCells x rv lv ov nv (.slice AT (k + 1) CT) (.slice AU (k + 1) CU) iv) ∧ w'.ownsRow wr0.heap.size 2 1 iv k (flatCells 1 k (fun i _ => .int .i64 (incF ls i)))) ∧ ButG w3.heap.size wr0 w' ∧ w'.ownsRow wr0.heap.size 4 1 (.slice AT (k + 1) CT) (k + 1) (flatCells 1 (k + 1) (fun i _ => .bool (tellF ls i))) ∧ w'.ownsRow wr0.heap.size 2 1 (.slice AU (k + 1) CU) (k + 1) (flatCells 1 (k + 1) (fun i _ => .int .i64 (useF ls i)))) ?h0 ?step ?ends
      case hm => kernel_rfl
      case hb => kernel_rfl
      case h0 =>
       refine ⟨_, _, _, _, _, _, _, _, _, _, _, _, _, putAll_same a0 [280, 281, 282, 283, 284, 285, 286, 287, 288, 289, 290, 291, 292], HB6.out.drew, fun h => absurd h (by decide), fun h => absurd h (by decide), fun h => absurd h (by decide), fun h => absurd h (by decide), fun h => absurd h (by decide), fun h => absurd h (by decide), fun h => absurd h (by decide), fun h => absurd h (by decide), fun h => absurd h (by decide), fun h => absurd h (by decide), fun h => absurd h (by decide), fun h => absurd h (by decide), fun h => absurd h (by decide), fun h => absurd h (by decide), fun _ => ⟨HX6.out.drew, own_later HI6.out (Below.refl _ _).drew⟩, HG6.out.next (Below.refl _ _).drew, own_later HT6.out (Below.refl _ _).drew, own_later HUn.out (Below.refl _ _).drew⟩
      case step =>
       intro i d a' w' hi hJ hd hk
       obtain ⟨e0, e1, e2, e3, e4, e5, e6, e7, e8, e9, e10, e11, e12, rfl, hC⟩ := hJ
       obtain ⟨hB, hC⟩ := hC
       obtain ⟨c0, hC⟩ := hC
       obtain ⟨c1, hC⟩ := hC
       obtain ⟨c2, hC⟩ := hC
       obtain ⟨c3, hC⟩ := hC
       obtain ⟨c4, hC⟩ := hC
       obtain ⟨c5, hC⟩ := hC
       obtain ⟨c6, hC⟩ := hC
       obtain ⟨c7, hC⟩ := hC
       obtain ⟨c8, hC⟩ := hC
       obtain ⟨c9, hC⟩ := hC
       obtain ⟨c10, hC⟩ := hC
       obtain ⟨c11, hC⟩ := hC
       obtain ⟨c12, hC⟩ := hC
       obtain ⟨c13, hC⟩ := hC
       obtain ⟨cx, hC⟩ := hC
       obtain ⟨cg, hC⟩ := hC
       obtain ⟨co1, hC⟩ := hC
       have co2 := hC
       clear hC
       match i, hi, hd, hk with
       | 0, _, hd, hk =>
         obtain ⟨fr, HFR, f13, f14, f19⟩ : ∃ fr, Hid (putAll a0 [(280, e0), (281, e1), (282, e2), (283, e3), (284, e4), (285, e5), (286, e6), (287, e7), (288, e8), (289, e9), (290, e10), (291, e11), (292, e12)] = fr) ∧ fr.tmps[13]? = some ((.pointer (some ⟨w3.heap.size, 0, none⟩))) ∧ fr.tmps[14]? = some ((.slice (some ⟨b, off, none⟩) M C)) ∧ fr.tmps[19]? = some ((.int .i64 (k : Int))) := ⟨_, rfl, far_base a0 _ 13 (by rw [hsz]; decide) r13 rfl, far_base a0 _ 14 (by rw [hsz]; decide) r14 rfl, far_base a0 _ 19 (by rw [hsz]; decide) r19 rfl⟩
         rw [HFR.out]
         apply wpOp_at
         case ho => rfl
         intro K hK
         go_simp
         refine hK _ _ ⟨(.pointer (some ⟨w3.heap.size, 6, none⟩)), e1, e2, e3, e4, e5, e6, e7, e8, e9, e10, e11, e12, (by rw [← HFR.out]; exact put_upd 0 rfl HND.out), hB, fun _ => rfl, c1, c2, c3, c4, c5, c6, c7, c8, c9, c10, c11, c12, c13, cx, cg, co1, co2⟩
       | 1, _, hd, hk =>
         have h0 : d 0 = true := hk 0 (by decide +kernel)
         obtain rfl := c0 h0
         obtain ⟨fr, HFR, f280, f13, f14, f19⟩ : ∃ fr, Hid (putAll a0 [(280, (.pointer (some ⟨w3.heap.size, 6, none⟩))), (281, e1), (282, e2), (283, e3), (284, e4), (285, e5), (286, e6), (287, e7), (288, e8), (289, e9), (290, e10), (291, e11), (292, e12)] = fr) ∧ fr.tmps[280]? = some ((.pointer (some ⟨w3.heap.size, 6, none⟩))) ∧ fr.tmps[13]? = some ((.pointer (some ⟨w3.heap.size, 0, none⟩))) ∧ fr.tmps[14]? = some ((.slice (some ⟨b, off, none⟩) M C)) ∧ fr.tmps[19]? = some ((.int .i64 (k : Int))) := ⟨_, rfl, far_get a0 _ 280 (by rw [hsz]; decide), far_base a0 _ 13 (by rw [hsz]; decide) r13 rfl, far_base a0 _ 14 (by rw [hsz]; decide) r14 rfl, far_base a0 _ 19 (by rw [hsz]; decide) r19 rfl⟩
         rw [HFR.out]
         apply wpOp_at
         case ho => rfl
         intro K hK
         go_simp
         refine hK _ _ ⟨(.pointer (some ⟨w3.heap.size, 6, none⟩)), (.pointer (some ⟨w3.heap.size, 10, none⟩)), e2, e3, e4, e5, e6, e7, e8, e9, e10, e11, e12, (by rw [← HFR.out]; exact put_upd 1 rfl HND.out), hB, c0, fun _ => rfl, c2, c3, c4, c5, c6, c7, c8, c9, c10, c11, c12, c13, cx, cg, co1, co2⟩
       | 2, _, hd, hk =>
         have h1 : d 1 = true := hk 1 (by decide +kernel)
         obtain rfl := c1 h1
         have nap : d 10 = false := n16_of hd fun h => (c10 h).1
         obtain ⟨_, _, _, _, M8, _⟩ := bk_cells (cx nap).1
         obtain ⟨fr, HFR, f281, f13, f14, f19⟩ : ∃ fr, Hid (putAll a0 [(280, e0), (281, (.pointer (some ⟨w3.heap.size, 10, none⟩))), (282, e2), (283, e3), (284, e4), (285, e5), (286, e6), (287, e7), (288, e8), (289, e9), (290, e10), (291, e11), (292, e12)] = fr) ∧ fr.tmps[281]? = some ((.pointer (some ⟨w3.heap.size, 10, none⟩))) ∧ fr.tmps[13]? = some ((.pointer (some ⟨w3.heap.size, 0, none⟩))) ∧ fr.tmps[14]? = some ((.slice (some ⟨b, off, none⟩) M C)) ∧ fr.tmps[19]? = some ((.int .i64 (k : Int))) := ⟨_, rfl, far_get a0 _ 281 (by rw [hsz]; decide), far_base a0 _ 13 (by rw [hsz]; decide) r13 rfl, far_base a0 _ 14 (by rw [hsz]; decide) r14 rfl, far_base a0 _ 19 (by rw [hsz]; decide) r19 rfl⟩
         rw [HFR.out]
         apply wpOp_at
         case ho => rfl
         intro K hK
         go_simp
         refine hK _ _ ⟨e0, (.pointer (some ⟨w3.heap.size, 10, none⟩)), iv, e3, e4, e5, e6, e7, e8, e9, e10, e11, e12, (by rw [← HFR.out]; exact put_upd 2 rfl HND.out), hB, c0, c1, fun _ => rfl, c3, c4, c5, c6, c7, c8, c9, fun h => absurd (nap.symm.trans h) (by decide), c11, c12, c13, cx, cg, co1, co2⟩
       | 3, _, hd, hk =>
         obtain ⟨fr, HFR, f13, f14, f19⟩ : ∃ fr, Hid (putAll a0 [(280, e0), (281, e1), (282, e2), (283, e3), (284, e4), (285, e5), (286, e6), (287, e7), (288, e8), (289, e9), (290, e10), (291, e11), (292, e12)] = fr) ∧ fr.tmps[13]? = some ((.pointer (some ⟨w3.heap.size, 0, none⟩))) ∧ fr.tmps[14]? = some ((.slice (some ⟨b, off, none⟩) M C)) ∧ fr.tmps[19]? = some ((.int .i64 (k : Int))) := ⟨_, rfl, far_base a0 _ 13 (by rw [hsz]; decide) r13 rfl, far_base a0 _ 14 (by rw [hsz]; decide) r14 rfl, far_base a0 _ 19 (by rw [hsz]; decide) r19 rfl⟩
         rw [HFR.out]
         apply wpOp_at
         case ho => rfl
         intro K hK
         go_simp
         refine hK _ _ ⟨e0, e1, e2, (.slice (some ⟨b, off, none⟩) M C), e4, e5, e6, e7, e8, e9, e10, e11, e12, (by rw [← HFR.out]; exact put_upd 3 rfl HND.out), hB, c0, c1, c2, fun _ => rfl, c4, c5, c6, c7, c8, c9, c10, c11, c12, c13, cx, cg, co1, co2⟩
       | 4, _, hd, hk =>
         obtain ⟨fr, HFR, f13, f14, f19⟩ : ∃ fr, Hid (putAll a0 [(280, e0), (281, e1), (282, e2), (283, e3), (284, e4), (285, e5), (286, e6), (287, e7), (288, e8), (289, e9), (290, e10), (291, e11), (292, e12)] = fr) ∧ fr.tmps[13]? = some ((.pointer (some ⟨w3.heap.size, 0, none⟩))) ∧ fr.tmps[14]? = some ((.slice (some ⟨b, off, none⟩) M C)) ∧ fr.tmps[19]? = some ((.int .i64 (k : Int))) := ⟨_, rfl, far_base a0 _ 13 (by rw [hsz]; decide) r13 rfl, far_base a0 _ 14 (by rw [hsz]; decide) r14 rfl, far_base a0 _ 19 (by rw [hsz]; decide) r19 rfl⟩
         rw [HFR.out]
         apply wpOp_at
         case ho => rfl
         intro K hK
         go_simp
         refine hK _ _ ⟨e0, e1, e2, e3, (.int .i64 (k : Int)), e5, e6, e7, e8, e9, e10, e11, e12, (by rw [← HFR.out]; exact put_upd 4 rfl HND.out), hB, c0, c1, c2, c3, fun _ => rfl, c5, c6, c7, c8, c9, c10, c11, c12, c13, cx, cg, co1, co2⟩
       | 5, _, hd, hk =>
         have h4 : d 4 = true := hk 4 (by decide +kernel)
         obtain rfl := c4 h4
         obtain ⟨fr, HFR, f284, f13, f14, f19⟩ : ∃ fr, Hid (putAll a0 [(280, e0), (281, e1), (282, e2), (283, e3), (284, (.int .i64 (k : Int))), (285, e5), (286, e6), (287, e7), (288, e8), (289, e9), (290, e10), (291, e11), (292, e12)] = fr) ∧ fr.tmps[284]? = some ((.int .i64 (k : Int))) ∧ fr.tmps[13]? = some ((.pointer (some ⟨w3.heap.size, 0, none⟩))) ∧ fr.tmps[14]? = some ((.slice (some ⟨b, off, none⟩) M C)) ∧ fr.tmps[19]? = some ((.int .i64 (k : Int))) := ⟨_, rfl, far_get a0 _ 284 (by rw [hsz]; decide), far_base a0 _ 13 (by rw [hsz]; decide) r13 rfl, far_base a0 _ 14 (by rw [hsz]; decide) r14 rfl, far_base a0 _ 19 (by rw [hsz]; decide) r19 rfl⟩
         rw [HFR.out]
         apply wpOp_at
         case ho => rfl
         intro K hK
         go_simp
         refine hK _ _ ⟨e0, e1, e2, e3, (.int .i64 (k : Int)), (.int .i64 (P : Int)), e6, e7, e8, e9, e10, e11, e12, (by rw [← HFR.out]; exact put_upd 5 rfl HND.out), hB, c0, c1, c2, c3, c4, fun _ => rfl, c6, c7, c8, c9, c10, c11, c12, c13, cx, cg, co1, co2⟩
       | 6, _, hd, hk =>
         have h5 : d 5 = true := hk 5 (by decide +kernel)
         obtain rfl := c5 h5
         obtain ⟨fr, HFR, f285, f13, f14, f19⟩ : ∃ fr, Hid (putAll a0 [(280, e0), (281, e1), (282, e2), (283, e3), (284, e4), (285, (.int .i64 (P : Int))), (286, e6), (287, e7), (288, e8), (289, e9), (290, e10), (291, e11), (292, e12)] = fr) ∧ fr.tmps[285]? = some ((.int .i64 (P : Int))) ∧ fr.tmps[13]? = some ((.pointer (some ⟨w3.heap.size, 0, none⟩))) ∧ fr.tmps[14]? = some ((.slice (some ⟨b, off, none⟩) M C)) ∧ fr.tmps[19]? = some ((.int .i64 (k : Int))) := ⟨_, rfl, far_get a0 _ 285 (by rw [hsz]; decide), far_base a0 _ 13 (by rw [hsz]; decide) r13 rfl, far_base a0 _ 14 (by rw [hsz]; decide) r14 rfl, far_base a0 _ 19 (by rw [hsz]; decide) r19 rfl⟩
         rw [HFR.out]
         apply wpOp_at
         case ho => rfl
         intro K hK
         go_simp
         refine hK _ _ ⟨e0, e1, e2, e3, e4, (.int .i64 (P : Int)), (.int .i64 (P2 : Int)), e7, e8, e9, e10, e11, e12, (by rw [← HFR.out]; exact put_upd 6 rfl HND.out), hB, c0, c1, c2, c3, c4, c5, fun _ => rfl, c7, c8, c9, c10, c11, c12, c13, cx, cg, co1, co2⟩
       | 7, _, hd, hk =>
         have h3 : d 3 = true := hk 3 (by decide +kernel)
         have h6 : d 6 = true := hk 6 (by decide +kernel)
         obtain rfl := c3 h3
         obtain rfl := c6 h6
         obtain ⟨fr, HFR, f283, f286, f13, f14, f19⟩ : ∃ fr, Hid (putAll a0 [(280, e0), (281, e1), (282, e2), (283, (.slice (some ⟨b, off, none⟩) M C)), (284, e4), (285, e5), (286, (.int .i64 (P2 : Int))), (287, e7), (288, e8), (289, e9), (290, e10), (291, e11), (292, e12)] = fr) ∧ fr.tmps[283]? = some ((.slice (some ⟨b, off, none⟩) M C)) ∧ fr.tmps[286]? = some ((.int .i64 (P2 : Int))) ∧ fr.tmps[13]? = some ((.pointer (some ⟨w3.heap.size, 0, none⟩))) ∧ fr.tmps[14]? = some ((.slice (some ⟨b, off, none⟩) M C)) ∧ fr.tmps[19]? = some ((.int .i64 (k : Int))) := ⟨_, rfl, far_get a0 _ 283 (by rw [hsz]; decide), far_get a0 _ 286 (by rw [hsz]; decide), far_base a0 _ 13 (by rw [hsz]; decide) r13 rfl, far_base a0 _ 14 (by rw [hsz]; decide) r14 rfl, far_base a0 _ 19 (by rw [hsz]; decide) r19 rfl⟩
         rw [HFR.out]
         apply wpOp_at
         case ho => rfl
         intro K hK
         go_simp
         refine hK _ _ ⟨e0, e1, e2, (.slice (some ⟨b, off, none⟩) M C), e4, e5, (.int .i64 (P2 : Int)), (.pointer (some ⟨b, off + P2, none⟩)), e8, e9, e10, e11, e12, (by rw [← HFR.out]; exact put_upd 7 rfl HND.out), hB, c0, c1, c2, c3, c4, c5, c6, fun _ => rfl, c8, c9, c10, c11, c12, c13, cx, cg, co1, co2⟩
       | 8, _, hd, hk =>
         have h7 : d 7 = true := hk 7 (by decide +kernel)
         obtain rfl := c7 h7
         have z0 := cg.cell_of V2.out hbG
         obtain ⟨fr, HFR, f287, f13, f14, f19⟩ : ∃ fr, Hid (putAll a0 [(280, e0), (281, e1), (282, e2), (283, e3), (284, e4), (285, e5), (286, e6), (287, (.pointer (some ⟨b, off + P2, none⟩))), (288, e8), (289, e9), (290, e10), (291, e11), (292, e12)] = fr) ∧ fr.tmps[287]? = some ((.pointer (some ⟨b, off + P2, none⟩))) ∧ fr.tmps[13]? = some ((.pointer (some ⟨w3.heap.size, 0, none⟩))) ∧ fr.tmps[14]? = some ((.slice (some ⟨b, off, none⟩) M C)) ∧ fr.tmps[19]? = some ((.int .i64 (k : Int))) := ⟨_, rfl, far_get a0 _ 287 (by rw [hsz]; decide), far_base a0 _ 13 (by rw [hsz]; decide) r13 rfl, far_base a0 _ 14 (by rw [hsz]; decide) r14 rfl, far_base a0 _ 19 (by rw [hsz]; decide) r19 rfl⟩
         rw [HFR.out]
         apply wpOp_at
         case ho => rfl
         intro K hK
         go_simp
         refine hK _ _ ⟨e0, e1, e2, e3, e4, e5, e6, (.pointer (some ⟨b, off + P2, none⟩)), (.int .i64 y2), e9, e10, e11, e12, (by rw [← HFR.out]; exact put_upd 8 rfl HND.out), hB, c0, c1, c2, c3, c4, c5, c6, c7, fun _ => rfl, c9, c10, c11, c12, c13, cx, cg, co1, co2⟩
       | 9, _, hd, hk =>
         have h8 : d 8 = true := hk 8 (by decide +kernel)
         obtain rfl := c8 h8
         have hb := below_box w' (.cells #[.int .i64 y2] 2)
         obtain ⟨fr, HFR, f288, f13, f14, f19⟩ : ∃ fr, Hid (putAll a0 [(280, e0), (281, e1), (282, e2), (283, e3), (284, e4), (285, e5), (286, e6), (287, e7), (288, (.int .i64 y2)), (289, e9), (290, e10), (291, e11), (292, e12)] = fr) ∧ fr.tmps[288]? = some ((.int .i64 y2)) ∧ fr.tmps[13]? = some ((.pointer (some ⟨w3.heap.size, 0, none⟩))) ∧ fr.tmps[14]? = some ((.slice (some ⟨b, off, none⟩) M C)) ∧ fr.tmps[19]? = some ((.int .i64 (k : Int))) := ⟨_, rfl, far_get a0 _ 288 (by rw [hsz]; decide), far_base a0 _ 13 (by rw [hsz]; decide) r13 rfl, far_base a0 _ 14 (by rw [hsz]; decide) r14 rfl, far_base a0 _ 19 (by rw [hsz]; decide) r19 rfl⟩
         rw [HFR.out]
         apply wpOp_at
         case ho => rfl
         intro K hK
         go_simp
         refine hK _ _ ⟨e0, e1, e2, e3, e4, e5, e6, e7, (.int .i64 y2), .slice (some ⟨w'.heap.size, 0, none⟩) 1 1, e10, e11, e12, (by rw [← HFR.out]; exact put_upd 9 rfl HND.out), hB.trans (hb.mono hB.size), c0, c1, c2, c3, c4, c5, c6, c7, c8, fun _ => fun _ => ⟨_, rfl, Whole.made w' _ _⟩, fun h => Bool.noConfusion (hd.symm.trans (c10 h).2.1), c11, c12, fun h => Bool.noConfusion (hd.symm.trans (c10 (c13 h).1).2.1), fun h => ⟨(cx h).1.alloc _, own_later (cx h).2 hb⟩, cg.next hb, own_later co1 hb, own_later co2 hb⟩
       | 10, _, hd, hk =>
         have h2 : d 2 = true := hk 2 (by decide +kernel)
         have h9 : d 9 = true := hk 9 (by decide +kernel)
         have e1' := (c2 h2).symm
         subst e1'
         obtain ⟨g, rfl, hw⟩ := c9 h9 hd
         obtain ⟨A9, C9, w9, hrun, q1, q2, q3⟩ := num_push_at HEI.out (cx hd).2 hw HkM.out cg.size
         obtain ⟨hfine, happV, happW⟩ := fine_of hrun
         have hX9 := (q3.whole (cx hd).1 (own_not (cx hd).2 hG)).1
         have ho1 := (q3.beside co1 (own_sides co1 (cx hd).2 (by decide))).1
         have ho2 := (q3.beside co2 (HAQ.out.symm)).1
         clear hrun
         obtain ⟨fr, HFR, f282, f289, f13, f14, f19⟩ : ∃ fr, Hid (putAll a0 [(280, e0), (281, e1), (282, iv), (283, e3), (284, e4), (285, e5), (286, e6), (287, e7), (288, e8), (289, .slice (some ⟨g, 0, none⟩) 1 1), (290, e10), (291, e11), (292, e12)] = fr) ∧ fr.tmps[282]? = some (iv) ∧ fr.tmps[289]? = some (.slice (some ⟨g, 0, none⟩) 1 1) ∧ fr.tmps[13]? = some ((.pointer (some ⟨w3.heap.size, 0, none⟩))) ∧ fr.tmps[14]? = some ((.slice (some ⟨b, off, none⟩) M C)) ∧ fr.tmps[19]? = some ((.int .i64 (k : Int))) := ⟨_, rfl, far_get a0 _ 282 (by rw [hsz]; decide), far_get a0 _ 289 (by rw [hsz]; decide), far_base a0 _ 13 (by rw [hsz]; decide) r13 rfl, far_base a0 _ 14 (by rw [hsz]; decide) r14 rfl, far_base a0 _ 19 (by rw [hsz]; decide) r19 rfl⟩
         rw [HFR.out]
         apply wpOp_at
         case ho => rfl
         intro K hK
         go_simp
         refine hK _ _ ⟨e0, e1, iv, e3, e4, e5, e6, e7, e8, .slice (some ⟨g, 0, none⟩) 1 1, .slice A9 (k + 1) C9, e11, e12, (by rw [← HFR.out]; exact put_upd 10 rfl HND.out), hB.trans (q2.mono (Nat.le_of_lt hG)), c0, c1, c2, c3, c4, c5, c6, c7, c8, fun _ h => Bool.noConfusion (show true = false from h), fun _ => ⟨h2, h9, fun _ => ⟨A9, C9, rfl, hX9, q1, (q3.beside co2 HAQ.out.symm).2⟩⟩, c11, c12, fun h => absurd ((c13 h).1.symm.trans hd) (by decide), fun h => Bool.noConfusion (show true = false from h), cg.grown q2, ho1, ho2⟩
       | 11, _, hd, hk =>
         obtain ⟨fr, HFR, f13, f14, f19⟩ : ∃ fr, Hid (putAll a0 [(280, e0), (281, e1), (282, e2), (283, e3), (284, e4), (285, e5), (286, e6), (287, e7), (288, e8), (289, e9), (290, e10), (291, e11), (292, e12)] = fr) ∧ fr.tmps[13]? = some ((.pointer (some ⟨w3.heap.size, 0, none⟩))) ∧ fr.tmps[14]? = some ((.slice (some ⟨b, off, none⟩) M C)) ∧ fr.tmps[19]? = some ((.int .i64 (k : Int))) := ⟨_, rfl, far_base a0 _ 13 (by rw [hsz]; decide) r13 rfl, far_base a0 _ 14 (by rw [hsz]; decide) r14 rfl, far_base a0 _ 19 (by rw [hsz]; decide) r19 rfl⟩
         rw [HFR.out]
         apply wpOp_at
         case ho => rfl
         intro K hK
         go_simp
         refine hK _ _ ⟨e0, e1, e2, e3, e4, e5, e6, e7, e8, e9, e10, (.pointer (some ⟨w3.heap.size, 6, none⟩)), e12, (by rw [← HFR.out]; exact put_upd 11 rfl HND.out), hB, c0, c1, c2, c3, c4, c5, c6, c7, c8, c9, c10, fun _ => rfl, c12, c13, cx, cg, co1, co2⟩
       | 12, _, hd, hk =>
         have h11 : d 11 = true := hk 11 (by decide +kernel)
         obtain rfl := c11 h11
         obtain ⟨fr, HFR, f291, f13, f14, f19⟩ : ∃ fr, Hid (putAll a0 [(280, e0), (281, e1), (282, e2), (283, e3), (284, e4), (285, e5), (286, e6), (287, e7), (288, e8), (289, e9), (290, e10), (291, (.pointer (some ⟨w3.heap.size, 6, none⟩))), (292, e12)] = fr) ∧ fr.tmps[291]? = some ((.pointer (some ⟨w3.heap.size, 6, none⟩))) ∧ fr.tmps[13]? = some ((.pointer (some ⟨w3.heap.size, 0, none⟩))) ∧ fr.tmps[14]? = some ((.slice (some ⟨b, off, none⟩) M C)) ∧ fr.tmps[19]? = some ((.int .i64 (k : Int))) := ⟨_, rfl, far_get a0 _ 291 (by rw [hsz]; decide), far_base a0 _ 13 (by rw [hsz]; decide) r13 rfl, far_base a0 _ 14 (by rw [hsz]; decide) r14 rfl, far_base a0 _ 19 (by rw [hsz]; decide) r19 rfl⟩
         rw [HFR.out]
         apply wpOp_at
         case ho => rfl
         intro K hK
         go_simp
         refine hK _ _ ⟨e0, e1, e2, e3, e4, e5, e6, e7, e8, e9, e10, (.pointer (some ⟨w3.heap.size, 6, none⟩)), (.pointer (some ⟨w3.heap.size, 10, none⟩)), (by rw [← HFR.out]; exact put_upd 12 rfl HND.out), hB, c0, c1, c2, c3, c4, c5, c6, c7, c8, c9, c10, c11, fun _ => rfl, c13, cx, cg, co1, co2⟩
       | 13, _, hd, hk =>
         have h10 : d 10 = true := hk 10 (by decide +kernel)
         have h12 : d 12 = true := hk 12 (by decide +kernel)
         obtain rfl := c12 h12
         have e1' := (c2 (c10 h10).1).symm
         subst e1'
         obtain ⟨A9, C9, rfl, hX, hO, hap⟩ := (c10 h10).2.2 hd
         have M10 := hX.cell 10
         have y10 := hX.free 10
         have hS := bk_set10 (u := .slice A9 (k + 1) C9) hX
         have hOs := own_low hO (p := ⟨w3.heap.size, 10, none⟩) hG (.slice A9 (k + 1) C9)
         have ho1 := own_low co1 (p := ⟨w3.heap.size, 10, none⟩) hG (.slice A9 (k + 1) C9)
         have ho2 := own_low co2 (p := ⟨w3.heap.size, 10, none⟩) hG (.slice A9 (k + 1) C9)
         have hlg := hX.lt
         obtain ⟨fr, HFR, f290, f292, f13, f14, f19⟩ : ∃ fr, Hid (putAll a0 [(280, e0), (281, e1), (282, iv), (283, e3), (284, e4), (285, e5), (286, e6), (287, e7), (288, e8), (289, e9), (290, .slice A9 (k + 1) C9), (291, e11), (292, (.pointer (some ⟨w3.heap.size, 10, none⟩)))] = fr) ∧ fr.tmps[290]? = some (.slice A9 (k + 1) C9) ∧ fr.tmps[292]? = some ((.pointer (some ⟨w3.heap.size, 10, none⟩))) ∧ fr.tmps[13]? = some ((.pointer (some ⟨w3.heap.size, 0, none⟩))) ∧ fr.tmps[14]? = some ((.slice (some ⟨b, off, none⟩) M C)) ∧ fr.tmps[19]? = some ((.int .i64 (k : Int))) := ⟨_, rfl, far_get a0 _ 290 (by rw [hsz]; decide), far_get a0 _ 292 (by rw [hsz]; decide), far_base a0 _ 13 (by rw [hsz]; decide) r13 rfl, far_base a0 _ 14 (by rw [hsz]; decide) r14 rfl, far_base a0 _ 19 (by rw [hsz]; decide) r19 rfl⟩
         rw [HFR.out]
         apply wpOp_at
         case ho => rfl
         intro K hK
         go_simp
         refine hK _ _ ⟨e0, e1, iv, e3, e4, e5, e6, e7, e8, e9, .slice A9 (k + 1) C9, e11, (.pointer (some ⟨w3.heap.size, 10, none⟩)), HFR.out.symm, hB.setCell (p := ⟨w3.heap.size, 10, none⟩) (Nat.le_refl _) _, c0, c1, c2, c3, c4, c5, c6, c7, c8, fun _ h => absurd (h10.symm.trans h) (by decide), fun _ => ⟨(c10 h10).1, (c10 h10).2.1, fun h => Bool.noConfusion (show true = false from h)⟩, c11, c12, fun _ => ⟨h10, A9, C9, rfl, hS, hOs, hap⟩, fun h => absurd (h10.symm.trans h) (by decide), cg.set 10 _, ho1, ho2⟩
       | k + 14, hi, _, _ => exact absurd hi (by simp)
      case ends =>
       intro d a' w7 hJ hall
       obtain ⟨e0, e1, e2, e3, e4, e5, e6, e7, e8, e9, e10, e11, e12, rfl, hC⟩ := hJ
       obtain ⟨hB, hC⟩ := hC
       obtain ⟨c0, hC⟩ := hC
       obtain ⟨c1, hC⟩ := hC
       obtain ⟨c2, hC⟩ := hC
       obtain ⟨c3, hC⟩ := hC
       obtain ⟨c4, hC⟩ := hC
       obtain ⟨c5, hC⟩ := hC
       obtain ⟨c6, hC⟩ := hC
       obtain ⟨c7, hC⟩ := hC
       obtain ⟨c8, hC⟩ := hC
       obtain ⟨c9, hC⟩ := hC
       obtain ⟨c10, hC⟩ := hC
       obtain ⟨c11, hC⟩ := hC
       obtain ⟨c12, hC⟩ := hC
       obtain ⟨c13, hC⟩ := hC
       obtain ⟨cx, hC⟩ := hC
       obtain ⟨cg, hC⟩ := hC
       obtain ⟨co1, hC⟩ := hC
       have co2 := hC
       clear hC
       have ha0 := Ha0.out
       subst ha0
       clear Ha0 HND hsz r13 r14 r19
       obtain ⟨h10, AI, CI, rfl, hX, hO, hap⟩ := c13 (hall 13 (by decide +kernel))
       have HG7 := Lib.hid cg
       have HX7 := Lib.hid hX
       have HIn := Lib.hid hO
       have HT7 := Lib.hid co1
       have HU7 := Lib.hid co2
       have HB7 := Lib.hid hB
       have HAR := Lib.hid hap
       clear c0 c1 c2 c3 c4 c5 c6 c7 c8 c9 c10 c11 c12 c13 cx cg co1 co2 hall hB hX hO h10 hap
       simp only [putAll, Act.put, qA, qB, qC]
       go_wp2_with fail
       go_roundw
       case rel => exact ⟨k + 1, _, _, _, hkN, by go_num, Hfk, HG7.out, HX7.out, HT7.out, HU7.out, HIn.out, HAR.out⟩
       case measure => exact measure_one hkN
  · obtain rfl : k = N := Nat.le_antisymm hk (Nat.not_lt.1 hkN)
    go_wp2_with fail
    exact Hexit.out _ _ _ _ _ _ _ _ _ _ _ _ _ _ _ _ _ _ _ _ _ _ _ _ _ _ _ _ _ _ _ _ _ _ _ _ _ _ _ _ _ _ _ _ _ _ _ _ _ _ _ _ _ _ _ _ _ _ Hfl HBG HXr HOT HOU HOI HAP
end Go.Proofs.YtnkgakhnlbifdaaGreat
