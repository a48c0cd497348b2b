/- FrameFlips, walked. No law is proved here. -/
import Derived.Test.YtfooplicnjjipaaDoorFrameAwake
import Derived.Deep.QuietTactic
import Derived.BigQuiet
namespace Go.Proofs.YtfooplicnjjipaaDoor
open Go.RowKit

theorem set_turned {l : List Int} {k : Nat} {c d : Int} (hk : k < l.length) (hc : l.getD k 0 = c) (hd : d ≠ c) : l.set k d ≠ l := by
  intro h
  have h1 := congrArg (fun m => m.getD k 0) h
  simp only [List.getD_eq_getElem?_getD, List.getElem?_set_self hk, Option.getD_some] at h1
  rw [← List.getD_eq_getElem?_getD, hc] at h1
  exact hd h1
set_option maxRecDepth 100000 in
set_option maxHeartbeats 8000000 in
theorem frameflips_law (sa sb : Sl) (za zb : List Int) (m q : Nat) (h65 : m < 65536) (hq : q < 256) (w : World) (hA : SB w sa za) (hB : SB w sb zb) (hT : Tab w) :
    Calls Tryd.prog 5 #[slV sa, slV sb, .int .u16 (m : Int), .int .u8 (q : Int)] w (Says w true) := by
  obtain ⟨a0, n0, c0⟩ := sa
  obtain ⟨a1, n1, c1⟩ := sb
  have HA := Lib.hid hA; clear hA
  have HB := Lib.hid hB; clear hB
  have HT := Lib.hid hT; clear hT
  show Calls Tryd.prog 5 #[.slice a0 n0 c0, .slice a1 n1 c1, .int .u16 (m : Int), .int .u8 (q : Int)] w _
  go_enter Tryd.func5, Tryd.ntmps5
  go_wp2_with fail
  refine (awake8 w HT.out).mono ?_
  rintro e w1 ⟨rfl, hb⟩
  have Hb1 := Lib.hid hb; clear hb
  by_cases hn0 : 1000 < n0
  · go_wp2_with fail
    go_ret
    exact ⟨by rfl, Hb1.out⟩
  by_cases hn1 : 1000 < n1
  · go_wp2_with fail
    go_ret
    exact ⟨by rfl, Hb1.out⟩
  have hla : za.length ≤ 1000 := by have := HA.out.1; simp only at this; omega
  have hlb : zb.length ≤ 1000 := by have := HB.out.1; simp only at this; omega
  have Hla := Lib.hid hla; clear hla
  have Hlb := Lib.hid hlb; clear hlb
  go_wp2_with fail
  refine (fPut_calls ⟨none, 0, 0⟩ ⟨a0, n0, c0⟩ [] za w1 (SB.nil _) (HA.out.later Hb1.out) (by simp) (by have := Hla.out; omega) (HT.out.later Hb1.out)).mono ?_
  rw [List.nil_append]
  rintro e w2 ⟨vx, rfl, hb, hF⟩
  obtain ⟨⟨ax, nx, cx⟩, rfl, hSx, _⟩ := SB.fresh_off hF
  have HSx := Lib.hid hSx
  have Hb2 := Lib.hid (held_next Hb1.out hb)
  have hnx : nx ≤ 1020 := by
    have h : nx = (FrameMath.frm za).length := hSx.1
    rw [h, FrameMath.frm_length]
    unfold FrameMath.sizeN
    have := PackMath.num_len_64 za.length (by have := Hla.out; omega)
    have := Hla.out
    omega
  clear hb hF hSx
  go_wp2_with fail
  refine (fPut_calls ⟨ax, nx, cx⟩ ⟨a1, n1, c1⟩ (FrameMath.frm za) zb w2 HSx.out (HB.out.later Hb2.out) (by rw [← show nx = _ from HSx.out.1]; omega) (by have := Hlb.out; omega) (HT.out.later Hb2.out)).mono ?_
  rintro e w3 ⟨vy, rfl, hb, hF⟩
  obtain ⟨g, cy, rfl, hg, hgl, hcy, _⟩ := hF.form
  obtain ⟨N, HN⟩ : ∃ z, Hid ((FrameMath.frm zb).length = z) := ⟨_, rfl⟩
  have hN0 : 4 < N := by rw [← HN.out, FrameMath.frm_length]; exact FrameMath.sizeN_pos _
  have hNb : N ≤ 1020 := by
    rw [← HN.out, FrameMath.frm_length]
    unfold FrameMath.sizeN
    have := PackMath.num_len_64 zb.length (by have := Hlb.out; omega)
    have := Hlb.out
    omega
  have hyl : (FrameMath.frm za ++ FrameMath.frm zb).length = nx + N := by rw [List.length_append, ← show nx = _ from HSx.out.1, HN.out]
  obtain ⟨Y, HY⟩ : ∃ z, Hid (nx + N = z) := ⟨_, rfl⟩
  rw [HY.out] at hyl
  have Hyl := Lib.hid hyl
  have HO := Lib.hid hF.1
  have Hsm := Lib.hid hF.2.2
  rw [Hyl.out] at HO hcy ⊢
  have Hb3 := Lib.hid (held_next Hb2.out hb)
  have hgw : w2.heap.size ≤ g := hg
  clear hb hF hyl
  have hNe : ((N : Int) == 0) = false := beq_eq_false_iff_ne.2 (by omega)
  have hM : m % N < N := Nat.mod_lt _ (by omega)
  have hY : Y = nx + N := HY.out.symm
  have hsub2 : (Y : Int) - (nx : Int) = (N : Int) := by omega
  have hsub : IntKind.i64.wrap ((Y : Int) - (nx : Int)) = (N : Int) := by rw [IntWalk.i64_in _ (by omega)]; omega
  have hsum : IntKind.i64.wrap ((nx : Int) + (m : Int) % (N : Int)) = ((nx + m % N : Nat) : Int) := by rw [IntWalk.i64_in _ (by omega)]; omega
  obtain ⟨c, hc⟩ : ∃ c : Nat, (FrameMath.frm zb).getD (m % N) 0 = (c : Int) := by
    obtain ⟨h0, _⟩ := CrcMath.Small.at (FrameMath.frm_bytes HB.out.2.2.2.1) (k := m % N) (by have := HN.out; omega)
    exact Int.eq_ofNat_of_zero_le h0
  have hc256 : c < 256 := by
    obtain ⟨_, h1⟩ := CrcMath.Small.at (FrameMath.frm_bytes HB.out.2.2.2.1) (k := m % N) (by have := HN.out; omega)
    omega
  obtain ⟨K, HK⟩ : ∃ z, Hid (nx + m % N = z) := ⟨_, rfl⟩
  rw [HK.out] at hsum
  have hKl : K < Y := by have := HK.out; omega
  have hget : (FrameMath.frm za ++ FrameMath.frm zb)[K]? = some (c : Int) := by
    rw [List.getElem?_append_right (by have := HK.out; have h : nx = _ := HSx.out.1; omega), ← show nx = _ from HSx.out.1, show K - nx = m % N by have := HK.out; omega]
    have hlt : m % N < (FrameMath.frm zb).length := by have := HN.out; omega
    rw [List.getElem?_eq_getElem hlt]
    rw [List.getD_eq_getElem?_getD, List.getElem?_eq_getElem hlt, Option.getD_some] at hc
    rw [hc]
  have hcell : w3.cell? ⟨g, K, none⟩ = some (.int .u8 (c : Int)) := by
    rw [HO.out.cellAt _ (by omega), List.getElem?_map, hget]
    rfl
  have hfz : w3.frozen? ⟨g, K, none⟩ = false := HO.out.frozenAt _
  have Hc := Lib.hid hc; clear hc
  have hx := bit_xor c (q % 8) hc256 (by omega)
  have hd256 : c ^^^ 2 ^ (q % 8) < 256 := Nat.xor_lt_two_pow (n := 8) hc256 (Nat.pow_lt_pow_right (by decide : 1 < 2) (by omega : q % 8 < 8))
  have hne := CrcMath.turned_ne c (q % 8)
  generalize c ^^^ 2 ^ (q % 8) = d at hx hd256 hne
  obtain ⟨ho4, hg4⟩ := HO.out.stored K (.int .u8 (d : Int))
  rw [← List.map_set] at ho4
  obtain ⟨z, Hz⟩ : ∃ z, Hid ((FrameMath.frm zb).set (m % N) (d : Int) = z) := ⟨_, rfl⟩
  have hset : (FrameMath.frm za ++ FrameMath.frm zb).set K (d : Int) = FrameMath.frm za ++ z := by
    rw [← Hz.out, List.set_append_right _ _ (by have := HK.out; have h : nx = _ := HSx.out.1; omega), ← show nx = _ from HSx.out.1, show K - nx = m % N by have := HK.out; omega]
  have hzl : z.length = (FrameMath.frm zb).length := by rw [← Hz.out, List.length_set]
  have hzne : z ≠ FrameMath.frm zb := by rw [← Hz.out]; exact set_turned (by have := HN.out; omega) Hc.out (by omega)
  rw [hset] at ho4
  have hsm4 : ∀ x ∈ FrameMath.frm za ++ z, 0 ≤ x ∧ x < 256 := fun x hx => by
    rw [← hset] at hx
    rcases List.mem_or_eq_of_mem_set hx with h | rfl
    · exact Hsm.out x h
    · omega
  obtain ⟨l, r, hsc⟩ := FrameMath.scans_ex _ (FrameMath.frm za ++ z) (Nat.le_refl _)
  obtain ⟨mm, rfl, hmm⟩ := FrameMath.scans_flip hzl hzne hsc
  have Hsc := Lib.hid hsc
  have Hmm := Lib.hid hmm
  have hyl4 : (FrameMath.frm za ++ z).length = Y := by rw [List.length_append, hzl, ← show nx = _ from HSx.out.1, HN.out, HY.out]
  have HSy : Hid (SB (w3.setCell ⟨g, K, none⟩ (.int .u8 (d : Int))) ⟨some ⟨g, 0, none⟩, Y, cy⟩ (FrameMath.frm za ++ z)) := by
    obtain ⟨_, _, _, _, _, _, hB4⟩ := bytes_of_own ho4 (by simp) (by omega) hsm4
    exact ⟨hyl4.symm, hcy, hB4⟩
  have Hb4 : Hid (Below w.heap.size w (w3.setCell ⟨g, K, none⟩ (.int .u8 (d : Int)))) := Hb3.out.setCell (p := ⟨g, K, none⟩) (by show w.heap.size ≤ g; have := Hb2.out.size; omega) _
  have Hy6 : Hid ((FrameMath.frm za ++ z).length ≤ 1000000) := by rw [hyl4]; show Y ≤ _; omega
  clear ho4 hg4 hset hzl hzne hsm4 hsc hmm hyl4 hne hget
  have hK0 : (0 : Int) ≤ (K : Int) := by omega
  have hK1 : (K : Int) < (Y : Int) := by omega
  have hYb : Y ≤ 9223372036854775807 := by omega
  clear hY
  go_wp2_with fail
  have hcall := fScan_calls (some ⟨g, 0, none⟩) Y cy _ (za :: mm) r _ HSy.out Hy6.out Hsc.out (HT.out.later Hb4.out)
  refine hcall.mono ?_
  clear hcall
  rintro e w5 ⟨A5, C5, rfl, _, hL, hb⟩
  have Hb5 := Lib.hid (held_next Hb4.out hb)
  obtain ⟨F, HF⟩ : ∃ z, Hid ((FrameMath.frames (za :: mm)).length = z) := ⟨_, rfl⟩
  rw [HF.out]
  have hFx : (nx : Int) ≤ (F : Int) := by
    have h : nx = _ := HSx.out.1
    have h2 := HF.out
    rw [FrameMath.frames_cons, List.length_append] at h2
    omega
  obtain ⟨b1, o1, ⟨a6, n6, c6⟩, rfl, hc6, hS6⟩ := hL.at (i := 0) (by simp)
  have hc6' : w5.cell? ⟨b1, o1, none⟩ = some (.slice a6 n6 c6) := hc6
  have hcv6 : ∀ n, (convert 22 9 (.slice a6 n6 c6)).run Tryd.prog (w5.drewN n) = .ok (.string (strOfNums za)) (w5.drewN n) := fun n => tstr_any (w := w5.drewN n) hS6.2.2
  have hcva : ∀ n, (convert 22 9 (.slice a0 n0 c0)).run Tryd.prog (w5.drewN n) = .ok (.string (strOfNums za)) (w5.drewN n) := fun n => tstr_any (w := w5.drewN n) (HA.out.later Hb5.out).2.2
  have hss := str_same (rfl : strOfNums za = strOfNums za)
  obtain ⟨st, Hst⟩ : ∃ z, Hid (strOfNums za = z) := ⟨_, rfl⟩
  rw [Hst.out] at hcv6 hcva hss
  cases mm with
  | nil =>
    clear hL hc6 hS6 hb
    go_wp2_with fail
    go_quiet (fail)
    go_wp2_with fail
    go_ret
    exact ⟨by simp, below_drewN Hb5.out _⟩
  | cons p mm =>
    have hpb : p ≠ zb := Hmm.out p mm rfl
    obtain ⟨b2, o2, ⟨a7, n7, c7⟩, hbb, hc7, hS7⟩ := hL.at (i := 1) (by simp)
    simp only [Option.some.injEq, Addr.mk.injEq, and_true] at hbb
    obtain ⟨rfl, rfl⟩ := hbb
    have hS7' : SB w5 ⟨a7, n7, c7⟩ p := hS7
    have hcv7 : ∀ n, (convert 22 9 (.slice a7 n7 c7)).run Tryd.prog (w5.drewN n) = .ok (.string (strOfNums p)) (w5.drewN n) := fun n => tstr_any (w := w5.drewN n) hS7'.2.2
    have hcvb : ∀ n, (convert 22 9 (.slice a1 n1 c1)).run Tryd.prog (w5.drewN n) = .ok (.string (strOfNums zb)) (w5.drewN n) := fun n => tstr_any (w := w5.drewN n) (HB.out.later Hb5.out).2.2
    have hsne : strOfNums p ≠ strOfNums zb := fun h => hpb (strOf_inj hS7'.2.2.2.1 HB.out.2.2.2.1 h)
    have hsn := str_ne hsne
    obtain ⟨s7, Hs7⟩ : ∃ z, Hid (strOfNums p = z) := ⟨_, rfl⟩
    obtain ⟨s8, Hs8⟩ : ∃ z, Hid (strOfNums zb = z) := ⟨_, rfl⟩
    rw [Hs7.out] at hcv7 hsn
    rw [Hs8.out] at hcvb hsn
    have hM2 : (za :: p :: mm).length = mm.length + 2 := rfl
    rw [hM2]
    obtain ⟨M, HM⟩ : ∃ z, Hid (mm.length + 2 = z) := ⟨_, rfl⟩
    rw [HM.out]
    have hM0 : (1 : Int) ≤ (M : Int) := by have := HM.out; omega
    have hM1 : (1 : Int) < (M : Int) := by have := HM.out; omega
    have hM3 : ((M : Int) == 1) = false := beq_eq_false_iff_ne.2 (by omega)
    have hMb : M ≤ 9223372036854775807 := by have h := hL.big; rw [hM2, HM.out] at h; exact h
    have hc7' : w5.cell? ⟨b1, o1 + 1, none⟩ = some (.slice a7 n7 c7) := hc7
    clear hL hc6 hS6 hb hc7 hS7 hS7' hpb hsne hM2
    go_wp2_with fail
    go_quiet (fail)
    go_wp2_with fail
    go_ret
    exact ⟨by simp, below_drewN Hb5.out _⟩
end Go.Proofs.YtfooplicnjjipaaDoor
