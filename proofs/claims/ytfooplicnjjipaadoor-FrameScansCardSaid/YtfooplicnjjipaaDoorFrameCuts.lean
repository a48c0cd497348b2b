/- FrameCuts, walked. No law is proved here. -/
import Derived.Test.YtfooplicnjjipaaDoorFrameAwake
import Derived.Test.YtfooplicnjjipaaDoorFrameSums
import Derived.Test.YtfooplicnjjipaaDoorOwnApart
import Derived.Deep.LoopGhost
import Derived.Deep.RegionHeld3
import Derived.BigRegion
namespace Go.Proofs.YtfooplicnjjipaaDoor
open Go.RowKit
attribute [local go_sem ↓] run_fine

theorem info_int : (Tryd.prog.info? 3).map (fun i => (i.zero, i.size, i.bytes)) = some (some (.int .i64 0), 1, 8) := by kernel_rfl
/-- ints of the call's own: the first n of E -/
def OwnE (base : Nat) (w : World) (v : Value) (n : Nat) (E : Nat → Nat) : Prop := w.ownsRow base 3 1 v n (flatCells 1 n (fun i _ => .int .i64 (E i : Nat)))
theorem ownE_push {w : World} {base : Nat} {v : Value} {n : Nat} {E : Nat → Nat} (h : OwnE base w v n E) (hbase : base ≤ w.heap.size) {q : Nat} (hq : w.cell? ⟨q, 0, none⟩ = some (.int .i64 (E n : Nat))) (hroom : n + 1 ≤ 1000000) :
    ∃ v' w', (Builtin.append_ #[30, 30] 30 #[v, .slice (some ⟨q, 0, none⟩) 1 1]).run Tryd.prog w = .ok v' w' ∧ OwnE base w' v' (n + 1) E ∧ Below base w w' ∧ w.grownBy w' v.ownBlock := by
  obtain ⟨i5, hi, hz0, hz1, hz2⟩ := info_parts info_int
  have hE : Elems w (.slice (some ⟨q, 0, none⟩) 1 1) 1 1 (fun _ _ => .int .i64 (E n : Nat)) := by
    refine ⟨by decide, Or.inr ⟨q, 0, 1, rfl, Nat.le_refl _, fun i j hi hj => ?_⟩⟩
    obtain rfl : i = 0 := by omega
    obtain rfl : j = 0 := by omega
    exact hq
  obtain ⟨v', w', hrun, q1, q2, q3⟩ := run_append_elems (P := Tryd.prog) (w := w) 30 30 base 3 i5 _ 1 8 Tryd.underlying30 hi hz0 hz1 hz2 rfl (by decide)
    v n (fun i _ => .int .i64 (E i : Nat)) h (some ⟨q, 0, none⟩) 1 1 (fun _ _ => .int .i64 (E n : Nat)) hE (fun _ _ _ _ => rfl) (by unfold maxLen; omega) (by omega) hbase
  refine ⟨v', w', hrun, ?_, q2, q3.1⟩
  have e : flatCells 1 (n + 1) (fun i j => if i < n then (fun (i _ : Nat) => Value.int .i64 (E i : Nat)) i j else (fun (_ _ : Nat) => Value.int .i64 (E n : Nat)) (i - n) j) = flatCells 1 (n + 1) (fun i _ => Value.int .i64 (E i : Nat)) := by
    unfold flatCells
    rw [List.flatMap_def, List.flatMap_def]
    congr 1
    apply List.map_congr_left
    intro i hi
    have := List.mem_range.1 hi
    by_cases hlt : i < n
    · simp [hlt]
    · obtain rfl : i = n := by omega
      simp
  rw [e] at q1
  exact q1
theorem OwnE.at {w : World} {base : Nat} {v : Value} {n : Nat} {E : Nat → Nat} (h : OwnE base w v n E) (hn : n ≤ 1000000) : ∃ A C, v = .slice A n C ∧ n ≤ C ∧ ∀ i, i < n → ∃ b off, A = some ⟨b, off, none⟩ ∧ w.cell? ⟨b, off + i, none⟩ = some (.int .i64 (E i : Nat)) := by
  obtain ⟨A, C, rfl, hC, hE⟩ := elems_of_own h (by omega)
  refine ⟨A, C, rfl, hC, fun i hi => ?_⟩
  obtain ⟨b, off, ha, hc⟩ := hE.at hi
  have := hc 0 (by decide)
  rw [Nat.mul_one, Nat.add_zero] at this
  exact ⟨b, off, ha, this⟩

set_option maxRecDepth 100000 in
set_option maxHeartbeats 32000000 in
theorem framecuts_law (a : Option Addr) (m c : Nat) (l : List (List Int)) (cut : Nat) (h65 : cut < 65536) (w : World) (hL : Sls w (.slice a m c) l) (hmc : m ≤ c) (hbl : ∀ i, i < l.length → (l[i]?.getD []).length ≤ 140737488351232) (hT : Tab w) :
    Calls Tryd.prog 4 #[.slice a m c, .int .u16 (cut : Int)] w (Says w true) := by
  have Hm := Lib.hid hL.len
  have hbm : m ≤ 9223372036854775807 := by rw [Hm.out]; exact hL.big
  have HL := Lib.hid hL; clear hL
  have Hbl := Lib.hid hbl; clear hbl
  have HT := Lib.hid hT; clear hT
  have Hmc := Lib.hid hmc; clear hmc
  go_enter Tryd.func4, Tryd.ntmps4
  go_wp2_with fail
  refine (awake8 w HT.out).mono ?_
  rintro e w1 ⟨rfl, hb⟩
  have Hb1 := Lib.hid hb; clear hb
  go_wp2_with fail
  go_loop [5, 6] (fun s i => ∃ k q : Nat, k ≤ m ∧ i = .int .i64 k ∧ s = .int .i64 q ∧ q ≤ 140737488353240 ∧ Hid (q = FrameMath.total (l.take k))) (fun _ i => m - (intOf i).toNat)
  case atStart => exact ⟨0, 0, Nat.zero_le _, rfl, rfl, by omega, by show 0 = _; simp [FrameMath.total]⟩
  case round =>
    obtain ⟨k, q, hk, rfl, rfl, hqb, Hq⟩ := hrel
    by_cases hq : 2000 < q
    · -- too many bytes: nothing is asked
      by_cases h20 : 20 < m
      · by_cases hlt : k < m
        · go_wp2_with fail
          go_ret
          exact ⟨by simp, Hb1.out⟩
        · go_wp2_with fail
          go_ret
          exact ⟨by simp, Hb1.out⟩
      · by_cases hlt : k < m
        · go_wp2_with fail
          go_ret
          exact ⟨by simp, Hb1.out⟩
        · go_wp2_with fail
          go_ret
          exact ⟨by simp, Hb1.out⟩
    by_cases hlt : k < m
    · have hkl : k < l.length := by have := Hm.out; omega
      obtain ⟨b1, o1, ⟨a3, n3, c3⟩, rfl, e1, S1⟩ := HL.out.at hkl
      have d1 := cell_later Hb1.out e1
      have hn3 : n3 = (l[k]?.getD []).length := S1.1
      have hn3b : n3 ≤ 140737488351232 := by rw [hn3]; exact Hbl.out k hkl
      have hsum : IntKind.i64.wrap ((q : Int) + (n3 : Int)) = ((q + n3 : Nat) : Int) := by rw [IntWalk.i64_in _ (by omega)]; omega
      have Htot : Hid (q + n3 = FrameMath.total (l.take (k + 1))) := by show q + n3 = _; rw [FrameMath.total_take_succ l hkl, ← Hq.out, hn3]
      obtain ⟨Q, HQ⟩ : ∃ z, Hid (q + n3 = z) := ⟨_, rfl⟩
      rw [HQ.out] at hsum Htot
      have hQb : Q ≤ 140737488353240 := by have := HQ.out; omega
      have k0 : (0 : Int) ≤ (k : Int) := by omega
      have k1 : (k : Int) < (m : Int) := by omega
      clear e1 S1 hn3
      go_wp2_with fail
      go_round
      case rel => exact ⟨k + 1, Q, by omega, by go_num, rfl, hQb, Htot.out⟩
      case measure => simp [intOf]; omega
    obtain rfl : k = m := by omega
    have Htl : Hid (q = FrameMath.total l) := by have h := Hq.out; rw [Hm.out, List.take_length] at h; exact h
    by_cases h20 : 20 < k
    · go_wp2_with fail
      go_ret
      exact ⟨by simp, Hb1.out⟩
    have Hfl : Hid (∀ i, (FrameMath.frames (l.take i)).length ≤ 2300) := fun i => by
      have h1 := FrameMath.frames_le (l.take i) (by have := FrameMath.total_mono l i; have := Htl.out; omega)
      have h2 := FrameMath.total_mono l i
      have h3 := Htl.out
      have h4 : (l.take i).length ≤ 20 := by rw [List.length_take]; have := Hm.out; omega
      omega
    have Hlen : Hid (∀ i, i < k → (l[i]?.getD []).length ≤ 2000) := fun i hi => by
      have h1 := FrameMath.total_take_succ l (i := i) (by have := Hm.out; omega)
      have h2 := FrameMath.total_mono l (i + 1)
      have h3 := Htl.out
      omega
    obtain ⟨E, HE⟩ : ∃ E : Nat → Nat, Hid (E = fun i => (FrameMath.frames (l.take (i + 1))).length) := ⟨_, rfl⟩
    clear Hq hqb
    go_wp2_with fail
    go_loopg [7, 8, 9] k (fun g s7 s8 s9 wr => ∃ (i : Nat) (bv ev : Value), i + g = k ∧ s9 = .int .i64 i ∧ s7 = bv ∧ s8 = ev ∧ Hid (OwnB w.heap.size wr bv (FrameMath.frames (l.take i))) ∧ Hid (OwnE w.heap.size wr ev i E) ∧ Hid (Below w.heap.size w wr))
    case atStart => exact ⟨0, _, _, by omega, rfl, rfl, rfl, ownB_nil _ _, World.ownsRow_nil _ _ _ _, Hb1.out⟩
    case round =>
      obtain ⟨i, bv, ev, hg, rfl, hbv, hev, HO, HE8, Hb⟩ := hrel
      have hbv' := hbv.symm
      have hev' := hev.symm
      subst hbv' hev'
      clear hbv hev
      by_cases hlt2 : i < k
      · have hil : i < l.length := by have := Hm.out; omega
        obtain ⟨b1, o1, ⟨a3, n3, c3⟩, rfl, e1, S1⟩ := HL.out.at hil
        have e1' : w.cell? ⟨b1, o1 + i, none⟩ = some (.slice a3 n3 c3) := e1
        have d1 := cell_later Hb.out e1'
        have HS1 := Lib.hid S1
        have HE1 := Lib.hid e1'
        have hn3 : n3 ≤ 2000 := by rw [show n3 = _ from S1.1]; exact Hlen.out i hlt2
        have hsz3 : sizeV (n3 : Int) = (FrameMath.frm (l[i]?.getD [])).length := by unfold sizeV; rw [FrameMath.frm_length, Int.toNat_natCast, show n3 = _ from S1.1]
        obtain ⟨⟨a4, n4, c4⟩, rfl, hS4, _⟩ := HO.out.sl (by have := Hfl.out i; omega)
        have HS4 := Lib.hid hS4
        have Hn4 : Hid (n4 = (FrameMath.frames (l.take i)).length) := hS4.1
        have k0 : (0 : Int) ≤ (i : Int) := by omega
        have k1 : (i : Int) < (k : Int) := by omega
        clear e1 e1' S1 hS4
        go_wp2_with fail
        refine (fPut_calls ⟨a4, n4, c4⟩ ⟨a3, n3, c3⟩ (FrameMath.frames (l.take i)) (l[i]?.getD []) wr HS4.out (HS1.out.later Hb.out) (by have := Hfl.out i; omega) (by have := Hlen.out i hlt2; omega) (HT.out.later Hb.out)).mono ?_
        have hcat : FrameMath.frames (l.take i) ++ FrameMath.frm (l[i]?.getD []) = FrameMath.frames (l.take (i + 1)) := by rw [FrameMath.frames_take_succ l hil, List.getElem?_eq_getElem hil]; rfl
        rw [hcat]
        rintro e w3 ⟨v3, rfl, hb3, hF3⟩
        have hO3 := hF3.ownB.mono Hb.out.size
        obtain ⟨⟨a5, n5, c5⟩, rfl, hS5, _⟩ := SB.fresh_off hF3
        have hn5 : n5 = E i := by rw [HE.out]; exact hS5.1
        have hn54 : sizeV (n3 : Int) ≤ n5 := by
          have h1 : n5 = _ := hS5.1
          rw [hsz3, h1, ← hcat, List.length_append]
          omega
        have hn5b : n5 ≤ 2300 := by rw [show n5 = _ from hS5.1]; exact Hfl.out (i + 1)
        obtain ⟨sz, Hsz⟩ : ∃ z, Hid (sizeV (n3 : Int) = z) := ⟨_, rfl⟩
        have HO3 := Lib.hid hO3
        have Hb3 := Lib.hid (held_next Hb.out hb3)
        have hE3 : OwnE w.heap.size w3 ev i E := own_later HE8.out hb3
        have hbx := below_box w3 (.cells #[.int .i64 (n5 : Int)] 3)
        obtain ⟨v6, w6, hrun6, hE6, hb6, hg6⟩ := ownE_push (own_later hE3 hbx) (by have := Hb3.out.size; simp; omega) (q := w3.heap.size) (by rw [← hn5]; exact (Whole.made w3 3 #[.int .i64 (n5 : Int)]).cell 0) (by omega)
        obtain ⟨hf6, hv6, hw6⟩ := fine_of hrun6
        have HO6 : Hid (OwnB w.heap.size w6 (.slice a5 n5 c5) (FrameMath.frames (l.take (i + 1)))) := ⟨own_kept_apart (own_later HO3.out.1 hbx) (own_later hE3 hbx) (by decide) hg6, HO3.out.2⟩
        have HE6 := Lib.hid hE6
        have Hb6 : Hid (Below w.heap.size w w6) := (held_next Hb3.out hbx).trans hb6
        have d6 := cell_later Hb6.out HE1.out
        have hle : ¬ ((n5 : Int) < (sz : Int)) := by have := Hsz.out; omega
        have hle2 : decide ((n5 : Int) < (sz : Int)) = false := decide_eq_false hle
        have hle3 : ¬ (n5 < sz) := by omega
        clear hb3 hF3 hO3 hS5 hn5 hn54 hcat hsz3 hE3 hbx hrun6 hE6 hb6 hg6 d1
        have KP : Hid (∀ w', Below w6.heap.size w6 w' → Below w6.heap.size w6 w' ∧ w'.cell? ⟨b1, o1 + i, none⟩ = some (.slice a3 n3 c3)) := fun w' h => ⟨h, cell_later (held_next Hb6.out h) HE1.out⟩
        have O1 : Hid (∀ w', Below w6.heap.size w6 w' → Calls Tryd.prog 11 #[.int .i64 (n3 : Int)] w' (fun e w'' => e = .returned (.int .i64 (sz : Nat)) ∧ Below w'.heap.size w' w'')) := by rw [← Hsz.out]; exact fun w' _ => fSize_calls (n3 : Int) w' (by omega)
        have O2 : Hid (∀ w', Below w6.heap.size w6 w' → Calls Tryd.prog 12 #[.int .i64 (n3 : Int)] w' (fun e w'' => e = .returned (.int .i64 (sz : Nat)) ∧ Below w'.heap.size w' w'')) := by rw [← Hsz.out]; exact fun w' _ => refsize_calls (n3 : Int) w' (by omega)
        go_wp2_with fail
        first | go_region_held3 (fun w' => Below w6.heap.size w6 w' ∧ w'.cell? ⟨b1, o1 + i, none⟩ = some (.slice a3 n3 c3)) (first | exact KP.out _ (Below.refl _ _).drew | (refine KP.out _ ?_; assumption)) (first | (go_at_call 11; have hcur := (‹Below w6.heap.size w6 _ ∧ _›).1; have hcall := O1.out _ hcur; (with_reducible refine hcall.mono ?_); rintro e wn ⟨rfl, hb⟩; have hS := held_next hcur hb; clear hb hcall hcur) | (go_at_call 12; have hcur := (‹Below w6.heap.size w6 _ ∧ _›).1; have hcall := O2.out _ hcur; (with_reducible refine hcall.mono ?_); rintro e wn ⟨rfl, hb⟩; have hS := held_next hcur hb; clear hb hcall hcur)) | fail
        all_goals go_wp2_with fail
        all_goals have hbl := (‹Below w6.heap.size w6 _ ∧ _›).1
        all_goals go_roundg (k - (i + 1))
        case measure => omega
        case rel => exact ⟨i + 1, _, _, by omega, by go_num, rfl, rfl, HO6.out.later hbl, own_later HE6.out hbl, held_next Hb6.out hbl⟩
      · obtain rfl : i = k := by omega
        have hfl : FrameMath.frames (l.take i) = FrameMath.frames l := by rw [Hm.out, List.take_length]
        have HO2 := HO
        rw [hfl] at HO2
        obtain ⟨B, HB⟩ : ∃ z, Hid ((FrameMath.frames l).length = z) := ⟨_, rfl⟩
        have hBb : B ≤ 2300 := by rw [← HB.out, ← hfl]; exact Hfl.out i
        obtain ⟨⟨a4, n4, c4⟩, rfl, hS4, _⟩ := HO2.out.sl (by rw [HB.out]; omega)
        have HS4 := Lib.hid hS4
        obtain rfl : n4 = B := by rw [← HB.out]; exact hS4.1
        obtain ⟨A8, C8, rfl, hC8, hE8⟩ := HE8.out.at (by omega)
        have HE8' := Lib.hid hE8
        clear hS4 hfl HO HO2 hE8 hg
        go_wp2_with fail
        refine (fScan_calls a4 n4 c4 (FrameMath.frames l) l [] wr HS4.out (by rw [HB.out]; omega) (FrameMath.scans_frames l) (HT.out.later Hb.out)).mono ?_
        rintro e w3 ⟨A3, C3, rfl, _, hL3, hb⟩
        rw [HB.out]
        rw [← Hm.out] at hL3 ⊢
        have HL3 := Lib.hid hL3
        have Hb3 := Lib.hid (held_next Hb.out hb)
        have HE3 : Hid (∀ j, j < i → ∃ b off, A8 = some ⟨b, off, none⟩ ∧ w3.cell? ⟨b, off + j, none⟩ = some (.int .i64 (E j : Nat))) := fun j hj => by
          obtain ⟨b, off, h1, h2⟩ := HE8'.out j hj
          exact ⟨b, off, h1, cell_later hb h2⟩
        have HS3 := Lib.hid (HS4.out.later hb)
        clear hb hL3
        go_wp2_with fail
        refine (refsls_yes A3 a i C3 c l w3 HL3.out (HL.out.later Hb3.out)).mono ?_
        rintro e w4 ⟨rfl, hb⟩
        have Hb4 := Lib.hid (held_next Hb3.out hb)
        have HE4 : Hid (∀ j, j < i → ∃ b off, A8 = some ⟨b, off, none⟩ ∧ w4.cell? ⟨b, off + j, none⟩ = some (.int .i64 (E j : Nat))) := fun j hj => by
          obtain ⟨b, off, h1, h2⟩ := HE3.out j hj
          exact ⟨b, off, h1, cell_later hb h2⟩
        have HS5 := Lib.hid (HS3.out.later hb)
        clear hb
        have hsum : IntKind.i64.wrap ((n4 : Int) + 1) = ((n4 + 1 : Nat) : Int) := by rw [IntWalk.i64_in _ (by omega)]; omega
        obtain ⟨B1, HB1⟩ : ∃ z, Hid (n4 + 1 = z) := ⟨_, rfl⟩
        rw [HB1.out] at hsum
        have hB1 : ((B1 : Int) == 0) = false := beq_eq_false_iff_ne.2 (by have := HB1.out; omega)
        have hB1p : (0 : Int) < (B1 : Int) := by have := HB1.out; omega
        obtain ⟨K, HK⟩ : ∃ z, Hid (cut % B1 = z) := ⟨_, rfl⟩
        have hK : (cut : Int) % (B1 : Int) = (K : Int) := by rw [← HK.out]; omega
        have hKB : K ≤ n4 := by
          have h1 := HB1.out
          have h2 := HK.out
          have h3 := Nat.mod_lt cut (show 0 < B1 by omega)
          omega
        obtain ⟨⟨a6, n6, c6⟩, hsl6, hS6, _⟩ := SB.upto HS5.out (hi := K) hKB
        have hsl : ∀ w, (Instr.slice 22 (.slice a4 n4 c4) none (some (.int .i64 (K : Int))) none).run Tryd.prog w = .ok (.slice a6 n6 c6) w := hsl6
        have HS6 := Lib.hid hS6
        obtain ⟨W, hW1, hW2, hW3⟩ := FrameMath.whole_ex l K l.length (Nat.le_refl _)
        obtain ⟨r, hsc⟩ := FrameMath.scans_cut l hW1 hW2 hW3
        have Hsc := Lib.hid hsc
        have HW2 := Lib.hid hW2
        have HW3 : Hid (W < i → K < E W) := fun h => by rw [HE.out]; exact hW3 (by have := Hm.out; omega)
        have HEK : Hid (∀ j, j < W → E j ≤ K) := fun j hj => by
          rw [HE.out]
          exact Nat.le_trans (FrameMath.frames_take_le l (show j + 1 ≤ W by omega)) HW2.out
        have hWi : W ≤ i := by have := Hm.out; omega
        clear hsl6 hS6 hW1 hW2 hW3 hsc
        go_wp2_with fail
        have hK9 : K ≤ 9223372036854775807 := by omega
        refine (fScan_calls a6 n6 c6 ((FrameMath.frames l).take K) (l.take W) r w4 HS6.out (by rw [List.length_take]; omega) Hsc.out (HT.out.later Hb4.out)).mono ?_
        rintro e w5 ⟨A5, C5, rfl, _, hL5, hb⟩
        obtain ⟨FW, HFW⟩ : ∃ z, Hid ((FrameMath.frames (l.take W)).length = z) := ⟨_, rfl⟩
        rw [HFW.out]
        have hlW : (l.take W).length = W := by rw [List.length_take]; have := Hm.out; omega
        rw [hlW] at hL5 ⊢
        have HL5 := Lib.hid hL5
        have Hb5 := Lib.hid (held_next Hb4.out hb)
        have HE5 : Hid (∀ j, j < i → ∃ b off, A8 = some ⟨b, off, none⟩ ∧ w5.cell? ⟨b, off + j, none⟩ = some (.int .i64 (E j : Nat))) := fun j hj => by
          obtain ⟨b, off, h1, h2⟩ := HE4.out j hj
          exact ⟨b, off, h1, cell_later hb h2⟩
        clear hb hL5 hlW hsum hB1 hB1p hsl
        go_wp2_with fail
        go_loop [14] (fun s14 => ∃ j : Nat, j ≤ W ∧ s14 = .int .i64 j) (fun s14 => W - (intOf s14).toNat)
        case atStart => exact ⟨0, Nat.zero_le _, rfl⟩
        case round =>
          obtain ⟨j, hj, rfl⟩ := hrel
          by_cases hjW : j < W
          · obtain ⟨b8, o8, rfl, d8⟩ := HE5.out j (by omega)
            have hEK := HEK.out j hjW
            obtain ⟨Ej, HEj⟩ : ∃ z, Hid (E j = z) := ⟨_, rfl⟩
            rw [HEj.out] at d8 hEK
            have k0 : (0 : Int) ≤ (j : Int) := by omega
            have k1 : (j : Int) < (i : Int) := by omega
            have k2 : (Ej : Int) ≤ (K : Int) := by omega
            go_wp2_with fail
            go_round
            case rel => exact ⟨j + 1, by omega, by go_num⟩
            case measure => simp [intOf]; omega
          · obtain rfl : j = W := by omega
            obtain ⟨a7, c7, hsl7, hc7, hL7⟩ := Sls.upto HL.out (k := j) hWi Hmc.out
            have hLs := hL7 w5 Hb5.out
            have HLs := Lib.hid hLs
            have Hsame := Lib.hid (refsls_yes A5 a7 j C5 c7 (l.take j) w5 HL5.out HLs.out)
            have hlast : j = 0 ∨ ∃ j', j = j' + 1 := by rcases j with _ | j'; · exact Or.inl rfl
                                                        · exact Or.inr ⟨j', rfl⟩
            have hexit : ¬ (j < i) ∨ (∃ b8 o8, A8 = some ⟨b8, o8, none⟩ ∧ w5.cell? ⟨b8, o8 + j, none⟩ = some (.int .i64 (E j : Nat)) ∧ ¬ (E j ≤ K) ∧ j < i) := by
              by_cases hji : j < i
              · obtain ⟨b8, o8, h1, h2⟩ := HE5.out j hji
                have := HW3.out hji
                exact Or.inr ⟨b8, o8, h1, h2, by omega, hji⟩
              · exact Or.inl hji
            have Hlast := Lib.hid hlast
            have k0 : (0 : Int) ≤ (j : Int) := by omega
            clear hL7 hLs hlast hjW hj
            have hcut2 : ∀ (X : Prop), (¬ (j < i) → X) → ((∃ b8 o8, A8 = some ⟨b8, o8, none⟩ ∧ w5.cell? ⟨b8, o8 + j, none⟩ = some (.int .i64 (E j : Nat)) ∧ ¬ (E j ≤ K) ∧ j < i) → X) → X := fun X f g => hexit.elim f g
            clear hexit
            refine hcut2 _ (fun hji => ?_) (fun ⟨b8, o8, hA8, d8, hEj, hji⟩ => ?_)
            · clear hcut2
              go_wp2_with fail
              refine Hsame.out.mono ?_
              rintro e w6 ⟨rfl, hb⟩
              have Hb6 := Lib.hid (held_next Hb5.out hb)
              rcases Hlast.out with rfl | ⟨j', rfl⟩
              · have hF0 : FW = 0 := by rw [← HFW.out]; simp [FrameMath.frames]
                subst hF0
                clear hb
                go_wp2_with fail
                go_ret
                exact ⟨by simp, Hb6.out⟩
              · obtain ⟨b9, o9, rfl, d9⟩ := HE5.out j' (by omega)
                have d9' := cell_later hb d9
                have hE9 : E j' = FW := by rw [HE.out]; exact HFW.out
                rw [hE9] at d9'
                have s1 : IntKind.i64.wrap (((j' + 1 : Nat) : Int) - 1) = (j' : Int) := by rw [IntWalk.i64_in _ (by omega)]; omega
                have s2 : (((j' + 1 : Nat) : Int) == 0) = false := beq_eq_false_iff_ne.2 (by omega)
                have s3 : (0 : Int) < ((j' + 1 : Nat) : Int) := by omega
                have s4 : (0 : Int) ≤ (j' : Int) := by omega
                have s5 : (j' : Int) < (i : Int) := by omega
                clear hb d9 hE9
                go_wp2_with fail
                go_ret
                exact ⟨by simp, Hb6.out⟩
            · clear hcut2
              subst hA8
              obtain ⟨Ej, HEj⟩ : ∃ z, Hid (E j = z) := ⟨_, rfl⟩
              rw [HEj.out] at d8 hEj
              have k1 : (j : Int) < (i : Int) := by omega
              have k2 : ¬ ((Ej : Int) ≤ (K : Int)) := by omega
              go_wp2_with fail
              refine Hsame.out.mono ?_
              rintro e w6 ⟨rfl, hb⟩
              have Hb6 := Lib.hid (held_next Hb5.out hb)
              rcases Hlast.out with rfl | ⟨j', rfl⟩
              · have hF0 : FW = 0 := by rw [← HFW.out]; simp [FrameMath.frames]
                subst hF0
                clear hb
                go_wp2_with fail
                go_ret
                exact ⟨by simp, Hb6.out⟩
              · obtain ⟨b9, o9, hA9, d9⟩ := HE5.out j' (by omega)
                have d9' := cell_later hb d9
                have hE9 : E j' = FW := by rw [HE.out]; exact HFW.out
                rw [hE9] at d9'
                simp only [Option.some.injEq, Addr.mk.injEq, and_true] at hA9
                obtain ⟨rfl, rfl⟩ := hA9
                have s1 : IntKind.i64.wrap (((j' + 1 : Nat) : Int) - 1) = (j' : Int) := by rw [IntWalk.i64_in _ (by omega)]; omega
                have s2 : (((j' + 1 : Nat) : Int) == 0) = false := beq_eq_false_iff_ne.2 (by omega)
                have s3 : (0 : Int) < ((j' + 1 : Nat) : Int) := by omega
                have s4 : (0 : Int) ≤ (j' : Int) := by omega
                have s5 : (j' : Int) < (i : Int) := by omega
                clear hb d9 hE9
                go_wp2_with fail
                go_ret
                exact ⟨by simp, Hb6.out⟩
end Go.Proofs.YtfooplicnjjipaaDoor
