/- Parts, as far as BookTakesCards reaches them, of: BookSome. No law is proved here. -/
import Derived.Test.YtnkgakhnlbifdaaGreatTb23
import Derived.Test.YtnkgakhnlbifdaaGreatTb5
import Derived.Test.YtnkgakhnlbifdaaGreatTb0
import Derived.LoopTactic
import Derived.BigRegion
namespace Go.Proofs.YtnkgakhnlbifdaaGreat
open Go.RowKit
theorem bytesN_atleast (l : List Nat) : l.length ≤ (bytesN l).length := by
 induction l with
 | nil => exact Nat.zero_le _
 | cons v l ih =>
   rw [bytesN_cons, List.length_append, List.length_cons]
   have := PackMath.num_pos v
   omega
theorem rdS_atleast {z : List Int} {k : Nat} (h : (rdS (z, false) k).2 = false) : k ≤ z.length := by
 have h1 := congrArg List.length (rd_back k h).2
 rw [List.length_append] at h1
 have h2 := bytesN_atleast ((List.range k).map fun j => u64n (rdX (z, false) j))
 rw [List.length_map, List.length_range] at h2
 omega
theorem own_butG {gr : Nat} {w w' : World} {base : Nat} {t : TypeId} {sz k : Nat} {v : Value} {l : List Value} (h : w.ownsRow base t sz v k l) (hb : ButG gr w w') (hg : gr < base) : w'.ownsRow base t sz v k l := by
 refine ⟨h.1, ?_⟩
 rcases h.2 with h2 | ⟨g, cap, cur, e, h3, h4, h5⟩
 · exact Or.inl h2
 · exact Or.inr ⟨g, cap, cur, e, h3, (hb.2 g (Array.getElem?_eq_some_iff.1 h4).1 (by omega)).trans h4, h5⟩
theorem own_bounds {w : World} {base : Nat} {e : TypeId} {s n : Nat} {v : Value} {f : Nat → Nat → Value} (h : w.ownsRow base e s v n (flatCells s n f)) (hn : n ≤ 9223372036854775807) : ∃ A C, v = .slice A n C ∧ Elems w (.slice A n C) s n f ∧ ∀ ad, A = some ad → base ≤ ad.block := by
 obtain ⟨A, C, hv, _, he⟩ := elems_of_own h hn
 refine ⟨A, C, hv, he, fun ad had => ?_⟩
 subst hv
 subst had
 rcases h.2 with ⟨h0, _⟩ | ⟨g, cap, cur, e2, hb, _⟩
 · exact absurd h0 (by simp)
 · simp only [Value.slice.injEq, Option.some.injEq] at e2
   rw [e2.1]
   exact hb
def ReadsL (w0 : World) (gr : Nat) (W : World) (s : List Int × Bool) (n : Nat) (P : World → Value → Prop) (e : Ending) (w' : World) : Prop :=
 ButG gr W w' ∧ ((s.2 = false ∧ (∃ A C, e = .returned (.slice A n C) ∧ P w' (.slice A n C) ∧ ∀ ad, A = some ad → W.heap.size ≤ ad.block) ∧ Rd w0 gr s.1 w') ∨ (s.2 = true ∧ e = wrongE))
theorem req_more {w : World} {base g : Nat} {v : Value} {E : List Rq} {k : Nat} {x : Rq} (hE : rqAt E k = x) (hown : w.ownsRow base 67 3 v k (flatCells 3 k (fun i j => rqc (rqAt E i) j))) (hW : Whole w g 67 (rqCells x)) (hk : k ≤ 1000000000000) (hb : base ≤ w.heap.size) :
 ∃ A C w', (Builtin.append_ #[27, 27] 27 #[v, .slice (some ⟨g, 0, none⟩) 1 1]).run Tryz.prog w = .ok (.slice A (k + 1) C) w' ∧
   w'.ownsRow base 67 3 (.slice A (k + 1) C) (k + 1) (flatCells 3 (k + 1) (fun i j => rqc (rqAt E i) j)) ∧ Below base w w' ∧ Grew w w' v (.slice A (k + 1) C) := by
 obtain ⟨i0, hi, hz0, hz1, hz2⟩ := info_parts info_req
 obtain ⟨v', w', hrun, q1, q2, q3⟩ := run_append_elems (P := Tryz.prog) (w := w) 27 27 base 67 i0 _ 3 24 Tryz.underlying27 hi hz0 hz1 hz2 rfl (by decide)
  v k (fun i j => rqc (rqAt E i) j) hown (some ⟨g, 0, none⟩) 1 1 (fun _ j => rqc x j) (three_one hW) (fun _ _ _ _ => rqc_plain _ _) (by unfold maxLen; omega) (by omega) hb
 rw [flat_ext3 (g := fun i j => rqc (rqAt E i) j) (fun i j hi _ => by
  by_cases h : i < k
  · simp only [if_pos h]
  · obtain rfl : i = k := by omega
    simp only [Nat.lt_irrefl, if_false]
    rw [hE])] at q1
 obtain ⟨A, C, rfl, _⟩ := elems_of_own q1 (by omega)
 exact ⟨A, C, w', hrun, q1, q2, q3⟩
theorem out_more {w : World} {base g : Nat} {v : Value} {E : List Rq} {k : Nat} {x : Rq} (hE : rqAt E k = x) (hown : w.ownsRow base 69 3 v k (flatCells 3 k (fun i j => rqc (rqAt E i) j))) (hW : Whole w g 69 (rqCells x)) (hk : k ≤ 1000000000000) (hb : base ≤ w.heap.size) :
 ∃ A C w', (Builtin.append_ #[28, 28] 28 #[v, .slice (some ⟨g, 0, none⟩) 1 1]).run Tryz.prog w = .ok (.slice A (k + 1) C) w' ∧
   w'.ownsRow base 69 3 (.slice A (k + 1) C) (k + 1) (flatCells 3 (k + 1) (fun i j => rqc (rqAt E i) j)) ∧ Below base w w' ∧ Grew w w' v (.slice A (k + 1) C) := by
 obtain ⟨i0, hi, hz0, hz1, hz2⟩ := info_parts info_out
 obtain ⟨v', w', hrun, q1, q2, q3⟩ := run_append_elems (P := Tryz.prog) (w := w) 28 28 base 69 i0 _ 3 24 Tryz.underlying28 hi hz0 hz1 hz2 rfl (by decide)
  v k (fun i j => rqc (rqAt E i) j) hown (some ⟨g, 0, none⟩) 1 1 (fun _ j => rqc x j) (three_one hW) (fun _ _ _ _ => rqc_plain _ _) (by unfold maxLen; omega) (by omega) hb
 rw [flat_ext3 (g := fun i j => rqc (rqAt E i) j) (fun i j hi _ => by
  by_cases h : i < k
  · simp only [if_pos h]
  · obtain rfl : i = k := by omega
    simp only [Nat.lt_irrefl, if_false]
    rw [hE])] at q1
 obtain ⟨A, C, rfl, _⟩ := elems_of_own q1 (by omega)
 exact ⟨A, C, w', hrun, q1, q2, q3⟩
attribute [local go_sem ↓] run_fine in
set_option maxRecDepth 100000 in
set_option maxHeartbeats 8000000 in
theorem ksomeR_calls (w0 : World) (gr gp gw go : Nat) (who : Int) (z : List Int) (W : World) (n : Nat) (hR : Rd w0 gr z W) (hb : Below w0.heap.size w0 W) (hg : w0.heap.size ≤ gr) (hE : EnvK gr gp gw go who W) (hlen : z.length ≤ 1000000000000) (hn : n < 18446744073709551616) :
 Calls Tryz.prog 62 #[.int .u64 (n : Int), .func (.func 58) #[] #[.pointer (some ⟨go, 0, none⟩), .pointer (some ⟨gp, 0, none⟩)]] W (ReadsL w0 gr W (rdS (z, false) (2 * n)) n (fun w' v => Line w' v (mkP who (rdX (z, false)) n))) := by
 have hgr : gr < W.heap.size := hR.lt
 obtain ⟨E, HE⟩ : ∃ q, Hid (q = mkP who (rdX (z, false)) n) := ⟨_, rfl⟩
 rw [← HE.out]
 have Hlen := Lib.hid hlen; clear hlen
 have Hn := Lib.hid hn; clear hn
 have Hb := Lib.hid hb; clear hb
 have HR := Lib.hid hR; clear hR
 have HV := Lib.hid hgr
 go_enter Tryz.func62, Tryz.ntmps62
 go_wp2_with fail
 go_loopw [4, 6] (fun s4 s6 wr => ∃ k : Nat, k ≤ n ∧ s6 = .int .u64 (k : Int) ∧ Hid (ButG gr W wr) ∧ Hid ((rdS (z, false) (2 * k)).2 = false) ∧ Hid (Rd w0 gr (rdS (z, false) (2 * k)).1 wr) ∧ Hid (wr.ownsRow W.heap.size 67 3 s4 k (flatCells 3 k (fun i j => rqc (rqAt E i) j)))) (fun _ s6 _ => n - (intOf s6).toNat)
 case atStart => exact ⟨0, Nat.zero_le _, rfl, ButG.refl _ _, rfl, HR.out, World.ownsRow_nil _ _ _ _⟩
 case round =>
  obtain ⟨k, hk, rfl, HB, HS, HRk, HO⟩ := hrel
  by_cases hkm : k < n
  · have hkl : 2 * k ≤ z.length := rdS_atleast HS.out
    have hk12 : k ≤ 1000000000000 := by have := Hlen.out; omega
    obtain ⟨x, Hx⟩ : ∃ q, Hid (rqAt E k = q) := ⟨_, rfl⟩
    have hlk := kreq_calls w0 gr gp gw go who (rdS (z, false) (2 * k)).1 wr HRk.out (HB.out.from Hb.out hg) hg (hE.butG HB.out)
    rw [show ((rdS (z, false) (2 * k)).1, false) = rdS (z, false) (2 * k) from Prod.ext rfl HS.out.symm, rdS_add, rdX_add, rdX_add] at hlk
    have hx : (⟨rdX (z, false) (2 * k + 0), who, rdX (z, false) (2 * k + 1)⟩ : Rq) = x := by
     rw [← Hx.out, HE.out]
     unfold mkP rqAt
     rw [List.getElem?_map, List.getElem?_range hkm]
     rfl
    rw [show rqCells ⟨rdX (z, false) (2 * k + 0), who, rdX (z, false) (2 * k + 1)⟩ = rqCells x by rw [hx]] at hlk
    have j1 : (k : Int) < (n : Int) := by omega
    have hn64 : (n : Int) < 18446744073709551616 := by have := Hn.out; omega
    have HLK := Lib.hid hlk
    clear hlk hx
    go_wp2_with fail
    refine HLK.out.mono ?_
    rintro e w1 ⟨hG, ⟨hs, rfl, hR⟩ | ⟨hs, rfl⟩⟩
    rotate_left 1
    · have hf : (rdS (z, false) (2 * n)).2 = true := rdS_flag_le hs (by omega)
      have HB9 := Lib.hid (HB.out.trans hG)
      clear hs hG HLK
      go_wp2_with fail
      exact ⟨rfl, HB9.out, Or.inr ⟨hf, rfl⟩⟩
    have HO1 := Lib.hid (own_later (own_butG HO.out hG hgr) (below_box w1 (.cells (rqCells x) 67)))
    have hbase : W.heap.size ≤ w1.heap.size := Nat.le_trans HB.out.size hG.size
    obtain ⟨A9, C9, w9, hrun, q1, q2, q3⟩ := req_more (E := E) (k := k) (x := x) Hx.out HO1.out (Whole.made w1 67 (rqCells x)) hk12 (Nat.le_trans hbase (below_box w1 _).size)
    obtain ⟨hf5, hv5, hw5⟩ := fine_of hrun
    have HB9 := Lib.hid (((HB.out.trans hG).next (below_box w1 (.cells (rqCells x) 67))).grown q2)
    have HR9 : Hid (Rd w0 gr (rdS (z, false) (2 * (k + 1))).1 w9) := by
     show Rd _ _ _ _
     rw [show 2 * (k + 1) = 2 * k + 2 by omega]
     obtain ⟨v, r1, r2⟩ := hR
     exact ⟨v, (r1.later (below_box w1 _) r1.lt).later q2 hgr, r2⟩
    have HS9 : Hid ((rdS (z, false) (2 * (k + 1))).2 = false) := by show _ = _; rw [show 2 * (k + 1) = 2 * k + 2 by omega]; exact hs
    have HO9 := Lib.hid q1
    clear q1 q2 q3 hrun hs hR hG HO1 HO HRk HB HLK hkl hbase
    go_wp2_with fail
    go_roundw
    case rel => exact ⟨k + 1, by omega, by go_num, HB9.out, HS9.out, HR9.out, HO9.out⟩
    case measure => simp [intOf]; omega
  · obtain rfl : k = n := by omega
    have hl := rdS_atleast HS.out
    have hl2 := Hlen.out
    obtain ⟨A9, C9, hv9, hE9, hA9⟩ := own_bounds HO.out (by omega)
    subst hv9
    have HE9 : Hid (Line wr (.slice A9 k C9) E) := by
     show Elems _ _ _ _ _
     rw [show E.length = k by rw [HE.out]; exact mkP_len _ _ _]
     exact hE9
    clear hE9 hl hl2
    go_wp2_with fail
    go_ret
    exact ⟨HB.out, Or.inl ⟨HS.out, ⟨A9, C9, rfl, HE9.out, hA9⟩, HRk.out⟩⟩
attribute [local go_sem ↓] run_fine in
set_option maxRecDepth 100000 in
set_option maxHeartbeats 8000000 in
theorem ksomeO_calls (w0 : World) (gr gp gw go : Nat) (who : Int) (z : List Int) (W : World) (n : Nat) (hR : Rd w0 gr z W) (hb : Below w0.heap.size w0 W) (hg : w0.heap.size ≤ gr) (hE : EnvK gr gp gw go who W) (hlen : z.length ≤ 1000000000000) (hn : n < 18446744073709551616) :
 Calls Tryz.prog 64 #[.int .u64 (n : Int), .func (.func 60) #[] #[.pointer (some ⟨go, 0, none⟩), .pointer (some ⟨gp, 0, none⟩)]] W (ReadsL w0 gr W (rdS (z, false) (2 * n)) n (fun w' v => Line w' v (mkP who (rdX (z, false)) n))) := by
 have hgr : gr < W.heap.size := hR.lt
 obtain ⟨E, HE⟩ : ∃ q, Hid (q = mkP who (rdX (z, false)) n) := ⟨_, rfl⟩
 rw [← HE.out]
 have Hlen := Lib.hid hlen; clear hlen
 have Hn := Lib.hid hn; clear hn
 have Hb := Lib.hid hb; clear hb
 have HR := Lib.hid hR; clear hR
 have HV := Lib.hid hgr
 go_enter Tryz.func64, Tryz.ntmps64
 go_wp2_with fail
 go_loopw [4, 6] (fun s4 s6 wr => ∃ k : Nat, k ≤ n ∧ s6 = .int .u64 (k : Int) ∧ Hid (ButG gr W wr) ∧ Hid ((rdS (z, false) (2 * k)).2 = false) ∧ Hid (Rd w0 gr (rdS (z, false) (2 * k)).1 wr) ∧ Hid (wr.ownsRow W.heap.size 69 3 s4 k (flatCells 3 k (fun i j => rqc (rqAt E i) j)))) (fun _ s6 _ => n - (intOf s6).toNat)
 case atStart => exact ⟨0, Nat.zero_le _, rfl, ButG.refl _ _, rfl, HR.out, World.ownsRow_nil _ _ _ _⟩
 case round =>
  obtain ⟨k, hk, rfl, HB, HS, HRk, HO⟩ := hrel
  by_cases hkm : k < n
  · have hkl : 2 * k ≤ z.length := rdS_atleast HS.out
    have hk12 : k ≤ 1000000000000 := by have := Hlen.out; omega
    obtain ⟨x, Hx⟩ : ∃ q, Hid (rqAt E k = q) := ⟨_, rfl⟩
    have hlk := kout_calls w0 gr gp gw go who (rdS (z, false) (2 * k)).1 wr HRk.out (HB.out.from Hb.out hg) hg (hE.butG HB.out)
    rw [show ((rdS (z, false) (2 * k)).1, false) = rdS (z, false) (2 * k) from Prod.ext rfl HS.out.symm, rdS_add, rdX_add, rdX_add] at hlk
    have hx : (⟨rdX (z, false) (2 * k + 0), who, rdX (z, false) (2 * k + 1)⟩ : Rq) = x := by
     rw [← Hx.out, HE.out]
     unfold mkP rqAt
     rw [List.getElem?_map, List.getElem?_range hkm]
     rfl
    rw [show rqCells ⟨rdX (z, false) (2 * k + 0), who, rdX (z, false) (2 * k + 1)⟩ = rqCells x by rw [hx]] at hlk
    have j1 : (k : Int) < (n : Int) := by omega
    have hn64 : (n : Int) < 18446744073709551616 := by have := Hn.out; omega
    have HLK := Lib.hid hlk
    clear hlk hx
    go_wp2_with fail
    refine HLK.out.mono ?_
    rintro e w1 ⟨hG, ⟨hs, rfl, hR⟩ | ⟨hs, rfl⟩⟩
    rotate_left 1
    · have hf : (rdS (z, false) (2 * n)).2 = true := rdS_flag_le hs (by omega)
      have HB9 := Lib.hid (HB.out.trans hG)
      clear hs hG HLK
      go_wp2_with fail
      exact ⟨rfl, HB9.out, Or.inr ⟨hf, rfl⟩⟩
    have HO1 := Lib.hid (own_later (own_butG HO.out hG hgr) (below_box w1 (.cells (rqCells x) 69)))
    have hbase : W.heap.size ≤ w1.heap.size := Nat.le_trans HB.out.size hG.size
    obtain ⟨A9, C9, w9, hrun, q1, q2, q3⟩ := out_more (E := E) (k := k) (x := x) Hx.out HO1.out (Whole.made w1 69 (rqCells x)) hk12 (Nat.le_trans hbase (below_box w1 _).size)
    obtain ⟨hf5, hv5, hw5⟩ := fine_of hrun
    have HB9 := Lib.hid (((HB.out.trans hG).next (below_box w1 (.cells (rqCells x) 69))).grown q2)
    have HR9 : Hid (Rd w0 gr (rdS (z, false) (2 * (k + 1))).1 w9) := by
     show Rd _ _ _ _
     rw [show 2 * (k + 1) = 2 * k + 2 by omega]
     obtain ⟨v, r1, r2⟩ := hR
     exact ⟨v, (r1.later (below_box w1 _) r1.lt).later q2 hgr, r2⟩
    have HS9 : Hid ((rdS (z, false) (2 * (k + 1))).2 = false) := by show _ = _; rw [show 2 * (k + 1) = 2 * k + 2 by omega]; exact hs
    have HO9 := Lib.hid q1
    clear q1 q2 q3 hrun hs hR hG HO1 HO HRk HB HLK hkl hbase
    go_wp2_with fail
    go_roundw
    case rel => exact ⟨k + 1, by omega, by go_num, HB9.out, HS9.out, HR9.out, HO9.out⟩
    case measure => simp [intOf]; omega
  · obtain rfl : k = n := by omega
    have hl := rdS_atleast HS.out
    have hl2 := Hlen.out
    obtain ⟨A9, C9, hv9, hE9, hA9⟩ := own_bounds HO.out (by omega)
    subst hv9
    have HE9 : Hid (Line wr (.slice A9 k C9) E) := by
     show Elems _ _ _ _ _
     rw [show E.length = k by rw [HE.out]; exact mkP_len _ _ _]
     exact hE9
    clear hE9 hl hl2
    go_wp2_with fail
    go_ret
    exact ⟨HB.out, Or.inl ⟨HS.out, ⟨A9, C9, rfl, HE9.out, hA9⟩, HRk.out⟩⟩
attribute [local go_sem ↓] run_fine in
set_option maxRecDepth 100000 in
set_option maxHeartbeats 8000000 in
theorem ksomeN_calls (w0 : World) (gr : Nat) (z : List Int) (W : World) (n : Nat) (hR : Rd w0 gr z W) (hb : Below w0.heap.size w0 W) (hg : w0.heap.size ≤ gr) (hn16 : n ≤ 16) (hlen : z.length ≤ 1000000000000) (hn : n < 18446744073709551616) :
 Calls Tryz.prog 65 #[.int .u64 (n : Int), .func (.func 66) #[.pointer (some ⟨gr, 0, none⟩)] #[]] W (ReadsL w0 gr W (rdS (z, false) (7 * n)) n (fun w' v => Notes w' v (mkT (rdX (z, false)) n))) := by
 have hgr : gr < W.heap.size := hR.lt
 obtain ⟨E, HE⟩ : ∃ q, Hid (q = mkT (rdX (z, false)) n) := ⟨_, rfl⟩
 rw [← HE.out]
 have Hlen := Lib.hid hlen; clear hlen
 have Hn := Lib.hid hn; clear hn
 have Hb := Lib.hid hb; clear hb
 have HR := Lib.hid hR; clear hR
 have HV := Lib.hid hgr
 go_enter Tryz.func65, Tryz.ntmps65
 go_wp2_with fail
 go_loopw [4, 6] (fun s4 s6 wr => ∃ k : Nat, k ≤ n ∧ s6 = .int .u64 (k : Int) ∧ Hid (ButG gr W wr) ∧ Hid ((rdS (z, false) (7 * k)).2 = false) ∧ Hid (Rd w0 gr (rdS (z, false) (7 * k)).1 wr) ∧ Hid (wr.ownsRow W.heap.size 71 7 s4 k (flatCells 7 k (fun i j => ntc (ntAt E i) j)))) (fun _ s6 _ => n - (intOf s6).toNat)
 case atStart => exact ⟨0, Nat.zero_le _, rfl, ButG.refl _ _, rfl, HR.out, World.ownsRow_nil _ _ _ _⟩
 case round =>
  obtain ⟨k, hk, rfl, HB, HS, HRk, HO⟩ := hrel
  by_cases hkm : k < n
  · have hkl : 7 * k ≤ z.length := rdS_atleast HS.out
    have hk12 : k ≤ 1000 := by omega
    obtain ⟨x, Hx⟩ : ∃ q, Hid (ntAt E k = q) := ⟨_, rfl⟩
    have hlk := knote_calls w0 gr (rdS (z, false) (7 * k)).1 wr HRk.out (HB.out.from Hb.out hg) hg
    rw [show ((rdS (z, false) (7 * k)).1, false) = rdS (z, false) (7 * k) from Prod.ext rfl HS.out.symm, rdS_add, rdX_add, rdX_add, rdX_add, rdX_add, rdX_add, rdX_add, rdX_add] at hlk
    have hx : (⟨rdX (z, false) (7 * k + 0), rdX (z, false) (7 * k + 1), rdX (z, false) (7 * k + 2), rdX (z, false) (7 * k + 3), rdX (z, false) (7 * k + 4), rdX (z, false) (7 * k + 5), rdX (z, false) (7 * k + 6)⟩ : Nt) = x := by
     rw [← Hx.out, HE.out]
     unfold mkT ntAt
     rw [List.getElem?_map, List.getElem?_range hkm]
     rfl
    rw [show (#[.int .i64 (rdX (z, false) (7 * k + 0)), .int .i64 (rdX (z, false) (7 * k + 1)), .int .i64 (rdX (z, false) (7 * k + 2)), .int .i64 (rdX (z, false) (7 * k + 3)), .int .i64 (rdX (z, false) (7 * k + 4)), .int .i64 (rdX (z, false) (7 * k + 5)), .int .i64 (rdX (z, false) (7 * k + 6))] : Array Value) = ntCells x by rw [← hx]] at hlk
    have j1 : (k : Int) < (n : Int) := by omega
    have hn64 : (n : Int) < 18446744073709551616 := by have := Hn.out; omega
    have HLK := Lib.hid hlk
    clear hlk hx
    go_wp2_with fail
    refine HLK.out.mono ?_
    rintro e w1 ⟨hG, ⟨hs, rfl, hR⟩ | ⟨hs, rfl⟩⟩
    rotate_left 1
    · have hf : (rdS (z, false) (7 * n)).2 = true := rdS_flag_le hs (by omega)
      have HB9 := Lib.hid (HB.out.trans hG)
      clear hs hG HLK
      go_wp2_with fail
      exact ⟨rfl, HB9.out, Or.inr ⟨hf, rfl⟩⟩
    have HO1 := Lib.hid (own_later (own_butG HO.out hG hgr) (below_box w1 (.cells (ntCells x) 71)))
    have hbase : W.heap.size ≤ w1.heap.size := Nat.le_trans HB.out.size hG.size
    obtain ⟨A9, C9, w9, hrun, q1, q2, q3⟩ := nt_push_at (E := E) (k := k) (x := x) Hx.out HO1.out (Whole.made w1 71 (ntCells x)) hk12 (Nat.le_trans hbase (below_box w1 _).size)
    obtain ⟨hf5, hv5, hw5⟩ := fine_of hrun
    have HB9 := Lib.hid (((HB.out.trans hG).next (below_box w1 (.cells (ntCells x) 71))).grown q2)
    have HR9 : Hid (Rd w0 gr (rdS (z, false) (7 * (k + 1))).1 w9) := by
     show Rd _ _ _ _
     rw [show 7 * (k + 1) = 7 * k + 7 by omega]
     obtain ⟨v, r1, r2⟩ := hR
     exact ⟨v, (r1.later (below_box w1 _) r1.lt).later q2 hgr, r2⟩
    have HS9 : Hid ((rdS (z, false) (7 * (k + 1))).2 = false) := by show _ = _; rw [show 7 * (k + 1) = 7 * k + 7 by omega]; exact hs
    have HO9 := Lib.hid q1
    clear q1 q2 q3 hrun hs hR hG HO1 HO HRk HB HLK hkl hbase
    go_wp2_with fail
    go_roundw
    case rel => exact ⟨k + 1, by omega, by go_num, HB9.out, HS9.out, HR9.out, HO9.out⟩
    case measure => simp [intOf]; omega
  · obtain rfl : k = n := by omega
    have hl := rdS_atleast HS.out
    have hl2 := Hlen.out
    obtain ⟨A9, C9, hv9, hE9, hA9⟩ := own_bounds HO.out (by omega)
    subst hv9
    have HE9 : Hid (Notes wr (.slice A9 k C9) E) := by
     show Elems _ _ _ _ _
     rw [show E.length = k by rw [HE.out]; exact mkT_len _ _]
     exact hE9
    clear hE9 hl hl2
    go_wp2_with fail
    go_ret
    exact ⟨HB.out, Or.inl ⟨HS.out, ⟨A9, C9, rfl, HE9.out, hA9⟩, HRk.out⟩⟩
end Go.Proofs.YtnkgakhnlbifdaaGreat
