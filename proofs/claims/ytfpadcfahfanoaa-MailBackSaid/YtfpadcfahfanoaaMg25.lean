/- Merged texts: Ref04Same, RefRightsSame, RefRightsShort. No law is proved here. -/
import Derived.Test.YtfpadcfahfanoaaRowWorld
import Derived.Deep.QuietTactic
import Derived.BigQuiet
import Derived.LoopTactic
import Derived.WalkSmall
import Derived.Test.YtfpadcfahfanoaaRightsWords
import Derived.WalkKit
import Derived.ProofKit
import Derived.OpenShut
import Derived.WalkSpells
import Derived.Laws.AppendOwn
import Derived.Laws.AppendOwnNone
import Derived.Laws.OwnMore
import Derived.Lib.Hide
import Derived.Deep.Draws
import Derived.Deep.Slices
import Derived.Deep.Fields
import Derived.ChangeSame
import Derived.RegionTactic
import Derived.Maps.AppendAt
import Derived.Lib.SmallJoins
import Derived.RangeFuncNested
import Derived.RangeFuncBound
import Derived.RangeFuncLeaves
import Derived.RangeFuncBox
import Derived.Laws.MakeOwn
import Derived.Deep.RegionHeld3
/- The document's own Same. No law is proved here. -/
namespace Go.Proofs.Ytfpadcfahfanoaa
open Go.RowKit

section
variable (a : Option Addr) (n c : Nat) (b : Option Addr) (m d : Nat) (i u j v : Int) (la lb : List Int) (hn : n = la.length) (hm : m = lb.length) (w : World) (hA : Nums w (.slice a n c) la) (hB : Nums w (.slice b m d) lb)
include hn hm hA hB

set_option maxHeartbeats 1000000 in
theorem refsame_no (h : ¬ (n = m ∧ i = j ∧ u = v)) : Calls Try.prog 44 #[rowV i u (.slice a n c), rowV j v (.slice b m d)] w (Says w false) := by
  have hbig : n ≤ 9223372036854775807 := by rw [hn]; exact hA.1
  have hbig2 : m ≤ 9223372036854775807 := by rw [hm]; exact hB.1
  clear hn hm hA hB
  by_cases h1 : n = m
  · obtain rfl := h1
    by_cases h2 : i = j
    · obtain rfl := h2
      have h3 : u ≠ v := fun e => h ⟨rfl, rfl, e⟩
      have h3' : (u != v) = true := bne_iff_ne.2 h3
      clear h
      go_enter Try.func44, Try.ntmps44
      go_wp2
      go_ret
      exact ⟨rfl, below_two w _ _⟩
    · have h3' : (i != j) = true := bne_iff_ne.2 h2
      clear h
      go_enter Try.func44, Try.ntmps44
      go_wp2
      go_ret
      exact ⟨rfl, below_two w _ _⟩
  · clear h
    have h1' : ((n : Int) != (m : Int)) = true := by simp; omega
    go_enter Try.func44, Try.ntmps44
    go_wp2
    go_ret
    exact ⟨rfl, below_two w _ _⟩
end

set_option maxRecDepth 100000 in
set_option maxHeartbeats 2000000 in
theorem refsame_loop (a : Option Addr) (n c : Nat) (b : Option Addr) (d : Nat) (i u j v : Int) (la lb : List Int) (hn : n = la.length) (hm : n = lb.length) (w : World) (hA : Nums w (.slice a n c) la) (hB : Nums w (.slice b n d) lb)
    (hi : i = j) (hu : u = v) : Calls Try.prog 44 #[rowV i u (.slice a n c), rowV j v (.slice b n d)] w (Says w (sameB i u la j v lb)) := by
  have hbig : n ≤ 9223372036854775807 := by rw [hn]; exact hA.1
  subst hi hu
  obtain ⟨r, Hr⟩ : ∃ r, Hid (sameB i u la i u lb = r) := ⟨_, rfl⟩
  rw [Hr.out]
  have HA := Lib.hid hA; clear hA
  have HB := Lib.hid hB; clear hB
  have Hn := Lib.hid hn; clear hn
  have Hm := Lib.hid hm; clear hm
  have Hb0 := Lib.hid (below_two w (.cells #[.int .i64 i, .int .i64 u, .slice a n c] 59) (.cells #[.int .i64 i, .int .i64 u, .slice b n d] 59))
  have HWA := Lib.hid ((Whole.made w 59 #[.int .i64 i, .int .i64 u, .slice a n c]).alloc (.cells #[.int .i64 i, .int .i64 u, .slice b n d] 59))
  have HWB := Lib.hid (Whole.made2 w (.cells #[.int .i64 i, .int .i64 u, .slice a n c] 59) 59 #[.int .i64 i, .int .i64 u, .slice b n d])
  go_enter Try.func44, Try.ntmps44
  go_wp2
  go_loopw [5] (fun x wr => ∃ k : Nat, k ≤ n ∧ x = .int .i64 k ∧ Hid (∀ q, q < k → la[q]?.getD 0 = lb[q]?.getD 0) ∧ Hid (Below w.heap.size w wr) ∧ Hid (Whole wr w.heap.size 59 #[.int .i64 i, .int .i64 u, .slice a n c]) ∧ Hid (Whole wr (w.heap.size + 1) 59 #[.int .i64 i, .int .i64 u, .slice b n d])) (fun x _ => n - (intOf x).toNat)
  case atStart => exact ⟨0, Nat.zero_le _, rfl, fun q hq => absurd hq (Nat.not_lt_zero _), Hb0.out, HWA.out, HWB.out⟩
  case round =>
    obtain ⟨k, hk, rfl, Hl, Hb, HWa, HWb⟩ := hrel
    have a2 : wr.cell? ⟨w.heap.size, 2, none⟩ = some (.slice a n c) := HWa.out.cell 2
    have b2 : wr.cell? ⟨w.heap.size + 1, 2, none⟩ = some (.slice b n d) := HWb.out.cell 2
    by_cases hlt : k < n
    · obtain ⟨ba, oa, rfl, _, c0⟩ := HA.out.at (i := k) (by have := Hn.out; omega)
      obtain ⟨bb, ob, rfl, _, c1⟩ := HB.out.at (i := k) (by have := Hm.out; omega)
      have d0 := cell_later Hb.out c0
      have d1 := cell_later Hb.out c1
      clear c0 c1
      obtain ⟨x, Hx⟩ : ∃ x, Hid (la[k]?.getD 0 = x) := ⟨_, rfl⟩
      obtain ⟨y, Hy⟩ : ∃ y, Hid (lb[k]?.getD 0 = y) := ⟨_, rfl⟩
      rw [Hx.out] at d0
      rw [Hy.out] at d1
      have k0 : (0 : Int) ≤ (k : Int) := by omega
      have k1 : (k : Int) < (n : Int) := by omega
      by_cases hxy : x ≠ y
      · obtain rfl : r = false := by
          cases r with
          | false => rfl
          | true =>
            have := (of_decide_eq_true Hr.out).2.2
            subst this
            exact absurd (Hx.out.symm.trans Hy.out) hxy
        have hxy1 : (x != y) = true := bne_iff_ne.2 hxy
        go_wp2
        go_quiet (fail)
        go_wp2
        go_ret
        exact ⟨rfl, below_drewN Hb.out _⟩
      · obtain rfl : x = y := by omega
        clear hxy
        go_wp2
        go_quiet (fail)
        go_wp2
        go_roundw
        case rel => exact ⟨k + 1, by omega, by go_num, (fun q hq => by
            by_cases e : q = k
            · subst e; rw [Hx.out, Hy.out]
            · exact Hl.out q (by omega)), below_drewN Hb.out _, HWa.out, HWb.out⟩
        case measure => simp [intOf]; omega
    · have hkn : k = n := by omega
      have Hkn := Lib.hid hkn; clear hkn
      obtain rfl : r = true := Hr.out.symm.trans (decide_eq_true ⟨rfl, rfl, list_same (by rw [← Hn.out, ← Hm.out]) fun q hq => Hl.out q (by have := Hn.out; have := Hkn.out; omega)⟩)
      go_wp2
      go_ret
      exact ⟨rfl, Hb.out⟩
theorem refsame_calls (a : Option Addr) (n c : Nat) (b : Option Addr) (m d : Nat) (i u j v : Int) (la lb : List Int) (hn : n = la.length) (hm : m = lb.length) (w : World) (hA : Nums w (.slice a n c) la) (hB : Nums w (.slice b m d) lb) :
    Calls Try.prog 44 #[rowV i u (.slice a n c), rowV j v (.slice b m d)] w (Says w (sameB i u la j v lb)) := by
  by_cases h : n = m ∧ i = j ∧ u = v
  · obtain ⟨rfl, hi, hu⟩ := h
    exact refsame_loop a n c b d i u j v la lb hn hm w hA hB hi hu
  · rw [show sameB i u la j v lb = false from decide_eq_false fun ⟨h1, h2, h3⟩ => h ⟨by rw [hn, hm, h3], h1, h2⟩]
    exact refsame_no a n c b m d i u j v la lb hn hm w hA hB h
end Go.Proofs.Ytfpadcfahfanoaa

/- The document's own, walked: are books the same. No law is proved here. -/
namespace Go.Proofs.Ytfpadcfahfanoaa
open Go.RowKit

set_option maxRecDepth 100000 in
set_option maxHeartbeats 4000000 in
theorem refsamebooks_calls (a : Option Addr) (m d : Nat) (b : Option Addr) (n e : Nat) (la lb : List Rw) (hm : m = la.length) (hn : n = lb.length) (w : World) (hA : Books w (.slice a m d) la) (hB : Books w (.slice b n e) lb) :
    Calls Try.prog 22 #[.slice a m d, .slice b n e] w (Says w (sameL la lb)) := by
  have hbm : m ≤ 9223372036854775807 := by rw [hm]; exact hA.big
  have hbn : n ≤ 9223372036854775807 := by rw [hn]; exact hB.big
  have HA := Lib.hid hA; clear hA
  have HB := Lib.hid hB; clear hB
  have Hm := Lib.hid hm; clear hm
  have Hn := Lib.hid hn; clear hn
  obtain ⟨res, Hres⟩ : ∃ z, Hid (sameL la lb = z) := ⟨_, rfl⟩
  rw [Hres.out]
  by_cases hne : m ≠ n
  · obtain rfl : res = false := Hres.out.symm.trans (sameL_no fun h => hne (by rw [Hm.out, Hn.out, h.1]))
    have hne' : ((m : Int) != (n : Int)) = true := by simp; omega
    go_enter Try.func22, Try.ntmps22
    go_wp2
    go_ret
    exact ⟨rfl, Below.refl _ _⟩
  have hne' : m = n := by omega
  clear hne
  subst hne'
  go_enter Try.func22, Try.ntmps22
  go_wp2
  go_loopw [5] (fun x wr => ∃ k : Nat, k ≤ m ∧ x = .int .i64 k ∧ Hid (∀ q, q < k → sameB (at_ la q).inc (at_ la q).use (at_ la q).out (at_ lb q).inc (at_ lb q).use (at_ lb q).out = true) ∧ Hid (Below w.heap.size w wr)) (fun x _ => m - (intOf x).toNat)
  case atStart => exact ⟨0, Nat.zero_le _, rfl, fun q hq => absurd hq (Nat.not_lt_zero _), Below.refl _ _⟩
  case round =>
    obtain ⟨k, hk, rfl, Hl, Hb⟩ := hrel
    by_cases hlt : k < m
    · obtain ⟨g1, o1, A1, C1, rfl, _, c0, c1, c2, hN1⟩ := HA.out.at (k := k) (by have := Hm.out; omega)
      obtain ⟨g2, o2, A2, C2, rfl, _, d0, d1, d2, hN2⟩ := HB.out.at (k := k) (by have := Hn.out; omega)
      obtain ⟨v, Hv⟩ : ∃ z, Hid (sameB (at_ la k).inc (at_ la k).use (at_ la k).out (at_ lb k).inc (at_ lb k).use (at_ lb k).out = z) := ⟨_, rfl⟩
      have HN1 := Lib.hid hN1; clear hN1
      have HN2 := Lib.hid hN2; clear hN2
      obtain ⟨r1, R1⟩ : ∃ z, Hid (at_ la k = z) := ⟨_, rfl⟩
      obtain ⟨r2, R2⟩ : ∃ z, Hid (at_ lb k = z) := ⟨_, rfl⟩
      rw [R1.out] at c0 c1 c2 HN1 Hv
      rw [R2.out] at d0 d1 d2 HN2 Hv
      have KP : Hid (∀ w', Below wr.heap.size wr w' → (w'.cell? ⟨g1, o1 + k * 3, none⟩ = some (.int .i64 r1.inc) ∧ w'.cell? ⟨g1, o1 + k * 3 + 1, none⟩ = some (.int .i64 r1.use) ∧ w'.cell? ⟨g1, o1 + k * 3 + 2, none⟩ = some (.slice A1 r1.out.length C1)) ∧
          (w'.cell? ⟨g2, o2 + k * 3, none⟩ = some (.int .i64 r2.inc) ∧ w'.cell? ⟨g2, o2 + k * 3 + 1, none⟩ = some (.int .i64 r2.use) ∧ w'.cell? ⟨g2, o2 + k * 3 + 2, none⟩ = some (.slice A2 r2.out.length C2))) :=
        fun w' h => ⟨⟨cell_later (held_next Hb.out h) c0, cell_later (held_next Hb.out h) c1, cell_later (held_next Hb.out h) c2⟩, cell_later (held_next Hb.out h) d0, cell_later (held_next Hb.out h) d1, cell_later (held_next Hb.out h) d2⟩
      have OM : Hid (∀ w', Below wr.heap.size wr w' → Calls Try.prog 44 #[rowV r1.inc r1.use (.slice A1 r1.out.length C1), rowV r2.inc r2.use (.slice A2 r2.out.length C2)] w' (Says w' v)) := by
        rw [← Hv.out]
        exact fun w' h => refsame_calls A1 _ C1 A2 _ C2 r1.inc r1.use r2.inc r2.use r1.out r2.out rfl rfl w' (HN1.out.later (held_next Hb.out h)) (HN2.out.later (held_next Hb.out h))
      clear c0 c1 c2 d0 d1 d2
      have k0 : (0 : Int) ≤ (k : Int) := by omega
      have k1 : (k : Int) < (m : Int) := by omega
      go_wp2
      go_region_held3 (fun w' => (w'.cell? ⟨g1, o1 + k * 3, none⟩ = some (.int .i64 r1.inc) ∧ w'.cell? ⟨g1, o1 + k * 3 + 1, none⟩ = some (.int .i64 r1.use) ∧ w'.cell? ⟨g1, o1 + k * 3 + 2, none⟩ = some (.slice A1 r1.out.length C1)) ∧
          (w'.cell? ⟨g2, o2 + k * 3, none⟩ = some (.int .i64 r2.inc) ∧ w'.cell? ⟨g2, o2 + k * 3 + 1, none⟩ = some (.int .i64 r2.use) ∧ w'.cell? ⟨g2, o2 + k * 3 + 2, none⟩ = some (.slice A2 r2.out.length C2)))
        (first | exact KP.out _ (Below.refl _ _).drew | exact KP.out _ hS1)
        (first | (go_at_call 44; refine (OM.out _ (Below.refl _ _).drew).mono ?_; rintro ee w2 ⟨rfl, hb1⟩; have hS1 := held_next ((Below.refl _ _).drew) hb1))
      cases v with
      | true =>
        go_wp2
        go_roundw
        case rel => exact ⟨k + 1, by omega, by go_num, (fun q hq => by
          by_cases e : q = k
          · subst e; rw [R1.out, R2.out]; exact Hv.out
          · exact Hl.out q (by omega)), held_next Hb.out hS1⟩
        case measure => simp [intOf]; omega
      | false =>
        obtain rfl : res = false := Hres.out.symm.trans (sameL_no fun h => by
          have := h.2 k (by have := Hm.out; omega)
          rw [R1.out, R2.out, Hv.out] at this
          cases this)
        go_wp2
        go_ret
        exact ⟨by rfl, held_next Hb.out hS1⟩
    · have hkm : k = m := by omega
      obtain rfl : res = true := Hres.out.symm.trans (decide_eq_true ⟨by rw [← Hm.out, ← Hn.out], fun q hq => Hl.out q (by have := Hm.out; omega)⟩)
      have Hkm := Lib.hid hkm; clear hkm
      go_wp2
      go_ret
      exact ⟨by rfl, Hb.out⟩
end Go.Proofs.Ytfpadcfahfanoaa

/- The document's own, walked: are books short. No law is proved here. -/
namespace Go.Proofs.Ytfpadcfahfanoaa
open Go.RowKit

set_option maxRecDepth 100000 in
set_option maxHeartbeats 1000000 in
theorem refshort_calls (a : Option Addr) (m d : Nat) (l : List Rw) (hm : m = l.length) (hR : Reach l) (w : World) (hA : Books w (.slice a m d) l) :
    Calls Try.prog 10 #[.slice a m d] w (Says w (shortB l)) := by
  have hbm : m ≤ 17592186044416 := by rw [hm]; exact hR.1
  have HA := Lib.hid hA; clear hA
  have Hm := Lib.hid hm; clear hm
  have HR := Lib.hid hR; clear hR
  obtain ⟨res, Hres⟩ : ∃ z, Hid (shortB l = z) := ⟨_, rfl⟩
  rw [Hres.out]
  go_enter Try.func10, Try.ntmps10
  go_wp2
  go_loop [3, 4] (fun t x => ∃ k T : Nat, k ≤ m ∧ x = .int .i64 k ∧ t = .int .i64 T ∧ T ≤ 17592186045000 ∧ Hid (T = bulk l k)) (fun _ x => m - (intOf x).toNat)
  case atStart => exact ⟨0, m, Nat.zero_le _, rfl, rfl, by omega, Hm.out⟩
  case round =>
    obtain ⟨k, T, hk, rfl, rfl, hT, HT⟩ := hrel
    by_cases h4 : T ≤ 400
    · by_cases hlt : k < m
      · obtain ⟨g1, o1, A1, C1, rfl, _, _, _, c2, _⟩ := HA.out.at (k := k) (by have := Hm.out; omega)
        have hx := HR.out.2 k (by have := Hm.out; omega)
        obtain ⟨x, Hx⟩ : ∃ z, Hid ((at_ l k).out.length = z) := ⟨_, rfl⟩
        rw [Hx.out] at c2 hx
        have k0 : (0 : Int) ≤ (k : Int) := by omega
        have k1 : (k : Int) < (m : Int) := by omega
        go_wp2
        go_round
        case rel => exact ⟨k + 1, T + x, by omega, by go_num, by go_num, by omega, show _ = _ by rw [HT.out, ← Hx.out]; rfl⟩
        case measure => simp [intOf]; omega
      · have hkm : k = m := by omega
        obtain rfl : res = true := Hres.out.symm.trans (decide_eq_true (by rw [← Hm.out, ← hkm, ← HT.out]; exact h4))
        have Hkm := Lib.hid hkm; clear hkm
        go_wp2
        go_ret
        exact ⟨by simp; omega, Below.refl _ _⟩
    · obtain rfl : res = false := Hres.out.symm.trans (decide_eq_false fun h => by
        have := bulk_mono l k l.length (by have := Hm.out; omega)
        have := HT.out
        omega)
      go_wp2
      all_goals go_ret
      all_goals exact ⟨by simp; omega, Below.refl _ _⟩
end Go.Proofs.Ytfpadcfahfanoaa
