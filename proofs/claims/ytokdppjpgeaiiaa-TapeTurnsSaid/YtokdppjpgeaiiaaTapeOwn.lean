/- Package tape, walked: own, Turn, Wipe. No law is proved here. -/
import Derived.Test.YtokdppjpgeaiiaaTapeSmall
import Derived.Test.YtokdppjpgeaiiaaEachTape
import Derived.WalkKit
import Derived.ProofKit
import Derived.OpenShut
import Derived.WalkSpells
import Derived.Laws.AppendOwn
import Derived.Laws.AppendOwnNone
import Derived.Laws.OwnMore
import Derived.Lib.Hide
import Derived.Deep.Draws
import Derived.RegionTactic
import Derived.LoopTactic
import Derived.BigRegion
import Derived.Deep.LoopGhost
import Derived.Lib.MinMax
import Derived.IntWalk
import Derived.Deep.RegionHeld3
namespace Go.Proofs.Ytokdppjpgeaiiaa
open Go.RowKit

/-- an area of the call's own: what a call to laid answers of bytes of one's own -/
def OwnA (B : Nat) (w : World) (x : ArS) (a : Ar) : Prop := AB w x a ∧ ∀ g, g < B → AOff g x a
theorem OwnA.later {B : Nat} {w w' : World} {x : ArS} {a : Ar} (h : OwnA B w x a) (hb : Below w.heap.size w w') : OwnA B w' x a := ⟨h.1.later hb, h.2⟩
theorem below_four_at {B : Nat} {w w1 : World} {g : Nat} (hb : Below B w w1) (hg : B ≤ g) (x0 x1 x2 x3 : Value) : Below B w ((((w1.setCell ⟨g, 0, none⟩ x0).setCell ⟨g, 1, none⟩ x1).setCell ⟨g, 2, none⟩ x2).setCell ⟨g, 3, none⟩ x3) :=
  (((hb.setCell (p := ⟨g, 0, none⟩) hg x0).setCell (p := ⟨g, 1, none⟩) hg x1).setCell (p := ⟨g, 2, none⟩) hg x2).setCell (p := ⟨g, 3, none⟩) hg x3
theorem ar_parts (a : Ar) : (⟨a.all.take a.s.length, a.all.drop a.s.length⟩ : Ar) = a := by
  obtain ⟨s, l⟩ := a
  simp [Ar.all]

set_option maxRecDepth 100000 in
set_option maxHeartbeats 8000000 in
theorem own_calls (x : TpS) (t : Tp) (w : World) (h : TB w x t) (hf : t.fits 1000000) : Calls Try.prog 26 #[tpV x] w (Taped w (fun _ => True) t) := by
  obtain ⟨⟨⟨a1, n1, c1⟩, ⟨a2, n2, c2⟩⟩, ⟨⟨a3, n3, c3⟩, ⟨a4, n4, c4⟩⟩⟩ := x
  have H := Lib.hid h; clear h
  have HF := Lib.hid hf; clear hf
  have hk1 : n1 ≤ t.m.all.length := by have := H.out.1.1.1; simp only at this; unfold Ar.all; rw [List.length_append]; omega
  have hk2 : n3 ≤ t.s.all.length := by have := H.out.2.1.1; simp only at this; unfold Ar.all; rw [List.length_append]; omega
  have HP1 : Hid ((⟨t.m.all.take n1, t.m.all.drop n1⟩ : Ar) = t.m) := by have := H.out.1.1.1; simp only at this; rw [this]; exact ar_parts t.m
  have HP2 : Hid ((⟨t.s.all.take n3, t.s.all.drop n3⟩ : Ar) = t.s) := by have := H.out.2.1.1; simp only at this; rw [this]; exact ar_parts t.s
  have HL1 : Hid (t.m.all.length ≤ 9223372036854775807) := by have := HF.out.1.1; have := HF.out.1.2; show _ ≤ _; unfold Ar.all; rw [List.length_append]; omega
  have HL2 : Hid (t.s.all.length ≤ 9223372036854775807) := by have := HF.out.2.1; have := HF.out.2.2; show _ ≤ _; unfold Ar.all; rw [List.length_append]; omega
  have Hk1 := Lib.hid hk1
  have Hk2 := Lib.hid hk2
  clear hk1 hk2
  obtain ⟨W1, hW1⟩ : ∃ z, (w.alloc (.cells #[.slice a1 n1 c1, .slice a2 n2 c2, .slice a3 n3 c3, .slice a4 n4 c4] 26)).alloc (.cells #[.slice none 0 0, .slice none 0 0, .slice none 0 0, .slice none 0 0] 26) = z := ⟨_, rfl⟩
  have HW : Hid (Whole W1 w.heap.size 26 #[.slice a1 n1 c1, .slice a2 n2 c2, .slice a3 n3 c3, .slice a4 n4 c4]) := by rw [← hW1]; exact (Whole.made w _ _).alloc _
  have HZ : Hid (Whole W1 (w.heap.size + 1) 26 #[.slice none 0 0, .slice none 0 0, .slice none 0 0, .slice none 0 0]) := by rw [← hW1]; exact Whole.made2 w _ _ _
  have Hb0 : Hid (Below w.heap.size w W1) := by rw [← hW1]; exact below_two w _ _
  have Hsz : Hid (w.heap.size + 1 < W1.heap.size) := HZ.out.lt
  have KP : Hid (∀ w', Below (w.heap.size + 1) W1 w' → w'.cell? ⟨w.heap.size, 0, none⟩ = some (.slice a1 n1 c1) ∧ w'.cell? ⟨w.heap.size, 1, none⟩ = some (.slice a2 n2 c2) ∧ w'.cell? ⟨w.heap.size, 2, none⟩ = some (.slice a3 n3 c3) ∧ w'.cell? ⟨w.heap.size, 3, none⟩ = some (.slice a4 n4 c4)) :=
    fun w' h => ⟨(HW.out.later h (Nat.lt_succ_self _)).cell 0, (HW.out.later h (Nat.lt_succ_self _)).cell 1, (HW.out.later h (Nat.lt_succ_self _)).cell 2, (HW.out.later h (Nat.lt_succ_self _)).cell 3⟩
  have O1 := Lib.hid (tbytes_calls ⟨⟨a1, n1, c1⟩, ⟨a2, n2, c2⟩⟩ t.m W1.drew (H.out.1.later Hb0.out.drew) HF.out.1)
  show Calls Try.prog 26 #[.agg #[.slice a1 n1 c1, .slice a2 n2 c2, .slice a3 n3 c3, .slice a4 n4 c4]] w _
  go_enter Try.func26, Try.ntmps26
  go_wp2_with fail
  clear hW1
  go_region_held3 (fun w' => w'.cell? ⟨w.heap.size, 0, none⟩ = some (.slice a1 n1 c1) ∧ w'.cell? ⟨w.heap.size, 1, none⟩ = some (.slice a2 n2 c2) ∧ w'.cell? ⟨w.heap.size, 2, none⟩ = some (.slice a3 n3 c3) ∧ w'.cell? ⟨w.heap.size, 3, none⟩ = some (.slice a4 n4 c4))
    (first | exact KP.out _ (Below.refl _ _).drew | exact KP.out _ Hba.out | exact KP.out _ Hbc.out | exact KP.out _ Hbd.out | exact KP.out _ Hbe.out | exact KP.out _ (below_four_at Hbe.out (Nat.le_refl _) _ _ _ _))
    (first
      | (go_at_call 13; have hcall := O1.out; (with_reducible refine hcall.mono ?_); clear hcall; rintro e wa ⟨v1, rfl, hO, hb⟩; obtain ⟨⟨b1, m1, d1⟩, rfl, hS, ho⟩ := hO.sl HL1.out; have HSa := Lib.hid hS; have HOa := Lib.hid ho; have HbA : Hid (Below W1.heap.size W1 wa) := (Below.refl _ _).drew.trans hb; have Hba : Hid (Below (w.heap.size + 1) W1 wa) := HbA.out.mono (Nat.le_of_lt Hsz.out); clear hO hb hS ho)
      | (go_at_call 28; have hcall := laid_calls ⟨b1, m1, d1⟩ t.m.all n1 wa HSa.out (by rw [HSa.out.1]; exact Hk1.out); rw [HP1.out] at hcall; (with_reducible refine hcall.mono ?_); clear hcall; rintro e wc ⟨⟨⟨b2, m2, d2⟩, ⟨b3, m3, d3⟩⟩, rfl, hA, ho, hb⟩; have HAc : Hid (OwnA W1.heap.size wc ⟨⟨b2, m2, d2⟩, ⟨b3, m3, d3⟩⟩ t.m) := ⟨hA, fun g hg => ho g (Nat.lt_of_lt_of_le hg HbA.out.size) (HOa.out g hg)⟩; have HbC : Hid (Below W1.heap.size W1 wc) := held_next HbA.out hb; have Hbc : Hid (Below (w.heap.size + 1) W1 wc) := HbC.out.mono (Nat.le_of_lt Hsz.out); clear hA ho hb)
      | (go_at_call 13; have hcall := tbytes_calls ⟨⟨a3, n3, c3⟩, ⟨a4, n4, c4⟩⟩ t.s wc (H.out.2.later (held_next Hb0.out HbC.out)) HF.out.2; (with_reducible refine hcall.mono ?_); clear hcall; rintro e wd ⟨v1, rfl, hO, hb⟩; obtain ⟨⟨b4, m4, d4⟩, rfl, hS, ho⟩ := hO.sl HL2.out; have HSd := Lib.hid hS; have HOd := Lib.hid ho; have HAd := Lib.hid (HAc.out.later hb); have HbD : Hid (Below W1.heap.size W1 wd) := held_next HbC.out hb; have Hbd : Hid (Below (w.heap.size + 1) W1 wd) := HbD.out.mono (Nat.le_of_lt Hsz.out); clear hO hb hS ho)
      | (go_at_call 28; have hcall := laid_calls ⟨b4, m4, d4⟩ t.s.all n3 wd HSd.out (by rw [HSd.out.1]; exact Hk2.out); rw [HP2.out] at hcall; (with_reducible refine hcall.mono ?_); clear hcall; rintro e we ⟨⟨⟨b5, m5, d5⟩, ⟨b6, m6, d6⟩⟩, rfl, hA, ho, hb⟩; have HBe : Hid (OwnA W1.heap.size we ⟨⟨b5, m5, d5⟩, ⟨b6, m6, d6⟩⟩ t.s) := ⟨hA, fun g hg => ho g (Nat.lt_of_lt_of_le hg HbD.out.size) (HOd.out g (Nat.lt_of_lt_of_le hg HbC.out.size))⟩; have HAe := Lib.hid (HAd.out.later hb); have HbE : Hid (Below W1.heap.size W1 we) := held_next HbD.out hb; have Hbe : Hid (Below (w.heap.size + 1) W1 we) := HbE.out.mono (Nat.le_of_lt Hsz.out); have HZe := Lib.hid (HZ.out.later HbE.out HZ.out.lt); have z0 := HZe.out.cell 0; have z1 := HZe.out.cell 1; have z2 := HZe.out.cell 2; have z3 := HZe.out.cell 3; have y0 := HZe.out.free 0; have y1 := HZe.out.free 1; have y2 := HZe.out.free 2; have y3 := HZe.out.free 3; clear hA ho hb))
  all_goals go_wp2_with fail
  all_goals have hL := tape_left4 HZe.out (.slice b2 m2 d2) (.slice b3 m3 d3) (.slice b5 m5 d5) (.slice b6 m6 d6)
  all_goals have k0 := hL.cell 0
  all_goals have k1 := hL.cell 1
  all_goals have k2 := hL.cell 2
  all_goals have k3 := hL.cell 3
  all_goals refine bodyPost_ret (v := .agg #[.slice b2 m2 d2, .slice b3 m3 d3, .slice b5 m5 d5, .slice b6 m6 d6]) (by simp [results, Try.results26, go_sem, k0, k1, k2, k3]) rfl ?_
  all_goals have hz := Hsz.out
  all_goals exact ⟨⟨⟨⟨b2, m2, d2⟩, ⟨b3, m3, d3⟩⟩, ⟨⟨b5, m5, d5⟩, ⟨b6, m6, d6⟩⟩⟩, rfl, ⟨HAe.out.1.four (HAe.out.2 _ hz) _ _ _ _, HBe.out.1.four (HBe.out.2 _ hz) _ _ _ _⟩, fun g hg _ => ⟨HAe.out.2 g (by omega), HBe.out.2 g (by omega)⟩, below_four (held_next Hb0.out HbE.out) (Nat.le_succ _) _ _ _ _⟩
end Go.Proofs.Ytokdppjpgeaiiaa
