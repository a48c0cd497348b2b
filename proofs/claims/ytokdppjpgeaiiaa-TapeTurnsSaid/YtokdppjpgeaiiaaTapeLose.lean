/- Package tape, walked: Lose. No law is proved here. -/
import Derived.Test.YtokdppjpgeaiiaaTapeOwn
import Derived.WalkKit
import Derived.ProofKit
import Derived.OpenShut
import Derived.WalkSpells
import Derived.Laws.AppendOwn
import Derived.Laws.AppendOwnNone
import Derived.Laws.OwnMore
import Derived.Lib.Hide
import Derived.Deep.Draws
import Derived.RegionTactic
import Derived.LoopTactic
import Derived.BigRegion
import Derived.Deep.LoopGhost
import Derived.Lib.MinMax
import Derived.IntWalk
import Derived.Deep.RegionHeld3
namespace Go.Proofs.Ytokdppjpgeaiiaa
open Go.RowKit

/-- two cells written, whichever -/
theorem SB.pair {w1 : World} {g i j : Nat} {s : Sl} {zs : List Int} (h : SB w1 s zs) (hg : Off g s zs) (x0 x1 : Value) : SB ((w1.setCell ⟨g, i, none⟩ x0).setCell ⟨g, j, none⟩ x1) s zs := by
  refine h.past fun b hb => ?_
  rcases hg with h0 | hg
  · exact Or.inr h0
  · rcases hb with h0 | hb
    · exact Or.inr h0
    · have n2 : b ≠ g := fun e => hg (by rw [hb, e])
      refine Or.inl ?_
      rw [Below.heap_setCell _ _ _ _ n2, Below.heap_setCell _ _ _ _ n2]
theorem lost_parts {a : Ar} {keep : Int} {n1 n2 k : Nat} (h1 : n1 = a.s.length) (h2 : n2 = a.l.length) (hk : heldV keep n2 = k) : lostA a keep = ⟨(a.all.take (n1 + k)).take (n1 + k), (a.all.take (n1 + k)).drop (n1 + k)⟩ := by
  have e : (a.all.take (n1 + k)).drop (n1 + k) = [] := List.drop_eq_nil_of_le (by rw [List.length_take]; omega)
  rw [e, List.take_take, Nat.min_self]
  unfold lostA
  rw [← h1, ← h2, hk]
/-- what the rounds have done so far -/
def tpAt (t : Tp) (keep : Int) : Nat → Tp
  | 0 => t
  | 1 => ⟨lostA t.m keep, t.s⟩
  | _ => loseT t keep
def LoseAtX (x : TpS) (w : World) (t : Tp) (keep : Int) (i : Nat) (x' : TpS) (wr : World) : Prop :=
  Whole wr w.heap.size 26 (tpCells x') ∧ Whole wr (w.heap.size + 1) 26 #[.slice none 0 0, .slice none 0 0, .slice none 0 0, .slice none 0 0] ∧ Whole wr (w.heap.size + 2) 43 #[.pointer (some ⟨w.heap.size, 0, none⟩), .pointer (some ⟨w.heap.size, 2, none⟩)] ∧
    TB wr x' (tpAt t keep i) ∧ (∀ g, g < w.heap.size + 2 → TOff g x t → TOff g x' (tpAt t keep i)) ∧ Below w.heap.size w wr
set_option maxRecDepth 100000 in
set_option maxHeartbeats 16000000 in
theorem tLose_calls (x : TpS) (t : Tp) (keep : Int) (w : World) (h : TB w x t) (hf : t.fits 400000) : Calls Try.prog 23 #[tpV x, .int .i64 keep] w (Taped w (TOff · x t) (loseT t keep)) := by
  obtain ⟨⟨⟨a1, na1, ca1⟩, ⟨a2, na2, ca2⟩⟩, ⟨⟨a3, na3, ca3⟩, ⟨a4, na4, ca4⟩⟩⟩ := x
  have H := Lib.hid h; clear h
  have HF := Lib.hid hf; clear hf
  have HS0 : Hid (LoseAtX ⟨⟨⟨a1, na1, ca1⟩, ⟨a2, na2, ca2⟩⟩, ⟨⟨a3, na3, ca3⟩, ⟨a4, na4, ca4⟩⟩⟩ w t keep 0 ⟨⟨⟨a1, na1, ca1⟩, ⟨a2, na2, ca2⟩⟩, ⟨⟨a3, na3, ca3⟩, ⟨a4, na4, ca4⟩⟩⟩ (((w.alloc (.cells #[.slice a1 na1 ca1, .slice a2 na2 ca2, .slice a3 na3 ca3, .slice a4 na4 ca4] 26)).alloc (.cells #[.slice none 0 0, .slice none 0 0, .slice none 0 0, .slice none 0 0] 26)).alloc (.cells #[.pointer (some ⟨w.heap.size, 0, none⟩), .pointer (some ⟨w.heap.size, 2, none⟩)] 43))) := by
    have hb := (below_two w (.cells #[.slice a1 na1 ca1, .slice a2 na2 ca2, .slice a3 na3 ca3, .slice a4 na4 ca4] 26) (.cells #[.slice none 0 0, .slice none 0 0, .slice none 0 0, .slice none 0 0] 26)).alloc (by simp; omega) (.cells #[.pointer (some ⟨w.heap.size, 0, none⟩), .pointer (some ⟨w.heap.size, 2, none⟩)] 43)
    refine ⟨((Whole.made w _ _).alloc _).alloc _, (Whole.made2 w _ _ _).alloc _, Whole.madeAt _ _ _ _ (by simp), H.out.later hb, fun g _ h => h, hb⟩
  obtain ⟨W1, hW1⟩ : ∃ z, ((w.alloc (.cells #[.slice a1 na1 ca1, .slice a2 na2 ca2, .slice a3 na3 ca3, .slice a4 na4 ca4] 26)).alloc (.cells #[.slice none 0 0, .slice none 0 0, .slice none 0 0, .slice none 0 0] 26)).alloc (.cells #[.pointer (some ⟨w.heap.size, 0, none⟩), .pointer (some ⟨w.heap.size, 2, none⟩)] 43) = z := ⟨_, rfl⟩
  rw [hW1] at HS0
  show Calls Try.prog 23 #[.agg #[.slice a1 na1 ca1, .slice a2 na2 ca2, .slice a3 na3 ca3, .slice a4 na4 ca4], .int .i64 keep] w _
  go_enter Try.func23, Try.ntmps23
  go_wp2_with fail
  clear hW1
  go_loopg [12] 2 (fun gh s12 wr => ∃ (i : Nat) (x' : TpS), i + gh = 2 ∧ s12 = .int .i64 i ∧ Hid (LoseAtX ⟨⟨⟨a1, na1, ca1⟩, ⟨a2, na2, ca2⟩⟩, ⟨⟨a3, na3, ca3⟩, ⟨a4, na4, ca4⟩⟩⟩ w t keep i x' wr))
  case atStart => exact ⟨0, ⟨⟨⟨a1, na1, ca1⟩, ⟨a2, na2, ca2⟩⟩, ⟨⟨a3, na3, ca3⟩, ⟨a4, na4, ca4⟩⟩⟩, rfl, rfl, HS0.out⟩
  case round =>
    clear HS0
    obtain ⟨i, ⟨⟨⟨b1, nb1, cb1⟩, ⟨b2, nb2, cb2⟩⟩, ⟨⟨b3, nb3, cb3⟩, ⟨b4, nb4, cb4⟩⟩⟩, hg, rfl, HS⟩ := hrel
    have hi : i = 0 ∨ i = 1 ∨ i = 2 := by omega
    rcases hi with rfl | rfl | rfl
    · obtain rfl : gk = 2 := by omega
      have HX := Lib.hid HS.out.1
      have HZr := Lib.hid HS.out.2.1
      have HLr := Lib.hid HS.out.2.2.1
      have HTr : Hid (TB wr ⟨⟨⟨b1, nb1, cb1⟩, ⟨b2, nb2, cb2⟩⟩, ⟨⟨b3, nb3, cb3⟩, ⟨b4, nb4, cb4⟩⟩⟩ t) := HS.out.2.2.2.1
      have HOr : Hid (∀ g, g < w.heap.size + 2 → TOff g ⟨⟨⟨a1, na1, ca1⟩, ⟨a2, na2, ca2⟩⟩, ⟨⟨a3, na3, ca3⟩, ⟨a4, na4, ca4⟩⟩⟩ t → TOff g ⟨⟨⟨b1, nb1, cb1⟩, ⟨b2, nb2, cb2⟩⟩, ⟨⟨b3, nb3, cb3⟩, ⟨b4, nb4, cb4⟩⟩⟩ t) := HS.out.2.2.2.2.1
      have Hbr := Lib.hid HS.out.2.2.2.2.2
      have hn1 : nb1 ≤ 400000 := by rw [show nb1 = t.m.s.length from HTr.out.1.1.1]; exact HF.out.1.1
      have hn2 : nb2 ≤ 400000 := by rw [show nb2 = t.m.l.length from HTr.out.1.2.1]; exact HF.out.1.2
      obtain ⟨k, Hk⟩ : ∃ z, Hid (heldV keep nb2 = z) := ⟨_, rfl⟩
      have hk2 : k ≤ nb2 := by rw [← Hk.out]; exact heldV_le _ _
      have hsum : IntKind.i64.wrap ((nb1 : Int) + (k : Int)) = (nb1 : Int) + (k : Int) := IntWalk.i64_in _ (by omega)
      have Hla : Hid (lostA t.m keep = ⟨(t.m.all.take (nb1 + k)).take (nb1 + k), (t.m.all.take (nb1 + k)).drop (nb1 + k)⟩) := lost_parts (HTr.out.1.1.1) (HTr.out.1.2.1) Hk.out
      have KP : Hid (∀ w', Below wr.heap.size wr w' → w'.cell? ⟨w.heap.size, 0, none⟩ = some (.slice b1 nb1 cb1) ∧ w'.cell? ⟨w.heap.size, 1, none⟩ = some (.slice b2 nb2 cb2)) := fun w' h => ⟨(HX.out.later h HX.out.lt).cell 0, (HX.out.later h HX.out.lt).cell 1⟩
      have q0 := HX.out.cell 0
      have q1 := HX.out.cell 1
      have q2 := HX.out.cell 2
      have q3 := HX.out.cell 3
      have l0 := HLr.out.cell 0
      have hlt := HX.out.lt
      have hltz := HZr.out.lt
      go_wp2_with fail
      go_region_held3 (fun w' => w'.cell? ⟨w.heap.size, 0, none⟩ = some (.slice b1 nb1 cb1) ∧ w'.cell? ⟨w.heap.size, 1, none⟩ = some (.slice b2 nb2 cb2)) (first | exact KP.out _ (Below.refl _ _).drew | (refine KP.out _ ?_; assumption)) (first | (go_at_call 30; refine (kept_calls keep nb2 _).mono ?_; rw [Hk.out]; rintro e wn ⟨rfl, rfl⟩) | fail)
      have HXd : Hid (Whole wr.drew w.heap.size 26 #[.slice b1 nb1 cb1, .slice b2 nb2 cb2, .slice b3 nb3 cb3, .slice b4 nb4 cb4]) := HX.out.drew
      clear q0 q1 q2 q3 hsum
      have q0 := HXd.out.cell 0
      have q1 := HXd.out.cell 1
      have q2 := HXd.out.cell 2
      have q3 := HXd.out.cell 3
      go_wp2_with fail
      refine (tbytes_calls ⟨⟨b1, nb1, cb1⟩, ⟨b2, nb2, cb2⟩⟩ t.m wr.drew (HTr.out.1.later (Below.refl _ _).drew) ⟨by rw [← show nb1 = t.m.s.length from HTr.out.1.1.1]; omega, by rw [← show nb2 = t.m.l.length from HTr.out.1.2.1]; omega⟩).mono ?_
      rintro e w4 ⟨v4, rfl, hO4, hb⟩
      obtain ⟨⟨d0, nd0, cd0⟩, rfl, hS4, ho4⟩ := hO4.sl (by unfold Ar.all; rw [List.length_append, ← show nb1 = t.m.s.length from HTr.out.1.1.1, ← show nb2 = t.m.l.length from HTr.out.1.2.1]; omega)
      have Hb4 : Hid (Below wr.heap.size wr w4) := (Below.refl _ _).drew.trans hb
      have hn4 : nd0 = nb1 + nb2 := by have h : nd0 = t.m.all.length := hS4.1; rw [h]; unfold Ar.all; rw [List.length_append, ← show nb1 = t.m.s.length from HTr.out.1.1.1, ← show nb2 = t.m.l.length from HTr.out.1.2.1]
      obtain ⟨⟨d6, nd6, cd6⟩, hsl6, hS6, hO6⟩ := SB.upto hS4 (hi := nb1 + k) (by show _ ≤ nd0; omega)
      have HS6 := Lib.hid hS6
      have HO6 : Hid (∀ g, g < wr.heap.size → Off g ⟨d6, nd6, cd6⟩ (t.m.all.take (nb1 + k))) := fun g hg => hO6 g (ho4 g hg)
      have hsl : ∀ w, (Instr.slice 22 (.slice d0 nd0 cd0) none (some (.int .i64 ((nb1 : Int) + (k : Int)))) none).run Try.prog w = .ok (.slice d6 nd6 cd6) w := by
        intro w
        have h := hsl6 w
        rw [Int.natCast_add] at h
        exact h
      have hn6 : nb1 + k ≤ nd6 := by have h1 : nd6 = (t.m.all.take (nb1 + k)).length := hS6.1; have h2 : nd0 = t.m.all.length := hS4.1; rw [h1, List.length_take, ← h2]; omega
      have Hn6 := Lib.hid hn6
      clear hO4 hb hS4 ho4 hn4 hsl6 hS6 hO6 hn6 q0 q1 q2 q3
      go_wp2_with fail
      have hcall := laid_calls ⟨d6, nd6, cd6⟩ (t.m.all.take (nb1 + k)) (nb1 + k) w4 HS6.out Hn6.out
      rw [← Hla.out, Int.natCast_add] at hcall
      refine hcall.mono ?_
      clear hcall
      rintro e w5 ⟨⟨⟨d1, nd1, cd1⟩, ⟨d2, nd2, cd2⟩⟩, rfl, hA, ho, hb⟩
      have Hb5 : Hid (Below wr.heap.size wr w5) := held_next Hb4.out hb
      have HX5 := Lib.hid (HX.out.later Hb5.out HX.out.lt)
      have HZ5 := Lib.hid (HZr.out.later Hb5.out HZr.out.lt)
      have HL5 := Lib.hid (HLr.out.later Hb5.out HLr.out.lt)
      have HT5 := Lib.hid (HTr.out.later Hb5.out)
      have HA5 := Lib.hid hA
      have HO5 : Hid (∀ g, g < wr.heap.size → AOff g ⟨⟨d1, nd1, cd1⟩, ⟨d2, nd2, cd2⟩⟩ (lostA t.m keep)) := fun g hg => ho g (Nat.lt_of_lt_of_le hg Hb4.out.size) (HO6.out g hg)
      have hlt5 := HX5.out.lt
      clear hA ho hb hsl
      have q0 := HX5.out.cell 0
      have q1 := HX5.out.cell 1
      have q2 := HX5.out.cell 2
      have q3 := HX5.out.cell 3
      have f0 := HX5.out.free 0
      have f1 := HX5.out.free 1
      have f2 := HX5.out.free 2
      have f3 := HX5.out.free 3
      obtain ⟨w6, hw6⟩ : ∃ z, (w5.setCell ⟨w.heap.size, 0, none⟩ (.slice d1 nd1 cd1)).setCell ⟨w.heap.size, 1, none⟩ (.slice d2 nd2 cd2) = z := ⟨_, rfl⟩
      have HS6 : Hid (LoseAtX ⟨⟨⟨a1, na1, ca1⟩, ⟨a2, na2, ca2⟩⟩, ⟨⟨a3, na3, ca3⟩, ⟨a4, na4, ca4⟩⟩⟩ w t keep 1 ⟨⟨⟨d1, nd1, cd1⟩, ⟨d2, nd2, cd2⟩⟩, ⟨⟨b3, nb3, cb3⟩, ⟨b4, nb4, cb4⟩⟩⟩ w6) := by
        rw [← hw6]
        have hne0 : w.heap.size + 1 ≠ w.heap.size := Nat.succ_ne_self _
        have hne2 : w.heap.size + 2 ≠ w.heap.size := by omega
        have hrsz := HLr.out.lt
        have hOf : TOff w.heap.size ⟨⟨⟨b1, nb1, cb1⟩, ⟨b2, nb2, cb2⟩⟩, ⟨⟨b3, nb3, cb3⟩, ⟨b4, nb4, cb4⟩⟩⟩ t := HOr.out _ (by omega) (H.out.off (Nat.le_refl _))
        refine ⟨(HX5.out.set 0 _).set 1 _, (HZ5.out.other hne0 _).other hne0 _, (HL5.out.other hne2 _).other hne2 _, ⟨⟨HA5.out.1.pair (HO5.out _ (by omega)).1 _ _, HA5.out.2.pair (HO5.out _ (by omega)).2 _ _⟩, HT5.out.2.1.pair hOf.2.1 _ _, HT5.out.2.2.pair hOf.2.2 _ _⟩, fun g hg h => ⟨HO5.out g (by omega), (HOr.out g hg h).2⟩, (held_next Hbr.out Hb5.out |>.setCell (p := ⟨w.heap.size, 0, none⟩) (Nat.le_refl _) _).setCell (p := ⟨w.heap.size, 1, none⟩) (Nat.le_refl _) _⟩
      go_wp2_with fail
      go_roundg 1
      case measure => omega
      case rel => exact ⟨1, ⟨⟨⟨d1, nd1, cd1⟩, ⟨d2, nd2, cd2⟩⟩, ⟨⟨b3, nb3, cb3⟩, ⟨b4, nb4, cb4⟩⟩⟩, rfl, rfl, HS6.out⟩
    · obtain rfl : gk = 1 := by omega
      have HX := Lib.hid HS.out.1
      have HZr := Lib.hid HS.out.2.1
      have HLr := Lib.hid HS.out.2.2.1
      have HTr : Hid (TB wr ⟨⟨⟨b1, nb1, cb1⟩, ⟨b2, nb2, cb2⟩⟩, ⟨⟨b3, nb3, cb3⟩, ⟨b4, nb4, cb4⟩⟩⟩ ⟨lostA t.m keep, t.s⟩) := HS.out.2.2.2.1
      have HOr : Hid (∀ g, g < w.heap.size + 2 → TOff g ⟨⟨⟨a1, na1, ca1⟩, ⟨a2, na2, ca2⟩⟩, ⟨⟨a3, na3, ca3⟩, ⟨a4, na4, ca4⟩⟩⟩ t → TOff g ⟨⟨⟨b1, nb1, cb1⟩, ⟨b2, nb2, cb2⟩⟩, ⟨⟨b3, nb3, cb3⟩, ⟨b4, nb4, cb4⟩⟩⟩ ⟨lostA t.m keep, t.s⟩) := HS.out.2.2.2.2.1
      have Hbr := Lib.hid HS.out.2.2.2.2.2
      have hn1 : nb3 ≤ 400000 := by rw [show nb3 = t.s.s.length from HTr.out.2.1.1]; exact HF.out.2.1
      have hn2 : nb4 ≤ 400000 := by rw [show nb4 = t.s.l.length from HTr.out.2.2.1]; exact HF.out.2.2
      obtain ⟨k, Hk⟩ : ∃ z, Hid (heldV keep nb4 = z) := ⟨_, rfl⟩
      have hk2 : k ≤ nb4 := by rw [← Hk.out]; exact heldV_le _ _
      have hsum : IntKind.i64.wrap ((nb3 : Int) + (k : Int)) = (nb3 : Int) + (k : Int) := IntWalk.i64_in _ (by omega)
      have Hla : Hid (lostA t.s keep = ⟨(t.s.all.take (nb3 + k)).take (nb3 + k), (t.s.all.take (nb3 + k)).drop (nb3 + k)⟩) := lost_parts (HTr.out.2.1.1) (HTr.out.2.2.1) Hk.out
      have KP : Hid (∀ w', Below wr.heap.size wr w' → w'.cell? ⟨w.heap.size, 2, none⟩ = some (.slice b3 nb3 cb3) ∧ w'.cell? ⟨w.heap.size, 3, none⟩ = some (.slice b4 nb4 cb4)) := fun w' h => ⟨(HX.out.later h HX.out.lt).cell 2, (HX.out.later h HX.out.lt).cell 3⟩
      have q0 := HX.out.cell 0
      have q1 := HX.out.cell 1
      have q2 := HX.out.cell 2
      have q3 := HX.out.cell 3
      have l0 := HLr.out.cell 1
      have hlt := HX.out.lt
      have hltz := HZr.out.lt
      go_wp2_with fail
      go_region_held3 (fun w' => w'.cell? ⟨w.heap.size, 2, none⟩ = some (.slice b3 nb3 cb3) ∧ w'.cell? ⟨w.heap.size, 3, none⟩ = some (.slice b4 nb4 cb4)) (first | exact KP.out _ (Below.refl _ _).drew | (refine KP.out _ ?_; assumption)) (first | (go_at_call 30; refine (kept_calls keep nb4 _).mono ?_; rw [Hk.out]; rintro e wn ⟨rfl, rfl⟩) | fail)
      have HXd : Hid (Whole wr.drew w.heap.size 26 #[.slice b1 nb1 cb1, .slice b2 nb2 cb2, .slice b3 nb3 cb3, .slice b4 nb4 cb4]) := HX.out.drew
      clear q0 q1 q2 q3 hsum
      have q0 := HXd.out.cell 0
      have q1 := HXd.out.cell 1
      have q2 := HXd.out.cell 2
      have q3 := HXd.out.cell 3
      go_wp2_with fail
      refine (tbytes_calls ⟨⟨b3, nb3, cb3⟩, ⟨b4, nb4, cb4⟩⟩ t.s wr.drew (HTr.out.2.later (Below.refl _ _).drew) ⟨by rw [← show nb3 = t.s.s.length from HTr.out.2.1.1]; omega, by rw [← show nb4 = t.s.l.length from HTr.out.2.2.1]; omega⟩).mono ?_
      rintro e w4 ⟨v4, rfl, hO4, hb⟩
      obtain ⟨⟨d0, nd0, cd0⟩, rfl, hS4, ho4⟩ := hO4.sl (by unfold Ar.all; rw [List.length_append, ← show nb3 = t.s.s.length from HTr.out.2.1.1, ← show nb4 = t.s.l.length from HTr.out.2.2.1]; omega)
      have Hb4 : Hid (Below wr.heap.size wr w4) := (Below.refl _ _).drew.trans hb
      have hn4 : nd0 = nb3 + nb4 := by have h : nd0 = t.s.all.length := hS4.1; rw [h]; unfold Ar.all; rw [List.length_append, ← show nb3 = t.s.s.length from HTr.out.2.1.1, ← show nb4 = t.s.l.length from HTr.out.2.2.1]
      obtain ⟨⟨d6, nd6, cd6⟩, hsl6, hS6, hO6⟩ := SB.upto hS4 (hi := nb3 + k) (by show _ ≤ nd0; omega)
      have HS6 := Lib.hid hS6
      have HO6 : Hid (∀ g, g < wr.heap.size → Off g ⟨d6, nd6, cd6⟩ (t.s.all.take (nb3 + k))) := fun g hg => hO6 g (ho4 g hg)
      have hsl : ∀ w, (Instr.slice 22 (.slice d0 nd0 cd0) none (some (.int .i64 ((nb3 : Int) + (k : Int)))) none).run Try.prog w = .ok (.slice d6 nd6 cd6) w := by
        intro w
        have h := hsl6 w
        rw [Int.natCast_add] at h
        exact h
      have hn6 : nb3 + k ≤ nd6 := by have h1 : nd6 = (t.s.all.take (nb3 + k)).length := hS6.1; have h2 : nd0 = t.s.all.length := hS4.1; rw [h1, List.length_take, ← h2]; omega
      have Hn6 := Lib.hid hn6
      clear hO4 hb hS4 ho4 hn4 hsl6 hS6 hO6 hn6 q0 q1 q2 q3
      go_wp2_with fail
      have hcall := laid_calls ⟨d6, nd6, cd6⟩ (t.s.all.take (nb3 + k)) (nb3 + k) w4 HS6.out Hn6.out
      rw [← Hla.out, Int.natCast_add] at hcall
      refine hcall.mono ?_
      clear hcall
      rintro e w5 ⟨⟨⟨d1, nd1, cd1⟩, ⟨d2, nd2, cd2⟩⟩, rfl, hA, ho, hb⟩
      have Hb5 : Hid (Below wr.heap.size wr w5) := held_next Hb4.out hb
      have HX5 := Lib.hid (HX.out.later Hb5.out HX.out.lt)
      have HZ5 := Lib.hid (HZr.out.later Hb5.out HZr.out.lt)
      have HL5 := Lib.hid (HLr.out.later Hb5.out HLr.out.lt)
      have HT5 := Lib.hid (HTr.out.later Hb5.out)
      have HA5 := Lib.hid hA
      have HO5 : Hid (∀ g, g < wr.heap.size → AOff g ⟨⟨d1, nd1, cd1⟩, ⟨d2, nd2, cd2⟩⟩ (lostA t.s keep)) := fun g hg => ho g (Nat.lt_of_lt_of_le hg Hb4.out.size) (HO6.out g hg)
      have hlt5 := HX5.out.lt
      clear hA ho hb hsl
      have q0 := HX5.out.cell 0
      have q1 := HX5.out.cell 1
      have q2 := HX5.out.cell 2
      have q3 := HX5.out.cell 3
      have f0 := HX5.out.free 0
      have f1 := HX5.out.free 1
      have f2 := HX5.out.free 2
      have f3 := HX5.out.free 3
      obtain ⟨w6, hw6⟩ : ∃ z, (w5.setCell ⟨w.heap.size, 2, none⟩ (.slice d1 nd1 cd1)).setCell ⟨w.heap.size, 3, none⟩ (.slice d2 nd2 cd2) = z := ⟨_, rfl⟩
      have HS6 : Hid (LoseAtX ⟨⟨⟨a1, na1, ca1⟩, ⟨a2, na2, ca2⟩⟩, ⟨⟨a3, na3, ca3⟩, ⟨a4, na4, ca4⟩⟩⟩ w t keep 2 ⟨⟨⟨b1, nb1, cb1⟩, ⟨b2, nb2, cb2⟩⟩, ⟨⟨d1, nd1, cd1⟩, ⟨d2, nd2, cd2⟩⟩⟩ w6) := by
        rw [← hw6]
        have hne0 : w.heap.size + 1 ≠ w.heap.size := Nat.succ_ne_self _
        have hne2 : w.heap.size + 2 ≠ w.heap.size := by omega
        have hrsz := HLr.out.lt
        have hOf : TOff w.heap.size ⟨⟨⟨b1, nb1, cb1⟩, ⟨b2, nb2, cb2⟩⟩, ⟨⟨b3, nb3, cb3⟩, ⟨b4, nb4, cb4⟩⟩⟩ ⟨lostA t.m keep, t.s⟩ := HOr.out _ (by omega) (H.out.off (Nat.le_refl _))
        refine ⟨(HX5.out.set 2 _).set 3 _, (HZ5.out.other hne0 _).other hne0 _, (HL5.out.other hne2 _).other hne2 _, ⟨⟨HT5.out.1.1.pair hOf.1.1 _ _, HT5.out.1.2.pair hOf.1.2 _ _⟩, HA5.out.1.pair (HO5.out _ (by omega)).1 _ _, HA5.out.2.pair (HO5.out _ (by omega)).2 _ _⟩, fun g hg h => ⟨(HOr.out g hg h).1, HO5.out g (by omega)⟩, (held_next Hbr.out Hb5.out |>.setCell (p := ⟨w.heap.size, 2, none⟩) (Nat.le_refl _) _).setCell (p := ⟨w.heap.size, 3, none⟩) (Nat.le_refl _) _⟩
      go_wp2_with fail
      go_roundg 0
      case measure => omega
      case rel => exact ⟨2, ⟨⟨⟨b1, nb1, cb1⟩, ⟨b2, nb2, cb2⟩⟩, ⟨⟨d1, nd1, cd1⟩, ⟨d2, nd2, cd2⟩⟩⟩, rfl, rfl, HS6.out⟩
    · have HX := Lib.hid HS.out.1
      have HZr := Lib.hid HS.out.2.1
      have HTr : Hid (TB wr ⟨⟨⟨b1, nb1, cb1⟩, ⟨b2, nb2, cb2⟩⟩, ⟨⟨b3, nb3, cb3⟩, ⟨b4, nb4, cb4⟩⟩⟩ (loseT t keep)) := HS.out.2.2.2.1
      have HOr : Hid (∀ g, g < w.heap.size + 2 → TOff g ⟨⟨⟨a1, na1, ca1⟩, ⟨a2, na2, ca2⟩⟩, ⟨⟨a3, na3, ca3⟩, ⟨a4, na4, ca4⟩⟩⟩ t → TOff g ⟨⟨⟨b1, nb1, cb1⟩, ⟨b2, nb2, cb2⟩⟩, ⟨⟨b3, nb3, cb3⟩, ⟨b4, nb4, cb4⟩⟩⟩ (loseT t keep)) := HS.out.2.2.2.2.1
      have Hbr := Lib.hid HS.out.2.2.2.2.2
      have q0 := HX.out.cell 0
      have q1 := HX.out.cell 1
      have q2 := HX.out.cell 2
      have q3 := HX.out.cell 3
      have z0 := HZr.out.cell 0
      have z1 := HZr.out.cell 1
      have z2 := HZr.out.cell 2
      have z3 := HZr.out.cell 3
      have y0 := HZr.out.free 0
      have y1 := HZr.out.free 1
      have y2 := HZr.out.free 2
      have y3 := HZr.out.free 3
      have hlt := HX.out.lt
      have hltz := HZr.out.lt
      go_wp2_with fail
      have hL := tape_left4 HZr.out (.slice b1 nb1 cb1) (.slice b2 nb2 cb2) (.slice b3 nb3 cb3) (.slice b4 nb4 cb4)
      have k0 := hL.cell 0
      have k1 := hL.cell 1
      have k2 := hL.cell 2
      have k3 := hL.cell 3
      refine bodyPost_ret (v := .agg #[.slice b1 nb1 cb1, .slice b2 nb2 cb2, .slice b3 nb3 cb3, .slice b4 nb4 cb4]) (by simp [results, Try.results23, go_sem, k0, k1, k2, k3]) rfl ?_
      exact ⟨⟨⟨⟨b1, nb1, cb1⟩, ⟨b2, nb2, cb2⟩⟩, ⟨⟨b3, nb3, cb3⟩, ⟨b4, nb4, cb4⟩⟩⟩, rfl, HTr.out.four (HOr.out _ (by omega) (H.out.off (Nat.le_succ _))) _ _ _ _, fun g hg h => HOr.out g (by omega) h, below_four Hbr.out (Nat.le_succ _) _ _ _ _⟩
end Go.Proofs.Ytokdppjpgeaiiaa
