/- Law ShareTells, walked: what anyone gives, unasked or asked, by any books, is what the document says. The law itself is stated in ShareCards. -/
import Derived.Test.YtkkhecdmjcffjaaShareAwake
import Derived.Test.YtkkhecdmjcffjaaShareBound
import Derived.Test.YtkkhecdmjcffjaaRefRightsShort
import Derived.Deep.RegionHeld3
namespace Go.Proofs.Ytkkhecdmjcffjaa
open Go.RowKit

set_option maxRecDepth 100000 in
set_option maxHeartbeats 8000000 in
theorem sharetells_law (c : Cf) (a : Option Addr) (m cp : Nat) (l : List Rw) (who tg keep need : Int) (w : World) (hm : m = l.length) (hkeep : keep ≤ 9223372036854775807) (hB : Books w (.slice a m cp) l) (hR : Reach l) :
    Calls Try.prog 3 #[cfV c, .slice a m cp, .int .i64 who, .int .i64 tg, .int .i64 keep, .int .i64 need] w (Says w true) := by
  have HW := Lib.hid (Whole.made w 23 (cfCells c))
  have Hb := Lib.hid (below_box w (.cells (cfCells c) 23))
  have HB := Lib.hid hB; clear hB
  have Hm := Lib.hid hm; clear hm
  obtain ⟨n, q, r, p, kk, cc⟩ := c
  go_enter Try.func3, Try.ntmps3
  go_wp2_with fail
  refine (awake13 _).mono ?_
  rintro e w1 ⟨rfl, hb⟩
  have Hb1 := Lib.hid (held_next Hb.out hb)
  have HW1 := Lib.hid (HW.out.later hb HW.out.lt)
  clear hb
  go_wp2_with fail
  refine (refshort_calls a m cp l Hm.out hR _ (HB.out.later Hb1.out)).mono ?_
  clear hR
  rintro e w2 ⟨rfl, hb⟩
  have Hb2 := Lib.hid (held_next Hb1.out hb)
  have HW2 := Lib.hid (HW1.out.later hb HW1.out.lt)
  clear hb
  cases shortB l with
  | false =>
    go_wp2_with fail
    go_ret
    exact ⟨by rfl, Hb2.out⟩
  | true =>
  obtain ⟨G, HG⟩ : ∃ z, Hid (giveV ⟨n, q, r, p, kk, cc⟩ l who keep = z) := ⟨_, rfl⟩
  obtain ⟨g1, g2⟩ := G
  obtain ⟨gr, Hgr⟩ : ∃ z, Hid (grantV ⟨n, q, r, p, kk, cc⟩ l who keep tg need = z) := ⟨_, rfl⟩
  have c1 := fun w hw => sGive_calls ⟨n, q, r, p, kk, cc⟩ a m cp l who keep Hm.out hkeep w hw
  have c2 := fun w hw => refgive_calls ⟨n, q, r, p, kk, cc⟩ a m cp l who keep Hm.out w hw
  rw [HG.out] at c1 c2
  have C1 := Lib.hid c1; have C2 := Lib.hid c2; clear c1 c2
  obtain ⟨d0, d1, d2, d3, d4, d5⟩ := config_cells HW2.out
  simp only at d0 d1 d2 d3 d4 d5
  go_wp2_with fail
  refine (C1.out _ (HB.out.later Hb2.out)).mono ?_
  rintro e w3 ⟨rfl, hb⟩
  have Hb3 := Lib.hid (held_next Hb2.out hb)
  have HW3 := Lib.hid (HW2.out.later hb HW2.out.lt)
  clear hb d0 d1 d2 d3 d4 d5
  obtain ⟨d0, d1, d2, d3, d4, d5⟩ := config_cells HW3.out
  simp only at d0 d1 d2 d3 d4 d5
  go_wp2_with fail
  refine (C2.out _ (HB.out.later Hb3.out)).mono ?_
  rintro e w4 ⟨rfl, hb⟩
  have Hb4 := Lib.hid (held_next Hb3.out hb)
  have HW4 := Lib.hid (HW3.out.later hb HW3.out.lt)
  clear hb d0 d1 d2 d3 d4 d5
  have O1 : Hid (∀ w', Below w4.heap.size w4 w' → Calls Try.prog 10 #[cfV ⟨n, q, r, p, kk, cc⟩, .slice a m cp, .int .i64 who, .int .i64 keep, .int .i64 tg, .int .i64 need] w' (Num w' gr)) := by
    intro w' h; have h2 := sGrant_calls ⟨n, q, r, p, kk, cc⟩ a m cp l who keep tg need Hm.out hkeep w' (HB.out.later (held_next Hb4.out h)); rwa [Hgr.out] at h2
  have O2 : Hid (∀ w', Below w4.heap.size w4 w' → Calls Try.prog 11 #[cfV ⟨n, q, r, p, kk, cc⟩, .slice a m cp, .int .i64 who, .int .i64 keep, .int .i64 tg, .int .i64 need] w' (Num w' gr)) := by
    intro w' h; have h2 := refgrant_calls ⟨n, q, r, p, kk, cc⟩ a m cp l who keep tg need Hm.out w' (HB.out.later (held_next Hb4.out h)); rwa [Hgr.out] at h2
  have KP : Hid (∀ w', Below w4.heap.size w4 w' → (fun w' => Below w4.heap.size w4 w' ∧ (w'.cell? ⟨w.heap.size, 0, none⟩ = some (.int .i64 n) ∧ w'.cell? ⟨w.heap.size, 1, none⟩ = some (.int .i64 q) ∧ w'.cell? ⟨w.heap.size, 2, none⟩ = some (.int .i64 r) ∧ w'.cell? ⟨w.heap.size, 3, none⟩ = some (.int .i64 p) ∧ w'.cell? ⟨w.heap.size, 4, none⟩ = some (.int .i64 kk) ∧ w'.cell? ⟨w.heap.size, 5, none⟩ = some (.int .i64 cc))) w') :=
    fun w' h => ⟨h, config_cells (HW4.out.later h HW4.out.lt)⟩
  go_wp2_with fail
  go_region_held3 (fun w' => Below w4.heap.size w4 w' ∧ (w'.cell? ⟨w.heap.size, 0, none⟩ = some (.int .i64 n) ∧ w'.cell? ⟨w.heap.size, 1, none⟩ = some (.int .i64 q) ∧ w'.cell? ⟨w.heap.size, 2, none⟩ = some (.int .i64 r) ∧ w'.cell? ⟨w.heap.size, 3, none⟩ = some (.int .i64 p) ∧ w'.cell? ⟨w.heap.size, 4, none⟩ = some (.int .i64 kk) ∧ w'.cell? ⟨w.heap.size, 5, none⟩ = some (.int .i64 cc)))
    (first | exact KP.out _ (Below.refl _ _).drew | (refine KP.out _ ?_; assumption))
    (first | (go_at_call 10; have hcur := (‹Below w4.heap.size w4 _ ∧ _›).1; have hcall := O1.out _ hcur; (with_reducible refine hcall.mono ?_); rintro ee wn ⟨rfl, hb⟩; have hS := held_next hcur hb; clear hb hcall) | (go_at_call 11; have hcur := (‹Below w4.heap.size w4 _ ∧ _›).1; have hcall := O2.out _ hcur; (with_reducible refine hcall.mono ?_); rintro ee wn ⟨rfl, hb⟩; have hS := held_next hcur hb; clear hb hcall))
  go_wp2_with fail
  go_ret
  exact ⟨by rfl, held_next Hb4.out (‹Below w4.heap.size w4 _ ∧ _›).1⟩
end Go.Proofs.Ytkkhecdmjcffjaa
