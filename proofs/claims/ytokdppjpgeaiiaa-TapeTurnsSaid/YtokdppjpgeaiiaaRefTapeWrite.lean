/- The document's own, layer 7: Write. No law is proved here. -/
import Derived.Test.YtokdppjpgeaiiaaRefTapeMay
import Derived.Test.YtokdppjpgeaiiaaRefTapeLose
namespace Go.Proofs.Ytokdppjpgeaiiaa
open Go.RowKit
attribute [local go_sem ↓] run_fine

set_option maxRecDepth 100000 in
set_option maxHeartbeats 8000000 in
theorem reftwrite_calls (x : TpS) (t : Tp) (sp : Bool) (sb : Sl) (zb : List Int) (w : World) (h : TB w x t) (hf : t.fits 400000) (hB : SB w sb zb) (hfb : zb.length ≤ 400000) :
    Calls Try.prog 9 #[tpV x, .bool sp, slV sb] w (TapedC w (fun g => TOff g x t ∧ Off g sb zb) (writeT t sp zb)) := by
  obtain ⟨⟨⟨a1, n1, c1⟩, ⟨a2, n2, c2⟩⟩, ⟨⟨a3, n3, c3⟩, ⟨a4, n4, c4⟩⟩⟩ := x
  obtain ⟨b5, n5, c5⟩ := sb
  have H := Lib.hid h; clear h
  have HF := Lib.hid hf; clear hf
  have HB := Lib.hid hB; clear hB
  have HFb := Lib.hid hfb; clear hfb
  have hfit0 : t.fits 1000000 := by obtain ⟨⟨_, _⟩, _, _⟩ := HF.out; exact ⟨⟨by omega, by omega⟩, by omega, by omega⟩
  have hfit : (wroteT t sp zb).fits 1000000 := by
    obtain ⟨⟨_, _⟩, _, _⟩ := HF.out
    have := HFb.out
    cases sp
    · exact ⟨⟨by show t.m.s.length ≤ _; omega, by show (t.m.l ++ zb).length ≤ _; rw [List.length_append]; omega⟩, by show t.s.s.length ≤ _; omega, by show t.s.l.length ≤ _; omega⟩
    · exact ⟨⟨by show t.m.s.length ≤ _; omega, by show t.m.l.length ≤ _; omega⟩, by show t.s.s.length ≤ _; omega, by show (t.s.l ++ zb).length ≤ _; rw [List.length_append]; omega⟩
  obtain ⟨m1, Hm1⟩ : ∃ z, Hid (mayT t = z) := ⟨_, rfl⟩
  obtain ⟨m2, Hm2⟩ : ∃ z, Hid (mayT (wroteT t sp zb) = z) := ⟨_, rfl⟩
  obtain ⟨res, Hres⟩ : ∃ z, Hid (writeT t sp zb = z) := ⟨_, rfl⟩
  rw [Hres.out]
  obtain ⟨i5, hi, hz0, hz1, hz2⟩ := info_parts info_u8
  obtain ⟨W1, hW1⟩ : ∃ z, (w.alloc (.cells #[.slice a1 n1 c1, .slice a2 n2 c2, .slice a3 n3 c3, .slice a4 n4 c4] 26)).alloc (.cells #[.slice none 0 0, .slice none 0 0, .slice none 0 0, .slice none 0 0] 26) = z := ⟨_, rfl⟩
  have HW : Hid (Whole W1 w.heap.size 26 #[.slice a1 n1 c1, .slice a2 n2 c2, .slice a3 n3 c3, .slice a4 n4 c4]) := by rw [← hW1]; exact (Whole.made w _ _).alloc _
  have HZ : Hid (Whole W1 (w.heap.size + 1) 26 #[.slice none 0 0, .slice none 0 0, .slice none 0 0, .slice none 0 0]) := by rw [← hW1]; exact Whole.made2 w _ _ _
  have Hb0 : Hid (Below w.heap.size w W1) := by rw [← hW1]; exact below_two w _ _
  have q0 := HW.out.cell 0
  have q1 := HW.out.cell 1
  have q2 := HW.out.cell 2
  have q3 := HW.out.cell 3
  show Calls Try.prog 9 #[.agg #[.slice a1 n1 c1, .slice a2 n2 c2, .slice a3 n3 c3, .slice a4 n4 c4], .bool sp, .slice b5 n5 c5] w _
  go_enter Try.func9, Try.ntmps9
  go_wp2_with fail
  clear hW1
  refine (reftmay_calls ⟨⟨⟨a1, n1, c1⟩, ⟨a2, n2, c2⟩⟩, ⟨⟨a3, n3, c3⟩, ⟨a4, n4, c4⟩⟩⟩ t _ (H.out.later Hb0.out) hfit0).mono ?_
  rw [Hm1.out]
  rintro e w2 ⟨rfl, hb⟩
  have HW2 := Lib.hid (HW.out.later hb HW.out.lt)
  have HZ2 := Lib.hid (HZ.out.later hb HZ.out.lt)
  have Hb2 := Lib.hid (held_next Hb0.out hb)
  have hlt0 : w.heap.size + 1 < w2.heap.size := HZ2.out.lt
  clear hb q0 q1 q2 q3
  have q0 := HW2.out.cell 0
  have q1 := HW2.out.cell 1
  have q2 := HW2.out.cell 2
  have q3 := HW2.out.cell 3
  cases m1 with
  | false =>
    obtain rfl : res = (t, 1) := Hres.out.symm.trans (by unfold writeT; rw [Hm1.out]; exact if_neg (by decide))
    have z0 := HZ2.out.cell 0
    have y0 := HZ2.out.free 0
    have z1 := HZ2.out.cell 1
    have y1 := HZ2.out.free 1
    have z2 := HZ2.out.cell 2
    have y2 := HZ2.out.free 2
    have z3 := HZ2.out.cell 3
    have y3 := HZ2.out.free 3
    go_wp2_with fail
    have hL := tape_left4 HZ2.out (.slice a1 n1 c1) (.slice a2 n2 c2) (.slice a3 n3 c3) (.slice a4 n4 c4)
    have k0 := hL.cell 0
    have k1 := hL.cell 1
    have k2 := hL.cell 2
    have k3 := hL.cell 3
    refine bodyPost_ret (v := .tuple #[.agg #[.slice a1 n1 c1, .slice a2 n2 c2, .slice a3 n3 c3, .slice a4 n4 c4], .int .i64 1]) (by simp [results, Try.results9, go_sem, k0, k1, k2, k3]) rfl ?_
    exact ⟨⟨⟨⟨a1, n1, c1⟩, ⟨a2, n2, c2⟩⟩, ⟨⟨a3, n3, c3⟩, ⟨a4, n4, c4⟩⟩⟩, rfl, ⟨⟨((H.out.1.1.later Hb2.out).four (H.out.1.1.off (Nat.le_succ _)) _ _ _ _), ((H.out.1.2.later Hb2.out).four (H.out.1.2.off (Nat.le_succ _)) _ _ _ _)⟩, ((H.out.2.1.later Hb2.out).four (H.out.2.1.off (Nat.le_succ _)) _ _ _ _), ((H.out.2.2.later Hb2.out).four (H.out.2.2.off (Nat.le_succ _)) _ _ _ _)⟩, fun g hg h => h.1, below_four Hb2.out (Nat.le_succ _) _ _ _ _⟩
  | true =>
  have HR : Hid (res = if m2 = true then (wroteT t sp zb, 0) else (t, 6)) := Hres.out.symm.trans (by unfold writeT; rw [Hm1.out, Hm2.out]; exact if_pos rfl)
  cases sp with
  | true =>
    have hWr : wroteT t true zb = ⟨t.m, ⟨t.s.s, t.s.l ++ zb⟩⟩ := rfl
    have HWr := Lib.hid hWr; clear hWr
    have hxx := Whole.made w2 26 #[.slice a1 n1 c1, .slice a2 n2 c2, .slice a3 n3 c3, .slice a4 n4 c4]
    have hF0 : Fresh (w2.heap.size + 1) 5 ((w2.alloc (.cells #[.slice a1 n1 c1, .slice a2 n2 c2, .slice a3 n3 c3, .slice a4 n4 c4] 26)).alloc (.cells #[] 5)) (.slice (some ⟨w2.heap.size + 1, 0, none⟩) 0 0) [] := by
      have := fresh_empty (w2.alloc (.cells #[.slice a1 n1 c1, .slice a2 n2 c2, .slice a3 n3 c3, .slice a4 n4 c4] 26))
      rw [World.size_alloc] at this
      exact this
    have hbA : Below w2.heap.size w2 ((w2.alloc (.cells #[.slice a1 n1 c1, .slice a2 n2 c2, .slice a3 n3 c3, .slice a4 n4 c4] 26)).alloc (.cells #[] 5)) := below_two w2 _ _
    obtain ⟨v3, w3, hr3, F3, b3⟩ := run_append_bytes hF0 (by simp) ((H.out.2.2.later (held_next Hb2.out hbA)).2.2) H.out.2.2.1 H.out.2.2.2.1 (by have := HF.out.2.2; simp; omega) i5 hi hz0 hz1 hz2
    rw [List.nil_append] at F3
    have hbA3 : Below w2.heap.size w2 w3 := hbA.trans (b3.mono (by omega))
    obtain ⟨v4, w4, hr4, F4, b4⟩ := run_append_bytes F3 (by have := b3.size; simp at this; omega) ((HB.out.later (held_next Hb2.out hbA3)).2.2) HB.out.1 HB.out.2.1 (by have := HF.out.2.2; have := HFb.out; omega) i5 hi hz0 hz1 hz2
    have hbA4 : Below w2.heap.size w2 w4 := hbA3.trans (b4.mono (by omega))
    obtain ⟨⟨a6, n6, c6⟩, rfl, hS6, hO6⟩ := SB.fresh_off F4
    have hf1 : Fine Try.prog ((w2.alloc (.cells #[.slice a1 n1 c1, .slice a2 n2 c2, .slice a3 n3 c3, .slice a4 n4 c4] 26)).alloc (.cells #[] 5)) #[22, 22] 22 #[.slice (some ⟨w2.heap.size + 1, 0, none⟩) 0 0, .slice a4 n4 c4] := ⟨_, _, hr3⟩
    have hv1 : appV Try.prog ((w2.alloc (.cells #[.slice a1 n1 c1, .slice a2 n2 c2, .slice a3 n3 c3, .slice a4 n4 c4] 26)).alloc (.cells #[] 5)) #[22, 22] 22 #[.slice (some ⟨w2.heap.size + 1, 0, none⟩) 0 0, .slice a4 n4 c4] = v3 := by unfold appV; rw [hr3]; rfl
    have hw1 : appW Try.prog ((w2.alloc (.cells #[.slice a1 n1 c1, .slice a2 n2 c2, .slice a3 n3 c3, .slice a4 n4 c4] 26)).alloc (.cells #[] 5)) #[22, 22] 22 #[.slice (some ⟨w2.heap.size + 1, 0, none⟩) 0 0, .slice a4 n4 c4] = w3 := by unfold appW; rw [hr3]; rfl
    have hf2 : Fine Try.prog w3 #[22, 22] 22 #[v3, .slice b5 n5 c5] := ⟨_, _, hr4⟩
    have hv2 : appV Try.prog w3 #[22, 22] 22 #[v3, .slice b5 n5 c5] = .slice a6 n6 c6 := by unfold appV; rw [hr4]; rfl
    have hw2 : appW Try.prog w3 #[22, 22] 22 #[v3, .slice b5 n5 c5] = w4 := by unfold appW; rw [hr4]; rfl
    have HX4 : Hid (Whole w4 w2.heap.size 26 #[.slice a1 n1 c1, .slice a2 n2 c2, .slice a3 n3 c3, .slice a4 n4 c4]) := ((hxx.alloc (.cells #[] 5)).later b3 (by omega)).later b4 (by omega)
    have HX5 : Hid (Whole (w4.setCell ⟨w2.heap.size, 3, none⟩ (.slice a6 n6 c6)) w2.heap.size 26 #[.slice a1 n1 c1, .slice a2 n2 c2, .slice a3 n3 c3, .slice a6 n6 c6]) := HX4.out.set 3 (.slice a6 n6 c6)
    have HW4 := Lib.hid (HW2.out.later hbA4 HW2.out.lt)
    have HZ4 := Lib.hid (HZ2.out.later hbA4 HZ2.out.lt)
    have hlt1 : w.heap.size + 1 < w2.heap.size := HZ2.out.lt
    have HW6 : Hid (Whole (w4.setCell ⟨w2.heap.size, 3, none⟩ (.slice a6 n6 c6)) w.heap.size 26 #[.slice a1 n1 c1, .slice a2 n2 c2, .slice a3 n3 c3, .slice a4 n4 c4]) := HW4.out.other (p := ⟨w2.heap.size, 3, none⟩) (by show w.heap.size ≠ w2.heap.size; omega) _
    have HZ6 : Hid (Whole (w4.setCell ⟨w2.heap.size, 3, none⟩ (.slice a6 n6 c6)) (w.heap.size + 1) 26 #[.slice none 0 0, .slice none 0 0, .slice none 0 0, .slice none 0 0]) := HZ4.out.other (p := ⟨w2.heap.size, 3, none⟩) (by show w.heap.size + 1 ≠ w2.heap.size; omega) _
    have Hb4 := Lib.hid (held_next Hb2.out hbA4)
    have Hb6 : Hid (Below w.heap.size w (w4.setCell ⟨w2.heap.size, 3, none⟩ (.slice a6 n6 c6))) := Hb4.out.setCell (p := ⟨w2.heap.size, 3, none⟩) (by show w.heap.size ≤ w2.heap.size; omega) _
    have HO6 : Hid (∀ g, g < w2.heap.size → Off g ⟨a6, n6, c6⟩ (t.s.l ++ zb)) := fun g hg => hO6 g (by omega)
    have HS6 : Hid (SB (w4.setCell ⟨w2.heap.size, 3, none⟩ (.slice a6 n6 c6)) ⟨a6, n6, c6⟩ (t.s.l ++ zb)) := hS6.past fun b hb => by
      rcases hO6 w2.heap.size (by omega) with h0 | hg
      · exact Or.inr h0
      · rcases hb with h0 | hb
        · exact Or.inr h0
        · exact Or.inl (Below.heap_setCell _ _ _ _ (fun e => hg (by rw [hb, e])))
    have hszX : w2.heap.size < w4.heap.size := HX4.out.lt
    have hb3s := b3.size
    have hb4s := b4.size
    have hq : w.heap.size < w2.heap.size := by omega
    have x40 := HX4.out.cell 0
    have x41 := HX4.out.cell 1
    have x42 := HX4.out.cell 2
    have x43 := HX4.out.cell 3
    have fx4 := HX4.out.free 3
    have Hb3' := Lib.hid (held_next Hb2.out hbA3)
    clear hr3 hr4 F3 F4 hF0 b3 b4 hbA hbA3 hbA4 hS6 hO6 hi hz0 hz1 hz2 hxx
    go_wp2_with fail
    have HTB : Hid (TB (w4.setCell ⟨w2.heap.size, 3, none⟩ (.slice a6 n6 c6)) ⟨⟨⟨a1, n1, c1⟩, ⟨a2, n2, c2⟩⟩, ⟨⟨a3, n3, c3⟩, ⟨a6, n6, c6⟩⟩⟩ (wroteT t true zb)) := by rw [HWr.out]; exact ⟨⟨(H.out.1.1.later Hb6.out), (H.out.1.2.later Hb6.out)⟩, (H.out.2.1.later Hb6.out), HS6.out⟩
    refine (reftmay_calls ⟨⟨⟨a1, n1, c1⟩, ⟨a2, n2, c2⟩⟩, ⟨⟨a3, n3, c3⟩, ⟨a6, n6, c6⟩⟩⟩ (wroteT t true zb) _ HTB.out (by rw [HWr.out]; exact hfit)).mono ?_
    rw [Hm2.out]
    rintro e w7 ⟨rfl, hb7⟩
    have HW7 := Lib.hid (HW6.out.later hb7 HW6.out.lt)
    have HZ7 := Lib.hid (HZ6.out.later hb7 HZ6.out.lt)
    have HX7 := Lib.hid (HX5.out.later hb7 HX5.out.lt)
    have Hb7 := Lib.hid (held_next Hb6.out hb7)
    have hlt7 : w.heap.size + 1 < w7.heap.size := HZ7.out.lt
    have hltX : w2.heap.size < w7.heap.size := HX7.out.lt
    clear x40 x41 x42 x43 fx4
    cases m2 with
    | false =>
      obtain rfl : res = (t, 6) := HR.out.trans (if_neg (by decide))
      have q0 := HW7.out.cell 0
      have q1 := HW7.out.cell 1
      have q2 := HW7.out.cell 2
      have q3 := HW7.out.cell 3
      have z0 := HZ7.out.cell 0
      have y0 := HZ7.out.free 0
      have z1 := HZ7.out.cell 1
      have y1 := HZ7.out.free 1
      have z2 := HZ7.out.cell 2
      have y2 := HZ7.out.free 2
      have z3 := HZ7.out.cell 3
      have y3 := HZ7.out.free 3
      go_wp2_with fail
      have hL := tape_left4 HZ7.out (.slice a1 n1 c1) (.slice a2 n2 c2) (.slice a3 n3 c3) (.slice a4 n4 c4)
      have k0 := hL.cell 0
      have k1 := hL.cell 1
      have k2 := hL.cell 2
      have k3 := hL.cell 3
      refine bodyPost_ret (v := .tuple #[.agg #[.slice a1 n1 c1, .slice a2 n2 c2, .slice a3 n3 c3, .slice a4 n4 c4], .int .i64 6]) (by simp [results, Try.results9, go_sem, k0, k1, k2, k3]) rfl ?_
      exact ⟨⟨⟨⟨a1, n1, c1⟩, ⟨a2, n2, c2⟩⟩, ⟨⟨a3, n3, c3⟩, ⟨a4, n4, c4⟩⟩⟩, rfl, ⟨⟨((H.out.1.1.later Hb7.out).four (H.out.1.1.off (Nat.le_succ _)) _ _ _ _), ((H.out.1.2.later Hb7.out).four (H.out.1.2.off (Nat.le_succ _)) _ _ _ _)⟩, ((H.out.2.1.later Hb7.out).four (H.out.2.1.off (Nat.le_succ _)) _ _ _ _), ((H.out.2.2.later Hb7.out).four (H.out.2.2.off (Nat.le_succ _)) _ _ _ _)⟩, fun g hg h => h.1, below_four Hb7.out (Nat.le_succ _) _ _ _ _⟩
    | true =>
      obtain rfl : res = (wroteT t true zb, 0) := HR.out.trans (if_pos rfl)
      have q0 := HX7.out.cell 0
      have q1 := HX7.out.cell 1
      have q2 := HX7.out.cell 2
      have q3 := HX7.out.cell 3
      have z0 := HZ7.out.cell 0
      have y0 := HZ7.out.free 0
      have z1 := HZ7.out.cell 1
      have y1 := HZ7.out.free 1
      have z2 := HZ7.out.cell 2
      have y2 := HZ7.out.free 2
      have z3 := HZ7.out.cell 3
      have y3 := HZ7.out.free 3
      go_wp2_with fail
      have HT7 : Hid (wroteT t true zb = ⟨t.m, ⟨t.s.s, t.s.l ++ zb⟩⟩) := HWr.out
      rw [HT7.out]
      have hL := tape_left4 HZ7.out (.slice a1 n1 c1) (.slice a2 n2 c2) (.slice a3 n3 c3) (.slice a6 n6 c6)
      have k0 := hL.cell 0
      have k1 := hL.cell 1
      have k2 := hL.cell 2
      have k3 := hL.cell 3
      refine bodyPost_ret (v := .tuple #[.agg #[.slice a1 n1 c1, .slice a2 n2 c2, .slice a3 n3 c3, .slice a6 n6 c6], .int .i64 0]) (by simp [results, Try.results9, go_sem, k0, k1, k2, k3]) rfl ?_
      exact ⟨⟨⟨⟨a1, n1, c1⟩, ⟨a2, n2, c2⟩⟩, ⟨⟨a3, n3, c3⟩, ⟨a6, n6, c6⟩⟩⟩, rfl, ⟨⟨((H.out.1.1.later Hb7.out).four (H.out.1.1.off (Nat.le_succ _)) _ _ _ _), ((H.out.1.2.later Hb7.out).four (H.out.1.2.off (Nat.le_succ _)) _ _ _ _)⟩, ((H.out.2.1.later Hb7.out).four (H.out.2.1.off (Nat.le_succ _)) _ _ _ _), ((HS6.out.later hb7).four (HO6.out _ hlt1) _ _ _ _)⟩, fun g hg h => ⟨⟨h.1.1.1, h.1.1.2⟩, h.1.2.1, HO6.out g (by omega)⟩, below_four Hb7.out (Nat.le_succ _) _ _ _ _⟩
  | false =>
    have hWr : wroteT t false zb = ⟨⟨t.m.s, t.m.l ++ zb⟩, t.s⟩ := rfl
    have HWr := Lib.hid hWr; clear hWr
    have hxx := Whole.made w2 26 #[.slice a1 n1 c1, .slice a2 n2 c2, .slice a3 n3 c3, .slice a4 n4 c4]
    have hF0 : Fresh (w2.heap.size + 1) 5 ((w2.alloc (.cells #[.slice a1 n1 c1, .slice a2 n2 c2, .slice a3 n3 c3, .slice a4 n4 c4] 26)).alloc (.cells #[] 5)) (.slice (some ⟨w2.heap.size + 1, 0, none⟩) 0 0) [] := by
      have := fresh_empty (w2.alloc (.cells #[.slice a1 n1 c1, .slice a2 n2 c2, .slice a3 n3 c3, .slice a4 n4 c4] 26))
      rw [World.size_alloc] at this
      exact this
    have hbA : Below w2.heap.size w2 ((w2.alloc (.cells #[.slice a1 n1 c1, .slice a2 n2 c2, .slice a3 n3 c3, .slice a4 n4 c4] 26)).alloc (.cells #[] 5)) := below_two w2 _ _
    obtain ⟨v3, w3, hr3, F3, b3⟩ := run_append_bytes hF0 (by simp) ((H.out.1.2.later (held_next Hb2.out hbA)).2.2) H.out.1.2.1 H.out.1.2.2.1 (by have := HF.out.1.2; simp; omega) i5 hi hz0 hz1 hz2
    rw [List.nil_append] at F3
    have hbA3 : Below w2.heap.size w2 w3 := hbA.trans (b3.mono (by omega))
    obtain ⟨v4, w4, hr4, F4, b4⟩ := run_append_bytes F3 (by have := b3.size; simp at this; omega) ((HB.out.later (held_next Hb2.out hbA3)).2.2) HB.out.1 HB.out.2.1 (by have := HF.out.1.2; have := HFb.out; omega) i5 hi hz0 hz1 hz2
    have hbA4 : Below w2.heap.size w2 w4 := hbA3.trans (b4.mono (by omega))
    obtain ⟨⟨a6, n6, c6⟩, rfl, hS6, hO6⟩ := SB.fresh_off F4
    have hf1 : Fine Try.prog ((w2.alloc (.cells #[.slice a1 n1 c1, .slice a2 n2 c2, .slice a3 n3 c3, .slice a4 n4 c4] 26)).alloc (.cells #[] 5)) #[22, 22] 22 #[.slice (some ⟨w2.heap.size + 1, 0, none⟩) 0 0, .slice a2 n2 c2] := ⟨_, _, hr3⟩
    have hv1 : appV Try.prog ((w2.alloc (.cells #[.slice a1 n1 c1, .slice a2 n2 c2, .slice a3 n3 c3, .slice a4 n4 c4] 26)).alloc (.cells #[] 5)) #[22, 22] 22 #[.slice (some ⟨w2.heap.size + 1, 0, none⟩) 0 0, .slice a2 n2 c2] = v3 := by unfold appV; rw [hr3]; rfl
    have hw1 : appW Try.prog ((w2.alloc (.cells #[.slice a1 n1 c1, .slice a2 n2 c2, .slice a3 n3 c3, .slice a4 n4 c4] 26)).alloc (.cells #[] 5)) #[22, 22] 22 #[.slice (some ⟨w2.heap.size + 1, 0, none⟩) 0 0, .slice a2 n2 c2] = w3 := by unfold appW; rw [hr3]; rfl
    have hf2 : Fine Try.prog w3 #[22, 22] 22 #[v3, .slice b5 n5 c5] := ⟨_, _, hr4⟩
    have hv2 : appV Try.prog w3 #[22, 22] 22 #[v3, .slice b5 n5 c5] = .slice a6 n6 c6 := by unfold appV; rw [hr4]; rfl
    have hw2 : appW Try.prog w3 #[22, 22] 22 #[v3, .slice b5 n5 c5] = w4 := by unfold appW; rw [hr4]; rfl
    have HX4 : Hid (Whole w4 w2.heap.size 26 #[.slice a1 n1 c1, .slice a2 n2 c2, .slice a3 n3 c3, .slice a4 n4 c4]) := ((hxx.alloc (.cells #[] 5)).later b3 (by omega)).later b4 (by omega)
    have HX5 : Hid (Whole (w4.setCell ⟨w2.heap.size, 1, none⟩ (.slice a6 n6 c6)) w2.heap.size 26 #[.slice a1 n1 c1, .slice a6 n6 c6, .slice a3 n3 c3, .slice a4 n4 c4]) := HX4.out.set 1 (.slice a6 n6 c6)
    have HW4 := Lib.hid (HW2.out.later hbA4 HW2.out.lt)
    have HZ4 := Lib.hid (HZ2.out.later hbA4 HZ2.out.lt)
    have hlt1 : w.heap.size + 1 < w2.heap.size := HZ2.out.lt
    have HW6 : Hid (Whole (w4.setCell ⟨w2.heap.size, 1, none⟩ (.slice a6 n6 c6)) w.heap.size 26 #[.slice a1 n1 c1, .slice a2 n2 c2, .slice a3 n3 c3, .slice a4 n4 c4]) := HW4.out.other (p := ⟨w2.heap.size, 1, none⟩) (by show w.heap.size ≠ w2.heap.size; omega) _
    have HZ6 : Hid (Whole (w4.setCell ⟨w2.heap.size, 1, none⟩ (.slice a6 n6 c6)) (w.heap.size + 1) 26 #[.slice none 0 0, .slice none 0 0, .slice none 0 0, .slice none 0 0]) := HZ4.out.other (p := ⟨w2.heap.size, 1, none⟩) (by show w.heap.size + 1 ≠ w2.heap.size; omega) _
    have Hb4 := Lib.hid (held_next Hb2.out hbA4)
    have Hb6 : Hid (Below w.heap.size w (w4.setCell ⟨w2.heap.size, 1, none⟩ (.slice a6 n6 c6))) := Hb4.out.setCell (p := ⟨w2.heap.size, 1, none⟩) (by show w.heap.size ≤ w2.heap.size; omega) _
    have HO6 : Hid (∀ g, g < w2.heap.size → Off g ⟨a6, n6, c6⟩ (t.m.l ++ zb)) := fun g hg => hO6 g (by omega)
    have HS6 : Hid (SB (w4.setCell ⟨w2.heap.size, 1, none⟩ (.slice a6 n6 c6)) ⟨a6, n6, c6⟩ (t.m.l ++ zb)) := hS6.past fun b hb => by
      rcases hO6 w2.heap.size (by omega) with h0 | hg
      · exact Or.inr h0
      · rcases hb with h0 | hb
        · exact Or.inr h0
        · exact Or.inl (Below.heap_setCell _ _ _ _ (fun e => hg (by rw [hb, e])))
    have hszX : w2.heap.size < w4.heap.size := HX4.out.lt
    have hb3s := b3.size
    have hb4s := b4.size
    have hq : w.heap.size < w2.heap.size := by omega
    have x40 := HX4.out.cell 0
    have x41 := HX4.out.cell 1
    have x42 := HX4.out.cell 2
    have x43 := HX4.out.cell 3
    have fx4 := HX4.out.free 1
    have Hb3' := Lib.hid (held_next Hb2.out hbA3)
    clear hr3 hr4 F3 F4 hF0 b3 b4 hbA hbA3 hbA4 hS6 hO6 hi hz0 hz1 hz2 hxx
    go_wp2_with fail
    have HTB : Hid (TB (w4.setCell ⟨w2.heap.size, 1, none⟩ (.slice a6 n6 c6)) ⟨⟨⟨a1, n1, c1⟩, ⟨a6, n6, c6⟩⟩, ⟨⟨a3, n3, c3⟩, ⟨a4, n4, c4⟩⟩⟩ (wroteT t false zb)) := by rw [HWr.out]; exact ⟨⟨(H.out.1.1.later Hb6.out), HS6.out⟩, (H.out.2.1.later Hb6.out), (H.out.2.2.later Hb6.out)⟩
    refine (reftmay_calls ⟨⟨⟨a1, n1, c1⟩, ⟨a6, n6, c6⟩⟩, ⟨⟨a3, n3, c3⟩, ⟨a4, n4, c4⟩⟩⟩ (wroteT t false zb) _ HTB.out (by rw [HWr.out]; exact hfit)).mono ?_
    rw [Hm2.out]
    rintro e w7 ⟨rfl, hb7⟩
    have HW7 := Lib.hid (HW6.out.later hb7 HW6.out.lt)
    have HZ7 := Lib.hid (HZ6.out.later hb7 HZ6.out.lt)
    have HX7 := Lib.hid (HX5.out.later hb7 HX5.out.lt)
    have Hb7 := Lib.hid (held_next Hb6.out hb7)
    have hlt7 : w.heap.size + 1 < w7.heap.size := HZ7.out.lt
    have hltX : w2.heap.size < w7.heap.size := HX7.out.lt
    clear x40 x41 x42 x43 fx4
    cases m2 with
    | false =>
      obtain rfl : res = (t, 6) := HR.out.trans (if_neg (by decide))
      have q0 := HW7.out.cell 0
      have q1 := HW7.out.cell 1
      have q2 := HW7.out.cell 2
      have q3 := HW7.out.cell 3
      have z0 := HZ7.out.cell 0
      have y0 := HZ7.out.free 0
      have z1 := HZ7.out.cell 1
      have y1 := HZ7.out.free 1
      have z2 := HZ7.out.cell 2
      have y2 := HZ7.out.free 2
      have z3 := HZ7.out.cell 3
      have y3 := HZ7.out.free 3
      go_wp2_with fail
      have hL := tape_left4 HZ7.out (.slice a1 n1 c1) (.slice a2 n2 c2) (.slice a3 n3 c3) (.slice a4 n4 c4)
      have k0 := hL.cell 0
      have k1 := hL.cell 1
      have k2 := hL.cell 2
      have k3 := hL.cell 3
      refine bodyPost_ret (v := .tuple #[.agg #[.slice a1 n1 c1, .slice a2 n2 c2, .slice a3 n3 c3, .slice a4 n4 c4], .int .i64 6]) (by simp [results, Try.results9, go_sem, k0, k1, k2, k3]) rfl ?_
      exact ⟨⟨⟨⟨a1, n1, c1⟩, ⟨a2, n2, c2⟩⟩, ⟨⟨a3, n3, c3⟩, ⟨a4, n4, c4⟩⟩⟩, rfl, ⟨⟨((H.out.1.1.later Hb7.out).four (H.out.1.1.off (Nat.le_succ _)) _ _ _ _), ((H.out.1.2.later Hb7.out).four (H.out.1.2.off (Nat.le_succ _)) _ _ _ _)⟩, ((H.out.2.1.later Hb7.out).four (H.out.2.1.off (Nat.le_succ _)) _ _ _ _), ((H.out.2.2.later Hb7.out).four (H.out.2.2.off (Nat.le_succ _)) _ _ _ _)⟩, fun g hg h => h.1, below_four Hb7.out (Nat.le_succ _) _ _ _ _⟩
    | true =>
      obtain rfl : res = (wroteT t false zb, 0) := HR.out.trans (if_pos rfl)
      have q0 := HX7.out.cell 0
      have q1 := HX7.out.cell 1
      have q2 := HX7.out.cell 2
      have q3 := HX7.out.cell 3
      have z0 := HZ7.out.cell 0
      have y0 := HZ7.out.free 0
      have z1 := HZ7.out.cell 1
      have y1 := HZ7.out.free 1
      have z2 := HZ7.out.cell 2
      have y2 := HZ7.out.free 2
      have z3 := HZ7.out.cell 3
      have y3 := HZ7.out.free 3
      go_wp2_with fail
      have HT7 : Hid (wroteT t false zb = ⟨⟨t.m.s, t.m.l ++ zb⟩, t.s⟩) := HWr.out
      rw [HT7.out]
      have hL := tape_left4 HZ7.out (.slice a1 n1 c1) (.slice a6 n6 c6) (.slice a3 n3 c3) (.slice a4 n4 c4)
      have k0 := hL.cell 0
      have k1 := hL.cell 1
      have k2 := hL.cell 2
      have k3 := hL.cell 3
      refine bodyPost_ret (v := .tuple #[.agg #[.slice a1 n1 c1, .slice a6 n6 c6, .slice a3 n3 c3, .slice a4 n4 c4], .int .i64 0]) (by simp [results, Try.results9, go_sem, k0, k1, k2, k3]) rfl ?_
      exact ⟨⟨⟨⟨a1, n1, c1⟩, ⟨a6, n6, c6⟩⟩, ⟨⟨a3, n3, c3⟩, ⟨a4, n4, c4⟩⟩⟩, rfl, ⟨⟨((H.out.1.1.later Hb7.out).four (H.out.1.1.off (Nat.le_succ _)) _ _ _ _), ((HS6.out.later hb7).four (HO6.out _ hlt1) _ _ _ _)⟩, ((H.out.2.1.later Hb7.out).four (H.out.2.1.off (Nat.le_succ _)) _ _ _ _), ((H.out.2.2.later Hb7.out).four (H.out.2.2.off (Nat.le_succ _)) _ _ _ _)⟩, fun g hg h => ⟨⟨h.1.1.1, HO6.out g (by omega)⟩, h.1.2.1, h.1.2.2⟩, below_four Hb7.out (Nat.le_succ _) _ _ _ _⟩
end Go.Proofs.Ytokdppjpgeaiiaa
