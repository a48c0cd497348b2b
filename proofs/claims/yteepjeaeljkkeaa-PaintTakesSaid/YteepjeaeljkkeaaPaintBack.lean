/- PaintBack, walked. No law is proved here. -/
import Derived.Test.YteepjeaeljkkeaaPaintAwake
import Derived.Test.YteepjeaeljkkeaaBytesRun
import Derived.Deep.RegionHeld3
namespace Go.Proofs.Yteepjeaeljkkeaa
open Go.RowKit
attribute [local go_sem ↓] run_fine

theorem flat_bulk (l : List Rw) : ∀ k, k ≤ l.length → (flatR (l.take k)).length + l.length = bulk l k + 2 * k
  | 0, _ => by simp [flatR, bulk]
  | k + 1, h => by
    have ih := flat_bulk l k (by omega)
    rw [take_flat (by omega), List.length_append]
    simp only [bulk]
    simp [rowN]
    omega
theorem flat_short {l : List Rw} (h : shortB l = true) : (flatR l).length ≤ 800 := by
  have h1 : bulk l l.length ≤ 400 := of_decide_eq_true h
  have h2 := (shortB_len h).1
  have h3 := flat_bulk l l.length (Nat.le_refl _)
  rw [List.take_length] at h3
  omega

set_option maxRecDepth 100000 in
set_option maxHeartbeats 8000000 in
theorem paintback_law (c : Cf) (b : Option Addr) (m d : Nat) (l : List Rw) (a : Option Addr) (n e : Nat) (za : List Int) (a' : Option Addr) (n' e' : Nat) (zb : List Int) (w : World) (hm : m = l.length) (hL : Books w (.slice b m d) l) (hR : Reach l)
    (hn : n = za.length) (hne : n ≤ e) (hA : Bytes w (.slice a n e) za) (hn' : n' = zb.length) (hne' : n' ≤ e') (hB : Bytes w (.slice a' n' e') zb) :
    Calls Try.prog 4 #[cfV c, .slice b m d, .slice a n e, .slice a' n' e'] w (Says w true) := by
  have hbign : n ≤ 9223372036854775807 := by rw [hn]; exact hA.1
  have hbign' : n' ≤ 9223372036854775807 := by rw [hn']; exact hB.1
  have HW := Lib.hid (Whole.made w 23 (cfCells c))
  have Hb0 := Lib.hid (below_box w (.cells (cfCells c) 23))
  have HL := Lib.hid hL; clear hL
  have HA := Lib.hid hA; clear hA
  have HB := Lib.hid hB; clear hB
  have Hm := Lib.hid hm; clear hm
  have Hn := Lib.hid hn; clear hn
  have Hn' := Lib.hid hn'; clear hn'
  have HR := Lib.hid hR; clear hR
  obtain ⟨nn, q, r, p, kk, cc⟩ := c
  obtain ⟨sh, Hsh⟩ : ∃ z, Hid (shortB l = z) := ⟨_, rfl⟩
  go_enter Try.func4, Try.ntmps4
  go_wp2_with fail
  refine (awake6 _).mono ?_
  rintro x w1 ⟨rfl, hb⟩
  have Hb1 := Lib.hid (held_next Hb0.out hb)
  have HW1 := Lib.hid (HW.out.later hb HW.out.lt)
  clear hb
  go_wp2_with fail
  refine (refshort_calls b m d l Hm.out HR.out _ (HL.out.later Hb1.out)).mono ?_
  rw [Hsh.out]
  rintro x w2 ⟨rfl, hb⟩
  have Hb2 := Lib.hid (held_next Hb1.out hb)
  have HW2 := Lib.hid (HW1.out.later hb HW1.out.lt)
  clear hb
  cases sh with
  | false =>
    go_wp2_with fail
    go_ret
    exact ⟨by rfl, Hb2.out⟩
  | true =>
  by_cases hn1 : 1000 < n
  · go_wp2_with fail
    go_ret
    exact ⟨by rfl, Hb2.out⟩
  by_cases hn2 : 1000 < n'
  · go_wp2_with fail
    go_ret
    exact ⟨by rfl, Hb2.out⟩
  have hfs := flat_short Hsh.out
  have Hfs := Lib.hid hfs; clear hfs
  go_wp2_with fail
  refine (pPut_calls a n e za b m d l _ (HA.out.later Hb2.out) Hn.out hne Hm.out (HL.out.later Hb2.out) (by have := Hfs.out; have := Hn.out; omega)).mono ?_
  rintro x w3 ⟨A, M, C, rfl, hM, hMC, hBy, hb⟩
  have Hb3 := Lib.hid (held_next Hb2.out hb)
  have HW3 := Lib.hid (HW2.out.later hb HW2.out.lt)
  have HBy := Lib.hid hBy
  have HM := Lib.hid hM
  have hMb : M ≤ 9223372036854775807 := by rw [HM.out]; exact HBy.out.1
  have hMn : n ≤ M := by rw [HM.out, List.length_append, ← Hn.out]; omega
  clear hb hBy hM
  have Hp := Lib.hid (fun W (h : Below w3.heap.size w3 W) => refpaint_calls a n e za b m d l W (HA.out.later (held_next Hb3.out h)) Hn.out Hm.out (HL.out.later (held_next Hb3.out h)) (by have := Hfs.out; have := Hn.out; omega))
  go_wp2_with fail
  go_region_held (fun W => Below w3.heap.size w3 W ∧ (convert 24 9 (.slice A M C)).run Try.prog W = .ok (.string (strOfNums (za ++ booksB l))) W)
    (first | exact keep_str HBy.out (Below.refl _ _).drew | (refine keep_str HBy.out ?_; assumption))
    (first | (go_at_call 12; have hcur := (‹Below w3.heap.size w3 _ ∧ _›).1; refine (Hp.out _ hcur).mono ?_; rintro x W' ⟨v', rfl, hb', hF'⟩; have hS' : Below w3.heap.size w3 W' := held_next hcur hb'; have hcv := str_any hF'.bytes))
  have Hb4 := Lib.hid (held_next Hb3.out hS')
  have HW4 := Lib.hid (HW3.out.later hS' HW3.out.lt)
  have HBy4 := Lib.hid (HBy.out.later hS')
  clear hS' hb' hF' hcv Hp
  obtain ⟨d0, d1, d2, d3, d4, d5⟩ := config_cells HW4.out
  simp only at d0 d1 d2 d3 d4 d5
  obtain ⟨ok, Hok⟩ : ∃ z, Hid (rightB ⟨nn, q, r, p, kk, cc⟩ l = z) := ⟨_, rfl⟩
  go_wp2_with fail
  refine (refright_calls ⟨nn, q, r, p, kk, cc⟩ b m d l Hm.out _ (HL.out.later Hb4.out)).mono ?_
  rw [Hok.out]
  rintro x w5 ⟨rfl, hb⟩
  have Hb5 := Lib.hid (held_next Hb4.out hb)
  have HW5 := Lib.hid (HW4.out.later hb HW4.out.lt)
  have HBy5 := Lib.hid (HBy4.out.later hb)
  clear hb d0 d1 d2 d3 d4 d5
  cases ok with
  | false =>
    go_wp2_with fail
    go_ret
    exact ⟨by rfl, Hb5.out⟩
  | true =>
  have htk : Hid (takeB ⟨nn, q, r, p, kk, cc⟩ (booksB l ++ zb) = some (l, zb)) := takeB_yes ⟨rightB_ok Hok.out, rfl⟩
  obtain ⟨i5, hi, hz0, hz1, hz2⟩ := info_parts info_u8
  obtain ⟨v6, hv6, hv6B, A6, C6, rfl, hC6⟩ := piece_any (zs := za ++ booksB l) HM.out hMn hMC
  have hdr : (za ++ booksB l).drop n = booksB l := by rw [Hn.out]; simp
  rw [hdr] at hv6B
  obtain ⟨M6, HM6⟩ : ∃ z, Hid (M - n = z) := ⟨_, rfl⟩
  rw [HM6.out] at hv6 hv6B hC6
  have hM6 : M6 = (booksB l).length := by rw [← HM6.out, HM.out, List.length_append, Hn.out]; omega
  have hb6 : Below w5.heap.size w5 (w5.alloc (.cells #[] 5)).drew := (below_box w5 _).drew
  have hbl := booksB_len l
  obtain ⟨v7, w7, hrun7, hF7, hb7⟩ := run_append_bytes (w := (w5.alloc (.cells #[] 5)).drew) (base := w5.heap.size) (v := .slice (some ⟨w5.heap.size, 0, none⟩) 0 0) (zs := []) (fresh_empty w5) hb6.size (hv6B _ (HBy5.out.later hb6)) hM6 hC6 (by have := Hfs.out; simp; omega) i5 hi hz0 hz1 hz2
  rw [List.nil_append] at hF7
  have hb67 : Below w5.heap.size w5 w7 := hb6.trans hb7
  obtain ⟨v8, w8, hrun8, hF8, hb8⟩ := run_append_bytes (w := w7) (base := w5.heap.size) hF7 hb67.size (HB.out.later (held_next Hb5.out hb67)) Hn'.out hne' (by have := Hfs.out; have := Hn'.out; omega) i5 hi hz0 hz1 hz2
  have hb68 : Below w5.heap.size w5 w8 := hb67.trans hb8
  obtain ⟨A8, M8, C8, rfl, hM8, hMC8⟩ := hF8.args
  have hf1 : Fine Try.prog (w5.alloc (.cells #[] 5)).drew #[24, 24] 24 #[.slice (some ⟨w5.heap.size, 0, none⟩) 0 0, .slice A6 M6 C6] := ⟨_, _, hrun7⟩
  have hv1 : appV Try.prog (w5.alloc (.cells #[] 5)).drew #[24, 24] 24 #[.slice (some ⟨w5.heap.size, 0, none⟩) 0 0, .slice A6 M6 C6] = v7 := by unfold appV; rw [hrun7]; rfl
  have hw1 : appW Try.prog (w5.alloc (.cells #[] 5)).drew #[24, 24] 24 #[.slice (some ⟨w5.heap.size, 0, none⟩) 0 0, .slice A6 M6 C6] = w7 := by unfold appW; rw [hrun7]; rfl
  have hf2 : Fine Try.prog w7 #[24, 24] 24 #[v7, .slice a' n' e'] := ⟨_, _, hrun8⟩
  have hv2 : appV Try.prog w7 #[24, 24] 24 #[v7, .slice a' n' e'] = .slice A8 M8 C8 := by unfold appV; rw [hrun8]; rfl
  have hw2 : appW Try.prog w7 #[24, 24] 24 #[v7, .slice a' n' e'] = w8 := by unfold appW; rw [hrun8]; rfl
  have KP : Hid (∀ w', Below w5.heap.size w5 w' → Below w5.heap.size w5 w' ∧ (w'.cell? ⟨w.heap.size, 0, none⟩ = some (.int .i64 nn) ∧ w'.cell? ⟨w.heap.size, 1, none⟩ = some (.int .i64 q) ∧ w'.cell? ⟨w.heap.size, 2, none⟩ = some (.int .i64 r) ∧ w'.cell? ⟨w.heap.size, 3, none⟩ = some (.int .i64 p) ∧ w'.cell? ⟨w.heap.size, 4, none⟩ = some (.int .i64 kk) ∧ w'.cell? ⟨w.heap.size, 5, none⟩ = some (.int .i64 cc))) :=
    fun w' h => ⟨h, config_cells (HW5.out.later h HW5.out.lt)⟩
  have OT : Hid (Calls Try.prog 7 #[cfV ⟨nn, q, r, p, kk, cc⟩, .slice A8 M8 C8] w8 (TookB w8 (some (l, zb)))) := by
    rw [← htk.out]
    exact pTake_calls ⟨nn, q, r, p, kk, cc⟩ A8 M8 C8 (booksB l ++ zb) w8 hF8.bytes hM8 hMC8
  have H68 := Lib.hid hb68
  have H67 := Lib.hid hb67
  have H66 := Lib.hid hb6
  clear hrun7 hrun8 hF7 hF8 hb7 hb8 hb6 hb67 hb68 hi hz0 hz1 hz2 hM8 hMC8 hv6B hM6 hC6 hbl hdr
  go_wp2_with fail
  go_region_held3 (fun w' => Below w5.heap.size w5 w' ∧ (w'.cell? ⟨w.heap.size, 0, none⟩ = some (.int .i64 nn) ∧ w'.cell? ⟨w.heap.size, 1, none⟩ = some (.int .i64 q) ∧ w'.cell? ⟨w.heap.size, 2, none⟩ = some (.int .i64 r) ∧ w'.cell? ⟨w.heap.size, 3, none⟩ = some (.int .i64 p) ∧ w'.cell? ⟨w.heap.size, 4, none⟩ = some (.int .i64 kk) ∧ w'.cell? ⟨w.heap.size, 5, none⟩ = some (.int .i64 cc)))
    (first | exact KP.out _ (Below.refl _ _).drew | exact KP.out _ H66.out | exact KP.out _ H67.out | exact KP.out _ H68.out | exact KP.out _ hS9)
    (first | (go_at_call 7; refine (OT.out).mono ?_; rintro x w9 (⟨l9, rest9, A9, C9, B9, D9, hlr, rfl, hBk9, hBr9, hD9, hb9⟩ | ⟨h9, _⟩); rotate_left 1; cases h9; simp only [Option.some.injEq, Prod.mk.injEq] at hlr; obtain ⟨rfl, rfl⟩ := hlr; have hS9 := H68.out.trans (hb9.mono H68.out.size)) | fail)
  have Hb9 := Lib.hid (held_next Hb5.out hS9)
  have HK9 := Lib.hid hBk9
  have HR9 := Lib.hid hBr9
  clear hS9 hBk9 hBr9 hD9 hb9 OT KP H66 H67 H68
  rw [← Hm.out] at HK9 ⊢
  rw [← Hn'.out] at HR9 ⊢
  go_wp2_with fail
  refine (refsamebooks_calls A9 m C9 b m d l l Hm.out Hm.out _ HK9.out (HL.out.later Hb9.out)).mono ?_
  rw [sameL_self]
  rintro x w10 ⟨rfl, hb⟩
  have hc1 := str_any (HR9.out.later hb)
  have hc2 := str_any (HB.out.later (held_next Hb9.out hb))
  have hs := str_same (rfl : strOfNums zb = strOfNums zb)
  have Hb10 := Lib.hid (held_next Hb9.out hb)
  clear hb
  go_wp2_with fail
  go_ret
  exact ⟨by simp, Hb10.out⟩
end Go.Proofs.Yteepjeaeljkkeaa
