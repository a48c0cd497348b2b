/- PaintCuts, walked. No law is proved here. -/
import Derived.Test.YteepjeaeljkkeaaPaintBack
namespace Go.Proofs.Yteepjeaeljkkeaa
open Go.RowKit
attribute [local go_sem ↓] run_fine

/-- the bytes of right books, cut short, are none's -/
theorem cut_none {c : Cf} {l : List Rw} (h : rightOk c l) {k : Nat} (hk : k < (booksB l).length) : takeB c ((booksB l).take k) = none := by
  refine takeB_no fun l' rest hs => ?_
  have h1 : Starts c (booksB l) l [] := ⟨h, by rw [List.append_nil]⟩
  have h2 : Starts c (booksB l) l' (rest ++ (booksB l).drop k) := ⟨hs.1, by rw [← List.append_assoc, ← hs.2, List.take_append_drop]⟩
  have h3 := (h1.unique h2).2
  have h4 := congrArg List.length h3
  rw [List.length_append, List.length_drop] at h4
  simp at h4
  omega
theorem books_some {c : Cf} {l : List Rw} (h : rightOk c l) : 0 < (booksB l).length := by
  have h1 := h.2.1
  have h2 := h.1.1
  cases l with
  | nil => simp at h1; omega
  | cons r l =>
    show 0 < (bytesN ((flatR (r :: l)).map u64n)).length
    have : (flatR (r :: l)).map u64n = u64n r.inc :: (r.use :: r.out ++ flatR l).map u64n := rfl
    rw [this, bytesN_cons, List.length_append]
    have := PackMath.num_pos (u64n r.inc)
    omega
set_option maxRecDepth 100000 in
set_option maxHeartbeats 8000000 in
theorem paintcuts_law (c : Cf) (b : Option Addr) (m d : Nat) (l : List Rw) (cut : Nat) (hcut : cut < 65536) (a : Option Addr) (n e : Nat) (zb : List Int) (w : World) (hm : m = l.length) (hL : Books w (.slice b m d) l) (hR : Reach l)
    (hn : n = zb.length) (hne : n ≤ e) (hB : Bytes w (.slice a n e) zb) :
    Calls Try.prog 5 #[cfV c, .slice b m d, .int .u16 (cut : Int), .slice a n e] w (Says w true) := by
  have hbign : n ≤ 9223372036854775807 := by rw [hn]; exact hB.1
  have HW := Lib.hid (Whole.made w 23 (cfCells c))
  have Hb0 := Lib.hid (below_box w (.cells (cfCells c) 23))
  have HL := Lib.hid hL; clear hL
  have HB := Lib.hid hB; clear hB
  have Hm := Lib.hid hm; clear hm
  have Hn := Lib.hid hn; clear hn
  have HR := Lib.hid hR; clear hR
  obtain ⟨nn, q, r, p, kk, cc⟩ := c
  obtain ⟨sh, Hsh⟩ : ∃ z, Hid (shortB l = z) := ⟨_, rfl⟩
  obtain ⟨ok, Hok⟩ : ∃ z, Hid (rightB ⟨nn, q, r, p, kk, cc⟩ l = z) := ⟨_, rfl⟩
  go_enter Try.func5, Try.ntmps5
  go_wp2_with fail
  refine (awake6 _).mono ?_
  rintro x w1 ⟨rfl, hb⟩
  have Hb1 := Lib.hid (held_next Hb0.out hb)
  have HW1 := Lib.hid (HW.out.later hb HW.out.lt)
  clear hb
  go_wp2_with fail
  refine (refshort_calls b m d l Hm.out HR.out _ (HL.out.later Hb1.out)).mono ?_
  rw [Hsh.out]
  rintro x w2 ⟨rfl, hb⟩
  have Hb2 := Lib.hid (held_next Hb1.out hb)
  have HW2 := Lib.hid (HW1.out.later hb HW1.out.lt)
  clear hb
  obtain ⟨d0, d1, d2, d3, d4, d5⟩ := config_cells HW2.out
  simp only at d0 d1 d2 d3 d4 d5
  cases sh with
  | false =>
    go_wp2_with fail
    go_ret
    exact ⟨by rfl, Hb2.out⟩
  | true =>
  go_wp2_with fail
  refine (refright_calls ⟨nn, q, r, p, kk, cc⟩ b m d l Hm.out _ (HL.out.later Hb2.out)).mono ?_
  rw [Hok.out]
  rintro x w3 ⟨rfl, hb⟩
  have Hb3 := Lib.hid (held_next Hb2.out hb)
  have HW3 := Lib.hid (HW2.out.later hb HW2.out.lt)
  clear hb d0 d1 d2 d3 d4 d5
  cases ok with
  | false =>
    go_wp2_with fail
    go_ret
    exact ⟨by rfl, Hb3.out⟩
  | true =>
  by_cases hn1 : 100 < n
  · go_wp2_with fail
    go_ret
    exact ⟨by rfl, Hb3.out⟩
  have Hfs := Lib.hid (flat_short Hsh.out)
  go_wp2_with fail
  refine (pPut_calls none 0 0 [] b m d l _ (bytes_nil _ _ _ (fun _ => rfl)) rfl (Nat.le_refl _) Hm.out (HL.out.later Hb3.out) (by have := Hfs.out; simp; omega)).mono ?_
  rw [List.nil_append]
  rintro x w5 ⟨A, M, C, rfl, hM, hMC, hBy, hb⟩
  have Hb5 := Lib.hid (held_next Hb3.out hb)
  have HW5 := Lib.hid (HW3.out.later hb HW3.out.lt)
  have HBy5 := Lib.hid hBy
  have HM := Lib.hid hM
  have hMb : M ≤ 9223372036854775807 := by rw [HM.out]; exact HBy5.out.1
  have hM0 : 0 < M := by rw [HM.out]; exact books_some (rightB_ok Hok.out)
  clear hb hBy hM
  obtain ⟨k, hk⟩ : ∃ k : Nat, (cut : Int) % (M : Int) = (k : Int) := ⟨cut % M, by omega⟩
  have hkM : k < M := by have := Int.emod_lt_of_pos (cut : Int) (show 0 < (M : Int) by omega); omega
  have hM1 : (M : Int) ≠ 0 := by omega
  have hcu : (cut : Int) < 65536 := by omega
  have hcut : takeB ⟨nn, q, r, p, kk, cc⟩ ((booksB l).take k) = none := cut_none (rightB_ok Hok.out) (by rw [← HM.out]; exact hkM)
  have Hcut := Lib.hid hcut; clear hcut
  go_wp2_with fail
  rw [hk]
  clear hk
  obtain ⟨v6, hv6, hv6B, A6, C6, rfl, hC6⟩ := piece_upto (zs := booksB l) HM.out (Nat.le_of_lt hkM) hMC
  have hk6 : k = ((booksB l).take k).length := by rw [List.length_take, ← HM.out]; omega
  have Hk6 := Lib.hid hk6; clear hk6
  have HV6 := Lib.hid hv6B; clear hv6B
  have KP : Hid (∀ w', Below w5.heap.size w5 w' → Below w5.heap.size w5 w' ∧ (w'.cell? ⟨w.heap.size, 0, none⟩ = some (.int .i64 nn) ∧ w'.cell? ⟨w.heap.size, 1, none⟩ = some (.int .i64 q) ∧ w'.cell? ⟨w.heap.size, 2, none⟩ = some (.int .i64 r) ∧ w'.cell? ⟨w.heap.size, 3, none⟩ = some (.int .i64 p) ∧ w'.cell? ⟨w.heap.size, 4, none⟩ = some (.int .i64 kk) ∧ w'.cell? ⟨w.heap.size, 5, none⟩ = some (.int .i64 cc))) :=
    fun w' h => ⟨h, config_cells (HW5.out.later h HW5.out.lt)⟩
  have OT : Hid (∀ w', Below w5.heap.size w5 w' → Calls Try.prog 7 #[cfV ⟨nn, q, r, p, kk, cc⟩, .slice A6 k C6] w' (TookB w' none)) := by
    rw [← Hcut.out]
    exact fun w' h => pTake_calls ⟨nn, q, r, p, kk, cc⟩ A6 k C6 ((booksB l).take k) w' (HV6.out _ (HBy5.out.later h)) Hk6.out hC6
  go_region_held3 (fun w' => Below w5.heap.size w5 w' ∧ (w'.cell? ⟨w.heap.size, 0, none⟩ = some (.int .i64 nn) ∧ w'.cell? ⟨w.heap.size, 1, none⟩ = some (.int .i64 q) ∧ w'.cell? ⟨w.heap.size, 2, none⟩ = some (.int .i64 r) ∧ w'.cell? ⟨w.heap.size, 3, none⟩ = some (.int .i64 p) ∧ w'.cell? ⟨w.heap.size, 4, none⟩ = some (.int .i64 kk) ∧ w'.cell? ⟨w.heap.size, 5, none⟩ = some (.int .i64 cc)))
    (first | exact KP.out _ (Below.refl _ _).drew | (refine KP.out _ ?_; assumption))
    (first | (go_at_call 7; have hcur := (‹Below w5.heap.size w5 _ ∧ _›).1; refine (OT.out _ hcur).mono ?_; rintro x w6 (⟨_, _, _, _, _, _, h9, _⟩ | ⟨_, rfl, hb6⟩); cases h9; have hS6 := held_next hcur hb6; clear hcur hb6) | fail)
  have Hb6 := Lib.hid (held_next Hb5.out hS6)
  have HW6 := Lib.hid (HW5.out.later hS6 HW5.out.lt)
  have HBy6 := Lib.hid (HBy5.out.later hS6)
  clear hS6 KP OT HV6 hv6
  have htk : Hid (takeB ⟨nn, q, r, p, kk, cc⟩ (booksB l ++ zb) = some (l, zb)) := takeB_yes ⟨rightB_ok Hok.out, rfl⟩
  obtain ⟨i5, hi, hz0, hz1, hz2⟩ := info_parts info_u8
  have hb66 : Below w6.heap.size w6 (w6.alloc (.cells #[] 5)).drew := (below_box w6 _).drew
  have hbl := booksB_len l
  obtain ⟨v7, w7, hrun7, hF7, hb7⟩ := run_append_bytes (w := (w6.alloc (.cells #[] 5)).drew) (base := w6.heap.size) (v := .slice (some ⟨w6.heap.size, 0, none⟩) 0 0) (zs := []) (fresh_empty w6) hb66.size (HBy6.out.later hb66) HM.out hMC (by have := Hfs.out; simp; omega) i5 hi hz0 hz1 hz2
  rw [List.nil_append] at hF7
  have hb67 : Below w6.heap.size w6 w7 := hb66.trans hb7
  obtain ⟨v8, w8, hrun8, hF8, hb8⟩ := run_append_bytes (w := w7) (base := w6.heap.size) hF7 hb67.size (HB.out.later (held_next Hb6.out hb67)) Hn.out hne (by have := Hfs.out; have := Hn.out; omega) i5 hi hz0 hz1 hz2
  have hb68 : Below w6.heap.size w6 w8 := hb67.trans hb8
  obtain ⟨A8, M8, C8, rfl, hM8, hMC8⟩ := hF8.args
  have hf1 : Fine Try.prog (w6.alloc (.cells #[] 5)).drew #[24, 24] 24 #[.slice (some ⟨w6.heap.size, 0, none⟩) 0 0, .slice A M C] := ⟨_, _, hrun7⟩
  have hv1 : appV Try.prog (w6.alloc (.cells #[] 5)).drew #[24, 24] 24 #[.slice (some ⟨w6.heap.size, 0, none⟩) 0 0, .slice A M C] = v7 := by unfold appV; rw [hrun7]; rfl
  have hw1 : appW Try.prog (w6.alloc (.cells #[] 5)).drew #[24, 24] 24 #[.slice (some ⟨w6.heap.size, 0, none⟩) 0 0, .slice A M C] = w7 := by unfold appW; rw [hrun7]; rfl
  have hf2 : Fine Try.prog w7 #[24, 24] 24 #[v7, .slice a n e] := ⟨_, _, hrun8⟩
  have hv2 : appV Try.prog w7 #[24, 24] 24 #[v7, .slice a n e] = .slice A8 M8 C8 := by unfold appV; rw [hrun8]; rfl
  have hw2 : appW Try.prog w7 #[24, 24] 24 #[v7, .slice a n e] = w8 := by unfold appW; rw [hrun8]; rfl
  have KP : Hid (∀ w', Below w6.heap.size w6 w' → Below w6.heap.size w6 w' ∧ (w'.cell? ⟨w.heap.size, 0, none⟩ = some (.int .i64 nn) ∧ w'.cell? ⟨w.heap.size, 1, none⟩ = some (.int .i64 q) ∧ w'.cell? ⟨w.heap.size, 2, none⟩ = some (.int .i64 r) ∧ w'.cell? ⟨w.heap.size, 3, none⟩ = some (.int .i64 p) ∧ w'.cell? ⟨w.heap.size, 4, none⟩ = some (.int .i64 kk) ∧ w'.cell? ⟨w.heap.size, 5, none⟩ = some (.int .i64 cc))) :=
    fun w' h => ⟨h, config_cells (HW6.out.later h HW6.out.lt)⟩
  have OT : Hid (Calls Try.prog 7 #[cfV ⟨nn, q, r, p, kk, cc⟩, .slice A8 M8 C8] w8 (TookB w8 (some (l, zb)))) := by
    rw [← htk.out]
    exact pTake_calls ⟨nn, q, r, p, kk, cc⟩ A8 M8 C8 (booksB l ++ zb) w8 hF8.bytes hM8 hMC8
  have H68 := Lib.hid hb68
  have H67 := Lib.hid hb67
  have H66 := Lib.hid hb66
  clear hrun7 hrun8 hF7 hF8 hb7 hb8 hb66 hb67 hb68 hi hz0 hz1 hz2 hM8 hMC8 hbl
  go_wp2_with fail
  go_region_held3 (fun w' => Below w6.heap.size w6 w' ∧ (w'.cell? ⟨w.heap.size, 0, none⟩ = some (.int .i64 nn) ∧ w'.cell? ⟨w.heap.size, 1, none⟩ = some (.int .i64 q) ∧ w'.cell? ⟨w.heap.size, 2, none⟩ = some (.int .i64 r) ∧ w'.cell? ⟨w.heap.size, 3, none⟩ = some (.int .i64 p) ∧ w'.cell? ⟨w.heap.size, 4, none⟩ = some (.int .i64 kk) ∧ w'.cell? ⟨w.heap.size, 5, none⟩ = some (.int .i64 cc)))
    (first | exact KP.out _ (Below.refl _ _).drew | exact KP.out _ H66.out | exact KP.out _ H67.out | exact KP.out _ H68.out | exact KP.out _ hS9)
    (first | (go_at_call 7; refine (OT.out).mono ?_; rintro x w9 (⟨l9, rest9, A9, C9, B9, D9, hlr, rfl, hBk9, hBr9, hD9, hb9⟩ | ⟨h9, _⟩); rotate_left 1; cases h9; simp only [Option.some.injEq, Prod.mk.injEq] at hlr; obtain ⟨rfl, rfl⟩ := hlr; have hS9 := H68.out.trans (hb9.mono H68.out.size)) | fail)
  have Hb9 := Lib.hid (held_next Hb6.out hS9)
  have HK9 := Lib.hid hBk9
  have HR9 := Lib.hid hBr9
  clear hS9 hBk9 hBr9 hD9 hb9 OT KP H66 H67 H68
  rw [← Hm.out] at HK9 ⊢
  rw [← Hn.out] at HR9 ⊢
  go_wp2_with fail
  refine (refsamebooks_calls A9 m C9 b m d l l Hm.out Hm.out _ HK9.out (HL.out.later Hb9.out)).mono ?_
  rw [sameL_self]
  rintro x w10 ⟨rfl, hb⟩
  have hc1 := str_any (HR9.out.later hb)
  have hc2 := str_any (HB.out.later (held_next Hb9.out hb))
  have hs := str_same (rfl : strOfNums zb = strOfNums zb)
  have Hb10 := Lib.hid (held_next Hb9.out hb)
  clear hb
  go_wp2_with fail
  go_ret
  exact ⟨by simp, Hb10.out⟩
end Go.Proofs.Yteepjeaeljkkeaa
