/- Package share: all replicas but one, and which of them has the least. No law is proved here. -/
import Derived.Test.YtkkhecdmjcffjaaShareSmall
import Derived.Test.YtkkhecdmjcffjaaAppend
import Derived.Test.YtkkhecdmjcffjaaAppRun
import Derived.OwnWalk
namespace Go.Proofs.Ytkkhecdmjcffjaa
open Go.RowKit

/-- all below a number but one, in order -/
def othersN (who : Int) : Nat → List Int
  | 0 => []
  | k + 1 => if (k : Int) = who then othersN who k else othersN who k ++ [(k : Int)]
theorem others_length (who : Int) : ∀ k, (othersN who k).length ≤ k
  | 0 => Nat.le_refl _
  | k + 1 => by
    have := others_length who k
    unfold othersN
    split
    · omega
    · rw [List.length_append, List.length_singleton]; omega
/-- the least so far, and whether there is one -/
def leastS (g : Int → Int) (s : Int × Bool) (x : Int) : Int × Bool := if s.2 = false ∨ g x < g s.1 then (x, true) else s
def leastF (g : Int → Int) (l : List Int) : Int × Bool := l.foldl (leastS g) (0, false)
theorem leastF_push (g : Int → Int) (l : List Int) (x : Int) : leastF g (l ++ [x]) = leastS g (leastF g l) x := by
  unfold leastF
  rw [List.foldl_append]
  rfl
theorem least_others (g : Int → Int) (who : Int) : ∀ k, leastF g (othersN who k) = if poorU g who k < 0 then (0, false) else (poorU g who k, true)
  | 0 => rfl
  | k + 1 => by
    have ih := least_others g who k
    unfold othersN poorU
    by_cases h : (k : Int) = who
    · rw [if_pos h, if_pos h]; exact ih
    · rw [if_neg h, if_neg h, leastF_push, ih]
      by_cases h2 : poorU g who k < 0
      · rw [if_pos h2, if_pos h2, if_neg (by omega)]
        rfl
      · rw [if_neg h2, if_neg h2]
        unfold leastS
        by_cases h3 : g (k : Int) < g (poorU g who k)
        · rw [if_pos (Or.inr h3), if_pos h3, if_neg (by omega)]
        · rw [if_neg (by simp [h3]), if_neg h3, if_neg h2]
/-- what the least of the others says of the poorest -/
theorem poorU_of_least {g : Int → Int} {who t : Int} {b : Bool} {N : Nat} {os : List Int} (ho : othersN who N = os) (h : leastF g os = (t, b)) : if b then poorU g who N = t ∧ 0 ≤ t else poorU g who N < 0 := by
  subst ho
  rw [least_others] at h
  by_cases hp : poorU g who N < 0
  · rw [if_pos hp] at h
    cases h
    exact hp
  · rw [if_neg hp] at h
    cases h
    exact ⟨rfl, by omega⟩

theorem info_plain : (Try.prog.info? 3).map (fun i => (i.zero, i.size, i.bytes)) = some (some (.int .i64 0), 1, 8) := by kernel_rfl
theorem ints_both (l k : List Int) : (fun i (_ : Nat) => if i < l.length then Value.int .i64 (l[i]?.getD 0) else Value.int .i64 (k[i - l.length]?.getD 0)) = fun i _ => Value.int .i64 ((l ++ k)[i]?.getD 0) := by
  funext i _
  by_cases h : i < l.length
  · rw [if_pos h, List.getElem?_append_left h]
  · rw [if_neg h, List.getElem?_append_right (by omega)]
/-- a row of the call's own that holds plain numbers -/
abbrev OwnI (w : World) (base : Nat) (v : Value) (l : List Int) : Prop := w.ownsRow base 3 1 v l.length (flatCells 1 l.length fun i _ => .int .i64 (l[i]?.getD 0))
theorem OwnI.nums {w : World} {base : Nat} {v : Value} {l : List Int} (h : OwnI w base v l) (hb : l.length ≤ 9223372036854775807) : ∃ A C, v = .slice A l.length C ∧ Nums w (.slice A l.length C) l := by
  obtain ⟨A, C, hv, _, he⟩ := elems_of_own h hb
  exact ⟨A, C, hv, he⟩
theorem one_int {w : World} {g : Nat} {x : Int} (h : Whole w g 3 #[.int .i64 x]) : Nums w (.slice (some ⟨g, 0, none⟩) 1 1) [x] := by
  refine ⟨show 1 ≤ 9223372036854775807 by decide, Or.inr ⟨g, 0, 1, rfl, Nat.le_refl _, fun i j hi hj => ?_⟩⟩
  have hi : i < 1 := hi
  obtain rfl : i = 0 := by omega
  obtain rfl : j = 0 := by omega
  exact h.cell 0
/-- THE APPEND of numbers to numbers of the call's own, as it runs -/
theorem run_append_ints {w : World} {base : Nat} {v : Value} {l k : List Int} {A : Option Addr} {m c : Nat} (hown : OwnI w base v l) (hE : Nums w (.slice A m c) k) (hm : m = k.length) (h : l.length + k.length ≤ 1000000) (hbase : base ≤ w.heap.size) :
    ∃ v' w', (Builtin.append_ #[43, 43] 43 #[v, .slice A m c]).run Try.prog w = .ok v' w' ∧ OwnI w' base v' (l ++ k) ∧ Below base w w' ∧ Grew w w' v v' := by
  subst hm
  obtain ⟨i5, hi, hz0, hz1, hz2⟩ := info_parts info_plain
  obtain ⟨v', w', h1, h2, h3, h4⟩ := run_append_elems (P := Try.prog) (w := w) 43 43 base 3 i5 _ 1 8 Try.underlying43 hi hz0 hz1 hz2 rfl (by decide)
    v l.length _ hown A k.length c _ hE (fun i j _ _ => rfl) (by unfold maxLen; omega) (by omega) hbase
  refine ⟨v', w', h1, ?_, h3, h4⟩
  rw [ints_both] at h2
  show OwnI w' base v' (l ++ k)
  unfold OwnI
  rw [List.length_append]
  exact h2
/-- numbers of the call's own, or nil -/
def MadeI (w : World) (l : List Int) (e : Ending) (w' : World) : Prop := ∃ A C, e = .returned (.slice A l.length C) ∧ Nums w' (.slice A l.length C) l ∧ Below w.heap.size w w'
section
attribute [local go_sem ↓] run_fine
set_option maxRecDepth 100000 in
set_option maxHeartbeats 8000000 in
theorem others_calls (c : Cf) (v : Value) (who : Int) (hn0 : 0 ≤ c.n) (hn : c.n ≤ 16) (w : World) :
    Calls Try.prog 17 #[shV c v, .int .i64 who] w (MadeI w (othersN who c.n.toNat)) := by
  have HW := Lib.hid (Whole.made w 39 (shCells c v))
  have Hb0 := Lib.hid (below_box w (.cells (shCells c v) 39))
  obtain ⟨n, q, r, p, kk, cc⟩ := c
  simp only at hn hn0 ⊢
  obtain ⟨N, rfl⟩ : ∃ N : Nat, n = (N : Int) := ⟨n.toNat, by omega⟩
  simp only [Int.toNat_natCast]
  obtain ⟨d0, d1, d2, d3, d4, d5, d6⟩ := sh_cells HW.out
  simp only at d0 d1 d2 d3 d4 d5 d6
  go_enter Try.func17, Try.ntmps17
  go_wp2_with fail
  clear d0 d1 d2 d3 d4 d5 d6
  go_loopw [5, 10] (fun s5 s10 wr => ∃ (k : Nat) (tv : Value), k ≤ N ∧ s5 = tv ∧ s10 = .int .i64 (k : Int) ∧ Hid (OwnI wr w.heap.size tv (othersN who k)) ∧ Hid (Below w.heap.size w wr)) (fun _ s10 _ => N - (intOf s10).toNat)
  case atStart => exact ⟨0, _, Nat.zero_le _, rfl, rfl, World.ownsRow_nil _ _ _ _, Hb0.out⟩
  case round =>
    obtain ⟨k, tv, hk, htv, rfl, HO, Hb⟩ := hrel
    have htv' := htv.symm
    subst htv'
    clear htv
    by_cases hlt : k < N
    · have k0 : (0 : Int) ≤ (k : Int) := by omega
      have k1 : (k : Int) < (N : Int) := by omega
      by_cases hw : (k : Int) = who
      · have s1 : ((k : Int) != who) = false := by simp [hw]
        have HO2 : Hid (OwnI wr w.heap.size tv (othersN who (k + 1))) := by
          show OwnI _ _ _ _
          unfold othersN
          rw [if_pos hw]; exact HO.out
        have Hw := Lib.hid hw; clear hw
        go_wp2_with fail
        go_roundw
        case rel => exact ⟨k + 1, _, by omega, rfl, by go_num, HO2, Hb⟩
        case measure => simp [intOf]; omega
      · have s1 : ((k : Int) != who) = true := bne_iff_ne.2 hw
        have hlen := others_length who k
        have hb1 := below_box wr (.cells #[.int .i64 (k : Int)] 3)
        have hone := one_int (Whole.made wr 3 #[.int .i64 (k : Int)])
        obtain ⟨v1, w1, hrun, q1, q2, q3⟩ := run_append_ints (own_later HO.out hb1) hone rfl (by rw [List.length_singleton]; omega) (by have := Hb.out.size; have := hb1.size; omega)
        have HO2 : Hid (OwnI w1 w.heap.size v1 (othersN who (k + 1))) := by
          show OwnI _ _ _ _
          unfold othersN
          rw [if_neg hw]; exact q1
        have Hbn : Hid (Below w.heap.size w w1) := (Hb.out.trans (hb1.mono Hb.out.size)).trans q2
        obtain ⟨hf1, hv1, hw1⟩ := fine_of hrun
        have Hw := Lib.hid hw
        clear hw hrun q1 q2 q3 hone hb1 hlen
        go_wp2_with fail
        go_roundw
        case rel => exact ⟨k + 1, _, by omega, rfl, by go_num, HO2, Hbn⟩
        case measure => simp [intOf]; omega
    · obtain rfl : k = N := by omega
      obtain ⟨A, C, hv, hN⟩ := HO.out.nums (by have := others_length who k; omega)
      subst hv
      have HN := Lib.hid hN; clear hN
      go_wp2_with fail
      go_ret
      exact ⟨A, C, by rfl, HN.out, Hb.out⟩
end
/-- a number and whether there is one -/
def TwoB (w : World) (x : Int × Bool) (e : Ending) (w' : World) : Prop := e = .returned (.tuple #[.int .i64 x.1, .bool x.2]) ∧ Below w.heap.size w w'
set_option maxRecDepth 100000 in
set_option maxHeartbeats 8000000 in
theorem least_calls (c : Cf) (a : Option Addr) (m cp : Nat) (l : List Rw) (hm : m = l.length) (A : Option Addr) (n C : Nat) (os : List Int) (hn : n = os.length) (w : World) (hB : Books w (.slice a m cp) l) (hN : Nums w (.slice A n C) os) :
    Calls Try.prog 16 #[.slice A n C, .func (Fn.func 18) #[shV c (.slice a m cp)] #[]] w (TwoB w (leastF (ofV c l) os)) := by
  have hbig : n ≤ 9223372036854775807 := by rw [hn]; exact hN.1
  have HC := Lib.hid (fun who w hw => sRights_calls c a m cp l who hm w hw)
  have HB := Lib.hid hB; clear hB hm
  have HN := Lib.hid hN; clear hN
  have Hn := Lib.hid hn; clear hn
  obtain ⟨q0, q1, q2, q3, q4, q5⟩ := c
  obtain ⟨g, Hg⟩ : ∃ z, Hid (ofV ⟨q0, q1, q2, q3, q4, q5⟩ l = z) := ⟨_, rfl⟩
  rw [Hg.out]
  go_enter Try.func16, Try.ntmps16
  go_wp2_with fail
  go_loopw [4, 5, 6, 12] (fun s4 s5 s6 s12 wr => ∃ (k : Nat) (t z : Int) (b : Bool), k ≤ n ∧ s4 = .int .i64 t ∧ s5 = .bool b ∧ s6 = .int .i64 z ∧ s12 = .int .i64 (k : Int) ∧ Hid (b = true → z = g t) ∧ Hid (leastF g (os.take k) = (t, b)) ∧ Hid (Below w.heap.size w wr)) (fun _ _ _ s12 _ => n - (intOf s12).toNat)
  case atStart => exact ⟨0, 0, 0, false, Nat.zero_le _, rfl, rfl, rfl, rfl, (fun h => by cases h), rfl, Below.refl _ _⟩
  case round =>
    obtain ⟨k, t, z, b, hk, rfl, rfl, rfl, rfl, HZ, HF, Hb⟩ := hrel
    by_cases hlt : k < n
    · have k0 : (0 : Int) ≤ (k : Int) := by omega
      have k1 : (k : Int) < (n : Int) := by omega
      have hkl : k < os.length := by rw [← Hn.out]; exact hlt
      obtain ⟨bb, ob, rfl, hbb, g4⟩ := HN.out.at hkl
      obtain ⟨x, Hx⟩ : ∃ z, Hid (os[k]?.getD 0 = z) := ⟨_, rfl⟩
      rw [Hx.out] at g4
      have g5 := cell_later Hb.out g4
      clear g4
      have HT : Hid (leastF g (os.take (k + 1)) = leastS g (t, b) x) := by
        show _ = _
        rw [List.take_succ_eq_append_getElem hkl, leastF_push, HF.out, ← Hx.out, List.getElem?_eq_getElem hkl]
        rfl
      clear hkl
      obtain ⟨gx, Hgx⟩ : ∃ z, Hid (g x = z) := ⟨_, rfl⟩
      have hcall := HC.out x
      rw [show ofV ⟨q0, q1, q2, q3, q4, q5⟩ l x = gx from (congrFun Hg.out x).trans Hgx.out] at hcall
      have HCall := Lib.hid hcall
      clear hcall
      go_wp2_with fail
      refine (HCall.out wr (HB.out.later Hb.out)).mono ?_
      rintro e w2 ⟨rfl, hb⟩
      have Hb2 := Lib.hid (held_next Hb.out hb)
      clear hb
      cases b with
      | false =>
        have HT2 : Hid (leastF g (os.take (k + 1)) = (x, true)) := HT.out.trans (if_pos (Or.inl rfl))
        go_wp2_with fail
        go_roundw
        case rel => exact ⟨k + 1, x, gx, true, by omega, rfl, rfl, rfl, by go_num, (fun _ => Hgx.out.symm), HT2, Hb2⟩
        case measure => simp [intOf]; omega
      | true =>
        obtain rfl : z = g t := HZ.out rfl
        obtain ⟨gt, Hgt⟩ : ∃ z, Hid (g t = z) := ⟨_, rfl⟩
        rw [Hgt.out]
        by_cases hlow : gx < gt
        · have HT2 : Hid (leastF g (os.take (k + 1)) = (x, true)) := HT.out.trans (if_pos (Or.inr (by rw [Hgx.out, show g (t, true).1 = gt from Hgt.out]; exact hlow)))
          go_wp2_with fail
          go_roundw
          case rel => exact ⟨k + 1, x, gx, true, by omega, rfl, rfl, rfl, by go_num, (fun _ => Hgx.out.symm), HT2, Hb2⟩
          case measure => simp [intOf]; omega
        · have HT2 : Hid (leastF g (os.take (k + 1)) = (t, true)) := HT.out.trans (if_neg (by rw [Hgx.out, show g (t, true).1 = gt from Hgt.out]; simp [hlow]))
          go_wp2_with fail
          go_roundw
          case rel => exact ⟨k + 1, t, gt, true, by omega, rfl, rfl, rfl, by go_num, (fun _ => Hgt.out.symm), HT2, Hb2⟩
          case measure => simp [intOf]; omega
    · obtain rfl : k = n := by omega
      have hF := HF.out
      rw [Hn.out, List.take_length] at hF
      have HF2 := Lib.hid hF; clear hF
      skip
      cases b <;> (go_wp2_with fail; go_ret2; exact ⟨by rw [HF2.out]; rfl, Hb.out⟩)
end Go.Proofs.Ytkkhecdmjcffjaa
