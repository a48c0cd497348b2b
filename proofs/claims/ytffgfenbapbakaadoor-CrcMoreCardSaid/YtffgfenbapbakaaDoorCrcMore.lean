/- CrcMore, walked. -/
import Derived.Test.YtffgfenbapbakaaDoorCrcWalks
namespace Go.Proofs.YtffgfenbapbakaaDoor
open Go.RowKit

theorem info5 : (Tryd.prog.info? 5).map (fun i => (i.zero, i.size, i.bytes)) = some (some (.int .u8 0), 1, 1) := by kernel_rfl

theorem bit_xor (c j : Nat) (hc : c < 256) (hj : j < 8) : bits .xor .u8 (c : Int) (2 ^ j % 256) = ((c ^^^ 2 ^ j : Nat) : Int) := by
  have hp : 2 ^ j < 256 := Nat.pow_lt_pow_right (by decide : 1 < 2) hj
  have e : ((2 : Int) ^ j % 256) = ((2 ^ j : Nat) : Int) := by
    have h8 : j = 0 ∨ j = 1 ∨ j = 2 ∨ j = 3 ∨ j = 4 ∨ j = 5 ∨ j = 6 ∨ j = 7 := by omega
    rcases h8 with rfl | rfl | rfl | rfl | rfl | rfl | rfl | rfl <;> decide
  rw [e, u8_xor_nat c (2 ^ j) hc hp]

theorem bytes_own {w : World} {base : Nat} {e : TypeId} {v : Value} {n : Nat} {zs : List Int} (hown : w.ownsRow base e 1 v n (zs.map (Value.int .u8))) (hn : v ≠ .slice none 0 0)
    (hb : n ≤ 9223372036854775807) (hs : ∀ c ∈ zs, 0 ≤ c ∧ c < 256) : Bytes w v zs := by
  obtain ⟨_, _, _, _, _, _, h⟩ := bytes_of_own hown hn hb hs
  exact h

/-- what the two appends leave -/
theorem all_of {W w : World} {B na nb ca cb : Nat} {a b : Option Addr} {v0 v1 v2 : Value} {za zb : List Int} (Hna : Hid (na = za.length)) (Hnb : Hid (nb = zb.length))
    (hv0 : v0 ≠ .slice none 0 0) (Hn1 : Hid (v1 = .slice none 0 0 → v0 = .slice none 0 0)) (Hn2 : Hid (v2 = .slice none 0 0 → v1 = .slice none 0 0))
    (Ho2 : Hid (w.ownsRow B 5 1 v2 (0 + za.length + zb.length) ([] ++ za.map (Value.int .u8) ++ zb.map (Value.int .u8))))
    (HA : Hid (Bytes W (.slice a na ca) za)) (HB : Hid (Bytes W (.slice b nb cb) zb)) (h1 : na ≤ 3000) (h2 : nb ≤ 3000) :
    ∃ g cap N : Nat, Hid (N = (za ++ zb).length) ∧ v2 = .slice (some ⟨g, 0, none⟩) N cap ∧ Hid (B ≤ g ∧ g < w.heap.size) ∧
      Hid (Bytes w (.slice (some ⟨g, 0, none⟩) N cap) (za ++ zb)) ∧ Hid (w.ownsRow B 5 1 (.slice (some ⟨g, 0, none⟩) N cap) N ((za ++ zb).map (Value.int .u8))) ∧ N ≤ 6000 := by
  have ho := Ho2.out
  rw [List.nil_append, ← List.map_append] at ho
  have ha := Hna.out
  have hb := Hnb.out
  have hs : ∀ c ∈ za ++ zb, 0 ≤ c ∧ c < 256 := fun c hc => by
    rcases List.mem_append.1 hc with h | h
    · exact HA.out.2.1 c h
    · exact HB.out.2.1 c h
  obtain ⟨g, cap, rfl, hl, hg1, hg2, hB2⟩ := bytes_of_own ho (fun e => hv0 (Hn1.out (Hn2.out e))) (by omega) hs
  exact ⟨g, cap, _, hl, rfl, ⟨hg1, hg2⟩, hB2, ho, by omega⟩

set_option maxRecDepth 100000 in
set_option maxHeartbeats 400000 in
theorem more_law (W : World) (na ca nb cb : Nat) (a b : Option Addr) (za zb : List Int) (m : Nat) (h65 : m < 65536) (q : Nat) (hq : q < 256)
    (hna : na = za.length) (hnb : nb = zb.length) (hA : Bytes W (.slice a na ca) za) (hB : Bytes W (.slice b nb cb) zb) (ht : Tab W) :
    Calls Tryd.prog 4 #[.slice a na ca, .slice b nb cb, .int .u16 (m : Int), .int .u8 (q : Int)] W fun e W' => e = .returned (.bool true) ∧ Below W.heap.size W W' := by
  have HT := Lib.hid ht; clear ht
  have HA := Lib.hid hA; clear hA
  have HB := Lib.hid hB; clear hB
  have hbiga := HA.out.1
  have hbigb := HB.out.1
  rw [← hna] at hbiga
  rw [← hnb] at hbigb
  have Hna := Lib.hid hna; clear hna
  have Hnb := Lib.hid hnb; clear hnb
  obtain ⟨i5, hi, hz0, hz1, hz2⟩ := info_parts info5
  by_cases h3 : na ≤ 3000 ∧ nb ≤ 3000
  · obtain ⟨h3a, h3b⟩ := h3
    have h3a' : ¬ 3000 < na := by omega
    have h3b' : ¬ 3000 < nb := by omega
    have Hi := Lib.hid hi; clear hi
    have Hz0 := Lib.hid hz0; clear hz0
    have Hz1 := Lib.hid hz1; clear hz1
    have Hz2 := Lib.hid hz2; clear hz2
    go_enter Tryd.func4, Tryd.ntmps4
    go_wp2_with fail
    refine (awake_calls _ HT.out).mono ?_
    rintro e w1 ⟨rfl, hb⟩
    have Hb := Lib.hid hb; clear hb
    have HA1 := Lib.hid (HA.out.later Hb.out)
    have HB1 := Lib.hid (HB.out.later Hb.out)
    have HT1 := Lib.hid (HT.out.later Hb.out)
    have hown0 : (w1.alloc (.cells #[] 5)).ownsRow w1.heap.size 5 1 (.slice (some ⟨w1.heap.size, 0, none⟩) 0 0) 0 [] := World.ownsRow_made w1 #[] 0 (Nat.le_refl _) (by decide) rfl
    have hbel0 : Below w1.heap.size w1 (w1.alloc (.cells #[] 5)) := (Below.refl _ _).alloc (Nat.le_refl _) _
    have Ho0 := Lib.hid hown0; clear hown0
    have Hl0 := Lib.hid hbel0; clear hbel0
    go_wp2_with (first
      | (at_builtin; refine wpList_append_bytes rfl (.tmp 22) (.tmp 23) 22 rfl w1.heap.size 5 i5 Tryd.underlying22 Hi.out Hz0.out Hz1.out Hz2.out (.slice (some ⟨w1.heap.size, 0, none⟩) 0 0) 0 [] rfl Ho0.out (.slice a na ca) za rfl (HA1.out.later Hl0.out) (by have := Hna.out; omega) (by simp) ?_; intro v1 w2 ho1 hg1 hn1; have Hl1 := Lib.hid (Hl0.out.grown hg1 (by simp) (fun k hk => (Ho0.out.lt k hk).1)); have Ho1 := Lib.hid ho1; have Hn1 := Lib.hid hn1; clear ho1 hg1 hn1)
      | (at_builtin; refine wpList_append_bytes rfl (.tmp 24) (.tmp 25) 22 rfl w1.heap.size 5 i5 Tryd.underlying22 Hi.out Hz0.out Hz1.out Hz2.out v1 (0 + za.length) ([] ++ za.map (Value.int .u8)) rfl Ho1.out (.slice b nb cb) zb rfl (HB1.out.later Hl1.out) (by have := Hna.out; have := Hnb.out; omega) Hl1.out.size ?_; intro v2 w3 ho2 hg2 hn2; have Hl2 := Lib.hid (Hl1.out.grown hg2 Hl1.out.size (fun k hk => (Ho1.out.lt k hk).1)); have Ho2 := Lib.hid ho2; have Hn2 := Lib.hid hn2; clear ho2 hg2 hn2; obtain ⟨g, cap, N, HN, hv2, Hg, HBall, Hoall, hN6⟩ := all_of Hna Hnb (by simp) Hn1 Hn2 Ho2 HA1 HB1 h3a h3b; subst hv2; clear Hn1 Hn2 Ho2))
    have HBW : Hid (Below W.heap.size W w3) := Hb.out.trans (Hl2.out.mono (Hb.out.size))
    have HT3 := Lib.hid (HT.out.later HBW.out)
    obtain ⟨r, hr⟩ : ∃ r, CrcMath.sum (za ++ zb) = r := ⟨_, rfl⟩
    have Hr := Lib.hid hr; clear hr
    refine (sum_calls _ _ _ HBall.out HT3.out).mono ?_
    rintro e w' ⟨rfl, rfl⟩
    rw [Hr.out]
    go_wp2_with fail
    refine (sum_calls _ _ _ (HA.out.later HBW.out) HT3.out).mono ?_
    rintro e w' ⟨rfl, rfl⟩
    go_wp2_with fail
    refine (more_calls (CrcMath.sum za) (CrcMath.more_lt 0 za) _ _ _ (HB.out.later HBW.out) HT3.out).mono ?_
    rintro e w' ⟨rfl, rfl⟩
    rw [CrcMath.more_sum _ _ HA.out.2.1, Hr.out]
    go_wp2_with fail
    refine (ref_calls _ _ _ HBall.out).mono ?_
    rintro e w' ⟨rfl, rfl⟩
    rw [Hr.out]
    by_cases hN : N = 0
    · subst hN
      go_wp2_with fail
      go_ret
      exact ⟨rfl, HBW.out⟩
    · have hN0 : ((N : Int) == 0) = false := beq_eq_false_iff_ne.2 (by omega)
      have hK : m % N < N := Nat.mod_lt _ (by omega)
      obtain ⟨c, hc⟩ : ∃ c : Nat, (za ++ zb).getD (m % N) 0 = (c : Int) := by
        obtain ⟨h0, _⟩ := CrcMath.Small.at HBall.out.2.1 (k := m % N) (by have := HN.out; omega)
        exact Int.eq_ofNat_of_zero_le h0
      have hc256 : c < 256 := by
        obtain ⟨_, h1⟩ := CrcMath.Small.at HBall.out.2.1 (k := m % N) (by have := HN.out; omega)
        omega
      have hcell : w3.cell? ⟨g, m % N, none⟩ = some (.int .u8 (c : Int)) := by
        rw [Hoall.out.cellAt _ (by omega), ← hc]
        have : m % N < (za ++ zb).length := by have := HN.out; omega
        rw [List.getElem?_map, List.getElem?_eq_getElem this, List.getD_eq_getElem?_getD, List.getElem?_eq_getElem this]
        rfl
      have hfz : w3.frozen? ⟨g, m % N, none⟩ = false := Hoall.out.frozenAt _
      have Hc := Lib.hid hc; clear hc
      have hx := bit_xor c (q % 8) hc256 (by omega)
      have hd256 : c ^^^ 2 ^ (q % 8) < 256 := Nat.xor_lt_two_pow (n := 8) hc256 (Nat.pow_lt_pow_right (by decide : 1 < 2) (by omega : q % 8 < 8))
      have hne := CrcMath.turned_ne c (q % 8)
      generalize c ^^^ 2 ^ (q % 8) = d at hx hd256 hne
      obtain ⟨ho4, hg4⟩ := Hoall.out.stored (m % N) (.int .u8 (d : Int))
      rw [← List.map_set] at ho4
      have hKl : m % N < (za ++ zb).length := by have := HN.out; omega
      have hsm : CrcMath.Small ((za ++ zb).set (m % N) (d : Int)) := fun x hx => by
        rcases List.mem_or_eq_of_mem_set hx with h | rfl
        · exact HBall.out.2.1 x h
        · omega
      have hne4 : CrcMath.sum ((za ++ zb).set (m % N) (d : Int)) ≠ r := by
        rw [← Hr.out]
        exact CrcMath.sum_set _ _ _ hKl HBall.out.2.1 (by omega) (by rw [Hc.out]; omega)
      obtain ⟨r4, hr4⟩ : ∃ r4, CrcMath.sum ((za ++ zb).set (m % N) (d : Int)) = r4 := ⟨_, rfl⟩
      rw [hr4] at hne4
      have hfin : ((r4 : Int) != (r : Int)) = true := by rw [bne_iff_ne]; omega
      have Hr4 := Lib.hid hr4
      have HBb4 := Lib.hid (bytes_own ho4 (by simp) (by omega) hsm)
      have Hl4 := Lib.hid (HBW.out.grown hg4 HBW.out.size (fun k hk => by cases hk; have := Hg.out.1; have := Hb.out.size; omega))
      clear ho4 hg4 hKl hsm hne hne4 hr4
      have HT4 := Lib.hid (HT.out.later Hl4.out)
      go_wp2_with fail
      refine (sum_calls _ _ _ HBb4.out HT4.out).mono ?_
      rintro e w' ⟨rfl, rfl⟩
      rw [Hr4.out]
      go_wp2_with fail
      go_ret
      exact ⟨rfl, Hl4.out⟩
  · by_cases h3a : na ≤ 3000
    · have h3b' : 3000 < nb := by omega
      have h3a' : ¬ 3000 < na := by omega
      go_enter Tryd.func4, Tryd.ntmps4
      go_wp2_with fail
      refine (awake_calls _ HT.out).mono ?_
      rintro e w1 ⟨rfl, hb⟩
      have Hb := Lib.hid hb; clear hb
      go_wp2_with fail
      go_ret
      exact ⟨rfl, Hb.out⟩
    · have h3a' : 3000 < na := by omega
      go_enter Tryd.func4, Tryd.ntmps4
      go_wp2_with fail
      refine (awake_calls _ HT.out).mono ?_
      rintro e w1 ⟨rfl, hb⟩
      have Hb := Lib.hid hb; clear hb
      go_wp2_with fail
      go_ret
      exact ⟨rfl, Hb.out⟩
end Go.Proofs.YtffgfenbapbakaaDoor
