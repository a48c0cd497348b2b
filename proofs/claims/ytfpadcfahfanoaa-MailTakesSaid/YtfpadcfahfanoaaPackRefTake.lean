/- The walk of the document's own Take: the first bytes up to one below 128, if that is put so. -/
import Derived.Test.YtfpadcfahfanoaaMg11
import Derived.Test.YtfpadcfahfanoaaMg14
import Derived.Deep.RegionHeld3
namespace Go.Proofs.Ytfpadcfahfanoaa
open Go.RowKit

theorem piece_to {W : World} {b off n c hi : Nat} {zs : List Int} (hB : Bytes W (.slice (some ⟨b, off, none⟩) n c) zs) (hn : n = zs.length) (h2 : hi ≤ n) (h3 : n ≤ c) :
    Bytes W (.slice (some ⟨b, off, none⟩) hi c) (zs.take hi) := by
  have := bytes_sliced hB hn (Nat.zero_le hi) h2 h3
  rw [List.drop_zero] at this
  unfold sliced at this
  simpa [Addr.add] using this
theorem piece_any {a : Option Addr} {n c lo : Nat} {zs : List Int} (hn : n = zs.length) (h1 : lo ≤ n) (h3 : n ≤ c) :
    ∃ v, (∀ w, (Instr.slice 24 (.slice a n c) (some (.int .i64 (lo : Int))) none none).run Try.prog w = .ok v w) ∧ (∀ W', Bytes W' (.slice a n c) zs → Bytes W' v (zs.drop lo)) ∧ ∃ a' c', v = .slice a' (n - lo) c' ∧ n - lo ≤ c' := by
  refine ⟨sliced a lo n c 1, fun w => ?_, fun W' hB' => ?_, _, _, rfl, by omega⟩
  · rw [run_slice_l w 24 a n c elem_bytes .i64 lo (by omega) (by omega), size_bytes]
    simp [Result.andThen]
  · have := bytes_sliced hB' hn h1 (Nat.le_refl n) h3
    rwa [hn, List.take_length, ← hn] at this
theorem piece_from {W : World} {a : Option Addr} {n c lo : Nat} {zs : List Int} (hB : Bytes W (.slice a n c) zs) (hn : n = zs.length) (h1 : lo ≤ n) (h3 : n ≤ c) :
    ∃ v, (∀ w, (Instr.slice 24 (.slice a n c) (some (.int .i64 (lo : Int))) none none).run Try.prog w = .ok v w) ∧ Bytes W v (zs.drop lo) ∧ ∃ a' c', v = .slice a' (n - lo) c' ∧ n - lo ≤ c' := by
  obtain ⟨v, hv, hb, ha⟩ := piece_any hn h1 h3
  exact ⟨v, hv, hb W hB, ha⟩
theorem str_any {w : World} {v : Value} {zs : List Int} (hB : Bytes w v zs) : (convert 24 9 v).run Try.prog w = .ok (.string (strOfNums zs)) w :=
  run_string hB Try.underlying24 Try.underlying5 Try.underlying9

/-- the two halves of the first loop's test -/
theorem num_going {zs rest : List Int} {x k : Nat} (h : PackMath.Begins zs x rest) (hk : k < (PackMath.num x).length) :
    ∃ c : Nat, zs.getD k 0 = (c : Int) ∧ c < 256 ∧ (k + 1 < (PackMath.num x).length ↔ 128 ≤ c) ∧ c % 128 = (x / 128 ^ k) % 128 := by
  have e : zs.getD k 0 = (PackMath.num x).getD k 0 := by
    rw [h.2, List.getD_eq_getElem?_getD, List.getElem?_append_left hk, List.getD_eq_getElem?_getD]
  have h1 := PackMath.num_digit x k hk
  have h2 := PackMath.num_high x k hk
  have h3 := PackMath.num_bytes x ((PackMath.num x).getD k 0) (by
    rw [List.getD_eq_getElem?_getD, List.getElem?_eq_getElem hk]; exact List.getElem_mem hk)
  obtain ⟨c, hc⟩ := Int.eq_ofNat_of_zero_le h3.1
  rw [hc] at h1 h2 h3
  refine ⟨c, e.trans hc, by omega, by omega, by omega⟩

theorem keep_next {w W W' : World} (h : Below w.heap.size w W) (h' : Below W.heap.size W W') : Below w.heap.size w W' := h.trans (h'.mono h.size)
theorem keep_str {w W : World} {v : Value} {zs : List Int} (hB : Bytes w v zs) (h : Below w.heap.size w W) : Below w.heap.size w W ∧ (convert 24 9 v).run Try.prog W = .ok (.string (strOfNums zs)) W := ⟨h, str_any (hB.later h)⟩

theorem digit_step (q c q' : Nat) (hq : 128 * q + c % 128 = q') (hx : q' < 18446744073709551616) :
    IntKind.u64.wrap (128 * (q : Int)) = 128 * (q : Int) ∧ IntKind.u64.wrap (128 * (q : Int) + (c : Int) % 128) = (q' : Int) := by
  refine ⟨?_, ?_⟩
  · rw [IntKind.wrap_u64]; exact Int.emod_eq_of_lt (by omega) (by omega)
  · rw [IntKind.wrap_u64, Int.emod_eq_of_lt (by omega) (by omega)]; omega
theorem digits_le (x i : Nat) : x / 128 ^ i ≤ x := Nat.div_le_self _ _

set_option maxRecDepth 100000 in
set_option maxHeartbeats 1000000 in
theorem reftake_yes_some (b off n c : Nat) (zs rest : List Int) (x : Nat) (w : World) (hB : Bytes w (.slice (some ⟨b, off, none⟩) n c) zs) (hcell : ∀ j, j < zs.length → w.cell? ⟨b, off + j, none⟩ = some (.int .u8 (zs.getD j 0))) (hn : n = zs.length) (hnc : n ≤ c) (hx : PackMath.Begins zs x rest) :
    ∃ v, (Calls Try.prog 43 #[.slice (some ⟨b, off, none⟩) n c] w fun e w' => e = .returned (.tuple #[.int .u64 x, v, .bool true]) ∧ Below w.heap.size w w') ∧ (∀ W, Bytes W (.slice (some ⟨b, off, none⟩) n c) zs → Bytes W v rest) ∧ ∃ a' c', v = .slice a' rest.length c' ∧ rest.length ≤ c' := by
  have hl : zs.length = (PackMath.num x).length + rest.length := by rw [hx.2, List.length_append]
  obtain ⟨v, hv, hb, ha⟩ := piece_any (lo := (PackMath.num x).length) hn (by omega) hnc
  have hub := piece_to (hi := (PackMath.num x).length) hB hn (by omega) hnc
  refine ⟨v, ?_, fun W hW => by have := hb W hW; rw [hx.2] at this; simpa using this, by rwa [show n - (PackMath.num x).length = rest.length by omega] at ha⟩
  clear hb ha
  have htk : zs.take (PackMath.num x).length = PackMath.num x := by rw [hx.2]; simp
  rw [htk] at hub
  have hbig := hB.1
  rw [← hn] at hbig
  obtain ⟨L, HL⟩ : ∃ L, Hid ((PackMath.num x).length = L) := ⟨_, rfl⟩
  have hL1 : 1 ≤ L := by rw [← HL.out]; exact PackMath.num_pos x
  have hL10 : L ≤ 10 := by rw [← HL.out]; exact PackMath.num_len_64 x hx.1
  have hLn : L ≤ n := by rw [← HL.out]; omega
  rw [HL.out] at hv hub
  have Hn := Lib.hid hn; clear hn
  have Hv := Lib.hid hv; clear hv
  have Hx := Lib.hid hx; clear hx
  have Hc := Lib.hid hcell; clear hcell hB hl htk
  have HU := Lib.hid hub; clear hub
  go_enter Try.func43, Try.ntmps43
  go_wp2_with fail
  go_loop [5] (fun i => ∃ k : Nat, k + 1 ≤ L ∧ i = .int .i64 k) (fun i => n - (intOf i).toNat)
  case atStart => exact ⟨0, by omega, rfl⟩
  case round =>
    obtain ⟨k, hk, rfl⟩ := hrel
    obtain ⟨d, h1, h2, h3, h4⟩ := num_going Hx.out (k := k) (by have := HL.out; omega)
    have hc1 := Hc.out k (by have := Hn.out; omega)
    rw [h1] at hc1
    rw [HL.out] at h3
    clear h1 h4
    by_cases hgo : k + 1 < L
    · have hge : 128 ≤ d := h3.1 hgo
      clear h3
      go_wp2_with fail
      go_round
      case rel => exact ⟨k + 1, by omega, by go_num⟩
      case measure => simp [intOf]; omega
    · have hlt : d < 128 := by have := h3.2; omega
      have hkL : k + 1 = L := by omega
      clear h3
      have hfin : k < 10 := by omega
      have hkn : k < n := by omega
      have HkL := Lib.hid hkL; clear hkL hgo
      go_wp2_with fail
      clear hc1 hlt h2
      go_loop [6, 7] (fun v i => (∃ j q : Nat, j ≤ k ∧ i = .int .i64 j ∧ v = .int .u64 q ∧ Hid (q = x / 128 ^ (j + 1))) ∨ (i = .int .i64 (-1) ∧ v = .int .u64 x)) (fun _ i => (intOf i + 1).toNat)
      case atStart => exact Or.inl ⟨k, 0, Nat.le_refl _, rfl, rfl, by have := PackMath.num_end x; rw [HL.out, ← HkL.out] at this; exact this.symm⟩
      case round =>
        rcases hrel with ⟨j, q, hj, rfl, rfl, Hq⟩ | ⟨rfl, rfl⟩
        · obtain ⟨d2, g1, g2, g3, g4⟩ := num_going Hx.out (k := j) (by have := HL.out; have := HkL.out; omega)
          have hc2 := Hc.out j (by have := Hn.out; omega)
          rw [g1] at hc2
          obtain ⟨q', Hq'⟩ : ∃ q', Hid (x / 128 ^ j = q') := ⟨_, rfl⟩
          obtain ⟨hw1, hw2⟩ := digit_step q d2 q' (by rw [Hq.out, ← Hq'.out, g4]; exact PackMath.div_step x j) (by rw [← Hq'.out]; have := digits_le x j; have := Hx.out.1; omega)
          have hjn : j < n := by omega
          clear g1 g3 g4
          by_cases hj0 : j = 0
          · subst hj0
            have Hx0 : Hid (q' = x) := by rw [← Hq'.out]; show _ = _; simp
            rw [Nat.add_zero] at hc2
            go_wp2_with fail
            go_round
            case rel => exact Or.inr ⟨rfl, by rw [Hx0.out]⟩
            case measure => simp [intOf]
          · obtain ⟨i, rfl⟩ : ∃ i, j = i + 1 := ⟨j - 1, by omega⟩
            go_wp2_with fail
            go_round
            case rel => exact Or.inl ⟨i, q', by omega, rfl, rfl, Hq'.out.symm⟩
            case measure => simp [intOf]; omega
        · have hv := Hv.out
          rw [← HkL.out] at hv
          simp only [Int.natCast_add, Int.cast_ofNat_Int] at hv
          have HUk : Hid (Bytes w (.slice (some ⟨b, off, none⟩) (k + 1) c) (PackMath.num x)) := by rw [HkL.out]; exact HU
          have hkc : (k : Int) + 1 ≤ (c : Int) := by omega
          have hk0 : 0 ≤ (k : Int) + 1 := by omega
          have hw1 : IntKind.i64.wrap ((k : Int) + 1) = (k : Int) + 1 := IntWalk.i64_in _ (by omega)
          have Hp := Lib.hid (fun W => refput_calls none 0 0 [] x Hx.out.1 W (bytes_nil W _ _ (fun _ => rfl)) rfl (Nat.le_refl 0) (by omega))
          go_wp2_with fail
          go_region_held (fun W => Below w.heap.size w W ∧ (convert 24 9 (.slice (some ⟨b, off, none⟩) (k + 1) c)).run Try.prog W = .ok (.string (strOfNums (PackMath.num x))) W)
            (first | exact keep_str HUk.out (Below.refl _ _).drew | (refine keep_str HUk.out ?_; assumption))
            (first | (go_at_call 47; refine (Hp.out _).mono ?_; rintro e W' ⟨v', rfl, hb', hF'⟩; have hS' : Below w.heap.size w W' := (Below.refl _ _).drew.trans hb'; have hcv := str_any hF'.bytes))
          go_wp2_with fail
          go_quiet (fail)
          go_wp2_with fail
          go_ret3
          exact ⟨rfl, below_drewN hS' _⟩

theorem reftake_all (a : Option Addr) (n c : Nat) (zs rest : List Int) (x : Nat) (w : World) (hB : Bytes w (.slice a n c) zs) (hn : n = zs.length) (hnc : n ≤ c) (hx : PackMath.Begins zs x rest) :
    ∃ v, (Calls Try.prog 43 #[.slice a n c] w fun e w' => e = .returned (.tuple #[.int .u64 x, v, .bool true]) ∧ Below w.heap.size w w') ∧ (∀ W, Bytes W (.slice a n c) zs → Bytes W v rest) ∧ ∃ a' c', v = .slice a' rest.length c' ∧ rest.length ≤ c' := by
  obtain ⟨h1, h2, ⟨a0, c0, h3, h4, h5⟩ | ⟨b, off, c0, h3, h4⟩⟩ := id hB
  · have := hx.2
    have hp := PackMath.num_pos x
    rw [h5] at this
    have := congrArg List.length this
    simp only [List.length_nil, List.length_append] at this
    omega
  · simp only [Value.slice.injEq] at h3
    obtain ⟨rfl, _, rfl⟩ := h3
    exact reftake_yes_some b off n c zs rest x w hB h4 hn hnc hx

theorem reftake_yes (a : Option Addr) (n c : Nat) (zs rest : List Int) (x : Nat) (w : World) (hB : Bytes w (.slice a n c) zs) (hn : n = zs.length) (hnc : n ≤ c) (hx : PackMath.Begins zs x rest) :
    ∃ v, (Calls Try.prog 43 #[.slice a n c] w fun e w' => e = .returned (.tuple #[.int .u64 x, v, .bool true]) ∧ Below w.heap.size w w') ∧ Bytes w v rest ∧ ∃ a' c', v = .slice a' rest.length c' ∧ rest.length ≤ c' := by
  obtain ⟨v, h1, h2, h3⟩ := reftake_all a n c zs rest x w hB hn hnc hx
  exact ⟨v, h1, h2 w hB, h3⟩

theorem u64_nat (z : Int) : ∃ q : Nat, IntKind.u64.wrap z = (q : Int) ∧ q < 18446744073709551616 := by
  rw [IntKind.wrap_u64]
  exact ⟨(z % 18446744073709551616).toNat, by omega, by omega⟩

theorem bare_ne {zs : List Int} (h : PackMath.Bare zs) (hs : ∀ c ∈ zs, 0 ≤ c ∧ c < 256) (q k : Nat) (hq : q < 18446744073709551616) : strOfNums (PackMath.num q) ≠ strOfNums (zs.take k) := by
  intro e
  have e2 := strOf_inj (PackMath.num_bytes q) (fun c hc => hs c (List.mem_of_mem_take hc)) e
  exact h q (zs.drop k) hq (by rw [e2, List.take_append_drop])

set_option maxRecDepth 100000 in
set_option maxHeartbeats 1000000 in
theorem reftake_no_some (b off n c : Nat) (zs : List Int) (w : World) (hB : Bytes w (.slice (some ⟨b, off, none⟩) n c) zs) (hcell : ∀ j, j < zs.length → w.cell? ⟨b, off + j, none⟩ = some (.int .u8 (zs.getD j 0))) (hn : n = zs.length) (hnc : n ≤ c) (hx : PackMath.Bare zs) :
    Calls Try.prog 43 #[.slice (some ⟨b, off, none⟩) n c] w fun e w' => e = .returned (.tuple #[.int .u64 0, .slice none 0 0, .bool false]) ∧ Below w.heap.size w w' := by
  have hbig := hB.1
  rw [← hn] at hbig
  have Hs := Lib.hid hB.2.1
  have HB := Lib.hid hB
  have Hn := Lib.hid hn; clear hn
  have Hx := Lib.hid hx; clear hx
  have Hc := Lib.hid hcell; clear hcell hB
  go_enter Try.func43, Try.ntmps43
  go_wp2_with fail
  go_loop [5] (fun i => ∃ k : Nat, k ≤ n ∧ k ≤ 10 ∧ i = .int .i64 k) (fun i => n - (intOf i).toNat)
  case atStart => exact ⟨0, by omega, by omega, rfl⟩
  case round =>
    obtain ⟨k, hk, hk10, rfl⟩ := hrel
    by_cases hend : k = n ∨ k = 10
    · have hfin : decide ((k : Int) < n) = false ∨ decide ((k : Int) < 10) = false := by
        rcases hend with h | h
        · left; simp; omega
        · right; simp; omega
      by_cases hkn : k < n
      · have hk10' : ¬ k < 10 := by omega
        have hk10'' : 10 ≤ k := by omega
        clear hfin hend
        go_wp2_with fail
        go_ret3
        exact ⟨rfl, Below.refl _ _⟩
      · have hkn' : n ≤ k := by omega
        clear hfin hend
        go_wp2_with fail
        go_ret3
        exact ⟨rfl, Below.refl _ _⟩
    · have hkn : k < n := by omega
      have hk9 : k < 10 := by omega
      have he : zs.getD k 0 = zs[k]'(by have := Hn.out; omega) := by simp [List.getD_eq_getElem?_getD, List.getElem?_eq_getElem (show k < zs.length by have := Hn.out; omega)]
      obtain ⟨g0, g1⟩ := Hs.out (zs.getD k 0) (by rw [he]; exact List.getElem_mem _)
      obtain ⟨d, hd⟩ := Int.eq_ofNat_of_zero_le g0
      have hc1 := Hc.out k (by have := Hn.out; omega)
      rw [hd] at hc1
      have hd2 : d < 256 := by omega
      clear he g0 g1 hd hend
      by_cases hge : 128 ≤ d
      · go_wp2_with fail
        go_round
        case rel => exact ⟨k + 1, by omega, by omega, by go_num⟩
        case measure => simp [intOf]; omega
      · have hlt : d < 128 := by omega
        clear hge
        go_wp2_with fail
        clear hc1 hd2 hlt
        go_loop [6, 7] (fun v i => (∃ j q : Nat, j ≤ k ∧ i = .int .i64 j ∧ v = .int .u64 q ∧ Hid (q < 18446744073709551616)) ∨ (i = .int .i64 (-1) ∧ ∃ q : Nat, v = .int .u64 q ∧ Hid (q < 18446744073709551616))) (fun _ i => (intOf i + 1).toNat)
        case atStart => exact Or.inl ⟨k, 0, Nat.le_refl _, rfl, rfl, by show _ < _; omega⟩
        case round =>
          rcases hrel with ⟨j, q, hj, rfl, rfl, Hq⟩ | ⟨rfl, q, rfl, Hq⟩
          · have hjn : j < n := by omega
            have he : zs.getD j 0 = zs[j]'(by have := Hn.out; omega) := by simp [List.getD_eq_getElem?_getD, List.getElem?_eq_getElem (show j < zs.length by have := Hn.out; omega)]
            obtain ⟨g0, g1⟩ := Hs.out (zs.getD j 0) (by rw [he]; exact List.getElem_mem _)
            obtain ⟨d2, hd⟩ := Int.eq_ofNat_of_zero_le g0
            have hc2 := Hc.out j (by have := Hn.out; omega)
            rw [hd] at hc2
            have hd2 : d2 < 256 := by omega
            clear he g0 g1 hd
            obtain ⟨q1, hw1, _⟩ := u64_nat (128 * (q : Int))
            obtain ⟨q2, hw2, hq2⟩ := u64_nat ((q1 : Int) + (d2 : Int) % 128)
            have Hq2 := Lib.hid hq2; clear hq2
            by_cases hj0 : j = 0
            · subst hj0
              rw [Nat.add_zero] at hc2
              go_wp2_with fail
              go_round
              case rel => exact Or.inr ⟨rfl, q2, rfl, Hq2⟩
              case measure => simp [intOf]
            · obtain ⟨i, rfl⟩ : ∃ i, j = i + 1 := ⟨j - 1, by omega⟩
              go_wp2_with fail
              go_round
              case rel => exact Or.inl ⟨i, q2, by omega, rfl, rfl, Hq2⟩
              case measure => simp [intOf]; omega
          · have HUk : Hid (Bytes w (.slice (some ⟨b, off, none⟩) (k + 1) c) (zs.take (k + 1))) := piece_to HB.out Hn.out (by omega) hnc
            have hkc : (k : Int) + 1 ≤ (c : Int) := by omega
            have hk0 : 0 ≤ (k : Int) + 1 := by omega
            have hw1 : IntKind.i64.wrap ((k : Int) + 1) = (k : Int) + 1 := IntWalk.i64_in _ (by omega)
            have Hp : Hid (∀ W, Calls Try.prog 47 #[.slice none 0 0, .int .u64 q] W (Made W (PackMath.num q))) := fun W => refput_calls none 0 0 [] q Hq.out W (bytes_nil W _ _ (fun _ => rfl)) rfl (Nat.le_refl 0) (by omega)
            have Hne := Lib.hid (bare_ne Hx.out Hs.out q (k + 1) Hq.out)
            obtain ⟨s1, Hs1⟩ : ∃ s1, Hid (strOfNums (PackMath.num q) = s1) := ⟨_, rfl⟩
            obtain ⟨s2, Hs2⟩ : ∃ s2, Hid (strOfNums (zs.take (k + 1)) = s2) := ⟨_, rfl⟩
            have hne : (s1.toList == s2.toList) = false := str_ne (by rw [← Hs1.out, ← Hs2.out]; exact Hne.out)
            go_wp2_with fail
            go_region_held (fun W => Below w.heap.size w W ∧ (convert 24 9 (.slice (some ⟨b, off, none⟩) (k + 1) c)).run Try.prog W = .ok (.string s2) W)
              (first | (rw [← Hs2.out]; exact keep_str HUk.out (Below.refl _ _).drew) | (rw [← Hs2.out]; refine keep_str HUk.out ?_; assumption))
              (first | (go_at_call 47; refine (Hp.out _).mono ?_; rintro e W' ⟨v', rfl, hb', hF'⟩; have hS' : Below w.heap.size w W' := (Below.refl _ _).drew.trans hb'; have hcv := str_any hF'.bytes; rw [Hs1.out] at hcv))
            go_wp2_with fail
            go_ret3
            exact ⟨rfl, hS'⟩

theorem reftake_no (a : Option Addr) (n c : Nat) (zs : List Int) (w : World) (hB : Bytes w (.slice a n c) zs) (hn : n = zs.length) (hnc : n ≤ c) (hx : PackMath.Bare zs) :
    Calls Try.prog 43 #[.slice a n c] w fun e w' => e = .returned (.tuple #[.int .u64 0, .slice none 0 0, .bool false]) ∧ Below w.heap.size w w' := by
  obtain ⟨h1, h2, ⟨a0, c0, h3, h4, h5⟩ | ⟨b, off, c0, h3, h4⟩⟩ := id hB
  · simp only [Value.slice.injEq] at h3
    obtain ⟨rfl, rfl, rfl⟩ := h3
    clear hB hn h1 h2 h4 hx
    go_enter Try.func43, Try.ntmps43
    go_wp2_with fail
    refine wp_loop_rounds 1 ?_
    rw [rounds_succ]
    go_wp2_with fail
    go_ret3
    exact ⟨rfl, Below.refl _ _⟩
  · simp only [Value.slice.injEq] at h3
    obtain ⟨rfl, _, rfl⟩ := h3
    exact reftake_no_some b off n c zs w hB h4 hn hnc hx
end Go.Proofs.Ytfpadcfahfanoaa
