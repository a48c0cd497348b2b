/- Parts, as far as BookTakesCards reaches them, of: PackRefTake, BytesRun, PaintWords, RefMailSome, RefBookCount, PaintTakeMath. No law is proved here. -/
import Derived.Test.YtnkgakhnlbifdaaGreatTb11
import Derived.Deep.RegionHeld3
import Derived.Test.YtnkgakhnlbifdaaGreatTb0
import Derived.Test.YtnkgakhnlbifdaaGreatTb2
import Derived.Test.YtnkgakhnlbifdaaGreatTb6
import Derived.LoopTactic
import Derived.Test.YtnkgakhnlbifdaaGreatTb5
import Derived.IntWalk
namespace Go.Proofs.YtnkgakhnlbifdaaGreat
open Go.RowKit
theorem piece_to {W : World} {b off n c hi : Nat} {zs : List Int} (hB : Bytes W (.slice (some ⟨b, off, none⟩) n c) zs) (hn : n = zs.length) (h2 : hi ≤ n) (h3 : n ≤ c) :
 Bytes W (.slice (some ⟨b, off, none⟩) hi c) (zs.take hi) := by
 have := bytes_sliced hB hn (Nat.zero_le hi) h2 h3
 rw [List.drop_zero] at this
 unfold sliced at this
 simpa [Addr.add] using this
theorem piece_any {a : Option Addr} {n c lo : Nat} {zs : List Int} (hn : n = zs.length) (h1 : lo ≤ n) (h3 : n ≤ c) :
 ∃ v, (∀ w, (Instr.slice 24 (.slice a n c) (some (.int .i64 (lo : Int))) none none).run Tryz.prog w = .ok v w) ∧ (∀ W', Bytes W' (.slice a n c) zs → Bytes W' v (zs.drop lo)) ∧ ∃ a' c', v = .slice a' (n - lo) c' ∧ n - lo ≤ c' := by
 refine ⟨sliced a lo n c 1, fun w => ?_, fun W' hB' => ?_, _, _, rfl, by omega⟩
 · rw [run_slice_l w 24 a n c elem_bytes .i64 lo (by omega) (by omega), size_bytes]
   simp [Result.andThen]
 · have := bytes_sliced hB' hn h1 (Nat.le_refl n) h3
   rwa [hn, List.take_length, ← hn] at this
theorem str_any {w : World} {v : Value} {zs : List Int} (hB : Bytes w v zs) : (convert 24 9 v).run Tryz.prog w = .ok (.string (strOfNums zs)) w :=
 run_string hB Tryz.underlying24 Tryz.underlying5 Tryz.underlying9
theorem num_going {zs rest : List Int} {x k : Nat} (h : PackMath.Begins zs x rest) (hk : k < (PackMath.num x).length) :
 ∃ c : Nat, zs.getD k 0 = (c : Int) ∧ c < 256 ∧ (k + 1 < (PackMath.num x).length ↔ 128 ≤ c) ∧ c % 128 = (x / 128 ^ k) % 128 := by
 have e : zs.getD k 0 = (PackMath.num x).getD k 0 := by
  rw [h.2, List.getD_eq_getElem?_getD, List.getElem?_append_left hk, List.getD_eq_getElem?_getD]
 have h1 := PackMath.num_digit x k hk
 have h2 := PackMath.num_high x k hk
 have h3 := PackMath.num_bytes x ((PackMath.num x).getD k 0) (by
  rw [List.getD_eq_getElem?_getD, List.getElem?_eq_getElem hk]; exact List.getElem_mem hk)
 obtain ⟨c, hc⟩ := Int.eq_ofNat_of_zero_le h3.1
 rw [hc] at h1 h2 h3
 refine ⟨c, e.trans hc, by omega, by omega, by omega⟩
theorem keep_str {w W : World} {v : Value} {zs : List Int} (hB : Bytes w v zs) (h : Below w.heap.size w W) : Below w.heap.size w W ∧ (convert 24 9 v).run Tryz.prog W = .ok (.string (strOfNums zs)) W := ⟨h, str_any (hB.later h)⟩
theorem digit_step (q c q' : Nat) (hq : 128 * q + c % 128 = q') (hx : q' < 18446744073709551616) :
 IntKind.u64.wrap (128 * (q : Int)) = 128 * (q : Int) ∧ IntKind.u64.wrap (128 * (q : Int) + (c : Int) % 128) = (q' : Int) := by
 refine ⟨?_, ?_⟩
 · rw [IntKind.wrap_u64]; exact Int.emod_eq_of_lt (by omega) (by omega)
 · rw [IntKind.wrap_u64, Int.emod_eq_of_lt (by omega) (by omega)]; omega
theorem digits_le (x i : Nat) : x / 128 ^ i ≤ x := Nat.div_le_self _ _
set_option maxRecDepth 100000 in
set_option maxHeartbeats 1000000 in
theorem reftake_yes_some (b off n c : Nat) (zs rest : List Int) (x : Nat) (w : World) (hB : Bytes w (.slice (some ⟨b, off, none⟩) n c) zs) (hcell : ∀ j, j < zs.length → w.cell? ⟨b, off + j, none⟩ = some (.int .u8 (zs.getD j 0))) (hn : n = zs.length) (hnc : n ≤ c) (hx : PackMath.Begins zs x rest) :
 ∃ v, (Calls Tryz.prog 68 #[.slice (some ⟨b, off, none⟩) n c] w fun e w' => e = .returned (.tuple #[.int .u64 x, v, .bool true]) ∧ Below w.heap.size w w') ∧ (∀ W, Bytes W (.slice (some ⟨b, off, none⟩) n c) zs → Bytes W v rest) ∧ ∃ a' c', v = .slice a' rest.length c' ∧ rest.length ≤ c' := by
 have hl : zs.length = (PackMath.num x).length + rest.length := by rw [hx.2, List.length_append]
 obtain ⟨v, hv, hb, ha⟩ := piece_any (lo := (PackMath.num x).length) hn (by omega) hnc
 have hub := piece_to (hi := (PackMath.num x).length) hB hn (by omega) hnc
 refine ⟨v, ?_, fun W hW => by have := hb W hW; rw [hx.2] at this; simpa using this, by rwa [show n - (PackMath.num x).length = rest.length by omega] at ha⟩
 clear hb ha
 have htk : zs.take (PackMath.num x).length = PackMath.num x := by rw [hx.2]; simp
 rw [htk] at hub
 have hbig := hB.1
 rw [← hn] at hbig
 obtain ⟨L, HL⟩ : ∃ L, Hid ((PackMath.num x).length = L) := ⟨_, rfl⟩
 have hL1 : 1 ≤ L := by rw [← HL.out]; exact PackMath.num_pos x
 have hL10 : L ≤ 10 := by rw [← HL.out]; exact PackMath.num_len_64 x hx.1
 have hLn : L ≤ n := by rw [← HL.out]; omega
 rw [HL.out] at hv hub
 have Hn := Lib.hid hn; clear hn
 have Hv := Lib.hid hv; clear hv
 have Hx := Lib.hid hx; clear hx
 have Hc := Lib.hid hcell; clear hcell hB hl htk
 have HU := Lib.hid hub; clear hub
 go_enter Tryz.func68, Tryz.ntmps68
 go_wp2_with fail
 go_loop [5] (fun i => ∃ k : Nat, k + 1 ≤ L ∧ i = .int .i64 k) (fun i => n - (intOf i).toNat)
 case atStart => exact ⟨0, by omega, rfl⟩
 case round =>
  obtain ⟨k, hk, rfl⟩ := hrel
  obtain ⟨d, h1, h2, h3, h4⟩ := num_going Hx.out (k := k) (by have := HL.out; omega)
  have hc1 := Hc.out k (by have := Hn.out; omega)
  rw [h1] at hc1
  rw [HL.out] at h3
  clear h1 h4
  by_cases hgo : k + 1 < L
  · have hge : 128 ≤ d := h3.1 hgo
    clear h3
    go_wp2_with fail
    go_round
    case rel => exact ⟨k + 1, by omega, by go_num⟩
    case measure => simp [intOf]; omega
  · have hlt : d < 128 := by have := h3.2; omega
    have hkL : k + 1 = L := by omega
    clear h3
    have hfin : k < 10 := by omega
    have hkn : k < n := by omega
    have HkL := Lib.hid hkL; clear hkL hgo
    go_wp2_with fail
    clear hc1 hlt h2
    go_loop [6, 7] (fun v i => (∃ j q : Nat, j ≤ k ∧ i = .int .i64 j ∧ v = .int .u64 q ∧ Hid (q = x / 128 ^ (j + 1))) ∨ (i = .int .i64 (-1) ∧ v = .int .u64 x)) (fun _ i => (intOf i + 1).toNat)
    case atStart => exact Or.inl ⟨k, 0, Nat.le_refl _, rfl, rfl, by have := PackMath.num_end x; rw [HL.out, ← HkL.out] at this; exact this.symm⟩
    case round =>
     rcases hrel with ⟨j, q, hj, rfl, rfl, Hq⟩ | ⟨rfl, rfl⟩
     · obtain ⟨d2, g1, g2, g3, g4⟩ := num_going Hx.out (k := j) (by have := HL.out; have := HkL.out; omega)
       have hc2 := Hc.out j (by have := Hn.out; omega)
       rw [g1] at hc2
       obtain ⟨q', Hq'⟩ : ∃ q', Hid (x / 128 ^ j = q') := ⟨_, rfl⟩
       obtain ⟨hw1, hw2⟩ := digit_step q d2 q' (by rw [Hq.out, ← Hq'.out, g4]; exact PackMath.div_step x j) (by rw [← Hq'.out]; have := digits_le x j; have := Hx.out.1; omega)
       have hjn : j < n := by omega
       clear g1 g3 g4
       by_cases hj0 : j = 0
       · subst hj0
         have Hx0 : Hid (q' = x) := by rw [← Hq'.out]; show _ = _; simp
         rw [Nat.add_zero] at hc2
         go_wp2_with fail
         go_round
         case rel => exact Or.inr ⟨rfl, by rw [Hx0.out]⟩
         case measure => simp [intOf]
       · obtain ⟨i, rfl⟩ : ∃ i, j = i + 1 := ⟨j - 1, by omega⟩
         go_wp2_with fail
         go_round
         case rel => exact Or.inl ⟨i, q', by omega, rfl, rfl, Hq'.out.symm⟩
         case measure => simp [intOf]; omega
     · have hv := Hv.out
       rw [← HkL.out] at hv
       simp only [Int.natCast_add, Int.cast_ofNat_Int] at hv
       have HUk : Hid (Bytes w (.slice (some ⟨b, off, none⟩) (k + 1) c) (PackMath.num x)) := by rw [HkL.out]; exact HU
       have hkc : (k : Int) + 1 ≤ (c : Int) := by omega
       have hk0 : 0 ≤ (k : Int) + 1 := by omega
       have hw1 : IntKind.i64.wrap ((k : Int) + 1) = (k : Int) + 1 := IntWalk.i64_in _ (by omega)
       have Hp := Lib.hid (fun W => refput_calls none 0 0 [] x Hx.out.1 W (bytes_nil W _ _ (fun _ => rfl)) rfl (Nat.le_refl 0) (by omega))
       go_wp2_with fail
       go_region_held (fun W => Below w.heap.size w W ∧ (convert 24 9 (.slice (some ⟨b, off, none⟩) (k + 1) c)).run Tryz.prog W = .ok (.string (strOfNums (PackMath.num x))) W)
        (first | exact keep_str HUk.out (Below.refl _ _).drew | (refine keep_str HUk.out ?_; assumption))
        (first | (go_at_call 54; refine (Hp.out _).mono ?_; rintro e W' ⟨v', rfl, hb', hF'⟩; have hS' : Below w.heap.size w W' := (Below.refl _ _).drew.trans hb'; have hcv := str_any hF'.bytes))
       go_wp2_with fail
       go_quiet (fail)
       go_wp2_with fail
       go_ret3
       exact ⟨rfl, below_drewN hS' _⟩
theorem reftake_all (a : Option Addr) (n c : Nat) (zs rest : List Int) (x : Nat) (w : World) (hB : Bytes w (.slice a n c) zs) (hn : n = zs.length) (hnc : n ≤ c) (hx : PackMath.Begins zs x rest) :
 ∃ v, (Calls Tryz.prog 68 #[.slice a n c] w fun e w' => e = .returned (.tuple #[.int .u64 x, v, .bool true]) ∧ Below w.heap.size w w') ∧ (∀ W, Bytes W (.slice a n c) zs → Bytes W v rest) ∧ ∃ a' c', v = .slice a' rest.length c' ∧ rest.length ≤ c' := by
 obtain ⟨h1, h2, ⟨a0, c0, h3, h4, h5⟩ | ⟨b, off, c0, h3, h4⟩⟩ := id hB
 · have := hx.2
   have hp := PackMath.num_pos x
   rw [h5] at this
   have := congrArg List.length this
   simp only [List.length_nil, List.length_append] at this
   omega
 · simp only [Value.slice.injEq] at h3
   obtain ⟨rfl, _, rfl⟩ := h3
   exact reftake_yes_some b off n c zs rest x w hB h4 hn hnc hx
theorem u64_nat (z : Int) : ∃ q : Nat, IntKind.u64.wrap z = (q : Int) ∧ q < 18446744073709551616 := by
 rw [IntKind.wrap_u64]
 exact ⟨(z % 18446744073709551616).toNat, by omega, by omega⟩
theorem bare_ne {zs : List Int} (h : PackMath.Bare zs) (hs : ∀ c ∈ zs, 0 ≤ c ∧ c < 256) (q k : Nat) (hq : q < 18446744073709551616) : strOfNums (PackMath.num q) ≠ strOfNums (zs.take k) := by
 intro e
 have e2 := strOf_inj (PackMath.num_bytes q) (fun c hc => hs c (List.mem_of_mem_take hc)) e
 exact h q (zs.drop k) hq (by rw [e2, List.take_append_drop])
set_option maxRecDepth 100000 in
set_option maxHeartbeats 1000000 in
theorem reftake_no_some (b off n c : Nat) (zs : List Int) (w : World) (hB : Bytes w (.slice (some ⟨b, off, none⟩) n c) zs) (hcell : ∀ j, j < zs.length → w.cell? ⟨b, off + j, none⟩ = some (.int .u8 (zs.getD j 0))) (hn : n = zs.length) (hnc : n ≤ c) (hx : PackMath.Bare zs) :
 Calls Tryz.prog 68 #[.slice (some ⟨b, off, none⟩) n c] w fun e w' => e = .returned (.tuple #[.int .u64 0, .slice none 0 0, .bool false]) ∧ Below w.heap.size w w' := by
 have hbig := hB.1
 rw [← hn] at hbig
 have Hs := Lib.hid hB.2.1
 have HB := Lib.hid hB
 have Hn := Lib.hid hn; clear hn
 have Hx := Lib.hid hx; clear hx
 have Hc := Lib.hid hcell; clear hcell hB
 go_enter Tryz.func68, Tryz.ntmps68
 go_wp2_with fail
 go_loop [5] (fun i => ∃ k : Nat, k ≤ n ∧ k ≤ 10 ∧ i = .int .i64 k) (fun i => n - (intOf i).toNat)
 case atStart => exact ⟨0, by omega, by omega, rfl⟩
 case round =>
  obtain ⟨k, hk, hk10, rfl⟩ := hrel
  by_cases hend : k = n ∨ k = 10
  · have hfin : decide ((k : Int) < n) = false ∨ decide ((k : Int) < 10) = false := by
     rcases hend with h | h
     · left; simp; omega
     · right; simp; omega
    by_cases hkn : k < n
    · have hk10' : ¬ k < 10 := by omega
      have hk10'' : 10 ≤ k := by omega
      clear hfin hend
      go_wp2_with fail
      go_ret3
      exact ⟨rfl, Below.refl _ _⟩
    · have hkn' : n ≤ k := by omega
      clear hfin hend
      go_wp2_with fail
      go_ret3
      exact ⟨rfl, Below.refl _ _⟩
  · have hkn : k < n := by omega
    have hk9 : k < 10 := by omega
    have he : zs.getD k 0 = zs[k]'(by have := Hn.out; omega) := by simp [List.getD_eq_getElem?_getD, List.getElem?_eq_getElem (show k < zs.length by have := Hn.out; omega)]
    obtain ⟨g0, g1⟩ := Hs.out (zs.getD k 0) (by rw [he]; exact List.getElem_mem _)
    obtain ⟨d, hd⟩ := Int.eq_ofNat_of_zero_le g0
    have hc1 := Hc.out k (by have := Hn.out; omega)
    rw [hd] at hc1
    have hd2 : d < 256 := by omega
    clear he g0 g1 hd hend
    by_cases hge : 128 ≤ d
    · go_wp2_with fail
      go_round
      case rel => exact ⟨k + 1, by omega, by omega, by go_num⟩
      case measure => simp [intOf]; omega
    · have hlt : d < 128 := by omega
      clear hge
      go_wp2_with fail
      clear hc1 hd2 hlt
      go_loop [6, 7] (fun v i => (∃ j q : Nat, j ≤ k ∧ i = .int .i64 j ∧ v = .int .u64 q ∧ Hid (q < 18446744073709551616)) ∨ (i = .int .i64 (-1) ∧ ∃ q : Nat, v = .int .u64 q ∧ Hid (q < 18446744073709551616))) (fun _ i => (intOf i + 1).toNat)
      case atStart => exact Or.inl ⟨k, 0, Nat.le_refl _, rfl, rfl, by show _ < _; omega⟩
      case round =>
       rcases hrel with ⟨j, q, hj, rfl, rfl, Hq⟩ | ⟨rfl, q, rfl, Hq⟩
       · have hjn : j < n := by omega
         have he : zs.getD j 0 = zs[j]'(by have := Hn.out; omega) := by simp [List.getD_eq_getElem?_getD, List.getElem?_eq_getElem (show j < zs.length by have := Hn.out; omega)]
         obtain ⟨g0, g1⟩ := Hs.out (zs.getD j 0) (by rw [he]; exact List.getElem_mem _)
         obtain ⟨d2, hd⟩ := Int.eq_ofNat_of_zero_le g0
         have hc2 := Hc.out j (by have := Hn.out; omega)
         rw [hd] at hc2
         have hd2 : d2 < 256 := by omega
         clear he g0 g1 hd
         obtain ⟨q1, hw1, _⟩ := u64_nat (128 * (q : Int))
         obtain ⟨q2, hw2, hq2⟩ := u64_nat ((q1 : Int) + (d2 : Int) % 128)
         have Hq2 := Lib.hid hq2; clear hq2
         by_cases hj0 : j = 0
         · subst hj0
           rw [Nat.add_zero] at hc2
           go_wp2_with fail
           go_round
           case rel => exact Or.inr ⟨rfl, q2, rfl, Hq2⟩
           case measure => simp [intOf]
         · obtain ⟨i, rfl⟩ : ∃ i, j = i + 1 := ⟨j - 1, by omega⟩
           go_wp2_with fail
           go_round
           case rel => exact Or.inl ⟨i, q2, by omega, rfl, rfl, Hq2⟩
           case measure => simp [intOf]; omega
       · have HUk : Hid (Bytes w (.slice (some ⟨b, off, none⟩) (k + 1) c) (zs.take (k + 1))) := piece_to HB.out Hn.out (by omega) hnc
         have hkc : (k : Int) + 1 ≤ (c : Int) := by omega
         have hk0 : 0 ≤ (k : Int) + 1 := by omega
         have hw1 : IntKind.i64.wrap ((k : Int) + 1) = (k : Int) + 1 := IntWalk.i64_in _ (by omega)
         have Hp : Hid (∀ W, Calls Tryz.prog 54 #[.slice none 0 0, .int .u64 q] W (Made W (PackMath.num q))) := fun W => refput_calls none 0 0 [] q Hq.out W (bytes_nil W _ _ (fun _ => rfl)) rfl (Nat.le_refl 0) (by omega)
         have Hne := Lib.hid (bare_ne Hx.out Hs.out q (k + 1) Hq.out)
         obtain ⟨s1, Hs1⟩ : ∃ s1, Hid (strOfNums (PackMath.num q) = s1) := ⟨_, rfl⟩
         obtain ⟨s2, Hs2⟩ : ∃ s2, Hid (strOfNums (zs.take (k + 1)) = s2) := ⟨_, rfl⟩
         have hne : (s1.toList == s2.toList) = false := str_ne (by rw [← Hs1.out, ← Hs2.out]; exact Hne.out)
         go_wp2_with fail
         go_region_held (fun W => Below w.heap.size w W ∧ (convert 24 9 (.slice (some ⟨b, off, none⟩) (k + 1) c)).run Tryz.prog W = .ok (.string s2) W)
          (first | (rw [← Hs2.out]; exact keep_str HUk.out (Below.refl _ _).drew) | (rw [← Hs2.out]; refine keep_str HUk.out ?_; assumption))
          (first | (go_at_call 54; refine (Hp.out _).mono ?_; rintro e W' ⟨v', rfl, hb', hF'⟩; have hS' : Below w.heap.size w W' := (Below.refl _ _).drew.trans hb'; have hcv := str_any hF'.bytes; rw [Hs1.out] at hcv))
         go_wp2_with fail
         go_ret3
         exact ⟨rfl, hS'⟩
theorem reftake_no (a : Option Addr) (n c : Nat) (zs : List Int) (w : World) (hB : Bytes w (.slice a n c) zs) (hn : n = zs.length) (hnc : n ≤ c) (hx : PackMath.Bare zs) :
 Calls Tryz.prog 68 #[.slice a n c] w fun e w' => e = .returned (.tuple #[.int .u64 0, .slice none 0 0, .bool false]) ∧ Below w.heap.size w w' := by
 obtain ⟨h1, h2, ⟨a0, c0, h3, h4, h5⟩ | ⟨b, off, c0, h3, h4⟩⟩ := id hB
 · simp only [Value.slice.injEq] at h3
   obtain ⟨rfl, rfl, rfl⟩ := h3
   clear hB hn h1 h2 h4 hx
   go_enter Tryz.func68, Tryz.ntmps68
   go_wp2_with fail
   refine wp_loop_rounds 1 ?_
   rw [rounds_succ]
   go_wp2_with fail
   go_ret3
   exact ⟨rfl, Below.refl _ _⟩
 · simp only [Value.slice.injEq] at h3
   obtain ⟨rfl, _, rfl⟩ := h3
   exact reftake_no_some b off n c zs w hB h4 hn hnc hx
end Go.Proofs.YtnkgakhnlbifdaaGreat
namespace Go.Proofs.YtnkgakhnlbifdaaGreat
open Go.RowKit
theorem flat_bytes (l : List Int) : l.map (Value.int .u8) = flatCells 1 l.length (fun i _ => .int .u8 (l[i]?.getD 0)) := by
 apply List.ext_getElem?
 intro i
 by_cases hi : i < l.length
 · have := flat_at 1 l.length (fun i _ => Value.int .u8 (l[i]?.getD 0)) i 0 hi (by decide)
   rw [Nat.mul_one, Nat.add_zero] at this
   rw [this]
   simp [List.getElem?_eq_getElem hi]
 · rw [List.getElem?_eq_none (by simp; omega), List.getElem?_eq_none (by rw [flat_length]; omega)]
theorem elems_of_bytes {w : World} {a : Option Addr} {n c : Nat} {zs : List Int} (hB : Bytes w (.slice a n c) zs) (hn : n = zs.length) (hnc : n ≤ c) : Elems w (.slice a n c) 1 n (fun i _ => .int .u8 (zs[i]?.getD 0)) := by
 obtain ⟨h1, _, ⟨a0, c0, h3, h4, h5⟩ | ⟨b, off, c0, h3, h4⟩⟩ := hB
 · simp only [Value.slice.injEq] at h3
   obtain ⟨rfl, h, rfl⟩ := h3
   exact ⟨by omega, Or.inl ⟨_, _, by rw [h], h4, h⟩⟩
 · simp only [Value.slice.injEq] at h3
   obtain ⟨rfl, h, rfl⟩ := h3
   refine ⟨by omega, Or.inr ⟨b, off, _, rfl, hnc, fun i j hi hj => ?_⟩⟩
   obtain rfl : j = 0 := by omega
   rw [Nat.mul_one, Nat.add_zero, h4 i (by omega)]
   simp [List.getD_eq_getElem?_getD]
end Go.Proofs.YtnkgakhnlbifdaaGreat
namespace Go.Proofs.YtnkgakhnlbifdaaGreat
open Go.RowKit
theorem elem_nums : Tryz.prog.underlying 33 = some (.slice (Tryz.prog.elem 33)) := by kernel_rfl
theorem size_nums (w : World) : (sizeOf (Tryz.prog.elem 33)).run Tryz.prog w = .ok 1 w := by kernel_rfl
def TookB (w : World) (x : Option (List Rw × List Int)) (e : Ending) (w' : World) : Prop :=
 (∃ l rest A C B D, x = some (l, rest) ∧ e = .returned (.tuple #[.slice A l.length C, .slice B rest.length D, .bool true]) ∧ Books w' (.slice A l.length C) l ∧ Bytes w' (.slice B rest.length D) rest ∧ rest.length ≤ D ∧ Below w.heap.size w w') ∨
 (x = none ∧ e = .returned (.tuple #[.slice none 0 0, .slice none 0 0, .bool false]) ∧ Below w.heap.size w w')
def TookBF (w : World) (x : Option (List Rw × List Int)) (e : Ending) (w' : World) : Prop :=
 (∃ l rest A C B D, x = some (l, rest) ∧ e = .returned (.tuple #[.slice A l.length C, .slice B rest.length D, .bool true]) ∧ BooksFar w.heap.size w' (.slice A l.length C) l ∧ Bytes w' (.slice B rest.length D) rest ∧ rest.length ≤ D ∧ Below w.heap.size w w') ∨
 (x = none ∧ e = .returned (.tuple #[.slice none 0 0, .slice none 0 0, .bool false]) ∧ Below w.heap.size w w')
theorem TookBF.took {w : World} {x : Option (List Rw × List Int)} {e : Ending} {w' : World} (h : TookBF w x e w') : TookB w x e w' := by
 rcases h with ⟨l, rest, A, C, B, D, h1, h2, h3, h4⟩ | h
 · exact Or.inl ⟨l, rest, A, C, B, D, h1, h2, h3.1, h4⟩
 · exact Or.inr h
set_option maxRecDepth 100000 in
theorem nums_push {w : World} {base : Nat} {v : Value} {P : List Int} {k : Nat} (x : Int) (hk : P.length = k) (hown : w.ownsRow base 2 1 v k (P.map (Value.int .i64))) (hb : base ≤ w.heap.size) (h : k ≤ 1000000) :
 ∃ v' w', (Builtin.append_ #[33, 33] 33 #[v, .slice (some ⟨w.heap.size, 0, none⟩) 1 1]).run Tryz.prog (w.alloc (.cells #[.int .i64 x] 2)) = .ok v' w' ∧
   w'.ownsRow base 2 1 v' (k + 1) ((P ++ [x]).map (Value.int .i64)) ∧ Below base w w' ∧ Grew (w.alloc (.cells #[.int .i64 x] 2)) w' v v' := by
 subst hk
 obtain ⟨i0, hi, hz0, hz1, hz2⟩ := info_parts info_int64
 have hb1 : Below w.heap.size w (w.alloc (.cells #[.int .i64 x] 2)) := below_box w _
 have e : P.map (Value.int .i64) = flatCells 1 P.length (fun i _ => .int .i64 ((P ++ [x])[i]?.getD 0)) := by
  rw [flat_one]
  unfold flatCells
  rw [List.flatMap_def, List.flatMap_def]
  congr 1
  apply List.map_congr_left
  intro i hi
  have := List.mem_range.1 hi
  simp [List.getElem?_append_left this]
 obtain ⟨v', w', hrun, q1, q2, q3⟩ := run_append_elems (P := Tryz.prog) (w := w.alloc (.cells #[.int .i64 x] 2)) 33 33 base 2 i0 _ 1 8 Tryz.underlying33 hi hz0 hz1 hz2 rfl (by decide)
  v P.length (fun i _ => .int .i64 ((P ++ [x])[i]?.getD 0)) (by rw [← e]; exact own_later hown hb1) (some ⟨w.heap.size, 0, none⟩) 1 1 (fun _ _ => .int .i64 x) (one_num (Whole.made w _ _)) (fun _ _ _ _ => rfl) (by unfold maxLen; omega) (by omega) (by have := hb1.size; omega)
 refine ⟨v', w', hrun, ?_, (hb1.mono hb).trans q2, q3⟩
 rw [flat_push (k := P.length) (f := fun i _ => .int .i64 ((P ++ [x])[i]?.getD 0)) (g := fun _ _ => .int .i64 x) (by simp)] at q1
 rw [flat_one, List.length_append, List.length_singleton]
 exact q1
theorem three {w : World} {base : Nat} {v : Value} {P : List Int} {k : Nat} (hown : w.ownsRow base 2 1 v k (P.map (Value.int .i64))) (hk : P.length = k) (h2 : 2 ≤ k) :
 ∃ g cap, v = .slice (some ⟨g, 0, none⟩) k cap ∧ base ≤ g ∧ g < w.heap.size ∧ k ≤ cap ∧ w.cell? ⟨g, 0, none⟩ = some (.int .i64 (P[0]?.getD 0)) ∧ w.cell? ⟨g, 1, none⟩ = some (.int .i64 (P[1]?.getD 0)) ∧ NumsAt w g 2 (P.drop 2) := by
 have hl := hown.1
 rcases hown.2 with ⟨_, h0⟩ | ⟨g, cap, cur, rfl, hg, hh, hn, hm, h5, h6⟩
 · omega
 · have hc : ∀ j, j < k → w.cell? ⟨g, j, none⟩ = some (.int .i64 (P[j]?.getD 0)) := by
    intro j hj
    rw [Whole.cell (w := w) (g := g) (t := 2) (cs := cur) hh]
    have : (cur.toList.take (k * 1))[j]? = (P.map (Value.int .i64))[j]? := by rw [h6]
    rw [List.getElem?_take_of_lt (by omega), Array.getElem?_toList] at this
    rw [this]
    simp [List.getElem?_eq_getElem (show j < P.length by omega)]
   refine ⟨g, cap, rfl, hg, (Array.getElem?_eq_some_iff.1 hh).1, hn, hc 0 (by omega), hc 1 (by omega), (Array.getElem?_eq_some_iff.1 hh).1, by rw [List.length_drop]; unfold maxLen at hm; omega, fun i hi => ?_⟩
   rw [List.length_drop] at hi
   rw [hc (2 + i) (by omega), List.getElem?_drop]
end Go.Proofs.YtnkgakhnlbifdaaGreat
namespace Go.Proofs.YtnkgakhnlbifdaaGreat
open Go.RowKit
def TookN (w : World) (x : Option (List Nat × List Int)) (e : Ending) (w' : World) : Prop :=
 (∃ ns rest A C B D, x = some (ns, rest) ∧ e = .returned (.tuple #[.slice A ns.length C, .slice B rest.length D, .bool true]) ∧ Nums w' (.slice A ns.length C) (ns.map fun v : Nat => (v : Int)) ∧ Bytes w' (.slice B rest.length D) rest ∧ rest.length ≤ D ∧ Below w.heap.size w w') ∨
 (x = none ∧ e = .returned (.tuple #[.slice none 0 0, .slice none 0 0, .bool false]) ∧ Below w.heap.size w w')
def TookNF (w : World) (x : Option (List Nat × List Int)) (e : Ending) (w' : World) : Prop :=
 (∃ ns rest A C B D, x = some (ns, rest) ∧ e = .returned (.tuple #[.slice A ns.length C, .slice B rest.length D, .bool true]) ∧ Nums w' (.slice A ns.length C) (ns.map fun v : Nat => (v : Int)) ∧ Bytes w' (.slice B rest.length D) rest ∧ rest.length ≤ D ∧ Below w.heap.size w w' ∧ ∀ ad, A = some ad → w.heap.size ≤ ad.block) ∨
 (x = none ∧ e = .returned (.tuple #[.slice none 0 0, .slice none 0 0, .bool false]) ∧ Below w.heap.size w w')
theorem TookNF.took {w w' : World} {x : Option (List Nat × List Int)} {e : Ending} (h : TookNF w x e w') : TookN w x e w' := by
 rcases h with ⟨ns, rest, A, C, B, D, h1, h2, h3, h4, h5, h6, _⟩ | h
 · exact Or.inl ⟨ns, rest, A, C, B, D, h1, h2, h3, h4, h5, h6⟩
 · exact Or.inr h
theorem own_beyond {w : World} {base : Nat} {e : TypeId} {sz n c : Nat} {A : Option Addr} {xs : List Value} (h : w.ownsRow base e sz (.slice A n c) n xs) : ∀ ad, A = some ad → base ≤ ad.block := fun ad had => by
 subst had
 rcases h.2 with ⟨h3, _⟩ | ⟨g, cap, cur, h3, hg, _⟩
 · cases h3
 · simp only [Value.slice.injEq, Option.some.injEq] at h3
   rw [h3.1]; exact hg
theorem someN_bare {k n : Nat} {zs cur : List Int} {P : List Nat} (hP : P.length = k) (hk : k < n) (hz : zs = bytesN P ++ cur) (hb : PackMath.Bare cur) : someN n zs = none := someN_no fun ns rest hs => by
 obtain ⟨Q, hQ, hr⟩ := bytesN_prefix P ns cur rest (by rw [← hz, ← hs.2.2]) (by rw [hP, hs.1]; omega)
 cases Q with
 | nil => have := congrArg List.length hQ; rw [List.append_nil, hs.1, hP] at this; omega
 | cons v Q =>
   have hv : v ≤ 4611686018427387903 := hs.2.1 v (by rw [hQ]; simp)
   exact hb v (bytesN Q ++ rest) (by omega) (by rw [hr, bytesN_cons, List.append_assoc])
theorem someN_big {k n v : Nat} {zs cur rest : List Int} {P : List Nat} (hP : P.length = k) (hk : k < n) (hz : zs = bytesN P ++ cur) (hb : PackMath.Begins cur v rest) (hv : 4611686018427387903 < v) : someN n zs = none := someN_no fun ns rest' hs => by
 obtain ⟨Q, hQ, hr⟩ := bytesN_prefix P ns cur rest' (by rw [← hz, ← hs.2.2]) (by rw [hP, hs.1]; omega)
 cases Q with
 | nil => have := congrArg List.length hQ; rw [List.append_nil, hs.1, hP] at this; omega
 | cons v' Q =>
   have hv' : v' ≤ 4611686018427387903 := hs.2.1 v' (by rw [hQ]; simp)
   have e := (hb.unique (b := v') (y := bytesN Q ++ rest') ⟨by omega, by rw [hr, bytesN_cons, List.append_assoc]⟩).1
   omega
attribute [local go_sem ↓] run_fine
set_option maxRecDepth 100000 in
set_option maxHeartbeats 4000000 in
theorem refsome_far (a : Option Addr) (n d : Nat) (zs : List Int) (N : Nat) (hN : N ≤ 1000) (hn : n = zs.length) (hnd : n ≤ d) (w : World) (hB : Bytes w (.slice a n d) zs) :
 Calls Tryz.prog 21 #[.slice a n d, .int .i64 (N : Int)] w (TookNF w (someN N zs)) := by
 have HB := Lib.hid hB; clear hB
 have Hn := Lib.hid hn; clear hn
 obtain ⟨res, Hres⟩ : ∃ z, Hid (someN N zs = z) := ⟨_, rfl⟩
 rw [Hres.out]
 go_enter Tryz.func21, Tryz.ntmps21
 go_wp2_with fail
 go_loopw [0, 7, 8] (fun s0 s7 s8 wr => ∃ (k : Nat) (P : List Nat) (cu : List Int) (a2 : Option Addr) (n2 d2 : Nat) (tv : Value), k ≤ N ∧ s8 = .int .i64 (k : Int) ∧ s0 = .slice a2 n2 d2 ∧ s7 = tv ∧ Hid (n2 = cu.length ∧ n2 ≤ d2 ∧ Bytes w (.slice a2 n2 d2) cu) ∧
  Hid (wr.ownsRow w.heap.size 2 1 tv k ((P.map fun v : Nat => (v : Int)).map (Value.int .i64))) ∧ Hid (P.length = k ∧ (∀ v ∈ P, v ≤ 4611686018427387903) ∧ zs = bytesN P ++ cu) ∧ Hid (Below w.heap.size w wr)) (fun _ _ s8 _ => N - (intOf s8).toNat)
 case atStart => exact ⟨0, [], zs, a, n, d, _, Nat.zero_le _, rfl, rfl, rfl, ⟨Hn.out, hnd, HB.out⟩, World.ownsRow_nil _ _ _ _, ⟨rfl, fun _ h => (by cases h), by simp [bytesN]⟩, Below.refl _ _⟩
 case round =>
  obtain ⟨k, P, cu, a2, n2, d2, tv, hk, rfl, rfl, rfl, HC, HO, HP, Hb⟩ := hrel
  by_cases hkN : k < N
  · have j1 : (k : Int) < (N : Int) := by omega
    obtain ⟨hc1, hc2, hc3⟩ := HC.out
    rcases PackMath.begins_or cu with ⟨v, rest, hbg⟩ | hbare
    · obtain ⟨tv2, hT, hR, a3, d3, hv3, hl3⟩ := reftake_all a2 n2 d2 cu rest v wr (hc3.later Hb.out) hc1 hc2 hbg
      subst hv3
      have HT := Lib.hid hT
      have HR3 : Hid (rest.length = rest.length ∧ rest.length ≤ d3 ∧ Bytes w (.slice a3 rest.length d3) rest) := ⟨rfl, hl3, hR w hc3⟩
      have HBg := Lib.hid hbg
      obtain ⟨q, Hq⟩ : ∃ q, Hid (rest.length = q) := ⟨_, rfl⟩
      rw [Hq.out] at HT HR3
      clear hT hR hl3 hbg hc1 hc2 hc3
      go_wp2_with fail
      refine HT.out.mono ?_
      rintro e w3 ⟨rfl, hb⟩
      have Hb3 := Lib.hid (held_next Hb.out hb)
      have HO3 := Lib.hid (own_later HO.out hb)
      clear hb HT
      by_cases hbig : 4611686018427387903 < v
      · obtain rfl : res = none := Hres.out.symm.trans (someN_big HP.out.1 hkN HP.out.2.2 HBg.out hbig)
        have hbi : (4611686018427387903 : Int) < (v : Int) := by omega
        go_wp2_with fail
        go_ret3
        exact Or.inr ⟨rfl, by rfl, Hb3.out⟩
      · have hbi : ¬ (4611686018427387903 : Int) < (v : Int) := by omega
        have hwv : IntKind.i64.wrap (v : Int) = (v : Int) := IntWalk.i64_in _ (by omega)
        obtain ⟨v', w', hrun, g1, g2, g3⟩ := nums_push (w := w3) (base := w.heap.size) (P := P.map fun v : Nat => (v : Int)) (k := k) (v : Int) (by rw [List.length_map]; exact HP.out.1) HO3.out Hb3.out.size (by omega)
        obtain ⟨hfine, happV, happW⟩ := fine_of hrun
        have HO4 : Hid (w'.ownsRow w.heap.size 2 1 v' (k + 1) (((P ++ [v]).map fun v : Nat => (v : Int)).map (Value.int .i64))) := by
         show w'.ownsRow _ _ _ _ _ _
         rw [List.map_append]
         exact g1
        have Hb4 := Lib.hid (Hb3.out.trans g2)
        have HP4 : Hid ((P ++ [v]).length = k + 1 ∧ (∀ x ∈ P ++ [v], x ≤ 4611686018427387903) ∧ zs = bytesN (P ++ [v]) ++ rest) := by
         refine ⟨by rw [List.length_append, HP.out.1]; rfl, fun x hx => ?_, by rw [bytesN_append, bytesN_one, List.append_assoc, ← HBg.out.2]; exact HP.out.2.2⟩
         rcases List.mem_append.1 hx with h | h
         · exact HP.out.2.1 x h
         · rw [List.mem_singleton.1 h]; omega
        clear hrun g1 g2 g3
        go_wp2_with fail
        go_roundw
        case rel => exact ⟨k + 1, P ++ [v], rest, a3, q, d3, v', by omega, by go_num, rfl, rfl, ⟨Hq.out.symm, HR3.out.2⟩, HO4.out, HP4.out, Hb4.out⟩
        case measure => simp [intOf]; omega
    · have hT := reftake_no a2 n2 d2 cu wr (hc3.later Hb.out) hc1 hc2 hbare
      have HT := Lib.hid hT
      obtain rfl : res = none := Hres.out.symm.trans (someN_bare HP.out.1 hkN HP.out.2.2 hbare)
      clear hT hc1 hc2 hc3
      go_wp2_with fail
      refine HT.out.mono ?_
      rintro e w3 ⟨rfl, hb⟩
      have Hb3 := Lib.hid (held_next Hb.out hb)
      clear hb
      go_wp2_with fail
      go_ret3
      exact Or.inr ⟨rfl, by rfl, Hb3.out⟩
  · obtain rfl : k = N := by omega
    obtain rfl : res = some (P, cu) := Hres.out.symm.trans (someN_yes ⟨HP.out.1, HP.out.2.1, HP.out.2.2⟩)
    go_wp2_with fail
    have hO := HO.out
    have ef := flat_one (P.map fun v : Nat => (v : Int))
    rw [List.length_map, HP.out.1] at ef
    rw [ef] at hO
    obtain ⟨A, C, hv, _, hE⟩ := elems_of_own hO (by omega)
    subst hv
    have HE := Lib.hid hE
    have HOff := Lib.hid (own_beyond hO)
    clear hE hO
    go_ret3
    refine Or.inl ⟨P, cu, A, C, a2, d2, rfl, ?_, ?_, ?_, ?_, Hb.out, HOff.out⟩
    · rw [HP.out.1, ← HC.out.1]; rfl
    · unfold Nums
      rw [List.length_map, HP.out.1]
      exact HE.out
    · rw [← HC.out.1]; exact HC.out.2.2.later Hb.out
    · rw [← HC.out.1]; exact HC.out.2.1
theorem refsome_calls (a : Option Addr) (n d : Nat) (zs : List Int) (N : Nat) (hN : N ≤ 1000) (hn : n = zs.length) (hnd : n ≤ d) (w : World) (hB : Bytes w (.slice a n d) zs) :
 Calls Tryz.prog 21 #[.slice a n d, .int .i64 (N : Int)] w (TookN w (someN N zs)) := (refsome_far a n d zs N hN hn hnd w hB).mono fun _ _ h => h.took
end Go.Proofs.YtnkgakhnlbifdaaGreat
namespace Go.Proofs.YtnkgakhnlbifdaaGreat
open Go.RowKit
set_option maxRecDepth 100000 in
set_option maxHeartbeats 4000000 in
theorem refcounted_calls (a : Option Addr) (n d : Nat) (zs : List Int) (most : Int) (k : Nat) (hmost : most ≤ 400) (hk : k ≤ 2) (hn : n = zs.length) (hnd : n ≤ d) (w : World) (hB : Bytes w (.slice a n d) zs) :
 Calls Tryz.prog 24 #[.slice a n d, .int .i64 most, .int .i64 (k : Int)] w (TookNF w (countedN most k zs)) := by
 obtain ⟨res, Hres⟩ : ∃ z, Hid (countedN most k zs = z) := ⟨_, rfl⟩
 rw [Hres.out]
 have hcall := refsome_calls a n d zs 1 (by decide) hn hnd w hB
 obtain ⟨S1, HS1⟩ : ∃ z, Hid (someN 1 zs = z) := ⟨_, rfl⟩
 rw [HS1.out] at hcall
 have Hcall := Lib.hid hcall; clear hcall hB hn hnd
 go_enter Tryz.func24, Tryz.ntmps24
 go_wp2_with fail
 refine Hcall.out.mono ?_
 rintro e w1 hT
 rcases hT with ⟨ns, rest, A, C, B, D, rfl, rfl, hN, hB, hD, hb⟩ | ⟨rfl, rfl, hb⟩
 rotate_left 1
 · have hr : res = none := by
    rw [← Hres.out]; unfold countedN; rw [HS1.out]
   have HR := Lib.hid hr; clear hr
   have Hb1 := Lib.hid hb; clear hb
   go_wp2_with fail
   go_ret3
   exact Or.inr ⟨HR.out, by rfl, Hb1.out⟩
 have h1 := someN_some HS1.out
 match ns, h1.1 with
 | [v], _ =>
   have Hb1 := Lib.hid hb; clear hb
   have hv : v ≤ 4611686018427387903 := h1.2.1 v (List.mem_singleton.2 rfl)
   have hres : res = if ((v : Nat) : Int) ≤ most then someN (v * k) rest else none := by
    rw [← Hres.out]; unfold countedN; rw [HS1.out]; rfl
   have HR := Lib.hid hres; clear hres
   obtain ⟨bb, off, rfl, _, g0⟩ := hN.at (i := 0) (by simp)
   have g1 : w1.cell? ⟨bb, off, none⟩ = some (.int .i64 (v : Int)) := g0
   have HB := Lib.hid hB; clear hB hN g0 h1
   have HD := Lib.hid hD; clear hD
   simp only [List.length_singleton]
   by_cases hvm : ((v : Nat) : Int) ≤ most
   · have hr := HR.out
     rw [if_pos hvm] at hr
     have HR2 := Lib.hid hr; clear hr
     have hvk : v * k ≤ 800 := Nat.le_trans (Nat.mul_le_mul (show v ≤ 400 by omega) hk) (by decide)
     obtain ⟨M, HM⟩ : ∃ M, Hid (v * k = M) := ⟨_, rfl⟩
     rw [HM.out] at hvk
     have HM2 : Hid (((v : Nat) : Int) * (k : Int) = (M : Int)) := by show _ = _; rw [← HM.out]; push_cast; rfl
     have hw1 : IntKind.i64.wrap (((v : Nat) : Int) * (k : Int)) = (M : Int) := by rw [HM2.out]; exact IntWalk.i64_in _ (by omega)
     have hw2 : wrap64 (((v : Nat) : Int) * (k : Int)) = (M : Int) := by rw [HM2.out]; exact IntWalk.wrap64_in _ (by omega)
     have hcall := refsome_far B rest.length D rest M (by omega) rfl HD.out w1 HB.out
     rw [show someN M rest = res from by rw [HR2.out, HM.out]] at hcall
     have Hcall2 := Lib.hid hcall; clear hcall
     go_wp2_with fail
     refine Hcall2.out.mono ?_
     rintro e w2 hT
     rcases hT with ⟨ns, r2, A2, C2, B2, D2, hx, rfl, hN, hB, hD, hb, hoff⟩ | ⟨hx, rfl, hb⟩
     · have Hx := Lib.hid hx; have HN := Lib.hid hN; have HB2 := Lib.hid hB; have HD2 := Lib.hid hD; have Hb2 := Lib.hid (held_next Hb1.out hb)
       have HOff := Lib.hid (fun ad had => Nat.le_trans Hb1.out.size (hoff ad had))
       clear hx hN hB hD hb hoff
       go_wp2_with fail
       go_ret3
       exact Or.inl ⟨ns, r2, A2, C2, B2, D2, Hx.out, by rfl, HN.out, HB2.out, HD2.out, Hb2.out, HOff.out⟩
     · have Hx := Lib.hid hx; have Hb2 := Lib.hid (held_next Hb1.out hb)
       clear hx hb
       go_wp2_with fail
       go_ret3
       exact Or.inr ⟨Hx.out, by rfl, Hb2.out⟩
   · have hr := HR.out
     rw [if_neg hvm] at hr
     have HR2 := Lib.hid hr; clear hr
     go_wp2_with fail
     go_ret3
     exact Or.inr ⟨HR2.out, by rfl, Hb1.out⟩
end Go.Proofs.YtnkgakhnlbifdaaGreat
namespace Go.Proofs.YtnkgakhnlbifdaaGreat
open Go.RowKit
theorem flat_count {N i k : Nat} {L : List Rw} {P : List Int} (hL : L.length = i) (hR : Rowed N L) (hP : P.length = k) (hi : i < N) (hk : k < N + 2) : ((flatR L ++ P).map u64n).length < N * (N + 2) := by
 rw [List.length_map, List.length_append, flatR_len hR, hL, hP]
 have := Nat.mul_le_mul_right (N + 2) (show i + 1 ≤ N by omega)
 rw [Nat.succ_mul] at this
 omega
theorem zs_flat {zs cur : List Int} {L : List Rw} {P : List Int} (h : zs = booksB L ++ (bytesN (P.map u64n) ++ cur)) : zs = bytesN ((flatR L ++ P).map u64n) ++ cur := by
 rw [h, List.map_append, bytesN_append, List.append_assoc]; rfl
theorem zs_more {zs cur rest : List Int} {L : List Rw} {P : List Int} {v : Nat} (h : zs = booksB L ++ (bytesN (P.map u64n) ++ cur)) (hb : PackMath.Begins cur v rest) : zs = booksB L ++ (bytesN ((P ++ [(v : Int)]).map u64n) ++ rest) := by
 rw [h, List.map_append, bytesN_append, List.map_singleton, bytesN_one, u64n_nat hb.1, hb.2, List.append_assoc]
theorem zs_row {zs cur : List Int} {L : List Rw} {P : List Int} (h : zs = booksB L ++ (bytesN (P.map u64n) ++ cur)) {r : Rw} (hr : rowN r = P) : zs = booksB (L ++ [r]) ++ cur := by
 rw [h, booksB_append, List.append_assoc]
 congr 2
 unfold booksB
 rw [flatR_one, hr]
theorem rowN_of {P : List Int} {N : Nat} (h : P.length = N + 2) : rowN ⟨P[0]?.getD 0, P[1]?.getD 0, P.drop 2⟩ = P := by
 match P, h with
 | x :: y :: r, _ => simp [rowN]
end Go.Proofs.YtnkgakhnlbifdaaGreat
