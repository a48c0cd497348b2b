/- Parts, as far as BookTakesCards reaches them, of: PackPut, PackTake, BookReader. No law is proved here. -/
import Derived.Test.YtnkgakhnlbifdaaGreatTb11
import Derived.Test.YtnkgakhnlbifdaaGreatTb20
import Derived.Test.YtnkgakhnlbifdaaGreatTb5
import Derived.WalkLawsBesides
import Derived.LoopTactic
namespace Go.Proofs.YtnkgakhnlbifdaaGreat
open Go.RowKit
set_option maxRecDepth 100000 in
set_option maxHeartbeats 400000 in
theorem put_calls (a : Option Addr) (n c : Nat) (zs : List Int) (x : Nat) (hx : x < 18446744073709551616) (w : World) (hB : Bytes w (.slice a n c) zs) (hn : n = zs.length) (hnc : n ≤ c) (h47 : n ≤ 140737488355000) :
 Calls Tryz.prog 32 #[.slice a n c, .int .u64 x] w (Made w (zs ++ PackMath.num x)) := by
 obtain ⟨i5, hi, hz0, hz1, hz2⟩ := info_parts info_u8
 have Hi := Lib.hid hi; clear hi
 have Hz0 := Lib.hid hz0; clear hz0
 have Hz1 := Lib.hid hz1; clear hz1
 have Hz2 := Lib.hid hz2; clear hz2
 have hbig := hB.1
 obtain ⟨a', hsl, hB'⟩ := piece_full hB hn hnc
 have HB := Lib.hid hB'; clear hB' hB
 rw [← hn] at hbig
 have Hn := Lib.hid hn; clear hn
 have Hx := Lib.hid (PackMath.num_len_64 x hx)
 have HX := Lib.hid hx; clear hx
 go_enter Tryz.func32, Tryz.ntmps32
 go_wp2_with fail
 clear hsl
 go_loopw [0, 1] (fun v i wr => ∃ (p : List Int) (r : Nat), i = .int .u64 r ∧ Hid (r < 18446744073709551616) ∧ Hid (PackMath.num x = p ++ PackMath.num r) ∧ Hid (Tail w.heap.size 5 wr v (zs ++ p)) ∧ Hid (Below w.heap.size w wr)) (fun _ i _ => (intOf i).toNat)
 case atStart => exact ⟨[], x, rfl, HX, rfl, by rw [List.append_nil]; exact Or.inl ⟨a', by rw [← Hn.out], HB.out⟩, Below.refl _ _⟩
 case round =>
  obtain ⟨p, r, rfl, Hr, Hp, HT, Hb⟩ := hrel
  by_cases hge : 128 ≤ r
  · have ho := or128 r
    have hge' : ¬ r < 128 := by omega
    have hlz := congrArg List.length Hp.out
    rw [List.length_append] at hlz
    have hlx := Hx.out
    have hlr := PackMath.num_pos r
    have hlen : (zs ++ p).length + 1 ≤ 140737488355328 := by rw [List.length_append, ← Hn.out]; omega
    have HL := Lib.hid hlen; clear hlen hlz hlx hlr
    go_wp2_with (at_builtin; refine wpList_append_byte rfl (.tmp 13) (.tmp 17) 24 rfl w.heap.size 5 i5 Tryz.underlying24 Hi.out Hz0.out Hz1.out Hz2.out _ _ rfl (HT.out.alloc _) ((r : Int) % 128 + 128) (by omega) ⟨wr.heap.size, 0, none⟩ 1 rfl (cell_new _ _ _ _ _ _ rfl) HL.out (by have := Hb.out.size; simp; omega) ?_; intro v' w' hF hB2; have HF := Lib.hid hF; have HB2 := Lib.hid hB2; clear hF hB2)
    go_roundw
    case rel =>
     refine ⟨p ++ [((r % 128 + 128 : Nat) : Int)], r / 128, congrArg (Value.int IntKind.u64) (by omega), ?_, ?_, ?_, ?_⟩
     · show _ < _
       have := Hr.out
       omega
     · show _ = _
       rw [Hp.out, PackMath.num_ge hge]; simp
     · have := HF.out
       rw [List.append_assoc] at this
       exact Or.inr (by simpa using this)
     · exact Hb.out.trans (((Below.refl _ _).alloc Hb.out.size _).trans HB2.out)
    case measure => simp [intOf]; omega
  · have hlt : r < 128 := by omega
    have hlz := congrArg List.length Hp.out
    rw [List.length_append] at hlz
    have hlx := Hx.out
    have hlr := PackMath.num_pos r
    have hlen : (zs ++ p).length + 1 ≤ 140737488355328 := by rw [List.length_append, ← Hn.out]; omega
    have HL := Lib.hid hlen; clear hlen hlz hlx hlr hge
    go_wp2_with (at_builtin; refine wpList_append_byte rfl (.tmp 21) (.tmp 24) 24 rfl w.heap.size 5 i5 Tryz.underlying24 Hi.out Hz0.out Hz1.out Hz2.out _ _ rfl (HT.out.alloc _) (r : Int) (by omega) ⟨wr.heap.size, 0, none⟩ 1 rfl (cell_new _ _ _ _ _ _ rfl) HL.out (by have := Hb.out.size; simp; omega) ?_; intro v' w' hF hB2; have HF := Lib.hid hF; have HB2 := Lib.hid hB2; clear hF hB2)
    go_ret
    refine ⟨v', rfl, Hb.out.trans (((Below.refl _ _).alloc Hb.out.size _).trans HB2.out), ?_⟩
    rw [Hp.out, PackMath.num_lt hlt, ← List.append_assoc]
    exact HF.out
end Go.Proofs.YtnkgakhnlbifdaaGreat
namespace Go.Proofs.YtnkgakhnlbifdaaGreat
open Go.RowKit
theorem after_all {W : World} {a : Option Addr} {n c lo : Nat} {zs : List Int} (hB : Bytes W (.slice a n c) zs) (hn : n = zs.length) (h1 : lo ≤ n) (h3 : n ≤ c) :
 ∃ v, (∀ w, Calls Tryz.prog 111 #[.slice a n c, .int .i64 (lo : Int)] w fun e w' => e = .returned v ∧ w = w') ∧ (∀ W', Bytes W' (.slice a n c) zs → Bytes W' v (zs.drop lo)) ∧ ∃ a', v = .slice a' (n - lo) (n - lo) := by
 obtain ⟨v, hv, hb, ha⟩ := piece_after hn h1 h3
 refine ⟨v, fun w => ?_, hb, ha⟩
 have hbig := hB.1
 rw [← hn] at hbig
 clear hB hn hb ha
 go_enter Tryz.func111, Tryz.ntmps111
 go_wp2_with fail
 go_ret
 exact ⟨rfl, rfl⟩
set_option maxRecDepth 100000 in
set_option maxHeartbeats 1000000 in
theorem take_yes_some (b off n c : Nat) (zs rest : List Int) (x : Nat) (w : World) (hB : Bytes w (.slice (some ⟨b, off, none⟩) n c) zs) (hcell : ∀ j, j < zs.length → w.cell? ⟨b, off + j, none⟩ = some (.int .u8 (zs.getD j 0))) (hn : n = zs.length) (hnc : n ≤ c) (hx : PackMath.Begins zs x rest) :
 ∃ v, (Calls Tryz.prog 90 #[.slice (some ⟨b, off, none⟩) n c] w fun e w' => e = .returned (.tuple #[.int .u64 x, v, .bool true]) ∧ w = w') ∧ (∀ W, Bytes W (.slice (some ⟨b, off, none⟩) n c) zs → Bytes W v rest) ∧ ∃ a', v = .slice a' rest.length rest.length := by
 have hl : zs.length = (PackMath.num x).length + rest.length := by rw [hx.2, List.length_append]
 obtain ⟨v, hv, hb, ha⟩ := after_all (lo := (PackMath.num x).length) hB hn (by omega) hnc
 refine ⟨v, ?_, fun W hW => by have := hb W hW; rw [hx.2] at this; simpa using this, by rwa [show n - (PackMath.num x).length = rest.length by omega] at ha⟩
 clear hb ha
 have hbig := hB.1
 rw [← hn] at hbig
 have Hn := Lib.hid hn; clear hn
 have Hv := Lib.hid hv; clear hv
 have Hl := Lib.hid hl; clear hl
 have Hx := Lib.hid hx; clear hx
 have Hc := Lib.hid hcell; clear hcell hB
 go_enter Tryz.func90, Tryz.ntmps90
 go_wp2_with fail
 go_step3
 go_wp2_with fail
 go_step3
 go_wp2_with fail
 go_loop [2, 9] (fun v i => ∃ k m r : Nat, k ≤ 9 ∧ k < n ∧ i = .int .i64 k ∧ v = .int .u64 m ∧ Hid (Going zs rest x k m r)) (fun _ i => n - (intOf i).toNat)
 case atStart => exact ⟨0, 0, x, by omega, by have := PackMath.num_pos x; have := Hn.out; have := Hl.out; omega, rfl, rfl, [], rfl, by simpa using Hx.out.2, by simp, PackMath.read_nil, Or.inl rfl⟩
 case round =>
  obtain ⟨k, m, r, hk9, hkn, rfl, rfl, Hg⟩ := hrel
  by_cases hge : 128 ≤ r
  · obtain ⟨h1, h2, h3⟩ := Hg.out.more hge
    have hk8 : k ≤ 8 := by
     by_cases e : k = 9
     · have := Hg.out.nine Hx.out.1 e; omega
     · omega
    have hk1 : k + 1 < n := by have := Hn.out; omega
    have Hg2 := Lib.hid h3; clear h3
    have hc1 := Hc.out k (by omega)
    rw [h1] at hc1
    have hor := or_shift m k (r % 128) Hg.out.low (by have := Hg.out.fits; have := Hx.out.1; omega)
    clear h1 h2
    obtain ⟨d, Hd⟩ : ∃ d : Nat, Hid (r % 128 = d) := ⟨_, rfl⟩
    have hd : d < 128 := by rw [← Hd.out]; omega
    rw [Hd.out] at hc1 hor
    obtain ⟨m2, Hm2⟩ : ∃ m2 : Nat, Hid (m + 128 ^ k * d = m2) := ⟨_, rfl⟩
    rw [Hm2.out] at hor
    rw [Int.natCast_add] at hc1
    have hk9' : ((k : Int) == 9) = false := beq_eq_false_iff_ne.2 (by omega)
    clear hge
    go_wp2_with fail
    go_round
    case rel => exact ⟨k + 1, m2, r / 128, by omega, by omega, by go_num, rfl, by rw [← Hm2.out, ← Hd.out]; exact Hg2⟩
    case measure => simp [intOf]; omega
  · have hr : r < 128 := by omega
    obtain ⟨h1, h2, h3, h4⟩ := Hg.out.last hr
    have h9 : k = 9 → r ≤ 1 := Hg.out.nine Hx.out.1
    have h0 := Hg.out.zero
    have hc1 := Hc.out k (by have := Hn.out; omega)
    rw [h1] at hc1
    have hor := or_shift m k r h2 (by have := Hx.out.1; omega)
    rw [← h3] at hor
    have hv := Hv.out
    rw [h4] at hv
    have Hv2 : Hid (∀ w, Calls Tryz.prog 111 #[.slice (some ⟨b, off, none⟩) n c, .int .i64 ((k : Int) + 1)] w fun e w' => e = .returned v ∧ w = w') := by
     exact hv
    clear h1 h2 h3 h4 hv hge
    by_cases h9' : k = 9
    · have hr0 : 0 < r := by omega
      have hr1 : r ≤ 1 := h9 h9'
      have hk9' : ((k : Int) == 9) = true := beq_iff_eq.2 (by omega)
      have hz : ((r : Int) == 0) = false := beq_eq_false_iff_ne.2 (by omega)
      clear h9' h9 h0
      go_wp2_with (go_at_call 111; refine (Hv2.out _).mono ?_; rintro e w' ⟨rfl, rfl⟩)
      try rw [Exit.noGoto_ret]
      go_ret3
      exact ⟨rfl, rfl⟩
    · have hk9' : ((k : Int) == 9) = false := beq_eq_false_iff_ne.2 (by omega)
      by_cases hr0 : 0 < r
      · have hz : ((r : Int) == 0) = false := beq_eq_false_iff_ne.2 (by omega)
        clear h9' h9 h0
        go_wp2_with (go_at_call 111; refine (Hv2.out _).mono ?_; rintro e w' ⟨rfl, rfl⟩)
        try rw [Exit.noGoto_ret]
        go_ret3
        exact ⟨rfl, rfl⟩
      · have hk0 : k = 0 := by omega
        have hr00 : r = 0 := by omega
        have hz : ((r : Int) == 0) = true := beq_iff_eq.2 (by omega)
        have hz2 : decide (0 < (k : Int)) = false := by simp; omega
        have hz3 : ¬ (0 < k) := by omega
        clear h9' h9 h0 hk0 hr00 hr0
        go_wp2_with (go_at_call 111; refine (Hv2.out _).mono ?_; rintro e w' ⟨rfl, rfl⟩)
        try rw [Exit.noGoto_ret]
        go_ret3
        exact ⟨rfl, rfl⟩
theorem take_all (a : Option Addr) (n c : Nat) (zs rest : List Int) (x : Nat) (w : World) (hB : Bytes w (.slice a n c) zs) (hn : n = zs.length) (hnc : n ≤ c) (hx : PackMath.Begins zs x rest) :
 ∃ v, (Calls Tryz.prog 90 #[.slice a n c] w fun e w' => e = .returned (.tuple #[.int .u64 x, v, .bool true]) ∧ w = w') ∧ (∀ W, Bytes W (.slice a n c) zs → Bytes W v rest) ∧ ∃ a', v = .slice a' rest.length rest.length := by
 obtain ⟨h1, h2, ⟨a0, c0, h3, h4, h5⟩ | ⟨b, off, c0, h3, h4⟩⟩ := id hB
 · have := hx.2
   have hp := PackMath.num_pos x
   rw [h5] at this
   have := congrArg List.length this
   simp only [List.length_nil, List.length_append] at this
   omega
 · simp only [Value.slice.injEq] at h3
   obtain ⟨rfl, _, rfl⟩ := h3
   exact take_yes_some b off n c zs rest x w hB h4 hn hnc hx
set_option maxRecDepth 100000 in
set_option maxHeartbeats 1000000 in
theorem take_no_some (b off n c : Nat) (zs : List Int) (w : World) (hB : Bytes w (.slice (some ⟨b, off, none⟩) n c) zs) (hcell : ∀ j, j < zs.length → w.cell? ⟨b, off + j, none⟩ = some (.int .u8 (zs.getD j 0))) (hn : n = zs.length) (hx : PackMath.Bare zs) :
 Calls Tryz.prog 90 #[.slice (some ⟨b, off, none⟩) n c] w fun e w' => e = .returned (.tuple #[.int .u64 0, .slice none 0 0, .bool false]) ∧ w = w' := by
 have hbig := hB.1
 rw [← hn] at hbig
 have Hs := Lib.hid hB.2.1
 have Hn := Lib.hid hn; clear hn
 have Hx := Lib.hid hx; clear hx
 have Hc := Lib.hid hcell; clear hcell hB
 go_enter Tryz.func90, Tryz.ntmps90
 go_wp2_with fail
 go_step3
 go_wp2_with fail
 go_step3
 go_wp2_with fail
 go_loop [2, 9] (fun v i => ∃ k m : Nat, k ≤ n ∧ i = .int .i64 k ∧ v = .int .u64 m ∧ Hid (Vain zs k m)) (fun _ i => n - (intOf i).toNat)
 case atStart => exact ⟨0, 0, by omega, rfl, rfl, Vain.start zs⟩
 case round =>
  obtain ⟨k, m, hk, rfl, rfl, Hv⟩ := hrel
  by_cases hlt : k < n
  · obtain ⟨d, h1, h2, h3, h4⟩ := Hv.out.at_ Hx.out (by have := Hn.out; omega) Hs.out
    have hc1 := Hc.out k (by have := Hn.out; omega)
    rw [h1] at hc1
    clear h1
    have H3 := Lib.hid h3; clear h3
    have H4 := Lib.hid h4; clear h4
    have hv9 := Hv.out.2.2
    by_cases h9 : k = 9
    · have hk9' : ((k : Int) == 9) = true := beq_iff_eq.2 (by omega)
      by_cases hd1 : 1 < d
      · clear h9
        go_wp2_with fail
        try rw [Exit.noGoto_ret]
        go_ret3
        exact ⟨rfl, rfl⟩
      · have hd0 : d = 0 := by have := H3.out (by omega); omega
        have hz : ((d : Int) == 0) = true := beq_iff_eq.2 (by omega)
        have hk0 : 0 < k := by omega
        have hdd : d ≤ 1 := by omega
        clear h9 hd0 hd1
        go_wp2_with fail
        try rw [Exit.noGoto_ret]
        go_ret3
        exact ⟨rfl, rfl⟩
    · have hk9' : ((k : Int) == 9) = false := beq_eq_false_iff_ne.2 (by omega)
      have hk8 : k ≤ 8 := by omega
      by_cases hge : 128 ≤ d
      · have Hv2 := Lib.hid (H4.out (by omega) hge)
        obtain ⟨f, hf⟩ : ∃ f : Nat, d = f + 128 := ⟨d - 128, by omega⟩
        subst hf
        have hf2 := Hv.out.fits (k := k) (c := f) (by omega) (by omega)
        have hor := or_shift m k f hf2.1 hf2.2
        obtain ⟨m2, Hm2⟩ : ∃ m2 : Nat, Hid (m + 128 ^ k * f = m2) := ⟨_, rfl⟩
        rw [Hm2.out] at hor
        rw [Nat.add_sub_cancel, Hm2.out] at Hv2
        rw [Int.natCast_add] at hc1
        clear hf2 h9
        go_wp2_with fail
        go_round
        case rel => exact ⟨k + 1, m2, by omega, by go_num, rfl, Hv2⟩
        case measure => simp [intOf]; omega
      · have hd0 : d = 0 := by have := H3.out (by omega); omega
        have hz : ((d : Int) == 0) = true := beq_iff_eq.2 (by omega)
        have hk0 : 0 < k := by have := H3.out (by omega); omega
        have hdd : d < 128 := by omega
        clear h9 hd0 hge
        go_wp2_with fail
        try rw [Exit.noGoto_ret]
        go_ret3
        exact ⟨rfl, rfl⟩
  · go_wp2_with fail
    try rw [Exit.noGoto_ret]
    go_ret3
    exact ⟨rfl, rfl⟩
theorem take_no (a : Option Addr) (n c : Nat) (zs : List Int) (w : World) (hB : Bytes w (.slice a n c) zs) (hn : n = zs.length) (hx : PackMath.Bare zs) :
 Calls Tryz.prog 90 #[.slice a n c] w fun e w' => e = .returned (.tuple #[.int .u64 0, .slice none 0 0, .bool false]) ∧ w = w' := by
 obtain ⟨h1, h2, ⟨a0, c0, h3, h4, h5⟩ | ⟨b, off, c0, h3, h4⟩⟩ := id hB
 · simp only [Value.slice.injEq] at h3
   obtain ⟨rfl, rfl, rfl⟩ := h3
   clear hB hn h1 h2 h4 hx
   go_enter Tryz.func90, Tryz.ntmps90
   go_wp2_with fail
   go_step3
   go_wp2_with fail
   go_step3
   go_wp2_with fail
   refine wp_loop_rounds 1 ?_
   rw [rounds_succ]
   go_wp2_with fail
   try rw [Exit.noGoto_ret]
   go_ret3
   exact ⟨rfl, rfl⟩
 · simp only [Value.slice.injEq] at h3
   obtain ⟨rfl, _, rfl⟩ := h3
   exact take_no_some b off n c zs w hB h4 hn hx
end Go.Proofs.YtnkgakhnlbifdaaGreat
namespace Go.Proofs.YtnkgakhnlbifdaaGreat
open Go.RowKit
abbrev wrongE : Ending := .panicked [{ v := .iface 53 (.agg #[]), recovered := false }]
def Rd (w0 : World) (gr : Nat) (z : List Int) (W : World) : Prop := ∃ v, Whole W gr 56 #[v] ∧ GoodB w0 v z
theorem Rd.lt {w0 : World} {gr : Nat} {z : List Int} {W : World} (h : Rd w0 gr z W) : gr < W.heap.size := by obtain ⟨v, h1, _⟩ := h; exact h1.lt
theorem Rd.later {w0 : World} {gr : Nat} {z : List Int} {W W' : World} (h : Rd w0 gr z W) (hb : Below W.heap.size W W') : Rd w0 gr z W' := by obtain ⟨v, h1, h2⟩ := h; exact ⟨v, h1.later hb h1.lt, h2⟩
def Reads (w0 : World) (gr : Nat) (W : World) (s : List Int × Bool) (v : Value) (e : Ending) (w' : World) : Prop := ButG gr W w' ∧ ((s.2 = false ∧ e = .returned v ∧ Rd w0 gr s.1 w') ∨ (s.2 = true ∧ e = wrongE))
theorem ButG.from {gr : Nat} {w0 W w' : World} (h : ButG gr W w') (hb : Below w0.heap.size w0 W) (hg : w0.heap.size ≤ gr) : Below w0.heap.size w0 w' :=
 ⟨h.1.os.trans hb.os, h.1.tape.trans hb.tape, h.1.output.trans hb.output, Nat.le_trans hb.size h.size, fun q hq => (h.2 q (by have := hb.size; omega) (by omega)).trans (hb.block q hq)⟩
theorem ButG.own {gr : Nat} {W w : World} (h : ButG gr W w) {p : Addr} (hp : W.heap.size ≤ p.block) (u : Value) : ButG gr W (w.setCell p u) :=
 ⟨h.1.setCell (Nat.zero_le _) u, fun q hq hne => (Below.heap_setCell w p u q (by omega)).trans (h.2 q hq hne)⟩
theorem Rd.set {w0 : World} {gr : Nat} {z : List Int} {W : World} (h : Rd w0 gr z W) {p : Addr} (hp : p.block ≠ gr) (u : Value) : Rd w0 gr z (W.setCell p u) := by obtain ⟨v, h1, h2⟩ := h; exact ⟨v, h1.other (fun e => hp e.symm) u, h2⟩
set_option maxRecDepth 100000 in
set_option maxHeartbeats 4000000 in
theorem kbehind_yes (gr : Nat) (u : Value) (A : Option Addr) (n C : Nat) (W : World) (h : Whole W gr 56 #[u]) :
 Calls Tryz.prog 89 #[.pointer (some ⟨gr, 0, none⟩), .slice A n C, .bool true] W (fun e w' => e = .returned (.tuple #[]) ∧ w' = W.setCell ⟨gr, 0, none⟩ (.slice A n C)) := by
 have c0 : W.cell? ⟨gr, 0, none⟩ = some u := h.cell 0
 have f0 : W.frozen? ⟨gr, 0, none⟩ = false := h.free 0
 clear h
 go_enter Tryz.func89, Tryz.ntmps89
 go_wp2_with fail
 first | go_end0 | refine bodyPost_ret (results_none rfl _ _ _) rfl ?_
 exact ⟨rfl, rfl⟩
set_option maxRecDepth 100000 in
set_option maxHeartbeats 4000000 in
theorem kbehind_no (gr : Nat) (A : Option Addr) (n C : Nat) (W : World) :
 Calls Tryz.prog 89 #[.pointer (some ⟨gr, 0, none⟩), .slice A n C, .bool false] W (fun e w' => e = wrongE ∧ w' = W) := by
 go_enter Tryz.func89, Tryz.ntmps89
 go_wp2_with fail
 exact ⟨rfl, rfl, rfl⟩
set_option maxRecDepth 100000 in
set_option maxHeartbeats 8000000 in
theorem kcount_calls (w0 : World) (gr : Nat) (z : List Int) (W : World) (hR : Rd w0 gr z W) (hb : Below w0.heap.size w0 W) :
 Calls Tryz.prog 63 #[.pointer (some ⟨gr, 0, none⟩)] W (Reads w0 gr W (rd1 (z, false)).2 (.int .u64 ((u64n (rd1 (z, false)).1 : Nat) : Int))) := by
 obtain ⟨v, hW, A, n, C, rfl, hn, hnC, hG⟩ := hR
 have hBy := hG W hb
 have c0 : W.cell? ⟨gr, 0, none⟩ = some (.slice A n C) := hW.cell 0
 have HW := Lib.hid hW; clear hW
 have HG := Lib.hid hG; clear hG
 rcases PackMath.begins_or z with ⟨x, rest, hbg⟩ | hbare
 · obtain ⟨tv, hcall, hall, a3, rfl⟩ := take_all A n C z rest x W hBy hn hnC hbg
   obtain ⟨n3, Hn3⟩ : ∃ z, Hid (z = rest.length) := ⟨_, rfl⟩
   rw [← Hn3.out] at hcall hall
   have Hcall := Lib.hid hcall
   have h1 := rd1_yes (b := false) hbg
   have h2 := u64n_wrap hbg.1
   have hgood : GoodB w0 (.slice a3 n3 n3) rest := ⟨a3, n3, n3, rfl, Hn3.out, Nat.le_refl _, fun W hW => hall W (HG.out W hW)⟩
   rw [h1]
   simp only [h2]
   have HGood := Lib.hid hgood
   clear hcall hall hgood hBy hbg h1 h2
   have Hn := Lib.hid hn; clear hn
   go_enter Tryz.func63, Tryz.ntmps63
   go_wp2_with fail
   refine Hcall.out.mono ?_
   rintro e w4 ⟨rfl, rfl⟩
   go_wp2_with fail
   refine (kbehind_yes gr _ a3 n3 n3 _ HW.out).mono ?_
   rintro e w5 ⟨rfl, hw5⟩
   have HF : Hid (ButG gr W w5 ∧ Rd w0 gr rest w5) := by
    show _ ∧ _
    rw [hw5]
    exact ⟨(ButG.refl gr W).set 0 _, _, HW.out.set 0 _, HGood.out⟩
   clear hw5
   go_wp2_with fail
   go_ret
   exact ⟨HF.out.1, Or.inl ⟨rfl, rfl, HF.out.2⟩⟩
 · have hcall := take_no A n C z W hBy hn hbare
   have Hcall := Lib.hid hcall
   rw [rd1_no hbare]
   clear hcall hBy hbare
   have Hn := Lib.hid hn; clear hn
   go_enter Tryz.func63, Tryz.ntmps63
   go_wp2_with fail
   refine Hcall.out.mono ?_
   rintro e w4 ⟨rfl, rfl⟩
   go_wp2_with fail
   refine (kbehind_no gr none 0 0 _).mono ?_
   rintro e w5 ⟨rfl, rfl⟩
   go_wp2_with fail
   exact ⟨rfl, ButG.refl _ _, Or.inr ⟨rfl, rfl⟩⟩
set_option maxRecDepth 100000 in
set_option maxHeartbeats 8000000 in
theorem knumber_calls (w0 : World) (gr : Nat) (z : List Int) (W : World) (hR : Rd w0 gr z W) (hb : Below w0.heap.size w0 W) :
 Calls Tryz.prog 59 #[.pointer (some ⟨gr, 0, none⟩)] W (Reads w0 gr W (rd1 (z, false)).2 (.int .i64 (rd1 (z, false)).1)) := by
 have hc := kcount_calls w0 gr z W hR hb
 have hwr : IntKind.i64.wrap ((u64n (rd1 (z, false)).1 : Nat) : Int) = (rd1 (z, false)).1 := rd1_wrap z
 obtain ⟨⟨x, s⟩, Hs⟩ : ∃ q, Hid (rd1 (z, false) = q) := ⟨_, rfl⟩
 rw [Hs.out] at hc hwr ⊢
 simp only at hc hwr ⊢
 have Hc := Lib.hid hc
 clear hc hR hb
 go_enter Tryz.func59, Tryz.ntmps59
 go_wp2_with fail
 refine Hc.out.mono ?_
 rintro e w1 ⟨hB, ⟨hs, rfl, hR⟩ | ⟨hs, rfl⟩⟩
 · go_wp2_with fail
   go_ret
   exact ⟨hB, Or.inl ⟨hs, rfl, hR⟩⟩
 · go_wp2_with fail
   exact ⟨rfl, hB, Or.inr ⟨hs, rfl⟩⟩
theorem rdS_flag_le {s : List Int × Bool} {k m : Nat} (h : (rdS s k).2 = true) (hk : k ≤ m) : (rdS s m).2 = true := by
 obtain ⟨d, rfl⟩ : ∃ d, m = k + d := ⟨m - k, by omega⟩
 rw [← rdS_add]
 exact rdS_flag h
theorem knum_at (w0 : World) (gr : Nat) (s : List Int × Bool) (k : Nat) (W : World) (hs : (rdS s k).2 = false) (hR : Rd w0 gr (rdS s k).1 W) (hb : Below w0.heap.size w0 W) :
 Calls Tryz.prog 59 #[.pointer (some ⟨gr, 0, none⟩)] W (Reads w0 gr W (rdS s (k + 1)) (.int .i64 (rdX s k))) := by
 have h := knumber_calls w0 gr _ W hR hb
 have e : ((rdS s k).1, false) = rdS s k := by rw [← hs]
 rw [e] at h
 exact h
set_option maxRecDepth 100000 in
set_option maxHeartbeats 8000000 in
theorem kflag_calls (w0 : World) (gr : Nat) (z : List Int) (W : World) (hR : Rd w0 gr z W) (hb : Below w0.heap.size w0 W) :
 Calls Tryz.prog 92 #[.pointer (some ⟨gr, 0, none⟩)] W (Reads w0 gr W (rdF (z, false)).2 (.bool (rdF (z, false)).1)) := by
 have hc := kcount_calls w0 gr z W hR hb
 unfold rdF
 obtain ⟨⟨x, s⟩, Hs⟩ : ∃ q, Hid (rd1 (z, false) = q) := ⟨_, rfl⟩
 rw [Hs.out] at hc ⊢
 simp only at hc ⊢
 obtain ⟨u, Hu⟩ : ∃ q, Hid (u64n x = q) := ⟨_, rfl⟩
 rw [Hu.out] at hc ⊢
 have Hc := Lib.hid hc
 clear hc hR hb
 by_cases h1 : 1 < u
 · have h1' : (1 : Int) < (u : Int) := by omega
   rw [if_pos h1]
   go_enter Tryz.func92, Tryz.ntmps92
   go_wp2_with fail
   refine Hc.out.mono ?_
   rintro e w1 ⟨hB, ⟨hs, rfl, hR⟩ | ⟨hs, rfl⟩⟩
   · go_wp2_with fail
     exact ⟨rfl, hB, Or.inr ⟨rfl, rfl⟩⟩
   · go_wp2_with fail
     exact ⟨rfl, hB, Or.inr ⟨rfl, rfl⟩⟩
 · rw [if_neg h1]
   simp only
   rcases (show u = 0 ∨ u = 1 by omega) with rfl | rfl
   all_goals
    go_enter Tryz.func92, Tryz.ntmps92
    go_wp2_with fail
    refine Hc.out.mono ?_
    rintro e w1 ⟨hB, ⟨hs, rfl, hR⟩ | ⟨hs, rfl⟩⟩
    · go_wp2_with fail
      go_ret
      exact ⟨hB, Or.inl ⟨hs, rfl, hR⟩⟩
    · go_wp2_with fail
      exact ⟨rfl, hB, Or.inr ⟨hs, rfl⟩⟩
set_option maxRecDepth 100000 in
set_option maxHeartbeats 8000000 in
theorem klook_calls (w0 : World) (gr : Nat) (z : List Int) (W : World) (hR : Rd w0 gr z W) (hb : Below w0.heap.size w0 W) (hg : w0.heap.size ≤ gr) :
 Calls Tryz.prog 91 #[.pointer (some ⟨gr, 0, none⟩)] W (Reads w0 gr W (rdS (z, false) 2) (.agg #[.int .i64 (rdX (z, false) 0), .int .i64 (rdX (z, false) 1)])) := by
 have HR0 : Hid (Rd w0 gr (rdS (z, false) 0).1 (W.alloc (.cells #[.int .i64 0, .int .i64 0] 31))) := hR.later (below_box _ _)
 have HB0 : Hid (ButG gr W (W.alloc (.cells #[.int .i64 0, .int .i64 0] 31))) := ButG.of (below_box _ _)
 have HM0 := Lib.hid (Whole.made W 31 #[.int .i64 0, .int .i64 0])
 have hgr : gr < W.heap.size := hR.lt
 have hs0 : Hid ((rdS (z, false) 0).2 = false) := rfl
 obtain ⟨x0, Hx0⟩ : ∃ q, Hid (rdX (z, false) 0 = q) := ⟨_, rfl⟩
 obtain ⟨x1, Hx1⟩ : ∃ q, Hid (rdX (z, false) 1 = q) := ⟨_, rfl⟩
 rw [Hx0.out, Hx1.out]
 obtain ⟨F, HF⟩ : ∃ q, Hid (q = rdS (z, false) 2) := ⟨_, rfl⟩
 rw [← HF.out]
 have Hb := Lib.hid hb; clear hb hR
 go_enter Tryz.func91, Tryz.ntmps91
 go_wp2_with fail
 have hlk := knum_at w0 gr (z, false) 0 _ hs0.out HR0.out (HB0.out.from Hb.out hg)
 rw [Hx0.out] at hlk
 refine hlk.mono ?_
 rintro e w1 ⟨hB, ⟨hs, rfl, hR⟩ | ⟨hs, rfl⟩⟩
 rotate_left 1
 · have hf : F.2 = true := by rw [HF.out]; exact rdS_flag_le hs (by decide)
   have HB9 : Hid (ButG gr W w1) := HB0.out.trans hB
   clear hs hB hlk
   go_wp2_with fail
   exact ⟨rfl, HB9.out, Or.inr ⟨hf, rfl⟩⟩
 have hs1 := Lib.hid hs
 have HR1 := Lib.hid hR
 have HB1 := Lib.hid (HB0.out.trans hB)
 have HM1 := Lib.hid (HM0.out.butG hB (by omega))
 clear hs hR hB HB0 HR0 HM0 hlk
 go_wp2_with fail
 have hlk := knum_at w0 gr (z, false) 1 _ hs1.out HR1.out (HB1.out.from Hb.out hg)
 rw [Hx1.out] at hlk
 refine hlk.mono ?_
 rintro e w2 ⟨hB, ⟨hs, rfl, hR⟩ | ⟨hs, rfl⟩⟩
 rotate_left 1
 · have hf : F.2 = true := by rw [HF.out]; exact rdS_flag_le hs (by decide)
   have HB9 : Hid (ButG gr W w2) := HB1.out.trans hB
   clear hs hB hlk
   go_wp2_with fail
   exact ⟨rfl, HB9.out, Or.inr ⟨hf, rfl⟩⟩
 have hs2 := Lib.hid hs
 have HR2 := Lib.hid hR
 have HB2 := Lib.hid (HB1.out.trans hB)
 have HM2 := Lib.hid (HM1.out.butG hB (by omega))
 clear hs hR hB HB1 HR1 HM1 hlk
 have c0 := HM2.out.cell 0
 have f0 := HM2.out.free 0
 have c1 := HM2.out.cell 1
 have f1 := HM2.out.free 1
 go_wp2_with fail
 refine bodyPost_ret (v := .agg #[.int .i64 x0, .int .i64 x1]) (by simp [results, Tryz.results91, go_sem, c0, c1]) rfl ⟨?_, Or.inl ⟨by rw [HF.out]; exact hs2.out, rfl, ?_⟩⟩
 · exact ((HB2.out.own (p := ⟨W.heap.size, 0, none⟩) (Nat.le_refl _) _).own (p := ⟨W.heap.size, 1, none⟩) (Nat.le_refl _) _)
 · rw [HF.out]
   exact ((HR2.out.set (p := ⟨W.heap.size, 0, none⟩) (by show W.heap.size ≠ gr; omega) _).set (p := ⟨W.heap.size, 1, none⟩) (by show W.heap.size ≠ gr; omega) _)
set_option maxRecDepth 100000 in
set_option maxHeartbeats 8000000 in
theorem knote_calls (w0 : World) (gr : Nat) (z : List Int) (W : World) (hR : Rd w0 gr z W) (hb : Below w0.heap.size w0 W) (hg : w0.heap.size ≤ gr) :
 Calls Tryz.prog 66 #[.pointer (some ⟨gr, 0, none⟩)] W (Reads w0 gr W (rdS (z, false) 7) (.agg #[.int .i64 (rdX (z, false) 0), .int .i64 (rdX (z, false) 1), .int .i64 (rdX (z, false) 2), .int .i64 (rdX (z, false) 3), .int .i64 (rdX (z, false) 4), .int .i64 (rdX (z, false) 5), .int .i64 (rdX (z, false) 6)])) := by
 have HR0 : Hid (Rd w0 gr (rdS (z, false) 0).1 (W.alloc (.cells #[.int .i64 0, .int .i64 0, .int .i64 0, .int .i64 0, .int .i64 0, .int .i64 0, .int .i64 0] 71))) := hR.later (below_box _ _)
 have HB0 : Hid (ButG gr W (W.alloc (.cells #[.int .i64 0, .int .i64 0, .int .i64 0, .int .i64 0, .int .i64 0, .int .i64 0, .int .i64 0] 71))) := ButG.of (below_box _ _)
 have HM0 := Lib.hid (Whole.made W 71 #[.int .i64 0, .int .i64 0, .int .i64 0, .int .i64 0, .int .i64 0, .int .i64 0, .int .i64 0])
 have hgr : gr < W.heap.size := hR.lt
 have hs0 : Hid ((rdS (z, false) 0).2 = false) := rfl
 obtain ⟨x0, Hx0⟩ : ∃ q, Hid (rdX (z, false) 0 = q) := ⟨_, rfl⟩
 obtain ⟨x1, Hx1⟩ : ∃ q, Hid (rdX (z, false) 1 = q) := ⟨_, rfl⟩
 obtain ⟨x2, Hx2⟩ : ∃ q, Hid (rdX (z, false) 2 = q) := ⟨_, rfl⟩
 obtain ⟨x3, Hx3⟩ : ∃ q, Hid (rdX (z, false) 3 = q) := ⟨_, rfl⟩
 obtain ⟨x4, Hx4⟩ : ∃ q, Hid (rdX (z, false) 4 = q) := ⟨_, rfl⟩
 obtain ⟨x5, Hx5⟩ : ∃ q, Hid (rdX (z, false) 5 = q) := ⟨_, rfl⟩
 obtain ⟨x6, Hx6⟩ : ∃ q, Hid (rdX (z, false) 6 = q) := ⟨_, rfl⟩
 rw [Hx0.out, Hx1.out, Hx2.out, Hx3.out, Hx4.out, Hx5.out, Hx6.out]
 obtain ⟨F, HF⟩ : ∃ q, Hid (q = rdS (z, false) 7) := ⟨_, rfl⟩
 rw [← HF.out]
 have Hb := Lib.hid hb; clear hb hR
 go_enter Tryz.func66, Tryz.ntmps66
 go_wp2_with fail
 have hlk := knum_at w0 gr (z, false) 0 _ hs0.out HR0.out (HB0.out.from Hb.out hg)
 rw [Hx0.out] at hlk
 refine hlk.mono ?_
 rintro e w1 ⟨hB, ⟨hs, rfl, hR⟩ | ⟨hs, rfl⟩⟩
 rotate_left 1
 · have hf : F.2 = true := by rw [HF.out]; exact rdS_flag_le hs (by decide)
   have HB9 : Hid (ButG gr W w1) := HB0.out.trans hB
   clear hs hB hlk
   go_wp2_with fail
   exact ⟨rfl, HB9.out, Or.inr ⟨hf, rfl⟩⟩
 have hs1 := Lib.hid hs
 have HR1 := Lib.hid hR
 have HB1 := Lib.hid (HB0.out.trans hB)
 have HM1 := Lib.hid (HM0.out.butG hB (by omega))
 clear hs hR hB HB0 HR0 HM0 hlk
 go_wp2_with fail
 have hlk := knum_at w0 gr (z, false) 1 _ hs1.out HR1.out (HB1.out.from Hb.out hg)
 rw [Hx1.out] at hlk
 refine hlk.mono ?_
 rintro e w2 ⟨hB, ⟨hs, rfl, hR⟩ | ⟨hs, rfl⟩⟩
 rotate_left 1
 · have hf : F.2 = true := by rw [HF.out]; exact rdS_flag_le hs (by decide)
   have HB9 : Hid (ButG gr W w2) := HB1.out.trans hB
   clear hs hB hlk
   go_wp2_with fail
   exact ⟨rfl, HB9.out, Or.inr ⟨hf, rfl⟩⟩
 have hs2 := Lib.hid hs
 have HR2 := Lib.hid hR
 have HB2 := Lib.hid (HB1.out.trans hB)
 have HM2 := Lib.hid (HM1.out.butG hB (by omega))
 clear hs hR hB HB1 HR1 HM1 hlk
 go_wp2_with fail
 have hlk := knum_at w0 gr (z, false) 2 _ hs2.out HR2.out (HB2.out.from Hb.out hg)
 rw [Hx2.out] at hlk
 refine hlk.mono ?_
 rintro e w3 ⟨hB, ⟨hs, rfl, hR⟩ | ⟨hs, rfl⟩⟩
 rotate_left 1
 · have hf : F.2 = true := by rw [HF.out]; exact rdS_flag_le hs (by decide)
   have HB9 : Hid (ButG gr W w3) := HB2.out.trans hB
   clear hs hB hlk
   go_wp2_with fail
   exact ⟨rfl, HB9.out, Or.inr ⟨hf, rfl⟩⟩
 have hs3 := Lib.hid hs
 have HR3 := Lib.hid hR
 have HB3 := Lib.hid (HB2.out.trans hB)
 have HM3 := Lib.hid (HM2.out.butG hB (by omega))
 clear hs hR hB HB2 HR2 HM2 hlk
 go_wp2_with fail
 have hlk := knum_at w0 gr (z, false) 3 _ hs3.out HR3.out (HB3.out.from Hb.out hg)
 rw [Hx3.out] at hlk
 refine hlk.mono ?_
 rintro e w4 ⟨hB, ⟨hs, rfl, hR⟩ | ⟨hs, rfl⟩⟩
 rotate_left 1
 · have hf : F.2 = true := by rw [HF.out]; exact rdS_flag_le hs (by decide)
   have HB9 : Hid (ButG gr W w4) := HB3.out.trans hB
   clear hs hB hlk
   go_wp2_with fail
   exact ⟨rfl, HB9.out, Or.inr ⟨hf, rfl⟩⟩
 have hs4 := Lib.hid hs
 have HR4 := Lib.hid hR
 have HB4 := Lib.hid (HB3.out.trans hB)
 have HM4 := Lib.hid (HM3.out.butG hB (by omega))
 clear hs hR hB HB3 HR3 HM3 hlk
 go_wp2_with fail
 have hlk := knum_at w0 gr (z, false) 4 _ hs4.out HR4.out (HB4.out.from Hb.out hg)
 rw [Hx4.out] at hlk
 refine hlk.mono ?_
 rintro e w5 ⟨hB, ⟨hs, rfl, hR⟩ | ⟨hs, rfl⟩⟩
 rotate_left 1
 · have hf : F.2 = true := by rw [HF.out]; exact rdS_flag_le hs (by decide)
   have HB9 : Hid (ButG gr W w5) := HB4.out.trans hB
   clear hs hB hlk
   go_wp2_with fail
   exact ⟨rfl, HB9.out, Or.inr ⟨hf, rfl⟩⟩
 have hs5 := Lib.hid hs
 have HR5 := Lib.hid hR
 have HB5 := Lib.hid (HB4.out.trans hB)
 have HM5 := Lib.hid (HM4.out.butG hB (by omega))
 clear hs hR hB HB4 HR4 HM4 hlk
 go_wp2_with fail
 have hlk := klook_calls w0 gr (rdS (z, false) 5).1 _ HR5.out (HB5.out.from Hb.out hg) hg
 rw [show ((rdS (z, false) 5).1, false) = rdS (z, false) 5 from Prod.ext rfl hs5.out.symm, rdS_add, rdX_add, rdX_add] at hlk
 rw [Hx5.out, Hx6.out] at hlk
 refine hlk.mono ?_
 rintro e w7 ⟨hB, ⟨hs, rfl, hR⟩ | ⟨hs, rfl⟩⟩
 rotate_left 1
 · have hf : F.2 = true := by rw [HF.out]; exact rdS_flag_le hs (by decide)
   have HB9 : Hid (ButG gr W w7) := HB5.out.trans hB
   clear hs hB hlk
   go_wp2_with fail
   exact ⟨rfl, HB9.out, Or.inr ⟨hf, rfl⟩⟩
 have hs7 := Lib.hid hs
 have HR7 := Lib.hid hR
 have HB7 := Lib.hid (HB5.out.trans hB)
 have HM7 := Lib.hid (HM5.out.butG hB (by omega))
 clear hs hR hB HB5 HR5 HM5 hlk
 have c0 := HM7.out.cell 0
 have f0 := HM7.out.free 0
 have c1 := HM7.out.cell 1
 have f1 := HM7.out.free 1
 have c2 := HM7.out.cell 2
 have f2 := HM7.out.free 2
 have c3 := HM7.out.cell 3
 have f3 := HM7.out.free 3
 have c4 := HM7.out.cell 4
 have f4 := HM7.out.free 4
 have c5 := HM7.out.cell 5
 have f5 := HM7.out.free 5
 have c6 := HM7.out.cell 6
 have f6 := HM7.out.free 6
 go_wp2_with fail
 refine bodyPost_ret (v := .agg #[.int .i64 x0, .int .i64 x1, .int .i64 x2, .int .i64 x3, .int .i64 x4, .int .i64 x5, .int .i64 x6]) (by simp [results, Tryz.results66, go_sem, c0, c1, c2, c3, c4, c5, c6]) rfl ⟨?_, Or.inl ⟨by rw [HF.out]; exact hs7.out, rfl, ?_⟩⟩
 · exact (((((((HB7.out.own (p := ⟨W.heap.size, 0, none⟩) (Nat.le_refl _) _).own (p := ⟨W.heap.size, 1, none⟩) (Nat.le_refl _) _).own (p := ⟨W.heap.size, 2, none⟩) (Nat.le_refl _) _).own (p := ⟨W.heap.size, 3, none⟩) (Nat.le_refl _) _).own (p := ⟨W.heap.size, 4, none⟩) (Nat.le_refl _) _).own (p := ⟨W.heap.size, 5, none⟩) (Nat.le_refl _) _).own (p := ⟨W.heap.size, 6, none⟩) (Nat.le_refl _) _)
 · rw [HF.out]
   exact (((((((HR7.out.set (p := ⟨W.heap.size, 0, none⟩) (by show W.heap.size ≠ gr; omega) _).set (p := ⟨W.heap.size, 1, none⟩) (by show W.heap.size ≠ gr; omega) _).set (p := ⟨W.heap.size, 2, none⟩) (by show W.heap.size ≠ gr; omega) _).set (p := ⟨W.heap.size, 3, none⟩) (by show W.heap.size ≠ gr; omega) _).set (p := ⟨W.heap.size, 4, none⟩) (by show W.heap.size ≠ gr; omega) _).set (p := ⟨W.heap.size, 5, none⟩) (by show W.heap.size ≠ gr; omega) _).set (p := ⟨W.heap.size, 6, none⟩) (by show W.heap.size ≠ gr; omega) _)
end Go.Proofs.YtnkgakhnlbifdaaGreat
