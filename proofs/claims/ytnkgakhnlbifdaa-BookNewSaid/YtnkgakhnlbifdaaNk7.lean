/- Parts, as far as BookNewCards reaches them, of: PackTake, OwnLow, NumsPlain, NumsPush, BookKeep, BookReader, BookCatch, ApartV, BookPush, RqEql, StampMay, ClaimSmall. No law is proved here. -/
import Derived.Test.YtnkgakhnlbifdaaNk6
import Derived.Test.YtnkgakhnlbifdaaNk0
import Derived.OwnWalk
import Derived.Lib.SmallJoins
import Derived.Test.YtnkgakhnlbifdaaNk4
import Derived.Test.YtnkgakhnlbifdaaNk1
import Derived.Test.YtnkgakhnlbifdaaNk5
import Derived.WalkLawsBesides
import Derived.LoopTactic
import Derived.Test.YtnkgakhnlbifdaaNk2
import Derived.Defers
import Derived.Recover
import Derived.WalkKit
import Derived.ProofKit
import Derived.ChangeSame
import Derived.Deep.QuietTactic
import Derived.BigQuiet
import Derived.Test.YtnkgakhnlbifdaaNk3
namespace Go.Proofs.Ytnkgakhnlbifdaa
open Go.RowKit
theorem after_all {W : World} {a : Option Addr} {n c lo : Nat} {zs : List Int} (hB : Bytes W (.slice a n c) zs) (hn : n = zs.length) (h1 : lo ≤ n) (h3 : n ≤ c) :
 ∃ v, (∀ w, Calls Try.prog 89 #[.slice a n c, .int .i64 (lo : Int)] w fun e w' => e = .returned v ∧ w = w') ∧ (∀ W', Bytes W' (.slice a n c) zs → Bytes W' v (zs.drop lo)) ∧ ∃ a', v = .slice a' (n - lo) (n - lo) := by
 obtain ⟨v, hv, hb, ha⟩ := piece_after hn h1 h3
 refine ⟨v, fun w => ?_, hb, ha⟩
 have hbig := hB.1
 rw [← hn] at hbig
 clear hB hn hb ha
 go_enter Try.func89, Try.ntmps89
 go_wp2_with fail
 go_ret
 exact ⟨rfl, rfl⟩
set_option maxRecDepth 100000 in
set_option maxHeartbeats 1000000 in
theorem take_yes_some (b off n c : Nat) (zs rest : List Int) (x : Nat) (w : World) (hB : Bytes w (.slice (some ⟨b, off, none⟩) n c) zs) (hcell : ∀ j, j < zs.length → w.cell? ⟨b, off + j, none⟩ = some (.int .u8 (zs.getD j 0))) (hn : n = zs.length) (hnc : n ≤ c) (hx : PackMath.Begins zs x rest) :
 ∃ v, (Calls Try.prog 77 #[.slice (some ⟨b, off, none⟩) n c] w fun e w' => e = .returned (.tuple #[.int .u64 x, v, .bool true]) ∧ w = w') ∧ (∀ W, Bytes W (.slice (some ⟨b, off, none⟩) n c) zs → Bytes W v rest) ∧ ∃ a', v = .slice a' rest.length rest.length := by
 have hl : zs.length = (PackMath.num x).length + rest.length := by rw [hx.2, List.length_append]
 obtain ⟨v, hv, hb, ha⟩ := after_all (lo := (PackMath.num x).length) hB hn (by omega) hnc
 refine ⟨v, ?_, fun W hW => by have := hb W hW; rw [hx.2] at this; simpa using this, by rwa [show n - (PackMath.num x).length = rest.length by omega] at ha⟩
 clear hb ha
 have hbig := hB.1
 rw [← hn] at hbig
 have Hn := Lib.hid hn; clear hn
 have Hv := Lib.hid hv; clear hv
 have Hl := Lib.hid hl; clear hl
 have Hx := Lib.hid hx; clear hx
 have Hc := Lib.hid hcell; clear hcell hB
 go_enter Try.func77, Try.ntmps77
 go_wp2_with fail
 go_step3
 go_wp2_with fail
 go_step3
 go_wp2_with fail
 go_loop [2, 9] (fun v i => ∃ k m r : Nat, k ≤ 9 ∧ k < n ∧ i = .int .i64 k ∧ v = .int .u64 m ∧ Hid (Going zs rest x k m r)) (fun _ i => n - (intOf i).toNat)
 case atStart => exact ⟨0, 0, x, by omega, by have := PackMath.num_pos x; have := Hn.out; have := Hl.out; omega, rfl, rfl, [], rfl, by simpa using Hx.out.2, by simp, PackMath.read_nil, Or.inl rfl⟩
 case round =>
  obtain ⟨k, m, r, hk9, hkn, rfl, rfl, Hg⟩ := hrel
  by_cases hge : 128 ≤ r
  · obtain ⟨h1, h2, h3⟩ := Hg.out.more hge
    have hk8 : k ≤ 8 := by
     by_cases e : k = 9
     · have := Hg.out.nine Hx.out.1 e; omega
     · omega
    have hk1 : k + 1 < n := by have := Hn.out; omega
    have Hg2 := Lib.hid h3; clear h3
    have hc1 := Hc.out k (by omega)
    rw [h1] at hc1
    have hor := or_shift m k (r % 128) Hg.out.low (by have := Hg.out.fits; have := Hx.out.1; omega)
    clear h1 h2
    obtain ⟨d, Hd⟩ : ∃ d : Nat, Hid (r % 128 = d) := ⟨_, rfl⟩
    have hd : d < 128 := by rw [← Hd.out]; omega
    rw [Hd.out] at hc1 hor
    obtain ⟨m2, Hm2⟩ : ∃ m2 : Nat, Hid (m + 128 ^ k * d = m2) := ⟨_, rfl⟩
    rw [Hm2.out] at hor
    rw [Int.natCast_add] at hc1
    have hk9' : ((k : Int) == 9) = false := beq_eq_false_iff_ne.2 (by omega)
    clear hge
    go_wp2_with fail
    go_round
    case rel => exact ⟨k + 1, m2, r / 128, by omega, by omega, by go_num, rfl, by rw [← Hm2.out, ← Hd.out]; exact Hg2⟩
    case measure => simp [intOf]; omega
  · have hr : r < 128 := by omega
    obtain ⟨h1, h2, h3, h4⟩ := Hg.out.last hr
    have h9 : k = 9 → r ≤ 1 := Hg.out.nine Hx.out.1
    have h0 := Hg.out.zero
    have hc1 := Hc.out k (by have := Hn.out; omega)
    rw [h1] at hc1
    have hor := or_shift m k r h2 (by have := Hx.out.1; omega)
    rw [← h3] at hor
    have hv := Hv.out
    rw [h4] at hv
    have Hv2 : Hid (∀ w, Calls Try.prog 89 #[.slice (some ⟨b, off, none⟩) n c, .int .i64 ((k : Int) + 1)] w fun e w' => e = .returned v ∧ w = w') := by
     exact hv
    clear h1 h2 h3 h4 hv hge
    by_cases h9' : k = 9
    · have hr0 : 0 < r := by omega
      have hr1 : r ≤ 1 := h9 h9'
      have hk9' : ((k : Int) == 9) = true := beq_iff_eq.2 (by omega)
      have hz : ((r : Int) == 0) = false := beq_eq_false_iff_ne.2 (by omega)
      clear h9' h9 h0
      go_wp2_with (go_at_call 89; refine (Hv2.out _).mono ?_; rintro e w' ⟨rfl, rfl⟩)
      try rw [Exit.noGoto_ret]
      go_ret3
      exact ⟨rfl, rfl⟩
    · have hk9' : ((k : Int) == 9) = false := beq_eq_false_iff_ne.2 (by omega)
      by_cases hr0 : 0 < r
      · have hz : ((r : Int) == 0) = false := beq_eq_false_iff_ne.2 (by omega)
        clear h9' h9 h0
        go_wp2_with (go_at_call 89; refine (Hv2.out _).mono ?_; rintro e w' ⟨rfl, rfl⟩)
        try rw [Exit.noGoto_ret]
        go_ret3
        exact ⟨rfl, rfl⟩
      · have hk0 : k = 0 := by omega
        have hr00 : r = 0 := by omega
        have hz : ((r : Int) == 0) = true := beq_iff_eq.2 (by omega)
        have hz2 : decide (0 < (k : Int)) = false := by simp; omega
        have hz3 : ¬ (0 < k) := by omega
        clear h9' h9 h0 hk0 hr00 hr0
        go_wp2_with (go_at_call 89; refine (Hv2.out _).mono ?_; rintro e w' ⟨rfl, rfl⟩)
        try rw [Exit.noGoto_ret]
        go_ret3
        exact ⟨rfl, rfl⟩
theorem take_all (a : Option Addr) (n c : Nat) (zs rest : List Int) (x : Nat) (w : World) (hB : Bytes w (.slice a n c) zs) (hn : n = zs.length) (hnc : n ≤ c) (hx : PackMath.Begins zs x rest) :
 ∃ v, (Calls Try.prog 77 #[.slice a n c] w fun e w' => e = .returned (.tuple #[.int .u64 x, v, .bool true]) ∧ w = w') ∧ (∀ W, Bytes W (.slice a n c) zs → Bytes W v rest) ∧ ∃ a', v = .slice a' rest.length rest.length := by
 obtain ⟨h1, h2, ⟨a0, c0, h3, h4, h5⟩ | ⟨b, off, c0, h3, h4⟩⟩ := id hB
 · have := hx.2
   have hp := PackMath.num_pos x
   rw [h5] at this
   have := congrArg List.length this
   simp only [List.length_nil, List.length_append] at this
   omega
 · simp only [Value.slice.injEq] at h3
   obtain ⟨rfl, _, rfl⟩ := h3
   exact take_yes_some b off n c zs rest x w hB h4 hn hnc hx
set_option maxRecDepth 100000 in
set_option maxHeartbeats 1000000 in
theorem take_no_some (b off n c : Nat) (zs : List Int) (w : World) (hB : Bytes w (.slice (some ⟨b, off, none⟩) n c) zs) (hcell : ∀ j, j < zs.length → w.cell? ⟨b, off + j, none⟩ = some (.int .u8 (zs.getD j 0))) (hn : n = zs.length) (hx : PackMath.Bare zs) :
 Calls Try.prog 77 #[.slice (some ⟨b, off, none⟩) n c] w fun e w' => e = .returned (.tuple #[.int .u64 0, .slice none 0 0, .bool false]) ∧ w = w' := by
 have hbig := hB.1
 rw [← hn] at hbig
 have Hs := Lib.hid hB.2.1
 have Hn := Lib.hid hn; clear hn
 have Hx := Lib.hid hx; clear hx
 have Hc := Lib.hid hcell; clear hcell hB
 go_enter Try.func77, Try.ntmps77
 go_wp2_with fail
 go_step3
 go_wp2_with fail
 go_step3
 go_wp2_with fail
 go_loop [2, 9] (fun v i => ∃ k m : Nat, k ≤ n ∧ i = .int .i64 k ∧ v = .int .u64 m ∧ Hid (Vain zs k m)) (fun _ i => n - (intOf i).toNat)
 case atStart => exact ⟨0, 0, by omega, rfl, rfl, Vain.start zs⟩
 case round =>
  obtain ⟨k, m, hk, rfl, rfl, Hv⟩ := hrel
  by_cases hlt : k < n
  · obtain ⟨d, h1, h2, h3, h4⟩ := Hv.out.at_ Hx.out (by have := Hn.out; omega) Hs.out
    have hc1 := Hc.out k (by have := Hn.out; omega)
    rw [h1] at hc1
    clear h1
    have H3 := Lib.hid h3; clear h3
    have H4 := Lib.hid h4; clear h4
    have hv9 := Hv.out.2.2
    by_cases h9 : k = 9
    · have hk9' : ((k : Int) == 9) = true := beq_iff_eq.2 (by omega)
      by_cases hd1 : 1 < d
      · clear h9
        go_wp2_with fail
        try rw [Exit.noGoto_ret]
        go_ret3
        exact ⟨rfl, rfl⟩
      · have hd0 : d = 0 := by have := H3.out (by omega); omega
        have hz : ((d : Int) == 0) = true := beq_iff_eq.2 (by omega)
        have hk0 : 0 < k := by omega
        have hdd : d ≤ 1 := by omega
        clear h9 hd0 hd1
        go_wp2_with fail
        try rw [Exit.noGoto_ret]
        go_ret3
        exact ⟨rfl, rfl⟩
    · have hk9' : ((k : Int) == 9) = false := beq_eq_false_iff_ne.2 (by omega)
      have hk8 : k ≤ 8 := by omega
      by_cases hge : 128 ≤ d
      · have Hv2 := Lib.hid (H4.out (by omega) hge)
        obtain ⟨f, hf⟩ : ∃ f : Nat, d = f + 128 := ⟨d - 128, by omega⟩
        subst hf
        have hf2 := Hv.out.fits (k := k) (c := f) (by omega) (by omega)
        have hor := or_shift m k f hf2.1 hf2.2
        obtain ⟨m2, Hm2⟩ : ∃ m2 : Nat, Hid (m + 128 ^ k * f = m2) := ⟨_, rfl⟩
        rw [Hm2.out] at hor
        rw [Nat.add_sub_cancel, Hm2.out] at Hv2
        rw [Int.natCast_add] at hc1
        clear hf2 h9
        go_wp2_with fail
        go_round
        case rel => exact ⟨k + 1, m2, by omega, by go_num, rfl, Hv2⟩
        case measure => simp [intOf]; omega
      · have hd0 : d = 0 := by have := H3.out (by omega); omega
        have hz : ((d : Int) == 0) = true := beq_iff_eq.2 (by omega)
        have hk0 : 0 < k := by have := H3.out (by omega); omega
        have hdd : d < 128 := by omega
        clear h9 hd0 hge
        go_wp2_with fail
        try rw [Exit.noGoto_ret]
        go_ret3
        exact ⟨rfl, rfl⟩
  · go_wp2_with fail
    try rw [Exit.noGoto_ret]
    go_ret3
    exact ⟨rfl, rfl⟩
theorem take_no (a : Option Addr) (n c : Nat) (zs : List Int) (w : World) (hB : Bytes w (.slice a n c) zs) (hn : n = zs.length) (hx : PackMath.Bare zs) :
 Calls Try.prog 77 #[.slice a n c] w fun e w' => e = .returned (.tuple #[.int .u64 0, .slice none 0 0, .bool false]) ∧ w = w' := by
 obtain ⟨h1, h2, ⟨a0, c0, h3, h4, h5⟩ | ⟨b, off, c0, h3, h4⟩⟩ := id hB
 · simp only [Value.slice.injEq] at h3
   obtain ⟨rfl, rfl, rfl⟩ := h3
   clear hB hn h1 h2 h4 hx
   go_enter Try.func77, Try.ntmps77
   go_wp2_with fail
   go_step3
   go_wp2_with fail
   go_step3
   go_wp2_with fail
   refine wp_loop_rounds 1 ?_
   rw [rounds_succ]
   go_wp2_with fail
   try rw [Exit.noGoto_ret]
   go_ret3
   exact ⟨rfl, rfl⟩
 · simp only [Value.slice.injEq] at h3
   obtain ⟨rfl, _, rfl⟩ := h3
   exact take_no_some b off n c zs w hB h4 hn hx
end Go.Proofs.Ytnkgakhnlbifdaa
namespace Go.Proofs.Ytnkgakhnlbifdaa
open Go.RowKit
theorem own_low {w : World} {base : Nat} {e : TypeId} {s n : Nat} {v : Value} {xs : List Value} (h : w.ownsRow base e s v n xs) {p : Addr} (hp : p.block < base) (u : Value) : (w.setCell p u).ownsRow base e s v n xs :=
 h.kept (grownBy_set w p u) (.inr fun e => by have := (h.lt _ e).1; omega)
end Go.Proofs.Ytnkgakhnlbifdaa
namespace Go.Proofs.Ytnkgakhnlbifdaa
open Go.ChangeShapes Go.WideShapes Go.ChangeAt Go.RowKit Go.Joins Go.Deep
theorem info_n64 : (Try.prog.info? 2).map (fun i => (i.zero, i.size, i.bytes)) = some (some (.int .i64 0), 1, 8) := by kernel_rfl
abbrev OwnN (w : World) (base : Nat) (v : Value) (l : List Int) : Prop := w.ownsRow base 2 1 v l.length (flatCells 1 l.length fun i _ => .int .i64 (l[i]?.getD 0))
theorem OwnN.nums {w : World} {base : Nat} {v : Value} {l : List Int} (h : OwnN w base v l) (hb : l.length ≤ 9223372036854775807) : ∃ A C, v = .slice A l.length C ∧ Nums w (.slice A l.length C) l := by
 obtain ⟨A, C, hv, _, he⟩ := elems_of_own h hb
 exact ⟨A, C, hv, he⟩
theorem Nums.cap {w : World} {a : Option Addr} {m c : Nat} {l : List Int} (h : Nums w (.slice a m c) l) : m ≤ c ∧ m = l.length := by
 obtain ⟨_, ⟨_, _, hv, _, h0⟩ | ⟨_, _, _, hv, hn, _⟩⟩ := h
 · simp only [Value.slice.injEq] at hv
   omega
 · simp only [Value.slice.injEq] at hv
   omega
theorem Nums.from {w : World} {b off m c j : Nat} {l : List Int} (h : Nums w (.slice (some ⟨b, off, none⟩) m c) l) (hj : j ≤ m) : Nums w (.slice (some ⟨b, off + j, none⟩) (m - j) (c - j)) (l.drop j) := by
 have hc := h.cap
 have hb := h.1
 unfold Nums
 rw [List.length_drop]
 refine ⟨by omega, ?_⟩
 by_cases h0 : l.length - j = 0
 · exact Or.inl ⟨_, c - j, by rw [show m - j = 0 by omega], (fun h => by cases h), h0⟩
 · refine Or.inr ⟨b, off + j, c - j, by rw [← hc.2], by omega, fun i k hi hk => ?_⟩
   obtain rfl : k = 0 := by omega
   obtain ⟨b', off', e, _, hcell⟩ := h.at (i := j + i) (by omega)
   simp only [Option.some.injEq, Addr.mk.injEq, and_true] at e
   obtain ⟨rfl, rfl⟩ := e
   rw [Nat.mul_one, Nat.add_zero, Nat.add_assoc, hcell]
   show _ = some (Value.int .i64 ((l.drop j)[i]?.getD 0))
   rw [List.getElem?_drop]
end Go.Proofs.Ytnkgakhnlbifdaa
namespace Go.Proofs.Ytnkgakhnlbifdaa
open Go.RowKit
def ButG (G : Nat) (w0 wr : World) : Prop := Below 0 w0 wr ∧ ∀ b, b < w0.heap.size → b ≠ G → wr.heap[b]? = w0.heap[b]?
section
variable {G : Nat} {a b w0 wr w2 w3 : World}
theorem ButG.refl (G : Nat) (w : World) : ButG G w w := ⟨Below.refl _ _, fun _ _ _ => rfl⟩
theorem ButG.size (h : ButG G w0 wr) : w0.heap.size ≤ wr.heap.size := h.1.size
theorem ButG.trans (h : ButG G a b) (k : ButG G b w2) : ButG G a w2 := ⟨h.1.trans k.1, fun q hq hne => (k.2 q (Nat.lt_of_lt_of_le hq h.size) hne).trans (h.2 q hq hne)⟩
theorem ButG.of (hb : Below w0.heap.size w0 wr) : ButG G w0 wr := ⟨hb.mono (Nat.zero_le _), fun q hq _ => hb.block q hq⟩
theorem ButG.set (h : ButG G w0 wr) (i : Nat) (u : Value) : ButG G w0 (wr.setCell ⟨G, i, none⟩ u) := ⟨h.1.setCell (p := ⟨G, i, none⟩) (Nat.zero_le _) u, fun q hq hne => (Below.heap_setCell wr ⟨G, i, none⟩ u q hne).trans (h.2 q hq hne)⟩
theorem ButG.grown (h : ButG G w0 wr) (hb : Below w0.heap.size wr w2) : ButG G w0 w2 := ⟨h.1.trans (hb.mono (Nat.zero_le _)), fun q hq hne => (hb.block q hq).trans (h.2 q hq hne)⟩
theorem ButG.next (h : ButG G w0 wr) (hb : Below wr.heap.size wr w2) : ButG G w0 w2 := h.grown (hb.mono h.size)
theorem ButG.cell (h : ButG G w0 wr) {p : Addr} (hp : p.block < w0.heap.size) (hne : p.block ≠ G) : wr.cell? p = w0.cell? p := World.cell?_of_block (w := w0) (h.2 p.block hp hne)
theorem ButG.cell_of (h : ButG G w0 wr) {p : Addr} {u : Value} (hc : w0.cell? p = some u) (hne : p.block ≠ G) : wr.cell? p = some u := (h.cell (World.block_lt_of_cell? w0 _ hc) hne).trans hc
theorem Whole.butG {g : Nat} {t : TypeId} {cs : Array Value} (h : Whole w0 g t cs) (k : ButG G w0 wr) (hne : g ≠ G) : Whole wr g t cs := (k.2 g h.lt hne).trans h
theorem Elems.butG {A : Option Addr} {n c sz m : Nat} {f : Nat → Nat → Value} (h : Elems w0 (.slice A n c) sz m f) (k : ButG G w0 wr) (hne : ∀ ad, A = some ad → ad.block ≠ G) : Elems wr (.slice A n c) sz m f := by
 obtain ⟨h1, h2⟩ := h
 refine ⟨h1, ?_⟩
 rcases h2 with h2 | ⟨b, off, cap, hv, hn, hc⟩
 · exact Or.inl h2
 · refine Or.inr ⟨b, off, cap, hv, hn, fun i j hi hj => k.cell_of (hc i j hi hj) ?_⟩
   simp only [Value.slice.injEq] at hv
   exact hne ⟨b, off, none⟩ hv.1
end
theorem three_one {w : World} {g : Nat} {T : TypeId} {x : Rq} (h : Whole w g T (rqCells x)) : Elems w (.slice (some ⟨g, 0, none⟩) 1 1) 3 1 (fun _ j => rqc x j) := by
 refine ⟨by decide, Or.inr ⟨g, 0, 1, rfl, Nat.le_refl _, fun i j hi hj => ?_⟩⟩
 obtain rfl : i = 0 := by omega
 have hc := h.cell
 match j, hj with
 | 0, _ => exact hc 0
 | 1, _ => exact hc 1
 | 2, _ => exact hc 2
theorem flat_ext3 {sz n : Nat} {f g : Nat → Nat → Value} (h : ∀ i j, i < n → j < sz → f i j = g i j) : flatCells sz n f = flatCells sz n g := by
 unfold flatCells
 rw [List.flatMap_def, List.flatMap_def]
 congr 1
 refine List.map_congr_left fun i hi => List.map_congr_left fun j hj => h i j (List.mem_range.1 hi) (List.mem_range.1 hj)
theorem info_out : (Try.prog.info? 57).map (fun i => (i.zero, i.size, i.bytes)) = some (some (.agg #[.int .i64 0, .int .i64 0, .int .i64 0]), 3, 24) := by kernel_rfl
theorem info_req : (Try.prog.info? 68).map (fun i => (i.zero, i.size, i.bytes)) = some (some (.agg #[.int .i64 0, .int .i64 0, .int .i64 0]), 3, 24) := by kernel_rfl
theorem rqc_plain (x : Rq) (j : Nat) : (rqc x j).oneCell' = true := by unfold rqc; rfl
end Go.Proofs.Ytnkgakhnlbifdaa
namespace Go.Proofs.Ytnkgakhnlbifdaa
open Go.RowKit
abbrev wrongE : Ending := .panicked [{ v := .iface 77 (.agg #[]), recovered := false }]
def Rd (w0 : World) (gr : Nat) (z : List Int) (W : World) : Prop := ∃ v, Whole W gr 80 #[v] ∧ GoodB w0 v z
theorem Rd.lt {w0 : World} {gr : Nat} {z : List Int} {W : World} (h : Rd w0 gr z W) : gr < W.heap.size := by obtain ⟨v, h1, _⟩ := h; exact h1.lt
theorem Rd.later {w0 : World} {gr : Nat} {z : List Int} {W W' : World} (h : Rd w0 gr z W) (hb : Below W.heap.size W W') : Rd w0 gr z W' := by obtain ⟨v, h1, h2⟩ := h; exact ⟨v, h1.later hb h1.lt, h2⟩
def Reads (w0 : World) (gr : Nat) (W : World) (s : List Int × Bool) (v : Value) (e : Ending) (w' : World) : Prop := ButG gr W w' ∧ ((s.2 = false ∧ e = .returned v ∧ Rd w0 gr s.1 w') ∨ (s.2 = true ∧ e = wrongE))
theorem ButG.from {gr : Nat} {w0 W w' : World} (h : ButG gr W w') (hb : Below w0.heap.size w0 W) (hg : w0.heap.size ≤ gr) : Below w0.heap.size w0 w' :=
 ⟨h.1.os.trans hb.os, h.1.tape.trans hb.tape, h.1.output.trans hb.output, Nat.le_trans hb.size h.size, fun q hq => (h.2 q (by have := hb.size; omega) (by omega)).trans (hb.block q hq)⟩
theorem ButG.own {gr : Nat} {W w : World} (h : ButG gr W w) {p : Addr} (hp : W.heap.size ≤ p.block) (u : Value) : ButG gr W (w.setCell p u) :=
 ⟨h.1.setCell (Nat.zero_le _) u, fun q hq hne => (Below.heap_setCell w p u q (by omega)).trans (h.2 q hq hne)⟩
theorem Rd.set {w0 : World} {gr : Nat} {z : List Int} {W : World} (h : Rd w0 gr z W) {p : Addr} (hp : p.block ≠ gr) (u : Value) : Rd w0 gr z (W.setCell p u) := by obtain ⟨v, h1, h2⟩ := h; exact ⟨v, h1.other (fun e => hp e.symm) u, h2⟩
set_option maxRecDepth 100000 in
set_option maxHeartbeats 4000000 in
theorem kbehind_yes (gr : Nat) (u : Value) (A : Option Addr) (n C : Nat) (W : World) (h : Whole W gr 80 #[u]) :
 Calls Try.prog 76 #[.pointer (some ⟨gr, 0, none⟩), .slice A n C, .bool true] W (fun e w' => e = .returned (.tuple #[]) ∧ w' = W.setCell ⟨gr, 0, none⟩ (.slice A n C)) := by
 have c0 : W.cell? ⟨gr, 0, none⟩ = some u := h.cell 0
 have f0 : W.frozen? ⟨gr, 0, none⟩ = false := h.free 0
 clear h
 go_enter Try.func76, Try.ntmps76
 go_wp2_with fail
 first | go_end0 | refine bodyPost_ret (results_none rfl _ _ _) rfl ?_
 exact ⟨rfl, rfl⟩
set_option maxRecDepth 100000 in
set_option maxHeartbeats 4000000 in
theorem kbehind_no (gr : Nat) (A : Option Addr) (n C : Nat) (W : World) :
 Calls Try.prog 76 #[.pointer (some ⟨gr, 0, none⟩), .slice A n C, .bool false] W (fun e w' => e = wrongE ∧ w' = W) := by
 go_enter Try.func76, Try.ntmps76
 go_wp2_with fail
 exact ⟨rfl, rfl, rfl⟩
set_option maxRecDepth 100000 in
set_option maxHeartbeats 8000000 in
theorem kcount_calls (w0 : World) (gr : Nat) (z : List Int) (W : World) (hR : Rd w0 gr z W) (hb : Below w0.heap.size w0 W) :
 Calls Try.prog 54 #[.pointer (some ⟨gr, 0, none⟩)] W (Reads w0 gr W (rd1 (z, false)).2 (.int .u64 ((u64n (rd1 (z, false)).1 : Nat) : Int))) := by
 obtain ⟨v, hW, A, n, C, rfl, hn, hnC, hG⟩ := hR
 have hBy := hG W hb
 have c0 : W.cell? ⟨gr, 0, none⟩ = some (.slice A n C) := hW.cell 0
 have HW := Lib.hid hW; clear hW
 have HG := Lib.hid hG; clear hG
 rcases PackMath.begins_or z with ⟨x, rest, hbg⟩ | hbare
 · obtain ⟨tv, hcall, hall, a3, rfl⟩ := take_all A n C z rest x W hBy hn hnC hbg
   obtain ⟨n3, Hn3⟩ : ∃ z, Hid (z = rest.length) := ⟨_, rfl⟩
   rw [← Hn3.out] at hcall hall
   have Hcall := Lib.hid hcall
   have h1 := rd1_yes (b := false) hbg
   have h2 := u64n_wrap hbg.1
   have hgood : GoodB w0 (.slice a3 n3 n3) rest := ⟨a3, n3, n3, rfl, Hn3.out, Nat.le_refl _, fun W hW => hall W (HG.out W hW)⟩
   rw [h1]
   simp only [h2]
   have HGood := Lib.hid hgood
   clear hcall hall hgood hBy hbg h1 h2
   have Hn := Lib.hid hn; clear hn
   go_enter Try.func54, Try.ntmps54
   go_wp2_with fail
   refine Hcall.out.mono ?_
   rintro e w4 ⟨rfl, rfl⟩
   go_wp2_with fail
   refine (kbehind_yes gr _ a3 n3 n3 _ HW.out).mono ?_
   rintro e w5 ⟨rfl, hw5⟩
   have HF : Hid (ButG gr W w5 ∧ Rd w0 gr rest w5) := by
    show _ ∧ _
    rw [hw5]
    exact ⟨(ButG.refl gr W).set 0 _, _, HW.out.set 0 _, HGood.out⟩
   clear hw5
   go_wp2_with fail
   go_ret
   exact ⟨HF.out.1, Or.inl ⟨rfl, rfl, HF.out.2⟩⟩
 · have hcall := take_no A n C z W hBy hn hbare
   have Hcall := Lib.hid hcall
   rw [rd1_no hbare]
   clear hcall hBy hbare
   have Hn := Lib.hid hn; clear hn
   go_enter Try.func54, Try.ntmps54
   go_wp2_with fail
   refine Hcall.out.mono ?_
   rintro e w4 ⟨rfl, rfl⟩
   go_wp2_with fail
   refine (kbehind_no gr none 0 0 _).mono ?_
   rintro e w5 ⟨rfl, rfl⟩
   go_wp2_with fail
   exact ⟨rfl, ButG.refl _ _, Or.inr ⟨rfl, rfl⟩⟩
set_option maxRecDepth 100000 in
set_option maxHeartbeats 8000000 in
theorem knumber_calls (w0 : World) (gr : Nat) (z : List Int) (W : World) (hR : Rd w0 gr z W) (hb : Below w0.heap.size w0 W) :
 Calls Try.prog 50 #[.pointer (some ⟨gr, 0, none⟩)] W (Reads w0 gr W (rd1 (z, false)).2 (.int .i64 (rd1 (z, false)).1)) := by
 have hc := kcount_calls w0 gr z W hR hb
 have hwr : IntKind.i64.wrap ((u64n (rd1 (z, false)).1 : Nat) : Int) = (rd1 (z, false)).1 := rd1_wrap z
 obtain ⟨⟨x, s⟩, Hs⟩ : ∃ q, Hid (rd1 (z, false) = q) := ⟨_, rfl⟩
 rw [Hs.out] at hc hwr ⊢
 simp only at hc hwr ⊢
 have Hc := Lib.hid hc
 clear hc hR hb
 go_enter Try.func50, Try.ntmps50
 go_wp2_with fail
 refine Hc.out.mono ?_
 rintro e w1 ⟨hB, ⟨hs, rfl, hR⟩ | ⟨hs, rfl⟩⟩
 · go_wp2_with fail
   go_ret
   exact ⟨hB, Or.inl ⟨hs, rfl, hR⟩⟩
 · go_wp2_with fail
   exact ⟨rfl, hB, Or.inr ⟨hs, rfl⟩⟩
theorem rdS_flag_le {s : List Int × Bool} {k m : Nat} (h : (rdS s k).2 = true) (hk : k ≤ m) : (rdS s m).2 = true := by
 obtain ⟨d, rfl⟩ : ∃ d, m = k + d := ⟨m - k, by omega⟩
 rw [← rdS_add]
 exact rdS_flag h
theorem knum_at (w0 : World) (gr : Nat) (s : List Int × Bool) (k : Nat) (W : World) (hs : (rdS s k).2 = false) (hR : Rd w0 gr (rdS s k).1 W) (hb : Below w0.heap.size w0 W) :
 Calls Try.prog 50 #[.pointer (some ⟨gr, 0, none⟩)] W (Reads w0 gr W (rdS s (k + 1)) (.int .i64 (rdX s k))) := by
 have h := knumber_calls w0 gr _ W hR hb
 have e : ((rdS s k).1, false) = rdS s k := by rw [← hs]
 rw [e] at h
 exact h
set_option maxRecDepth 100000 in
set_option maxHeartbeats 8000000 in
theorem kflag_calls (w0 : World) (gr : Nat) (z : List Int) (W : World) (hR : Rd w0 gr z W) (hb : Below w0.heap.size w0 W) :
 Calls Try.prog 79 #[.pointer (some ⟨gr, 0, none⟩)] W (Reads w0 gr W (rdF (z, false)).2 (.bool (rdF (z, false)).1)) := by
 have hc := kcount_calls w0 gr z W hR hb
 unfold rdF
 obtain ⟨⟨x, s⟩, Hs⟩ : ∃ q, Hid (rd1 (z, false) = q) := ⟨_, rfl⟩
 rw [Hs.out] at hc ⊢
 simp only at hc ⊢
 obtain ⟨u, Hu⟩ : ∃ q, Hid (u64n x = q) := ⟨_, rfl⟩
 rw [Hu.out] at hc ⊢
 have Hc := Lib.hid hc
 clear hc hR hb
 by_cases h1 : 1 < u
 · have h1' : (1 : Int) < (u : Int) := by omega
   rw [if_pos h1]
   go_enter Try.func79, Try.ntmps79
   go_wp2_with fail
   refine Hc.out.mono ?_
   rintro e w1 ⟨hB, ⟨hs, rfl, hR⟩ | ⟨hs, rfl⟩⟩
   · go_wp2_with fail
     exact ⟨rfl, hB, Or.inr ⟨rfl, rfl⟩⟩
   · go_wp2_with fail
     exact ⟨rfl, hB, Or.inr ⟨rfl, rfl⟩⟩
 · rw [if_neg h1]
   simp only
   rcases (show u = 0 ∨ u = 1 by omega) with rfl | rfl
   all_goals
    go_enter Try.func79, Try.ntmps79
    go_wp2_with fail
    refine Hc.out.mono ?_
    rintro e w1 ⟨hB, ⟨hs, rfl, hR⟩ | ⟨hs, rfl⟩⟩
    · go_wp2_with fail
      go_ret
      exact ⟨hB, Or.inl ⟨hs, rfl, hR⟩⟩
    · go_wp2_with fail
      exact ⟨rfl, hB, Or.inr ⟨hs, rfl⟩⟩
set_option maxRecDepth 100000 in
set_option maxHeartbeats 8000000 in
theorem klook_calls (w0 : World) (gr : Nat) (z : List Int) (W : World) (hR : Rd w0 gr z W) (hb : Below w0.heap.size w0 W) (hg : w0.heap.size ≤ gr) :
 Calls Try.prog 78 #[.pointer (some ⟨gr, 0, none⟩)] W (Reads w0 gr W (rdS (z, false) 2) (.agg #[.int .i64 (rdX (z, false) 0), .int .i64 (rdX (z, false) 1)])) := by
 have HR0 : Hid (Rd w0 gr (rdS (z, false) 0).1 (W.alloc (.cells #[.int .i64 0, .int .i64 0] 30))) := hR.later (below_box _ _)
 have HB0 : Hid (ButG gr W (W.alloc (.cells #[.int .i64 0, .int .i64 0] 30))) := ButG.of (below_box _ _)
 have HM0 := Lib.hid (Whole.made W 30 #[.int .i64 0, .int .i64 0])
 have hgr : gr < W.heap.size := hR.lt
 have hs0 : Hid ((rdS (z, false) 0).2 = false) := rfl
 obtain ⟨x0, Hx0⟩ : ∃ q, Hid (rdX (z, false) 0 = q) := ⟨_, rfl⟩
 obtain ⟨x1, Hx1⟩ : ∃ q, Hid (rdX (z, false) 1 = q) := ⟨_, rfl⟩
 rw [Hx0.out, Hx1.out]
 obtain ⟨F, HF⟩ : ∃ q, Hid (q = rdS (z, false) 2) := ⟨_, rfl⟩
 rw [← HF.out]
 have Hb := Lib.hid hb; clear hb hR
 go_enter Try.func78, Try.ntmps78
 go_wp2_with fail
 have hlk := knum_at w0 gr (z, false) 0 _ hs0.out HR0.out (HB0.out.from Hb.out hg)
 rw [Hx0.out] at hlk
 refine hlk.mono ?_
 rintro e w1 ⟨hB, ⟨hs, rfl, hR⟩ | ⟨hs, rfl⟩⟩
 rotate_left 1
 · have hf : F.2 = true := by rw [HF.out]; exact rdS_flag_le hs (by decide)
   have HB9 : Hid (ButG gr W w1) := HB0.out.trans hB
   clear hs hB hlk
   go_wp2_with fail
   exact ⟨rfl, HB9.out, Or.inr ⟨hf, rfl⟩⟩
 have hs1 := Lib.hid hs
 have HR1 := Lib.hid hR
 have HB1 := Lib.hid (HB0.out.trans hB)
 have HM1 := Lib.hid (HM0.out.butG hB (by omega))
 clear hs hR hB HB0 HR0 HM0 hlk
 go_wp2_with fail
 have hlk := knum_at w0 gr (z, false) 1 _ hs1.out HR1.out (HB1.out.from Hb.out hg)
 rw [Hx1.out] at hlk
 refine hlk.mono ?_
 rintro e w2 ⟨hB, ⟨hs, rfl, hR⟩ | ⟨hs, rfl⟩⟩
 rotate_left 1
 · have hf : F.2 = true := by rw [HF.out]; exact rdS_flag_le hs (by decide)
   have HB9 : Hid (ButG gr W w2) := HB1.out.trans hB
   clear hs hB hlk
   go_wp2_with fail
   exact ⟨rfl, HB9.out, Or.inr ⟨hf, rfl⟩⟩
 have hs2 := Lib.hid hs
 have HR2 := Lib.hid hR
 have HB2 := Lib.hid (HB1.out.trans hB)
 have HM2 := Lib.hid (HM1.out.butG hB (by omega))
 clear hs hR hB HB1 HR1 HM1 hlk
 have c0 := HM2.out.cell 0
 have f0 := HM2.out.free 0
 have c1 := HM2.out.cell 1
 have f1 := HM2.out.free 1
 go_wp2_with fail
 refine bodyPost_ret (v := .agg #[.int .i64 x0, .int .i64 x1]) (by simp [results, Try.results78, go_sem, c0, c1]) rfl ⟨?_, Or.inl ⟨by rw [HF.out]; exact hs2.out, rfl, ?_⟩⟩
 · exact ((HB2.out.own (p := ⟨W.heap.size, 0, none⟩) (Nat.le_refl _) _).own (p := ⟨W.heap.size, 1, none⟩) (Nat.le_refl _) _)
 · rw [HF.out]
   exact ((HR2.out.set (p := ⟨W.heap.size, 0, none⟩) (by show W.heap.size ≠ gr; omega) _).set (p := ⟨W.heap.size, 1, none⟩) (by show W.heap.size ≠ gr; omega) _)
set_option maxRecDepth 100000 in
set_option maxHeartbeats 8000000 in
theorem knote_calls (w0 : World) (gr : Nat) (z : List Int) (W : World) (hR : Rd w0 gr z W) (hb : Below w0.heap.size w0 W) (hg : w0.heap.size ≤ gr) :
 Calls Try.prog 57 #[.pointer (some ⟨gr, 0, none⟩)] W (Reads w0 gr W (rdS (z, false) 7) (.agg #[.int .i64 (rdX (z, false) 0), .int .i64 (rdX (z, false) 1), .int .i64 (rdX (z, false) 2), .int .i64 (rdX (z, false) 3), .int .i64 (rdX (z, false) 4), .int .i64 (rdX (z, false) 5), .int .i64 (rdX (z, false) 6)])) := by
 have HR0 : Hid (Rd w0 gr (rdS (z, false) 0).1 (W.alloc (.cells #[.int .i64 0, .int .i64 0, .int .i64 0, .int .i64 0, .int .i64 0, .int .i64 0, .int .i64 0] 70))) := hR.later (below_box _ _)
 have HB0 : Hid (ButG gr W (W.alloc (.cells #[.int .i64 0, .int .i64 0, .int .i64 0, .int .i64 0, .int .i64 0, .int .i64 0, .int .i64 0] 70))) := ButG.of (below_box _ _)
 have HM0 := Lib.hid (Whole.made W 70 #[.int .i64 0, .int .i64 0, .int .i64 0, .int .i64 0, .int .i64 0, .int .i64 0, .int .i64 0])
 have hgr : gr < W.heap.size := hR.lt
 have hs0 : Hid ((rdS (z, false) 0).2 = false) := rfl
 obtain ⟨x0, Hx0⟩ : ∃ q, Hid (rdX (z, false) 0 = q) := ⟨_, rfl⟩
 obtain ⟨x1, Hx1⟩ : ∃ q, Hid (rdX (z, false) 1 = q) := ⟨_, rfl⟩
 obtain ⟨x2, Hx2⟩ : ∃ q, Hid (rdX (z, false) 2 = q) := ⟨_, rfl⟩
 obtain ⟨x3, Hx3⟩ : ∃ q, Hid (rdX (z, false) 3 = q) := ⟨_, rfl⟩
 obtain ⟨x4, Hx4⟩ : ∃ q, Hid (rdX (z, false) 4 = q) := ⟨_, rfl⟩
 obtain ⟨x5, Hx5⟩ : ∃ q, Hid (rdX (z, false) 5 = q) := ⟨_, rfl⟩
 obtain ⟨x6, Hx6⟩ : ∃ q, Hid (rdX (z, false) 6 = q) := ⟨_, rfl⟩
 rw [Hx0.out, Hx1.out, Hx2.out, Hx3.out, Hx4.out, Hx5.out, Hx6.out]
 obtain ⟨F, HF⟩ : ∃ q, Hid (q = rdS (z, false) 7) := ⟨_, rfl⟩
 rw [← HF.out]
 have Hb := Lib.hid hb; clear hb hR
 go_enter Try.func57, Try.ntmps57
 go_wp2_with fail
 have hlk := knum_at w0 gr (z, false) 0 _ hs0.out HR0.out (HB0.out.from Hb.out hg)
 rw [Hx0.out] at hlk
 refine hlk.mono ?_
 rintro e w1 ⟨hB, ⟨hs, rfl, hR⟩ | ⟨hs, rfl⟩⟩
 rotate_left 1
 · have hf : F.2 = true := by rw [HF.out]; exact rdS_flag_le hs (by decide)
   have HB9 : Hid (ButG gr W w1) := HB0.out.trans hB
   clear hs hB hlk
   go_wp2_with fail
   exact ⟨rfl, HB9.out, Or.inr ⟨hf, rfl⟩⟩
 have hs1 := Lib.hid hs
 have HR1 := Lib.hid hR
 have HB1 := Lib.hid (HB0.out.trans hB)
 have HM1 := Lib.hid (HM0.out.butG hB (by omega))
 clear hs hR hB HB0 HR0 HM0 hlk
 go_wp2_with fail
 have hlk := knum_at w0 gr (z, false) 1 _ hs1.out HR1.out (HB1.out.from Hb.out hg)
 rw [Hx1.out] at hlk
 refine hlk.mono ?_
 rintro e w2 ⟨hB, ⟨hs, rfl, hR⟩ | ⟨hs, rfl⟩⟩
 rotate_left 1
 · have hf : F.2 = true := by rw [HF.out]; exact rdS_flag_le hs (by decide)
   have HB9 : Hid (ButG gr W w2) := HB1.out.trans hB
   clear hs hB hlk
   go_wp2_with fail
   exact ⟨rfl, HB9.out, Or.inr ⟨hf, rfl⟩⟩
 have hs2 := Lib.hid hs
 have HR2 := Lib.hid hR
 have HB2 := Lib.hid (HB1.out.trans hB)
 have HM2 := Lib.hid (HM1.out.butG hB (by omega))
 clear hs hR hB HB1 HR1 HM1 hlk
 go_wp2_with fail
 have hlk := knum_at w0 gr (z, false) 2 _ hs2.out HR2.out (HB2.out.from Hb.out hg)
 rw [Hx2.out] at hlk
 refine hlk.mono ?_
 rintro e w3 ⟨hB, ⟨hs, rfl, hR⟩ | ⟨hs, rfl⟩⟩
 rotate_left 1
 · have hf : F.2 = true := by rw [HF.out]; exact rdS_flag_le hs (by decide)
   have HB9 : Hid (ButG gr W w3) := HB2.out.trans hB
   clear hs hB hlk
   go_wp2_with fail
   exact ⟨rfl, HB9.out, Or.inr ⟨hf, rfl⟩⟩
 have hs3 := Lib.hid hs
 have HR3 := Lib.hid hR
 have HB3 := Lib.hid (HB2.out.trans hB)
 have HM3 := Lib.hid (HM2.out.butG hB (by omega))
 clear hs hR hB HB2 HR2 HM2 hlk
 go_wp2_with fail
 have hlk := knum_at w0 gr (z, false) 3 _ hs3.out HR3.out (HB3.out.from Hb.out hg)
 rw [Hx3.out] at hlk
 refine hlk.mono ?_
 rintro e w4 ⟨hB, ⟨hs, rfl, hR⟩ | ⟨hs, rfl⟩⟩
 rotate_left 1
 · have hf : F.2 = true := by rw [HF.out]; exact rdS_flag_le hs (by decide)
   have HB9 : Hid (ButG gr W w4) := HB3.out.trans hB
   clear hs hB hlk
   go_wp2_with fail
   exact ⟨rfl, HB9.out, Or.inr ⟨hf, rfl⟩⟩
 have hs4 := Lib.hid hs
 have HR4 := Lib.hid hR
 have HB4 := Lib.hid (HB3.out.trans hB)
 have HM4 := Lib.hid (HM3.out.butG hB (by omega))
 clear hs hR hB HB3 HR3 HM3 hlk
 go_wp2_with fail
 have hlk := knum_at w0 gr (z, false) 4 _ hs4.out HR4.out (HB4.out.from Hb.out hg)
 rw [Hx4.out] at hlk
 refine hlk.mono ?_
 rintro e w5 ⟨hB, ⟨hs, rfl, hR⟩ | ⟨hs, rfl⟩⟩
 rotate_left 1
 · have hf : F.2 = true := by rw [HF.out]; exact rdS_flag_le hs (by decide)
   have HB9 : Hid (ButG gr W w5) := HB4.out.trans hB
   clear hs hB hlk
   go_wp2_with fail
   exact ⟨rfl, HB9.out, Or.inr ⟨hf, rfl⟩⟩
 have hs5 := Lib.hid hs
 have HR5 := Lib.hid hR
 have HB5 := Lib.hid (HB4.out.trans hB)
 have HM5 := Lib.hid (HM4.out.butG hB (by omega))
 clear hs hR hB HB4 HR4 HM4 hlk
 go_wp2_with fail
 have hlk := klook_calls w0 gr (rdS (z, false) 5).1 _ HR5.out (HB5.out.from Hb.out hg) hg
 rw [show ((rdS (z, false) 5).1, false) = rdS (z, false) 5 from Prod.ext rfl hs5.out.symm, rdS_add, rdX_add, rdX_add] at hlk
 rw [Hx5.out, Hx6.out] at hlk
 refine hlk.mono ?_
 rintro e w7 ⟨hB, ⟨hs, rfl, hR⟩ | ⟨hs, rfl⟩⟩
 rotate_left 1
 · have hf : F.2 = true := by rw [HF.out]; exact rdS_flag_le hs (by decide)
   have HB9 : Hid (ButG gr W w7) := HB5.out.trans hB
   clear hs hB hlk
   go_wp2_with fail
   exact ⟨rfl, HB9.out, Or.inr ⟨hf, rfl⟩⟩
 have hs7 := Lib.hid hs
 have HR7 := Lib.hid hR
 have HB7 := Lib.hid (HB5.out.trans hB)
 have HM7 := Lib.hid (HM5.out.butG hB (by omega))
 clear hs hR hB HB5 HR5 HM5 hlk
 have c0 := HM7.out.cell 0
 have f0 := HM7.out.free 0
 have c1 := HM7.out.cell 1
 have f1 := HM7.out.free 1
 have c2 := HM7.out.cell 2
 have f2 := HM7.out.free 2
 have c3 := HM7.out.cell 3
 have f3 := HM7.out.free 3
 have c4 := HM7.out.cell 4
 have f4 := HM7.out.free 4
 have c5 := HM7.out.cell 5
 have f5 := HM7.out.free 5
 have c6 := HM7.out.cell 6
 have f6 := HM7.out.free 6
 go_wp2_with fail
 refine bodyPost_ret (v := .agg #[.int .i64 x0, .int .i64 x1, .int .i64 x2, .int .i64 x3, .int .i64 x4, .int .i64 x5, .int .i64 x6]) (by simp [results, Try.results57, go_sem, c0, c1, c2, c3, c4, c5, c6]) rfl ⟨?_, Or.inl ⟨by rw [HF.out]; exact hs7.out, rfl, ?_⟩⟩
 · exact (((((((HB7.out.own (p := ⟨W.heap.size, 0, none⟩) (Nat.le_refl _) _).own (p := ⟨W.heap.size, 1, none⟩) (Nat.le_refl _) _).own (p := ⟨W.heap.size, 2, none⟩) (Nat.le_refl _) _).own (p := ⟨W.heap.size, 3, none⟩) (Nat.le_refl _) _).own (p := ⟨W.heap.size, 4, none⟩) (Nat.le_refl _) _).own (p := ⟨W.heap.size, 5, none⟩) (Nat.le_refl _) _).own (p := ⟨W.heap.size, 6, none⟩) (Nat.le_refl _) _)
 · rw [HF.out]
   exact (((((((HR7.out.set (p := ⟨W.heap.size, 0, none⟩) (by show W.heap.size ≠ gr; omega) _).set (p := ⟨W.heap.size, 1, none⟩) (by show W.heap.size ≠ gr; omega) _).set (p := ⟨W.heap.size, 2, none⟩) (by show W.heap.size ≠ gr; omega) _).set (p := ⟨W.heap.size, 3, none⟩) (by show W.heap.size ≠ gr; omega) _).set (p := ⟨W.heap.size, 4, none⟩) (by show W.heap.size ≠ gr; omega) _).set (p := ⟨W.heap.size, 5, none⟩) (by show W.heap.size ≠ gr; omega) _).set (p := ⟨W.heap.size, 6, none⟩) (by show W.heap.size ≠ gr; omega) _)
end Go.Proofs.Ytnkgakhnlbifdaa
namespace Go.Proofs.Ytnkgakhnlbifdaa
open Go.RowKit
set_option maxRecDepth 100000 in
set_option maxHeartbeats 8000000 in
theorem kcatch_idle (p q : Addr) (w : World) :
 CallsD Try.prog 33 #[.pointer (some p), .pointer (some q)] .returning w fun e u' w' => e = .returned (.tuple #[]) ∧ u' = .returning ∧ w' = w := by
 refine callsD_of_wpS Try.func33 rfl fun c₀ cs hu => ?_
 apply wpS_seq
 apply wpS_region
 simp [wpOpsS, go_sem, recoverD, hu, Try.ntmps33, Exit.thenS]
 refine wpS_of_wp ?_
 show Code.wp _ _ _ { tmps := #[.pointer (some p), .pointer (some q), .nilIface, undef, undef, .nilIface, undef, undef, undef, undef, undef, undef, undef, undef, undef, undef, undef], defers := [] } _
 have hnil : ∀ w : World, (binOp BinOp.eql 20 .nilIface .nilIface).run Try.prog w = .ok (.bool true) w := fun _ => by kernel_rfl
 go_wp2_with fail
 cases c₀
 simp_all [bodyPostS, results, Try.results33]
set_option maxRecDepth 100000 in
set_option maxHeartbeats 8000000 in
theorem kcatch_wrong (go gk : Nat) (x : Bk) (rv lv ov nv tv uv iv : Value) (b : Bool) (w : World) (hO : Whole w go 36 (bkCells x rv lv ov nv tv uv iv)) (hK : Whole w gk 4 #[.bool b]) (hne : go ≠ gk) :
 CallsD Try.prog 33 #[.pointer (some ⟨go, 0, none⟩), .pointer (some ⟨gk, 0, none⟩)] (.panicking [{ v := .iface 77 (.agg #[]), recovered := false }]) w fun e u' w' =>
  e = .returned (.tuple #[]) ∧ u' = .panicking [{ v := .iface 77 (.agg #[]), recovered := true }] ∧ Whole w' go 36 (bkCells bk0 (.slice none 0 0) (.slice none 0 0) (.slice none 0 0) (.slice none 0 0) (.slice none 0 0) (.slice none 0 0) (.slice none 0 0)) ∧ Whole w' gk 4 #[.bool false] ∧ ∀ B w0, Below B w0 w → B ≤ go → B ≤ gk → Below B w0 w' := by
 have HF : Hid (∀ W : World, W = ((bk12 w go bk0 (.slice none 0 0) (.slice none 0 0) (.slice none 0 0) (.slice none 0 0) (.slice none 0 0) (.slice none 0 0) (.slice none 0 0)).setCell ⟨gk, 0, none⟩ (.bool false)).alloc (.cells #[] 77) →
  Whole W go 36 (bkCells bk0 (.slice none 0 0) (.slice none 0 0) (.slice none 0 0) (.slice none 0 0) (.slice none 0 0) (.slice none 0 0) (.slice none 0 0)) ∧ Whole W gk 4 #[.bool false] ∧ ∀ B w0, Below B w0 w → B ≤ go → B ≤ gk → Below B w0 W) := fun W hW => by
  subst hW
  have ho : ∀ {t : TypeId} {cs : Array Value} {q : World} (i : Nat) (u : Value), Whole q gk t cs → Whole (q.setCell ⟨go, i, none⟩ u) gk t cs := fun i u h => h.other (p := ⟨go, i, none⟩) (fun e => hne e.symm) u
  have h1 := (bk12_whole (x := bk0) (rv := (.slice none 0 0)) (lv := (.slice none 0 0)) (ov := (.slice none 0 0)) (nv := (.slice none 0 0)) (tv := (.slice none 0 0)) (uv := (.slice none 0 0)) (iv := (.slice none 0 0)) hO).other (p := ⟨gk, 0, none⟩) hne (.bool false)
  have h2 : Whole (bk12 w go bk0 (.slice none 0 0) (.slice none 0 0) (.slice none 0 0) (.slice none 0 0) (.slice none 0 0) (.slice none 0 0) (.slice none 0 0)) gk 4 #[.bool b] := by
   unfold bk12
   exact (ho 11 _ (ho 10 _ (ho 9 _ (ho 8 _ (ho 7 _ (ho 6 _ (ho 5 _ (ho 4 _ (ho 3 _ (ho 2 _ (ho 1 _ (ho 0 _ hK))))))))))))
  have h3 := h2.set 0 (.bool false)
  have hb := below_box ((bk12 w go bk0 (.slice none 0 0) (.slice none 0 0) (.slice none 0 0) (.slice none 0 0) (.slice none 0 0) (.slice none 0 0) (.slice none 0 0)).setCell ⟨gk, 0, none⟩ (.bool false)) (.cells #[] 77)
  refine ⟨h1.later hb h1.lt, h3.later hb h3.lt, fun B w0 q1 q2 q3 => ?_⟩
  have hb2 := (bk12_below (x := bk0) (rv := (.slice none 0 0)) (lv := (.slice none 0 0)) (ov := (.slice none 0 0)) (nv := (.slice none 0 0)) (tv := (.slice none 0 0)) (uv := (.slice none 0 0)) (iv := (.slice none 0 0)) q1 q2).setCell (p := ⟨gk, 0, none⟩) q3 (.bool false)
  exact hb2.trans (hb.mono (Nat.le_of_lt (Nat.lt_of_le_of_lt q2 h1.lt)))
 obtain ⟨⟨y0, y1, y2, y3⟩, ⟨y4, y5, y6, y7⟩, y8, y9, y10, y11⟩ := bk_cells hO
 have k0 := hK.cell 0
 have fk := hK.free 0
 have hlk := hK.lt
 have hlo := hO.lt
 have hne' : gk ≠ go := fun e => hne e.symm
 have fz0 := hO.free 0
 have fz1 := hO.free 1
 have fz2 := hO.free 2
 have fz3 := hO.free 3
 have fz4 := hO.free 4
 have fz5 := hO.free 5
 have fz6 := hO.free 6
 have fz7 := hO.free 7
 have fz8 := hO.free 8
 have fz9 := hO.free 9
 have fz10 := hO.free 10
 have fz11 := hO.free 11
 clear hO hK
 refine callsD_of_wpS Try.func33 rfl fun c₀ cs hu => ?_
 apply wpS_seq
 apply wpS_region
 simp [wpOpsS, go_sem, recoverD, hu, Try.ntmps33, Exit.thenS]
 refine wpS_of_wp ?_
 show Code.wp _ _ _ { tmps := #[.pointer (some ⟨go, 0, none⟩), .pointer (some ⟨gk, 0, none⟩), .iface 77 (.agg #[]), undef, undef, .iface 77 (.agg #[]), undef, undef, undef, undef, undef, undef, undef, undef, undef, undef, undef], defers := [] } _
 have hta : ∀ w : World, (Instr.typeAssert (.iface 77 (.agg #[])) 20 77 true).run Try.prog w = .ok (.tuple #[.agg #[], .bool true]) w := fun _ => by kernel_rfl
 have hne1 : ∀ w : World, (binOp BinOp.eql 20 (.iface 77 (.agg #[])) .nilIface).run Try.prog w = .ok (.bool false) w := fun _ => by kernel_rfl
 go_wp2_with fail
 exact ⟨rfl, _, rfl, _, results_none rfl _ _ _, rfl, rfl, HF.out _ rfl⟩
end Go.Proofs.Ytnkgakhnlbifdaa
namespace Go.Proofs.Ytnkgakhnlbifdaa
open Go.RowKit
def ApartV (u v : Value) : Prop := ∀ b, u.ownBlock = some b → v.ownBlock ≠ some b
theorem ApartV.symm {u v : Value} (h : ApartV u v) : ApartV v u := fun b hb hu => h b hu hb
theorem apart_nil (v : Value) (a : Option Addr) (h : a = none) (c : Nat) : ApartV (.slice a 0 c) v := fun b hb => by subst h; simp [Value.ownBlock] at hb
theorem Grew.beside {w w' : World} {v v' v2 : Value} {b2 : Nat} {e2 : TypeId} {s2 n2 : Nat} {xs2 : List Value} (h : Grew w w' v v') (h2 : w.ownsRow b2 e2 s2 v2 n2 xs2) (ha : ApartV v2 v) : w'.ownsRow b2 e2 s2 v2 n2 xs2 ∧ ApartV v2 v' := by
 constructor
 · have hG := h.1
   cases hv : v.ownBlock with
   | none => rw [hv] at hG; exact h2.kept hG (by cases v2.ownBlock <;> simp)
   | some b =>
     rw [hv] at hG
     exact h2.kept hG (.inr fun e => ha b e hv)
 · intro b hb e
   rcases h.2 with h3 | h3
   · exact ha b hb (h3.symm.trans e)
   · rw [h3] at e
     have := (h2.lt b hb).2
     injection e with e
     omega
theorem own_sides {w : World} {base b2 : Nat} {e e2 : TypeId} {s s2 n n2 : Nat} {v v2 : Value} {xs xs2 : List Value} (h : w.ownsRow base e s v n xs) (h2 : w.ownsRow b2 e2 s2 v2 n2 xs2) (he : e ≠ e2) : ApartV v v2 := fun _ hb => own_apart h h2 he hb
end Go.Proofs.Ytnkgakhnlbifdaa
namespace Go.Proofs.Ytnkgakhnlbifdaa
open Go.RowKit
theorem seven_one {w : World} {g : Nat} {T : TypeId} {x : Nt} (h : Whole w g T (ntCells x)) : Elems w (.slice (some ⟨g, 0, none⟩) 1 1) 7 1 (fun _ j => ntc x j) := by
 refine ⟨by decide, Or.inr ⟨g, 0, 1, rfl, Nat.le_refl _, fun i j hi hj => ?_⟩⟩
 obtain rfl : i = 0 := by omega
 have hc := h.cell
 match j, hj with
 | 0, _ => exact hc 0
 | 1, _ => exact hc 1
 | 2, _ => exact hc 2
 | 3, _ => exact hc 3
 | 4, _ => exact hc 4
 | 5, _ => exact hc 5
 | 6, _ => exact hc 6
theorem ntc_plain (x : Nt) (j : Nat) : (ntc x j).oneCell' = true := by unfold ntc; rfl
theorem nt_push_at {w : World} {base g : Nat} {v : Value} {E : List Nt} {k : Nat} {x : Nt} (hE : ntAt E k = x) (hown : w.ownsRow base 70 7 v k (flatCells 7 k (fun i j => ntc (ntAt E i) j))) (hW : Whole w g 70 (ntCells x)) (hk : k ≤ 1000) (hb : base ≤ w.heap.size) :
 ∃ A C w', (Builtin.append_ #[28, 28] 28 #[v, .slice (some ⟨g, 0, none⟩) 1 1]).run Try.prog w = .ok (.slice A (k + 1) C) w' ∧
   w'.ownsRow base 70 7 (.slice A (k + 1) C) (k + 1) (flatCells 7 (k + 1) (fun i j => ntc (ntAt E i) j)) ∧ Below base w w' ∧ Grew w w' v (.slice A (k + 1) C) := by
 obtain ⟨i0, hi, hz0, hz1, hz2⟩ := info_parts info_note17
 obtain ⟨v', w', hrun, q1, q2, q3⟩ := run_append_elems (P := Try.prog) (w := w) 28 28 base 70 i0 _ 7 56 Try.underlying28 hi hz0 hz1 hz2 rfl (by decide)
  v k (fun i j => ntc (ntAt E i) j) hown (some ⟨g, 0, none⟩) 1 1 (fun _ j => ntc x j) (seven_one hW) (fun _ _ _ _ => ntc_plain _ _) (by unfold maxLen; omega) (by omega) hb
 rw [flat_ext3 (g := fun i j => ntc (ntAt E i) j) (fun i j hi _ => by
  by_cases h : i < k
  · simp only [if_pos h]
  · obtain rfl : i = k := by omega
    simp only [Nat.lt_irrefl, if_false]
    rw [hE])] at q1
 obtain ⟨A, C, rfl, _⟩ := elems_of_own q1 (by omega)
 exact ⟨A, C, w', hrun, q1, q2, q3⟩
theorem info_flag : (Try.prog.info? 4).map (fun i => (i.zero, i.size, i.bytes)) = some (some (.bool false), 1, 1) := by kernel_rfl
theorem one_cell {w : World} {g : Nat} {T : TypeId} {u : Value} (h : Whole w g T #[u]) : Elems w (.slice (some ⟨g, 0, none⟩) 1 1) 1 1 (fun _ _ => u) := by
 refine ⟨by decide, Or.inr ⟨g, 0, 1, rfl, Nat.le_refl _, fun i j hi hj => ?_⟩⟩
 obtain rfl : i = 0 := by omega
 obtain rfl : j = 0 := by omega
 exact h.cell 0
theorem flag_push_at {w : World} {base g : Nat} {v : Value} {E : Nat → Bool} {k : Nat} {x : Bool} (hE : E k = x) (hown : w.ownsRow base 4 1 v k (flatCells 1 k (fun i _ => .bool (E i)))) (hW : Whole w g 4 #[.bool x]) (hk : k ≤ 1000) (hb : base ≤ w.heap.size) :
 ∃ A C w', (Builtin.append_ #[31, 31] 31 #[v, .slice (some ⟨g, 0, none⟩) 1 1]).run Try.prog w = .ok (.slice A (k + 1) C) w' ∧
   w'.ownsRow base 4 1 (.slice A (k + 1) C) (k + 1) (flatCells 1 (k + 1) (fun i _ => .bool (E i))) ∧ Below base w w' ∧ Grew w w' v (.slice A (k + 1) C) := by
 obtain ⟨i0, hi, hz0, hz1, hz2⟩ := info_parts info_flag
 obtain ⟨v', w', hrun, q1, q2, q3⟩ := run_append_elems (P := Try.prog) (w := w) 31 31 base 4 i0 _ 1 1 Try.underlying31 hi hz0 hz1 hz2 rfl (by decide)
  v k (fun i _ => .bool (E i)) hown (some ⟨g, 0, none⟩) 1 1 (fun _ _ => .bool x) (one_cell hW) (fun _ _ _ _ => rfl) (by unfold maxLen; omega) (by omega) hb
 rw [flat_ext3 (g := fun i _ => .bool (E i)) (fun i j hi _ => by
  by_cases h : i < k
  · simp only [if_pos h]
  · obtain rfl : i = k := by omega
    simp only [Nat.lt_irrefl, if_false]
    rw [hE])] at q1
 obtain ⟨A, C, rfl, _⟩ := elems_of_own q1 (by omega)
 exact ⟨A, C, w', hrun, q1, q2, q3⟩
theorem num_push_at {w : World} {base g : Nat} {v : Value} {E : Nat → Int} {k : Nat} {x : Int} (hE : E k = x) (hown : w.ownsRow base 2 1 v k (flatCells 1 k (fun i _ => .int .i64 (E i)))) (hW : Whole w g 2 #[.int .i64 x]) (hk : k ≤ 1000) (hb : base ≤ w.heap.size) :
 ∃ A C w', (Builtin.append_ #[32, 32] 32 #[v, .slice (some ⟨g, 0, none⟩) 1 1]).run Try.prog w = .ok (.slice A (k + 1) C) w' ∧
   w'.ownsRow base 2 1 (.slice A (k + 1) C) (k + 1) (flatCells 1 (k + 1) (fun i _ => .int .i64 (E i))) ∧ Below base w w' ∧ Grew w w' v (.slice A (k + 1) C) := by
 obtain ⟨i0, hi, hz0, hz1, hz2⟩ := info_parts info_n64
 obtain ⟨v', w', hrun, q1, q2, q3⟩ := run_append_elems (P := Try.prog) (w := w) 32 32 base 2 i0 _ 1 8 Try.underlying32 hi hz0 hz1 hz2 rfl (by decide)
  v k (fun i _ => .int .i64 (E i)) hown (some ⟨g, 0, none⟩) 1 1 (fun _ _ => .int .i64 x) (one_cell hW) (fun _ _ _ _ => rfl) (by unfold maxLen; omega) (by omega) hb
 rw [flat_ext3 (g := fun i _ => .int .i64 (E i)) (fun i j hi _ => by
  by_cases h : i < k
  · simp only [if_pos h]
  · obtain rfl : i = k := by omega
    simp only [Nat.lt_irrefl, if_false]
    rw [hE])] at q1
 obtain ⟨A, C, rfl, _⟩ := elems_of_own q1 (by omega)
 exact ⟨A, C, w', hrun, q1, q2, q3⟩
end Go.Proofs.Ytnkgakhnlbifdaa
namespace Go.Proofs.Ytnkgakhnlbifdaa
open Go.RowKit
theorem run_eql_rqs (w : World) (x y : Rq) : (binOp .eql 68 (rqV x) (rqV y)).run Try.prog w = .ok (.bool (decide (x = y))) w := by
 obtain ⟨t, a, m⟩ := x
 obtain ⟨u, b, n⟩ := y
 by_cases h1 : t = u
 · subst h1
   by_cases h2 : a = b
   · subst h2
     by_cases h3 : m = n
     · subst h3; simp [go_sem, Try.underlying68, Try.underlying55]
     · simp [go_sem, Try.underlying68, Try.underlying55, h3]
   · simp [go_sem, Try.underlying68, Try.underlying55, h2]
 · simp [go_sem, Try.underlying68, Try.underlying55, h1]
end Go.Proofs.Ytnkgakhnlbifdaa
namespace Go.Proofs.Ytnkgakhnlbifdaa
open Go.RowKit
set_option maxHeartbeats 400000 in
theorem stampmay_calls (t a n : Int) (w : World) :
 Calls Try.prog 45 #[stampV t a, .int .i64 n] w (Says w (mayB t a n)) := by
 by_cases h : 1 ≤ t ∧ t ≤ 1125899906842624 ∧ 0 ≤ a ∧ a < n
 · rw [mayB_yes h]
   obtain ⟨h1, h2, h3, h4⟩ := h
   go_enter Try.func45, Try.ntmps45
   go_wp2_with fail
   go_ret
   exact ⟨by simp_all, below_box _ _⟩
 · rw [mayB_no h]
   by_cases h1 : 1 ≤ t
   · by_cases h2 : t ≤ 1125899906842624
     · by_cases h3 : 0 ≤ a
       · have h4 : ¬ a < n := by omega
         clear h
         go_enter Try.func45, Try.ntmps45
         go_wp2_with fail
         go_ret
         exact ⟨by simp_all, below_box _ _⟩
       · clear h
         go_enter Try.func45, Try.ntmps45
         go_wp2_with fail
         go_ret
         exact ⟨by simp_all, below_box _ _⟩
     · clear h
       go_enter Try.func45, Try.ntmps45
       go_wp2_with fail
       go_ret
       exact ⟨by simp_all, below_box _ _⟩
   · clear h
     go_enter Try.func45, Try.ntmps45
     go_wp2_with fail
     go_ret
     exact ⟨by simp_all, below_box _ _⟩
end Go.Proofs.Ytnkgakhnlbifdaa
namespace Go.Proofs.Ytnkgakhnlbifdaa
open Go.RowKit
abbrev tdV (c : Cf) (who : Int) (x : Nt) : Value := .agg #[.int .i64 c.n, .int .i64 c.q, .int .i64 c.r, .int .i64 c.p, .int .i64 c.k, .int .i64 c.c, .int .i64 who, .int .i64 x.clk, .int .i64 x.t, .int .i64 x.a, .int .i64 x.m, .int .i64 x.asks, .int .i64 x.try_, .int .i64 x.ph]
abbrev tdCells (c : Cf) (who : Int) (x : Nt) : Array Value := #[.int .i64 c.n, .int .i64 c.q, .int .i64 c.r, .int .i64 c.p, .int .i64 c.k, .int .i64 c.c, .int .i64 who, .int .i64 x.clk, .int .i64 x.t, .int .i64 x.a, .int .i64 x.m, .int .i64 x.asks, .int .i64 x.try_, .int .i64 x.ph]
theorem run_eql_lk (w : World) (t p u q : Int) : (binOp .eql 30 (.agg #[.int .i64 t, .int .i64 p]) (.agg #[.int .i64 u, .int .i64 q])).run Try.prog w = .ok (.bool (decide (t = u ∧ p = q))) w := by
 by_cases h1 : t = u
 · subst h1
   by_cases h2 : p = q
   · subst h2; simp [go_sem, Try.underlying30]
   · simp [go_sem, Try.underlying30, h2]
 · simp [go_sem, Try.underlying30, h1]
set_option maxHeartbeats 4000000 in
theorem none_calls (t a m : Int) (w : World) : Calls Try.prog 83 #[rqV ⟨t, a, m⟩] w (Says w (decide (t = 0 ∧ a = 0 ∧ m = 0))) := by
 obtain ⟨z, Hz⟩ : ∃ z, Hid (decide (t = 0 ∧ a = 0 ∧ m = 0) = z) := ⟨_, rfl⟩
 have heq : ∀ w : World, (binOp .eql 68 (.agg #[.int .i64 t, .int .i64 a, .int .i64 m]) (.agg #[.int .i64 0, .int .i64 0, .int .i64 0])).run Try.prog w = .ok (.bool z) w := fun w => (run_eql_rqs w ⟨t, a, m⟩ ⟨0, 0, 0⟩).trans (by rw [← Hz.out]; simp)
 rw [Hz.out]
 have Hb0 := Lib.hid (below_box w (.cells (rqCells ⟨t, a, m⟩) 68))
 go_enter Try.func83, Try.ntmps83
 go_wp2_with fail
 go_ret
 exact ⟨by rfl, Hb0.out⟩
set_option maxHeartbeats 4000000 in
theorem amongc_calls (c : Cf) (who : Int) (w : World) : Calls Try.prog 39 #[cfV c, .int .i64 who] w (Says w (decide (0 ≤ who ∧ who < c.n))) := by
 have Hb0 := Lib.hid (below_box w (.cells (cfCells c) 23))
 obtain ⟨n, q, r, p, kk, cc⟩ := c
 simp only
 by_cases h1 : 0 ≤ who
 · by_cases h2 : who < n
   · rw [decide_eq_true ⟨h1, h2⟩]
     go_enter Try.func39, Try.ntmps39
     go_wp2_with fail
     go_ret
     exact ⟨by simp, Hb0.out⟩
   · rw [decide_eq_false (fun h => h2 h.2)]
     go_enter Try.func39, Try.ntmps39
     go_wp2_with fail
     go_ret
     exact ⟨by first | (simp; done) | (simp; omega), Hb0.out⟩
 · rw [decide_eq_false (fun h => h1 h.1)]
   go_enter Try.func39, Try.ntmps39
   go_wp2_with fail
   go_ret
   exact ⟨by simp, Hb0.out⟩
set_option maxRecDepth 100000 in
set_option maxHeartbeats 4000000 in
theorem looks_calls (t p : Int) (w : World) : Calls Try.prog 84 #[.agg #[.int .i64 t, .int .i64 p]] w (Says w (lookB t p)) := by
 obtain ⟨res, Hres⟩ : ∃ z, Hid (lookB t p = z) := ⟨_, rfl⟩
 rw [Hres.out]
 have yes : lookOk t p → res = true := fun h => Hres.out.symm.trans (decide_eq_true h)
 have no : ¬ lookOk t p → res = false := fun h => Hres.out.symm.trans (decide_eq_false h)
 have Yes := Lib.hid yes; have No := Lib.hid no; clear yes no
 have Hb0 := Lib.hid (below_box w (.cells #[.int .i64 t, .int .i64 p] 30))
 obtain ⟨z, Hz⟩ : ∃ z, Hid (decide (t = 0 ∧ p = 0) = z) := ⟨_, rfl⟩
 have heq : ∀ w : World, (binOp .eql 30 (.agg #[.int .i64 t, .int .i64 p]) (.agg #[.int .i64 0, .int .i64 0])).run Try.prog w = .ok (.bool z) w := fun w => (run_eql_lk w t p 0 0).trans (by rw [← Hz.out])
 cases z with
 | true =>
   obtain rfl := Yes.out (Or.inl (of_decide_eq_true Hz.out))
   go_enter Try.func84, Try.ntmps84
   go_wp2_with fail
   go_ret
   exact ⟨by rfl, Hb0.out⟩
 | false =>
   have Hz2 := Lib.hid (of_decide_eq_false Hz.out)
   by_cases h1 : 1 ≤ t
   · by_cases h2 : t ≤ 1125899906842624
     · by_cases h3 : p = 1
       · subst h3
         obtain rfl := Yes.out (Or.inr ⟨by omega, h2, by decide, by decide⟩)
         go_enter Try.func84, Try.ntmps84
         go_wp2_with fail
         go_ret
         exact ⟨by first | rfl | (simp; done) | (simp; omega), Hb0.out⟩
       · have s3 : (p == 1) = false := beq_eq_false_iff_ne.2 h3
         by_cases h4 : p = 2
         · subst h4
           obtain rfl := Yes.out (Or.inr ⟨by omega, h2, by decide, by decide⟩)
           go_enter Try.func84, Try.ntmps84
           go_wp2_with fail
           go_ret
           exact ⟨by first | rfl | (simp; done) | (simp; omega), Hb0.out⟩
         · have s4 : (p == 2) = false := beq_eq_false_iff_ne.2 h4
           have n3 := Lib.hid h3; have n4 := Lib.hid h4; clear h3 h4
           obtain rfl := No.out (fun h => by have h9 := Hz2.out; have := n3.out; have := n4.out; rcases h with h | h; exact h9 h; omega)
           go_enter Try.func84, Try.ntmps84
           go_wp2_with fail
           go_ret
           exact ⟨by first | rfl | (simp; done) | (simp; omega), Hb0.out⟩
     ·
      obtain rfl := No.out (fun h => by have h9 := Hz2.out; rcases h with h | h; exact h9 h; omega)
      go_enter Try.func84, Try.ntmps84
      go_wp2_with fail
      go_ret
      exact ⟨by first | rfl | (simp; done) | (simp; omega), Hb0.out⟩
   ·
    obtain rfl := No.out (fun h => by have h9 := Hz2.out; rcases h with h | h; exact h9 h; omega)
    go_enter Try.func84, Try.ntmps84
    go_wp2_with fail
    go_ret
    exact ⟨by first | rfl | (simp; done) | (simp; omega), Hb0.out⟩
theorem td_cells {w : World} {g : Nat} {c : Cf} {who : Int} {x : Nt} (h : Whole w g 90 (tdCells c who x)) :
 w.cell? ⟨g, 0, none⟩ = some (.int .i64 c.n) ∧ w.cell? ⟨g, 1, none⟩ = some (.int .i64 c.q) ∧ w.cell? ⟨g, 2, none⟩ = some (.int .i64 c.r) ∧ w.cell? ⟨g, 3, none⟩ = some (.int .i64 c.p) ∧ w.cell? ⟨g, 4, none⟩ = some (.int .i64 c.k) ∧ w.cell? ⟨g, 5, none⟩ = some (.int .i64 c.c) ∧ w.cell? ⟨g, 6, none⟩ = some (.int .i64 who) ∧
 w.cell? ⟨g, 7, none⟩ = some (.int .i64 x.clk) ∧ w.cell? ⟨g, 8, none⟩ = some (.int .i64 x.t) ∧ w.cell? ⟨g, 9, none⟩ = some (.int .i64 x.a) ∧ w.cell? ⟨g, 10, none⟩ = some (.int .i64 x.m) ∧ w.cell? ⟨g, 11, none⟩ = some (.int .i64 x.asks) ∧ w.cell? ⟨g, 12, none⟩ = some (.int .i64 x.try_) ∧ w.cell? ⟨g, 13, none⟩ = some (.int .i64 x.ph) :=
 ⟨h.cell 0, h.cell 1, h.cell 2, h.cell 3, h.cell 4, h.cell 5, h.cell 6, h.cell 7, h.cell 8, h.cell 9, h.cell 10, h.cell 11, h.cell 12, h.cell 13⟩
def clockB (x : Nt) : Bool := decide (0 ≤ x.clk ∧ x.clk ≤ 1125899906842624)
def headB (c : Cf) (who : Int) (x : Nt) : Bool := noHead x || hasHead c who x
def asksB (c : Cf) (x : Nt) : Bool := decide (0 ≤ x.asks ∧ x.asks ≤ c.r)
theorem noteB_parts (c : Cf) (who : Int) (x : Nt) : noteB c who x = (clockB x && (headB c who x && (asksB c x && lookB x.try_ x.ph))) := rfl
set_option maxRecDepth 100000 in
set_option maxHeartbeats 4000000 in
theorem clock_calls (c : Cf) (who : Int) (x : Nt) (w : World) : Calls Try.prog 68 #[tdV c who x] w (Says w (clockB x)) := by
 have Hb0 := Lib.hid (below_box w (.cells (tdCells c who x) 90))
 obtain ⟨n, q, r, p, kk, cc⟩ := c
 obtain ⟨clk, t, a, m, asks, try_, ph⟩ := x
 obtain ⟨res, Hres⟩ : ∃ z, Hid (decide (0 ≤ clk ∧ clk ≤ 1125899906842624) = z) := ⟨_, rfl⟩
 show Calls _ _ _ _ (Says w (decide (0 ≤ clk ∧ clk ≤ 1125899906842624)))
 rw [Hres.out]
 by_cases h1 : 0 ≤ clk
 · by_cases h2 : clk ≤ 1125899906842624
   · obtain rfl : res = true := Hres.out.symm.trans (decide_eq_true ⟨h1, h2⟩)
     go_enter Try.func68, Try.ntmps68
     go_wp2_with fail
     go_ret
     exact ⟨by first | rfl | (simp; done) | (simp; omega), Hb0.out⟩
   · obtain rfl : res = false := Hres.out.symm.trans (decide_eq_false (fun h => h2 h.2))
     go_enter Try.func68, Try.ntmps68
     go_wp2_with fail
     go_ret
     exact ⟨by first | rfl | (simp; done) | (simp; omega), Hb0.out⟩
 · obtain rfl : res = false := Hres.out.symm.trans (decide_eq_false (fun h => h1 h.1))
   go_enter Try.func68, Try.ntmps68
   go_wp2_with fail
   go_ret
   exact ⟨by first | rfl | (simp; done) | (simp; omega), Hb0.out⟩
set_option maxRecDepth 100000 in
set_option maxHeartbeats 4000000 in
theorem asks_calls (c : Cf) (who : Int) (x : Nt) (w : World) : Calls Try.prog 70 #[tdV c who x] w (Says w (asksB c x)) := by
 have Hb0 := Lib.hid (below_box w (.cells (tdCells c who x) 90))
 obtain ⟨n, q, r, p, kk, cc⟩ := c
 obtain ⟨clk, t, a, m, asks, try_, ph⟩ := x
 obtain ⟨res, Hres⟩ : ∃ z, Hid (decide (0 ≤ asks ∧ asks ≤ r) = z) := ⟨_, rfl⟩
 show Calls _ _ _ _ (Says w (decide (0 ≤ asks ∧ asks ≤ r)))
 rw [Hres.out]
 by_cases h1 : 0 ≤ asks
 · by_cases h2 : asks ≤ r
   · obtain rfl : res = true := Hres.out.symm.trans (decide_eq_true ⟨h1, h2⟩)
     go_enter Try.func70, Try.ntmps70
     go_wp2_with fail
     go_ret
     exact ⟨by first | rfl | (simp; done) | (simp; omega), Hb0.out⟩
   · obtain rfl : res = false := Hres.out.symm.trans (decide_eq_false (fun h => h2 h.2))
     go_enter Try.func70, Try.ntmps70
     go_wp2_with fail
     go_ret
     exact ⟨by first | rfl | (simp; done) | (simp; omega), Hb0.out⟩
 · obtain rfl : res = false := Hres.out.symm.trans (decide_eq_false (fun h => h1 h.1))
   go_enter Try.func70, Try.ntmps70
   go_wp2_with fail
   go_ret
   exact ⟨by first | rfl | (simp; done) | (simp; omega), Hb0.out⟩
set_option maxRecDepth 100000 in
set_option maxHeartbeats 4000000 in
theorem look_calls (c : Cf) (who : Int) (x : Nt) (w : World) : Calls Try.prog 71 #[tdV c who x] w (Says w (lookB x.try_ x.ph)) := by
 have Hb0 := Lib.hid (below_box w (.cells (tdCells c who x) 90))
 obtain ⟨n, q, r, p, kk, cc⟩ := c
 obtain ⟨clk, t, a, m, asks, try_, ph⟩ := x
 simp only
 obtain ⟨res, Hres⟩ : ∃ z, Hid (lookB try_ ph = z) := ⟨_, rfl⟩
 rw [Hres.out]
 go_enter Try.func71, Try.ntmps71
 go_wp2_with fail
 refine (looks_calls try_ ph _).mono ?_
 rw [Hres.out]
 rintro e w1 ⟨rfl, hb⟩
 have Hb1 := Lib.hid (held_next Hb0.out hb)
 clear hb
 go_wp2_with fail
 go_ret
 exact ⟨by rfl, Hb1.out⟩
end Go.Proofs.Ytnkgakhnlbifdaa
