/- Merged texts: PackTake, MailReader. No law is proved here. -/
import Derived.Test.YtfpadcfahfanoaaMg11
import Derived.Test.YtfpadcfahfanoaaMg10
import Derived.Test.YtfpadcfahfanoaaMg6
import Derived.LoopTactic
/- The walks of Take, each by what its bytes begin with: a number and what is behind it, or none. No law is proved here. -/
namespace Go.Proofs.Ytfpadcfahfanoaa
open Go.RowKit

theorem after_all {W : World} {a : Option Addr} {n c lo : Nat} {zs : List Int} (hB : Bytes W (.slice a n c) zs) (hn : n = zs.length) (h1 : lo ≤ n) (h3 : n ≤ c) :
    ∃ v, (∀ w, Calls Try.prog 51 #[.slice a n c, .int .i64 (lo : Int)] w fun e w' => e = .returned v ∧ w = w') ∧ (∀ W', Bytes W' (.slice a n c) zs → Bytes W' v (zs.drop lo)) ∧ ∃ a', v = .slice a' (n - lo) (n - lo) := by
  obtain ⟨v, hv, hb, ha⟩ := piece_after hn h1 h3
  refine ⟨v, fun w => ?_, hb, ha⟩
  have hbig := hB.1
  rw [← hn] at hbig
  clear hB hn hb ha
  go_enter Try.func51, Try.ntmps51
  go_wp2_with fail
  go_ret
  exact ⟨rfl, rfl⟩
theorem after_calls {W : World} {a : Option Addr} {n c lo : Nat} {zs : List Int} (hB : Bytes W (.slice a n c) zs) (hn : n = zs.length) (h1 : lo ≤ n) (h3 : n ≤ c) :
    ∃ v, (∀ w, Calls Try.prog 51 #[.slice a n c, .int .i64 (lo : Int)] w fun e w' => e = .returned v ∧ w = w') ∧ Bytes W v (zs.drop lo) ∧ ∃ a', v = .slice a' (n - lo) (n - lo) := by
  obtain ⟨v, hv, hb, ha⟩ := after_all hB hn h1 h3
  exact ⟨v, hv, hb W hB, ha⟩


set_option maxRecDepth 100000 in
set_option maxHeartbeats 1000000 in
theorem take_yes_some (b off n c : Nat) (zs rest : List Int) (x : Nat) (w : World) (hB : Bytes w (.slice (some ⟨b, off, none⟩) n c) zs) (hcell : ∀ j, j < zs.length → w.cell? ⟨b, off + j, none⟩ = some (.int .u8 (zs.getD j 0))) (hn : n = zs.length) (hnc : n ≤ c) (hx : PackMath.Begins zs x rest) :
    ∃ v, (Calls Try.prog 35 #[.slice (some ⟨b, off, none⟩) n c] w fun e w' => e = .returned (.tuple #[.int .u64 x, v, .bool true]) ∧ w = w') ∧ (∀ W, Bytes W (.slice (some ⟨b, off, none⟩) n c) zs → Bytes W v rest) ∧ ∃ a', v = .slice a' rest.length rest.length := by
  have hl : zs.length = (PackMath.num x).length + rest.length := by rw [hx.2, List.length_append]
  obtain ⟨v, hv, hb, ha⟩ := after_all (lo := (PackMath.num x).length) hB hn (by omega) hnc
  refine ⟨v, ?_, fun W hW => by have := hb W hW; rw [hx.2] at this; simpa using this, by rwa [show n - (PackMath.num x).length = rest.length by omega] at ha⟩
  clear hb ha
  have hbig := hB.1
  rw [← hn] at hbig
  have Hn := Lib.hid hn; clear hn
  have Hv := Lib.hid hv; clear hv
  have Hl := Lib.hid hl; clear hl
  have Hx := Lib.hid hx; clear hx
  have Hc := Lib.hid hcell; clear hcell hB
  go_enter Try.func35, Try.ntmps35
  go_wp2_with fail
  go_step3
  go_wp2_with fail
  go_step3
  go_wp2_with fail
  go_loop [2, 9] (fun v i => ∃ k m r : Nat, k ≤ 9 ∧ k < n ∧ i = .int .i64 k ∧ v = .int .u64 m ∧ Hid (Going zs rest x k m r)) (fun _ i => n - (intOf i).toNat)
  case atStart => exact ⟨0, 0, x, by omega, by have := PackMath.num_pos x; have := Hn.out; have := Hl.out; omega, rfl, rfl, [], rfl, by simpa using Hx.out.2, by simp, PackMath.read_nil, Or.inl rfl⟩
  case round =>
    obtain ⟨k, m, r, hk9, hkn, rfl, rfl, Hg⟩ := hrel
    by_cases hge : 128 ≤ r
    · obtain ⟨h1, h2, h3⟩ := Hg.out.more hge
      have hk8 : k ≤ 8 := by
        by_cases e : k = 9
        · have := Hg.out.nine Hx.out.1 e; omega
        · omega
      have hk1 : k + 1 < n := by have := Hn.out; omega
      have Hg2 := Lib.hid h3; clear h3
      have hc1 := Hc.out k (by omega)
      rw [h1] at hc1
      have hor := or_shift m k (r % 128) Hg.out.low (by have := Hg.out.fits; have := Hx.out.1; omega)
      clear h1 h2
      obtain ⟨d, Hd⟩ : ∃ d : Nat, Hid (r % 128 = d) := ⟨_, rfl⟩
      have hd : d < 128 := by rw [← Hd.out]; omega
      rw [Hd.out] at hc1 hor
      obtain ⟨m2, Hm2⟩ : ∃ m2 : Nat, Hid (m + 128 ^ k * d = m2) := ⟨_, rfl⟩
      rw [Hm2.out] at hor
      rw [Int.natCast_add] at hc1
      have hk9' : ((k : Int) == 9) = false := beq_eq_false_iff_ne.2 (by omega)
      clear hge
      go_wp2_with fail
      go_round
      case rel => exact ⟨k + 1, m2, r / 128, by omega, by omega, by go_num, rfl, by rw [← Hm2.out, ← Hd.out]; exact Hg2⟩
      case measure => simp [intOf]; omega
    · have hr : r < 128 := by omega
      obtain ⟨h1, h2, h3, h4⟩ := Hg.out.last hr
      have h9 : k = 9 → r ≤ 1 := Hg.out.nine Hx.out.1
      have h0 := Hg.out.zero
      have hc1 := Hc.out k (by have := Hn.out; omega)
      rw [h1] at hc1
      have hor := or_shift m k r h2 (by have := Hx.out.1; omega)
      rw [← h3] at hor
      have hv := Hv.out
      rw [h4] at hv
      have Hv2 : Hid (∀ w, Calls Try.prog 51 #[.slice (some ⟨b, off, none⟩) n c, .int .i64 ((k : Int) + 1)] w fun e w' => e = .returned v ∧ w = w') := by
        exact hv
      clear h1 h2 h3 h4 hv hge
      by_cases h9' : k = 9
      · have hr0 : 0 < r := by omega
        have hr1 : r ≤ 1 := h9 h9'
        have hk9' : ((k : Int) == 9) = true := beq_iff_eq.2 (by omega)
        have hz : ((r : Int) == 0) = false := beq_eq_false_iff_ne.2 (by omega)
        clear h9' h9 h0
        go_wp2_with (go_at_call 51; refine (Hv2.out _).mono ?_; rintro e w' ⟨rfl, rfl⟩)
        try rw [Exit.noGoto_ret]
        go_ret3
        exact ⟨rfl, rfl⟩
      · have hk9' : ((k : Int) == 9) = false := beq_eq_false_iff_ne.2 (by omega)
        by_cases hr0 : 0 < r
        · have hz : ((r : Int) == 0) = false := beq_eq_false_iff_ne.2 (by omega)
          clear h9' h9 h0
          go_wp2_with (go_at_call 51; refine (Hv2.out _).mono ?_; rintro e w' ⟨rfl, rfl⟩)
          try rw [Exit.noGoto_ret]
          go_ret3
          exact ⟨rfl, rfl⟩
        · have hk0 : k = 0 := by omega
          have hr00 : r = 0 := by omega
          have hz : ((r : Int) == 0) = true := beq_iff_eq.2 (by omega)
          have hz2 : decide (0 < (k : Int)) = false := by simp; omega
          have hz3 : ¬ (0 < k) := by omega
          clear h9' h9 h0 hk0 hr00 hr0
          go_wp2_with (go_at_call 51; refine (Hv2.out _).mono ?_; rintro e w' ⟨rfl, rfl⟩)
          try rw [Exit.noGoto_ret]
          go_ret3
          exact ⟨rfl, rfl⟩

theorem take_all (a : Option Addr) (n c : Nat) (zs rest : List Int) (x : Nat) (w : World) (hB : Bytes w (.slice a n c) zs) (hn : n = zs.length) (hnc : n ≤ c) (hx : PackMath.Begins zs x rest) :
    ∃ v, (Calls Try.prog 35 #[.slice a n c] w fun e w' => e = .returned (.tuple #[.int .u64 x, v, .bool true]) ∧ w = w') ∧ (∀ W, Bytes W (.slice a n c) zs → Bytes W v rest) ∧ ∃ a', v = .slice a' rest.length rest.length := by
  obtain ⟨h1, h2, ⟨a0, c0, h3, h4, h5⟩ | ⟨b, off, c0, h3, h4⟩⟩ := id hB
  · have := hx.2
    have hp := PackMath.num_pos x
    rw [h5] at this
    have := congrArg List.length this
    simp only [List.length_nil, List.length_append] at this
    omega
  · simp only [Value.slice.injEq] at h3
    obtain ⟨rfl, _, rfl⟩ := h3
    exact take_yes_some b off n c zs rest x w hB h4 hn hnc hx

theorem take_yes (a : Option Addr) (n c : Nat) (zs rest : List Int) (x : Nat) (w : World) (hB : Bytes w (.slice a n c) zs) (hn : n = zs.length) (hnc : n ≤ c) (hx : PackMath.Begins zs x rest) :
    ∃ v, (Calls Try.prog 35 #[.slice a n c] w fun e w' => e = .returned (.tuple #[.int .u64 x, v, .bool true]) ∧ w = w') ∧ Bytes w v rest ∧ ∃ a', v = .slice a' rest.length rest.length := by
  obtain ⟨v, h1, h2, h3⟩ := take_all a n c zs rest x w hB hn hnc hx
  exact ⟨v, h1, h2 w hB, h3⟩

set_option maxRecDepth 100000 in
set_option maxHeartbeats 1000000 in
theorem take_no_some (b off n c : Nat) (zs : List Int) (w : World) (hB : Bytes w (.slice (some ⟨b, off, none⟩) n c) zs) (hcell : ∀ j, j < zs.length → w.cell? ⟨b, off + j, none⟩ = some (.int .u8 (zs.getD j 0))) (hn : n = zs.length) (hx : PackMath.Bare zs) :
    Calls Try.prog 35 #[.slice (some ⟨b, off, none⟩) n c] w fun e w' => e = .returned (.tuple #[.int .u64 0, .slice none 0 0, .bool false]) ∧ w = w' := by
  have hbig := hB.1
  rw [← hn] at hbig
  have Hs := Lib.hid hB.2.1
  have Hn := Lib.hid hn; clear hn
  have Hx := Lib.hid hx; clear hx
  have Hc := Lib.hid hcell; clear hcell hB
  go_enter Try.func35, Try.ntmps35
  go_wp2_with fail
  go_step3
  go_wp2_with fail
  go_step3
  go_wp2_with fail
  go_loop [2, 9] (fun v i => ∃ k m : Nat, k ≤ n ∧ i = .int .i64 k ∧ v = .int .u64 m ∧ Hid (Vain zs k m)) (fun _ i => n - (intOf i).toNat)
  case atStart => exact ⟨0, 0, by omega, rfl, rfl, Vain.start zs⟩
  case round =>
    obtain ⟨k, m, hk, rfl, rfl, Hv⟩ := hrel
    by_cases hlt : k < n
    · obtain ⟨d, h1, h2, h3, h4⟩ := Hv.out.at_ Hx.out (by have := Hn.out; omega) Hs.out
      have hc1 := Hc.out k (by have := Hn.out; omega)
      rw [h1] at hc1
      clear h1
      have H3 := Lib.hid h3; clear h3
      have H4 := Lib.hid h4; clear h4
      have hv9 := Hv.out.2.2
      by_cases h9 : k = 9
      · have hk9' : ((k : Int) == 9) = true := beq_iff_eq.2 (by omega)
        by_cases hd1 : 1 < d
        · clear h9
          go_wp2_with fail
          try rw [Exit.noGoto_ret]
          go_ret3
          exact ⟨rfl, rfl⟩
        · have hd0 : d = 0 := by have := H3.out (by omega); omega
          have hz : ((d : Int) == 0) = true := beq_iff_eq.2 (by omega)
          have hk0 : 0 < k := by omega
          have hdd : d ≤ 1 := by omega
          clear h9 hd0 hd1
          go_wp2_with fail
          try rw [Exit.noGoto_ret]
          go_ret3
          exact ⟨rfl, rfl⟩
      · have hk9' : ((k : Int) == 9) = false := beq_eq_false_iff_ne.2 (by omega)
        have hk8 : k ≤ 8 := by omega
        by_cases hge : 128 ≤ d
        · have Hv2 := Lib.hid (H4.out (by omega) hge)
          obtain ⟨f, hf⟩ : ∃ f : Nat, d = f + 128 := ⟨d - 128, by omega⟩
          subst hf
          have hf2 := Hv.out.fits (k := k) (c := f) (by omega) (by omega)
          have hor := or_shift m k f hf2.1 hf2.2
          obtain ⟨m2, Hm2⟩ : ∃ m2 : Nat, Hid (m + 128 ^ k * f = m2) := ⟨_, rfl⟩
          rw [Hm2.out] at hor
          rw [Nat.add_sub_cancel, Hm2.out] at Hv2
          rw [Int.natCast_add] at hc1
          clear hf2 h9
          go_wp2_with fail
          go_round
          case rel => exact ⟨k + 1, m2, by omega, by go_num, rfl, Hv2⟩
          case measure => simp [intOf]; omega
        · have hd0 : d = 0 := by have := H3.out (by omega); omega
          have hz : ((d : Int) == 0) = true := beq_iff_eq.2 (by omega)
          have hk0 : 0 < k := by have := H3.out (by omega); omega
          have hdd : d < 128 := by omega
          clear h9 hd0 hge
          go_wp2_with fail
          try rw [Exit.noGoto_ret]
          go_ret3
          exact ⟨rfl, rfl⟩
    · go_wp2_with fail
      try rw [Exit.noGoto_ret]
      go_ret3
      exact ⟨rfl, rfl⟩

theorem take_no (a : Option Addr) (n c : Nat) (zs : List Int) (w : World) (hB : Bytes w (.slice a n c) zs) (hn : n = zs.length) (hx : PackMath.Bare zs) :
    Calls Try.prog 35 #[.slice a n c] w fun e w' => e = .returned (.tuple #[.int .u64 0, .slice none 0 0, .bool false]) ∧ w = w' := by
  obtain ⟨h1, h2, ⟨a0, c0, h3, h4, h5⟩ | ⟨b, off, c0, h3, h4⟩⟩ := id hB
  · simp only [Value.slice.injEq] at h3
    obtain ⟨rfl, rfl, rfl⟩ := h3
    clear hB hn h1 h2 h4 hx
    go_enter Try.func35, Try.ntmps35
    go_wp2_with fail
    go_step3
    go_wp2_with fail
    go_step3
    go_wp2_with fail
    refine wp_loop_rounds 1 ?_
    rw [rounds_succ]
    go_wp2_with fail
    try rw [Exit.noGoto_ret]
    go_ret3
    exact ⟨rfl, rfl⟩
  · simp only [Value.slice.injEq] at h3
    obtain ⟨rfl, _, rfl⟩ := h3
    exact take_no_some b off n c zs w hB h4 hn hx
end Go.Proofs.Ytfpadcfahfanoaa

/- Package mail, walked: the reader's numbers. No law is proved here. -/
namespace Go.Proofs.Ytfpadcfahfanoaa
open Go.RowKit

/-- a slice of bytes of what came in -/
def GoodB (w0 : World) (v : Value) (zs : List Int) : Prop := ∃ A n C, v = .slice A n C ∧ n = zs.length ∧ n ≤ C ∧ ∀ W, Below w0.heap.size w0 W → Bytes W (.slice A n C) zs
theorem goodB_nil (w0 : World) : GoodB w0 (.slice none 0 0) [] := ⟨none, 0, 0, rfl, rfl, Nat.le_refl _, fun _ _ => bytes_nil _ _ _ (fun _ => rfl)⟩
/-- a number read: a part is filled in, and the reader goes on -/
def rdW (gr : Nat) (p : Addr) (x : Int) (v : Value) (b : Bool) (W : World) : World := ((W.setCell p (.int .i64 x)).setCell ⟨gr, 0, none⟩ v).setCell ⟨gr, 1, none⟩ (.bool b)
theorem rdW_reader {gr : Nat} {p : Addr} {x : Int} {v u : Value} {b d : Bool} {W : World} (h : Whole W gr 48 #[u, .bool d]) (hp : p.block ≠ gr) : Whole (rdW gr p x v b W) gr 48 #[v, .bool b] :=
  ((h.other (p := p) (fun e => hp e.symm) _).set 0 v).set 1 (.bool b)
theorem rdW_other {gr : Nat} {p : Addr} {x : Int} {v : Value} {b : Bool} {W : World} {g : Nat} {t : TypeId} {cs : Array Value} (h : Whole W g t cs) (hg : g ≠ gr) (hp : g ≠ p.block) : Whole (rdW gr p x v b W) g t cs :=
  ((h.other hp _).other (p := ⟨gr, 0, none⟩) hg _).other (p := ⟨gr, 1, none⟩) hg _
theorem rdW_at {gr : Nat} {x : Int} {v : Value} {b : Bool} {W : World} {g i : Nat} {t : TypeId} {cs : Array Value} (h : Whole W g t cs) (hg : g ≠ gr) : Whole (rdW gr ⟨g, i, none⟩ x v b W) g t (cs.setIfInBounds i (.int .i64 x)) :=
  ((h.set i _).other (p := ⟨gr, 0, none⟩) hg _).other (p := ⟨gr, 1, none⟩) hg _
theorem rdW_below {B gr : Nat} {p : Addr} {x : Int} {v : Value} {b : Bool} {w W : World} (h : Below B w W) (hg : B ≤ gr) (hp : B ≤ p.block) : Below B w (rdW gr p x v b W) :=
  ((h.setCell hp _).setCell (p := ⟨gr, 0, none⟩) hg _).setCell (p := ⟨gr, 1, none⟩) hg _
theorem rdW_block {gr : Nat} {p : Addr} {x : Int} {v : Value} {b : Bool} {W : World} {g : Nat} (hg : g ≠ gr) (hp : g ≠ p.block) : (rdW gr p x v b W).heap[g]? = W.heap[g]? :=
  (Below.heap_setCell _ ⟨gr, 1, none⟩ _ g hg).trans ((Below.heap_setCell _ ⟨gr, 0, none⟩ _ g hg).trans (Below.heap_setCell W p _ g hp))
/-- behind k numbers -/
def RdK (w0 : World) (gr : Nat) (ps : Nat → Addr) (s : List Int × Bool) (W0 : World) : Nat → World → Prop
  | 0, W => W = W0
  | k + 1, W => ∃ W1 v, RdK w0 gr ps s W0 k W1 ∧ GoodB w0 v (rdS s (k + 1)).1 ∧ W = rdW gr (ps k) (rdX s k) v (rdS s (k + 1)).2 W1
theorem RdK.reader {w0 : World} {gr : Nat} {ps : Nat → Addr} {s : List Int × Bool} {W0 : World} {v : Value} (h0 : Whole W0 gr 48 #[v, .bool s.2]) (hv : GoodB w0 v s.1) : ∀ {k : Nat} {W : World}, (∀ j, j < k → (ps j).block ≠ gr) → RdK w0 gr ps s W0 k W → ∃ u, Whole W gr 48 #[u, .bool (rdS s k).2] ∧ GoodB w0 u (rdS s k).1
  | 0, W, _, h => by
    obtain rfl : W = W0 := h
    exact ⟨v, h0, hv⟩
  | k + 1, W, hp, ⟨W1, u, h1, h2, h3⟩ => by
    obtain ⟨u1, q1, _⟩ := RdK.reader h0 hv (fun j hj => hp j (by omega)) h1
    subst h3
    exact ⟨u, rdW_reader q1 (hp k (by omega)), h2⟩
theorem RdK.kept {w0 : World} {gr : Nat} {ps : Nat → Addr} {s : List Int × Bool} {W0 : World} {g : Nat} {t : TypeId} {cs : Array Value} (h0 : Whole W0 g t cs) (hg : g ≠ gr) : ∀ {k : Nat} {W : World}, (∀ j, j < k → g ≠ (ps j).block) → RdK w0 gr ps s W0 k W → Whole W g t cs
  | 0, W, _, h => by
    obtain rfl : W = W0 := h
    exact h0
  | k + 1, W, hp, ⟨W1, u, h1, h2, h3⟩ => by
    subst h3
    exact rdW_other (RdK.kept h0 hg (fun j hj => hp j (by omega)) h1) hg (hp k (by omega))
/-- a part stays one that may be filled in -/
def PartAt (W : World) (p : Addr) : Prop := ∃ g i t cs, p = ⟨g, i, none⟩ ∧ Whole W g t cs ∧ i < cs.size
theorem PartAt.cell {W : World} {p : Addr} (h : PartAt W p) : ∃ u, W.cell? p = some u := by
  obtain ⟨g, i, t, cs, rfl, h1, h2⟩ := h
  exact ⟨cs[i], by rw [h1.cell]; exact Array.getElem?_eq_getElem h2⟩
theorem PartAt.free {W : World} {p : Addr} (h : PartAt W p) : W.frozen? p = false := by
  obtain ⟨g, i, t, cs, rfl, h1, h2⟩ := h
  exact h1.free i
theorem PartAt.rdW {gr : Nat} {p q : Addr} {x : Int} {v : Value} {b : Bool} {W : World} (h : PartAt W p) (hp : p.block ≠ gr) (hq : ∃ g i, q = ⟨g, i, none⟩) : PartAt (rdW gr q x v b W) p := by
  obtain ⟨g, i, t, cs, rfl, h1, h2⟩ := h
  obtain ⟨g', i', rfl⟩ := hq
  by_cases e : g = g'
  · subst e
    exact ⟨g, i, t, _, rfl, rdW_at h1 hp, by rw [Array.size_setIfInBounds]; exact h2⟩
  · exact ⟨g, i, t, cs, rfl, rdW_other h1 hp e, h2⟩
theorem RdK.part {w0 : World} {gr : Nat} {ps : Nat → Addr} {s : List Int × Bool} {W0 : World} {p : Addr} (h0 : PartAt W0 p) (hg : p.block ≠ gr) : ∀ {k : Nat} {W : World}, (∀ j, j < k → ∃ g i, ps j = ⟨g, i, none⟩) → RdK w0 gr ps s W0 k W → PartAt W p
  | 0, W, _, h => by
    obtain rfl : W = W0 := h
    exact h0
  | k + 1, W, hp, ⟨W1, u, h1, h2, h3⟩ => by
    subst h3
    exact (RdK.part h0 hg (fun j hj => hp j (by omega)) h1).rdW hg (hp k (by omega))
theorem RdK.below {w0 : World} {gr : Nat} {ps : Nat → Addr} {s : List Int × Bool} {W0 : World} {B : Nat} {w : World} (h0 : Below B w W0) (hg : B ≤ gr) : ∀ {k : Nat} {W : World}, (∀ j, j < k → B ≤ (ps j).block) → RdK w0 gr ps s W0 k W → Below B w W
  | 0, W, _, h => by
    obtain rfl : W = W0 := h
    exact h0
  | k + 1, W, hp, ⟨W1, u, h1, h2, h3⟩ => by
    subst h3
    exact rdW_below (RdK.below h0 hg (fun j hj => hp j (by omega)) h1) hg (hp k (by omega))

set_option maxRecDepth 100000 in
set_option maxHeartbeats 8000000 in
theorem behind_calls (gr : Nat) (u : Value) (A : Option Addr) (n C : Nat) (b ok : Bool) (W : World) (h : Whole W gr 48 #[u, .bool b]) :
    Calls Try.prog 36 #[.pointer (some ⟨gr, 0, none⟩), .slice A n C, .bool ok] W (fun e w' => e = .returned (.tuple #[]) ∧ w' = (W.setCell ⟨gr, 0, none⟩ (.slice A n C)).setCell ⟨gr, 1, none⟩ (.bool (b || !ok))) := by
  have c0 : W.cell? ⟨gr, 0, none⟩ = some u := h.cell 0
  have c1 : W.cell? ⟨gr, 1, none⟩ = some (.bool b) := h.cell 1
  have f0 : W.frozen? ⟨gr, 0, none⟩ = false := h.free 0
  have f1 : W.frozen? ⟨gr, 1, none⟩ = false := h.free 1
  clear h
  cases b with
  | true =>
    go_enter Try.func36, Try.ntmps36
    go_wp2_with fail
    first | go_end0 | refine bodyPost_ret (results_none rfl _ _ _) rfl ?_
    exact ⟨rfl, rfl⟩
  | false =>
    cases ok with
    | true =>
      go_enter Try.func36, Try.ntmps36
      go_wp2_with fail
      first | go_end0 | refine bodyPost_ret (results_none rfl _ _ _) rfl ?_
      exact ⟨rfl, rfl⟩
    | false =>
      go_enter Try.func36, Try.ntmps36
      go_wp2_with fail
      first | go_end0 | refine bodyPost_ret (results_none rfl _ _ _) rfl ?_
      exact ⟨rfl, rfl⟩

set_option maxRecDepth 100000 in
set_option maxHeartbeats 8000000 in
theorem rdnums_calls (w0 : World) (gr h off m : Nat) (ps : Nat → Addr) (s : List Int × Bool) (v : Value) (cs : Array Value) (hoff : off = 0) (hbm : m ≤ 1000) (w : World) (hb0 : Below w0.heap.size w0 w) (hW : Whole w gr 48 #[v, .bool s.2]) (hv : GoodB w0 v s.1) (hgr : w0.heap.size ≤ gr)
    (hP : ∀ j, j < m → PartAt w (ps j) ∧ (ps j).block ≠ gr ∧ w0.heap.size ≤ (ps j).block ∧ h ≠ (ps j).block) (hH : Whole w h 50 cs) (hcs : ∀ j, j < m → cs[j]? = some (.pointer (some (ps j)))) (hhg : h ≠ gr) :
    Calls Try.prog 16 #[.pointer (some ⟨gr, 0, none⟩), .slice (some ⟨h, off, none⟩) m m] w (fun e w' => e = .returned (.tuple #[]) ∧ RdK w0 gr ps s w m w') := by
  have Hb0 := Lib.hid hb0; clear hb0
  have HW := Lib.hid hW; clear hW
  have HV := Lib.hid hv; clear hv
  have HP := Lib.hid hP; clear hP
  have HH := Lib.hid hH; clear hH
  have HCs := Lib.hid hcs; clear hcs
  have Hoff := Lib.hid hoff; clear hoff
  go_enter Try.func16, Try.ntmps16
  go_wp2_with fail
  go_loopw [11] (fun s11 wr => ∃ k : Nat, k ≤ m ∧ s11 = .int .i64 (k : Int) ∧ Hid (RdK w0 gr ps s w k wr)) (fun s11 _ => m - (intOf s11).toNat)
  case atStart => exact ⟨0, Nat.zero_le _, rfl, rfl⟩
  case round =>
    obtain ⟨k, hk, rfl, HK⟩ := hrel
    by_cases hkm : k < m
    · obtain ⟨hp1, hp2, hp3, hp4⟩ := HP.out k hkm
      have hadr : ∀ j, j < k → ∃ g i, ps j = ⟨g, i, none⟩ := fun j hj => by obtain ⟨g, i, _, _, e, _⟩ := (HP.out j (by omega)).1; exact ⟨g, i, e⟩
      have hpk := RdK.part hp1 hp2 hadr HK.out
      obtain ⟨u0, hu0⟩ := hpk.cell
      have hfr := hpk.free
      obtain ⟨g, i, _, _, hps, hg1, _⟩ := hpk
      have hgl := hg1.lt
      have hkh : Whole wr h 50 cs := RdK.kept HH.out hhg (fun j hj => (HP.out j (by omega)).2.2.2) HK.out
      have hcell : wr.cell? ⟨h, off + k, none⟩ = some (.pointer (some ⟨g, i, none⟩)) := by rw [Hoff.out, Nat.zero_add, hkh.cell, HCs.out k hkm, hps]
      have hlt : h < wr.heap.size := hkh.lt
      rw [hps] at hu0 hfr hp2
      have Hps := Lib.hid hps
      have hp2' : g ≠ gr := hp2
      obtain ⟨u, hR, A, n, C, rfl, hn, hnC, hG⟩ := RdK.reader HW.out HV.out (fun j hj => (HP.out j (by omega)).2.1) HK.out
      have hbk : Below w0.heap.size w0 wr := RdK.below Hb0.out hgr (fun j hj => (HP.out j (by omega)).2.2.1) HK.out
      have hBy := hG wr hbk
      obtain ⟨z, b, hs⟩ : ∃ z b, rdS s k = (z, b) := ⟨_, _, rfl⟩
      have Hs := Lib.hid hs
      rw [hs] at hR hn hBy hG
      simp only at hR hn hBy hG
      have j0 : (0 : Int) ≤ (k : Int) := by omega
      have j1 : (k : Int) < (m : Int) := by omega
      have r0 := hR.cell 0
      have HR := Lib.hid hR
      clear hR hs hps hg1 hkh hadr hp1 hp2 hp4 hbk
      rcases PackMath.begins_or z with ⟨x, rest, hbg⟩ | hbare
      · obtain ⟨tv, hcall, hall, a3, rfl⟩ := take_all A n C z rest x wr hBy hn hnC hbg
        obtain ⟨n3, Hn3⟩ : ∃ z, Hid (z = rest.length) := ⟨_, rfl⟩
        rw [← Hn3.out] at hcall hall
        have Hcall := Lib.hid hcall
        obtain ⟨X, HX⟩ : ∃ X, Hid (IntKind.i64.wrap (x : Int) = X) := ⟨_, rfl⟩
        have hX := HX.out
        have h1 : Hid (rd1 (z, b) = (X, (rest, b))) := by show _ = _; rw [rd1_yes hbg, hX]
        have hgood : GoodB w0 (.slice a3 n3 n3) rest := ⟨a3, n3, n3, rfl, Hn3.out, Nat.le_refl _, fun W hW => hall W (hG W hW)⟩
        have HGood := Lib.hid hgood
        clear hcall hall hgood hBy hG hbg
        have Hn := Lib.hid hn; clear hn
        go_wp2_with fail
        refine Hcall.out.mono ?_
        rintro e w4 ⟨rfl, rfl⟩
        go_wp2_with fail
        refine (behind_calls gr _ a3 n3 n3 b true _ (HR.out.other (p := ⟨g, i, none⟩) hp2'.symm _)).mono ?_
        rintro e w5 ⟨rfl, hw5⟩
        have hnext : RdK w0 gr ps s w (k + 1) w5 := by
          refine ⟨wr, .slice a3 n3 n3, HK.out, ?_, ?_⟩
          · show GoodB w0 _ (rd1 (rdS s k)).2.1
            rw [Hs.out, h1.out]; exact HGood.out
          · show w5 = rdW gr (ps k) (rd1 (rdS s k)).1 _ (rd1 (rdS s k)).2.2 wr
            rw [Hs.out, h1.out, Hps.out, hw5]
            cases b <;> rfl
        have HNext := Lib.hid hnext
        clear hnext hw5 hX
        go_wp2_with fail
        go_roundw
        case rel => exact ⟨k + 1, by omega, by go_num, HNext.out⟩
        case measure => simp [intOf]; omega
      · have hcall := take_no A n C z wr hBy hn hbare
        have Hcall := Lib.hid hcall
        have h1 : Hid (rd1 (z, b) = (0, ([], true))) := rd1_no hbare
        clear hcall hBy hG hbare
        have Hn := Lib.hid hn; clear hn
        go_wp2_with fail
        refine Hcall.out.mono ?_
        rintro e w4 ⟨rfl, rfl⟩
        go_wp2_with fail
        refine (behind_calls gr _ none 0 0 b false _ (HR.out.other (p := ⟨g, i, none⟩) hp2'.symm _)).mono ?_
        rintro e w5 ⟨rfl, hw5⟩
        have hnext : RdK w0 gr ps s w (k + 1) w5 := by
          refine ⟨wr, .slice none 0 0, HK.out, ?_, ?_⟩
          · show GoodB w0 _ (rd1 (rdS s k)).2.1
            rw [Hs.out, h1.out]; exact goodB_nil _
          · show w5 = rdW gr (ps k) (rd1 (rdS s k)).1 _ (rd1 (rdS s k)).2.2 wr
            rw [Hs.out, h1.out, Hps.out, hw5]
            cases b <;> rfl
        have HNext := Lib.hid hnext
        clear hnext hw5
        go_wp2_with fail
        go_roundw
        case rel => exact ⟨k + 1, by omega, by go_num, HNext.out⟩
        case measure => simp [intOf]; omega
    · obtain rfl : k = m := by omega
      go_wp2_with fail
      first | go_end0 | refine bodyPost_ret (results_none rfl _ _ _) rfl ?_
      exact ⟨rfl, HK.out⟩
end Go.Proofs.Ytfpadcfahfanoaa
