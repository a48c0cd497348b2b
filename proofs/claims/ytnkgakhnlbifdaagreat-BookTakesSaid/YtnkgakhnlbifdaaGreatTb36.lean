/- Parts, as far as BookTakesCards reaches them, of: RightsOwn, RightsNewOwn, BookNewK, BookStand, AppStill. No law is proved here. -/
import Derived.Test.YtnkgakhnlbifdaaGreatTb1
import Derived.WalkKit
import Derived.ProofKit
import Derived.OpenShut
import Derived.WalkSpells
import Derived.Laws.AppendOwn
import Derived.Laws.AppendOwnNone
import Derived.Laws.OwnMore
import Derived.Lib.Hide
import Derived.Deep.Draws
import Derived.Deep.Slices
import Derived.Deep.Fields
import Derived.ChangeSame
import Derived.RegionTactic
import Derived.Maps.AppendAt
import Derived.Lib.SmallJoins
import Derived.RangeFuncNested
import Derived.RangeFuncBound
import Derived.RangeFuncLeaves
import Derived.RangeFuncBox
import Derived.Laws.MakeOwn
import Derived.LoopTactic
import Derived.BigRegion
import Derived.Test.YtnkgakhnlbifdaaGreatTb26
import Derived.WalkLawsBesides
import Derived.IntWalk
import Derived.WalkSmall
import Derived.Deep.QuietTactic
import Derived.BigQuiet
import Derived.Deep.RegionHeld3
import Derived.Test.YtnkgakhnlbifdaaGreatTb22
import Derived.Test.YtnkgakhnlbifdaaGreatTb4
import Derived.Test.YtnkgakhnlbifdaaGreatTb2
import Derived.Test.YtnkgakhnlbifdaaGreatTb33
import Derived.Test.YtnkgakhnlbifdaaGreatTb6
import Derived.Test.YtnkgakhnlbifdaaGreatTbQ
import Derived.Test.YtnkgakhnlbifdaaGreatTb34
import Derived.Test.YtnkgakhnlbifdaaGreatTb35
import Derived.Test.YtnkgakhnlbifdaaGreatTb28
import Derived.Test.YtnkgakhnlbifdaaGreatTb11
import Derived.Test.YtnkgakhnlbifdaaGreatTb0
namespace Go.Proofs.YtnkgakhnlbifdaaGreat
open Go.RowKit
theorem own_block {w : World} {base : Nat} {e : TypeId} {sz n : Nat} {v : Value} {f : Nat → Nat → Value} (h : w.ownsRow base e sz v n (flatCells sz n f)) (hn : 0 < n) :
 ∃ b cap, v = .slice (some ⟨b, 0, none⟩) n cap ∧ base ≤ b ∧ b < w.heap.size ∧ (∀ o, w.frozen? ⟨b, o, none⟩ = false) ∧ ∀ p q, p < n → q < sz → w.cell? ⟨b, p * sz + q, none⟩ = some (f p q) := by
 obtain ⟨hl, ⟨_, h0⟩ | ⟨g, cap, cur, rfl, hb, hh, h1, h2, h3, h4⟩⟩ := h
 · omega
 · refine ⟨g, cap, rfl, hb, (Array.getElem?_eq_some_iff.1 hh).1, fun o => Whole.free (w := w) (g := g) (t := e) (cs := cur) hh o, fun p q hp hq => ?_⟩
   have hlt : p * sz + q < n * sz := by
    have : (p + 1) * sz ≤ n * sz := Nat.mul_le_mul_right sz hp
    rw [Nat.succ_mul] at this
    omega
   rw [Whole.cell (w := w) (g := g) (t := e) (cs := cur) hh, ← flat_at sz n f p q hp hq, ← h4, List.getElem?_take_of_lt hlt, Array.getElem?_toList]
theorem ownG_core {w0 w1 w2 : World} {base b : Nat} {v u : Value} {l : List Rw} {r : Rw} {g : Nat → Value} (h : OwnG w0 base v l g) (hb : Below w0.heap.size w0 w1) (hw : base ≤ w0.heap.size)
 (hu : w1.ownsRow w0.heap.size 2 1 u r.out.length (r.out.map (Value.int .i64))) (hus : ∃ A C, u = .slice A r.out.length C) {k : Nat} (hk : k < l.length) (hv : v.ownBlock = some b)
 (hrow : w2.ownsRow base 109 3 v l.length (flatCells 3 l.length (rowCell (l.set k r) (fun i => if i = k then u else g i))))
 (keep : ∀ (b2 n2 : Nat) (v2 : Value) (xs2 : List Value), v2.ownBlock ≠ some b → w1.ownsRow b2 2 1 v2 n2 xs2 → w2.ownsRow b2 2 1 v2 n2 xs2) :
 OwnG w2 base v (l.set k r) (fun i => if i = k then u else g i) := by
 obtain ⟨h1, h2, h3⟩ := h
 have hvb : b < w0.heap.size := (h1.lt b hv).2
 have hub : u.ownBlock ≠ some b := fun e => by have := (hu.lt b e).1; omega
 refine ⟨by rw [List.length_set]; exact hrow, fun p hp => ?_, fun i j b' hi hj hbi hbj => ?_⟩
 · rw [List.length_set] at hp
   rw [at_set hk]
   by_cases hpk : p = k
   · simp only [if_pos hpk]
     exact ⟨hus, keep _ _ _ _ hub (own_base hu hw)⟩
   · simp only [if_neg hpk]
     obtain ⟨e, h4⟩ := h2 p hp
     exact ⟨e, keep _ _ _ _ (own_apart h1 h4 (by decide) hv) (own_later h4 hb)⟩
 · rw [List.length_set] at hi hj
   have hlt : ∀ k, k < l.length → (g k).ownBlock = some b' → b' < w0.heap.size := fun k hk e => ((h2 k hk).2.lt b' e).2
   have hge : u.ownBlock = some b' → w0.heap.size ≤ b' := fun e => (hu.lt b' e).1
   by_cases hik : i = k
   · by_cases hjk : j = k
     · omega
     · simp only [if_pos hik] at hbi
       simp only [if_neg hjk] at hbj
       have := hlt j hj hbj
       have := hge hbi
       omega
   · by_cases hjk : j = k
     · simp only [if_neg hik] at hbi
       simp only [if_pos hjk] at hbj
       have := hlt i hi hbi
       have := hge hbj
       omega
     · simp only [if_neg hik] at hbi
       simp only [if_neg hjk] at hbj
       exact h3 i j b' hi hj hbi hbj
theorem ownG_list {w0 w1 : World} {base : Nat} {v u : Value} {l : List Rw} {r : Rw} {g : Nat → Value} (h : OwnG w0 base v l g) (hb : Below w0.heap.size w0 w1) (hw : base ≤ w0.heap.size)
 (hu : w1.ownsRow w0.heap.size 2 1 u r.out.length (r.out.map (Value.int .i64))) (hus : ∃ A C, u = .slice A r.out.length C) {k : Nat} (hk : k < l.length) (hi : r.inc = (at_ l k).inc) (hu2 : r.use = (at_ l k).use) :
 ∃ b cap, v = .slice (some ⟨b, 0, none⟩) l.length cap ∧ base ≤ b ∧ b < w0.heap.size ∧ (∀ o, w1.frozen? ⟨b, o, none⟩ = false) ∧ (∀ p q, p < l.length → q < 3 → w1.cell? ⟨b, p * 3 + q, none⟩ = some (rowCell l g p q)) ∧
   OwnG (w1.setCell ⟨b, k * 3 + 2, none⟩ u) base v (l.set k r) (fun i => if i = k then u else g i) := by
 have h1 := own_later h.1 hb
 obtain ⟨b, cap, hv, hbb, _, hfz, hc⟩ := own_block h1 (by omega)
 have hvo : v.ownBlock = some b := by rw [hv]; rfl
 have hvb : b < w0.heap.size := (h.1.lt b hvo).2
 obtain ⟨b3, c3, e3, _, _, _, _, s3⟩ := own_set (f' := rowCell (l.set k r) (fun i => if i = k then u else g i)) (x := u) h1 hk (j := 2) (by decide) (fun p q hp hq => by
  unfold rowCell
  rw [at_set hk]
  by_cases hpk : p = k
  · subst hpk
    match q, hq with
    | 0, _ => simp [hi]
    | 1, _ => simp [hu2]
    | 2, _ => simp
  · simp [hpk])
 obtain rfl : b3 = b := by rw [hv] at e3; simp only [Value.slice.injEq, Option.some.injEq, Addr.mk.injEq] at e3; exact e3.1.1.symm
 refine ⟨b3, cap, hv, hbb, hvb, hfz, hc, ownG_core h hb hw hu hus hk hvo s3 (fun bb n2 v2 xs2 hne hr => ?_)⟩
 exact hr.kept (grownBy_set w1 ⟨b3, k * 3 + 2, none⟩ _) (.inr hne)
def bare : Rw := ⟨0, 0, []⟩
def part (L : List Rw) (k : Nat) : List Rw := L.take k ++ List.replicate (L.length - k) bare
theorem part_length {L : List Rw} {k : Nat} (h : k ≤ L.length) : (part L k).length = L.length := by
 unfold part; rw [List.length_append, List.length_take, List.length_replicate]; omega
theorem part_zero (L : List Rw) : part L 0 = List.replicate L.length bare := by simp [part]
theorem part_all (L : List Rw) : part L L.length = L := by simp [part]
theorem part_at {L : List Rw} {k : Nat} (h : k < L.length) : at_ (part L k) k = bare := by
 unfold at_ part
 rw [List.getElem?_append_right (by rw [List.length_take]; omega), List.length_take]
 rw [show k - min k L.length = 0 by omega, List.getElem?_replicate, if_pos (by omega)]
 rfl
theorem part_set {L : List Rw} {k : Nat} (h : k < L.length) : (part L k).set k (at_ L k) = part L (k + 1) := by
 unfold part
 rw [List.set_append_right _ _ (by rw [List.length_take]; omega), List.length_take]
 rw [show k - min k L.length = 0 by omega, show L.length - k = (L.length - (k + 1)) + 1 by omega, List.replicate_succ, List.set_cons_zero, take_at h]
 rw [List.append_assoc]; rfl
theorem made_rows (n : Nat) : (madeCells #[.int .i64 0, .int .i64 0, .slice none 0 0] (n * 3)).toList = flatCells 3 n (rowCell (List.replicate n bare) (fun _ => .slice none 0 0)) := by
 apply List.ext_getElem?
 intro i
 by_cases hi : i < n * 3
 · obtain ⟨p, q, hp, hq, rfl⟩ := flat_split (sz := 3) n hi
   rw [flat_at 3 n _ p q hp hq]
   unfold madeCells
   have hm : (p * 3 + q) % 3 = q := by omega
   have hat : at_ (List.replicate n bare) p = bare := by simp [at_, hp]
   rw [Array.getElem?_toList, Array.getElem?_map]
   rw [show (Array.range (n * 3))[p * 3 + q]? = some (p * 3 + q) by simp [hi]]
   unfold rowCell
   rw [hat]
   match q, hq, hm with
   | 0, _, _ => simp; rfl
   | 1, _, hm => simp [hm]; rfl
   | 2, _, hm => simp [hm]
 · rw [List.getElem?_eq_none (by simp [madeCells]; omega), List.getElem?_eq_none (by rw [flat_length]; omega)]
theorem own_bare (w : World) (n : Nat) (hn : n ≤ maxLen) : OwnBooks (w.alloc (.cells (madeCells #[.int .i64 0, .int .i64 0, .slice none 0 0] (n * 3)) 109)) w.heap.size (.slice (some ⟨w.heap.size, 0, none⟩) n n) (List.replicate n bare) := by
 refine ⟨fun _ => .slice none 0 0, ?_, fun k hk => ?_, fun i j b hi hj hbi => ?_⟩
 · have := own_whole (w := w.alloc (.cells (madeCells #[.int .i64 0, .int .i64 0, .slice none 0 0] (n * 3)) 109)) (base := w.heap.size) (n := n) (Whole.made w _ _) (Nat.le_refl _) (made_rows n) hn
   rw [List.length_replicate]; exact this
 · rw [List.length_replicate] at hk
   have hat : at_ (List.replicate n bare) k = bare := by simp [at_, hk]
   rw [hat]
   exact ⟨⟨none, 0, rfl⟩, World.ownsRow_nil _ _ _ _⟩
 · simp [Value.ownBlock] at hbi
end Go.Proofs.YtnkgakhnlbifdaaGreat
namespace Go.Proofs.YtnkgakhnlbifdaaGreat
open Go.RowKit
set_option maxRecDepth 100000 in
set_option maxHeartbeats 8000000 in
theorem rNew_own (c : Cf) (w : World) : Calls Tryz.prog 56 #[cfV c] w (fun e w' => ∃ A C B, e = .returned (.slice A (newL c).length C) ∧ w.heap.size ≤ B ∧ OwnBooks w' B (.slice A (newL c).length C) (newL c) ∧ Below w.heap.size w w') := by
 have HW := Lib.hid (Whole.made w 23 (cfCells c))
 have Hb0 := Lib.hid (below_box w (.cells (cfCells c) 23))
 obtain ⟨n, q, r, p, kk, cc⟩ := c
 obtain ⟨ok, Hok⟩ : ∃ z, Hid (cfB ⟨n, q, r, p, kk, cc⟩ = z) := ⟨_, rfl⟩
 obtain ⟨L, HL⟩ : ∃ L, Hid (newL ⟨n, q, r, p, kk, cc⟩ = L) := ⟨_, rfl⟩
 rw [HL.out]
 go_enter Tryz.func56, Tryz.ntmps56
 go_wp2_with fail
 refine (rMay_calls ⟨n, q, r, p, kk, cc⟩ _).mono ?_
 rintro e w1 ⟨rfl, hb⟩
 rw [Hok.out]
 have Hb1 := Lib.hid (held_next Hb0.out hb)
 have HW1 := Lib.hid (HW.out.later hb HW.out.lt)
 clear hb
 cases ok with
 | false =>
   obtain rfl : L = [] := HL.out.symm.trans (if_neg fun h => by
    have := cfB_yes h
    rw [Hok.out] at this
    cases this)
   go_wp2_with fail
   go_ret
   exact ⟨none, 0, _, by rfl, Nat.le_refl _, ownBooks_nil _ _, Hb1.out⟩
 | true =>
   have hok := cfB_ok Hok.out
   obtain ⟨m, hmn⟩ : ∃ m : Nat, n = (m : Int) := ⟨n.toNat, by have := hok.1; simp only at this; omega⟩
   subst hmn
   have h16 : m ≤ 16 := by have := hok.2.1; simp only at this; omega
   have hl : L = List.replicate m (zeroRow m) := by
    rw [← HL.out]
    unfold newL
    rw [if_pos hok]; rfl
   have Hll : Hid (L.length = m) := by rw [hl]; exact List.length_replicate
   have Hat : Hid (∀ k, k < m → at_ L k = zeroRow m) := fun k hk => by rw [hl]; simp [at_, hk]
   have Hhl := Lib.hid hl
   clear hok hl
   have hmk1 : ∀ w : World, (Instr.makeSlice 26 (.int .i64 (m : Int)) (.int .i64 (m : Int))).run Tryz.prog w = .ok (.slice (some ⟨w.heap.size, 0, none⟩) m m) (w.alloc (.cells (madeCells #[.int .i64 0, .int .i64 0, .slice none 0 0] (m * 3)) 109)) := by
    intro w
    obtain ⟨i0, hi, hz0, hz1, hz2⟩ := info_parts info_row
    have := run_make (P := Tryz.prog) w 26 109 i0 (.agg #[.int .i64 0, .int .i64 0, .slice none 0 0]) Tryz.underlying26 hi hz0 .i64 .i64 (m : Int) (m : Int) (by omega) (by omega) (by rw [hz2]; omega) (by omega)
    simpa [hz1, show (Value.agg #[.int .i64 0, .int .i64 0, .slice none 0 0]).cells = #[.int .i64 0, .int .i64 0, .slice none 0 0] from rfl] using this
   have hmk : ∀ w : World, (Instr.makeSlice 33 (.int .i64 (m : Int)) (.int .i64 (m : Int))).run Tryz.prog w = .ok (.slice (some ⟨w.heap.size, 0, none⟩) m m) (w.alloc (.cells (madeCells #[.int .i64 0] m) 2)) := by
    intro w
    obtain ⟨i0, hi, hz0, hz1, hz2⟩ := info_parts info_int64
    have := run_make (P := Tryz.prog) w 33 2 i0 (.int .i64 0) Tryz.underlying33 hi hz0 .i64 .i64 (m : Int) (m : Int) (by omega) (by omega) (by rw [hz2]; omega) (by omega)
    simpa [hz1, show (Value.int .i64 0).cells = #[.int .i64 0] from rfl] using this
   have d0 : w1.cell? ⟨w.heap.size, 0, none⟩ = some (.int .i64 (m : Int)) := HW1.out.cell 0
   have hlw : w.heap.size < w1.heap.size := HW1.out.lt
   have HO1 : Hid (OwnBooks (w1.alloc (.cells (madeCells #[.int .i64 0, .int .i64 0, .slice none 0 0] (m * 3)) 109)) w1.heap.size (.slice (some ⟨w1.heap.size, 0, none⟩) m m) (part L 0)) := by
    rw [part_zero, Hll.out]; exact own_bare w1 m (by unfold maxLen; omega)
   have Hb2 : Hid (Below w1.heap.size w1 (w1.alloc (.cells (madeCells #[.int .i64 0, .int .i64 0, .slice none 0 0] (m * 3)) 109))) := below_box _ _
   go_wp2_with fail
   clear d0
   go_loopw [13] (fun x wr => ∃ k : Nat, k ≤ m ∧ x = .int .i64 k ∧ Hid (OwnBooks wr w1.heap.size (.slice (some ⟨w1.heap.size, 0, none⟩) m m) (part L k)) ∧ Hid (Below w1.heap.size w1 wr)) (fun x _ => m - (intOf x).toNat)
   case atStart => exact ⟨0, Nat.zero_le _, rfl, HO1.out, Hb2.out⟩
   case round =>
    obtain ⟨k, hk, rfl, HO, Hb⟩ := hrel
    by_cases hlt : k < m
    · obtain ⟨g, hG⟩ := HO.out
      have hkl : k < L.length := by rw [Hll.out]; exact hlt
      have hzr := Hat.out k hlt
      have hzl : (zeroRow m).out.length = m := by simp [zeroRow]
      have hpl : (part L k).length = m := by rw [part_length (by omega), Hll.out]
      have d0 : wr.cell? ⟨w.heap.size, 0, none⟩ = some (.int .i64 (m : Int)) := (HW1.out.later Hb.out HW1.out.lt).cell 0
      have hlw2 : w.heap.size < wr.heap.size := by have := Hb.out.size; omega
      have q1 : (wr.alloc (.cells (madeCells #[.int .i64 0] m) 2)).ownsRow wr.heap.size 2 1 (.slice (some ⟨wr.heap.size, 0, none⟩) m m) m ((zeroRow m).out.map (Value.int .i64)) := by
       have := own_whole (n := m) (sz := 1) (f := fun q _ => .int .i64 ((zeroRow m).out[q]?.getD 0)) (Whole.made wr 2 (madeCells #[.int .i64 0] m)) (Nat.le_refl _) (by rw [made_flat]; have := flat_one (zeroRow m).out; rw [show (zeroRow m).out.length = m by simp [zeroRow]] at this; exact this) (by unfold maxLen; omega)
       have e := flat_one (zeroRow m).out
       rw [show (zeroRow m).out.length = m by simp [zeroRow]] at e
       rw [e]; exact this
      have hb3 : Below wr.heap.size wr (wr.alloc (.cells (madeCells #[.int .i64 0] m) 2)) := below_box _ _
      obtain ⟨bb, cap, hv, hbb, hblt, hfz, hcs, hG2⟩ := ownG_list (r := zeroRow m) hG hb3 Hb.out.size (by rw [hzl]; exact q1) ⟨_, _, by rw [hzl]⟩ (k := k) (by rw [hpl]; exact hlt) (by rw [part_at hkl]; rfl) (by rw [part_at hkl]; rfl)
      simp only [Value.slice.injEq, Option.some.injEq, Addr.mk.injEq] at hv
      have hbeq := hv.1.1
      clear hv
      subst hbeq
      rw [← hzr, part_set hkl] at hG2
      have HO2 : Hid (OwnBooks ((wr.alloc (.cells (madeCells #[.int .i64 0] m) 2)).setCell ⟨w1.heap.size, k * 3 + 2, none⟩ (.slice (some ⟨wr.heap.size, 0, none⟩) m m)) w1.heap.size (.slice (some ⟨w1.heap.size, 0, none⟩) m m) (part L (k + 1))) := ⟨_, hG2⟩
      have Hbn : Hid (Below w1.heap.size w1 ((wr.alloc (.cells (madeCells #[.int .i64 0] m) 2)).setCell ⟨w1.heap.size, k * 3 + 2, none⟩ (.slice (some ⟨wr.heap.size, 0, none⟩) m m))) := (Hb.out.trans (hb3.mono Hb.out.size)).setCell (p := ⟨w1.heap.size, k * 3 + 2, none⟩) (Nat.le_refl _) _
      have z2 := hcs k 2 (by rw [hpl]; exact hlt) (by decide)
      have y2 := hfz (k * 3 + 2)
      have hsp : (wr.alloc (.cells (madeCells #[.int .i64 0] m) 2)).setCell ⟨w1.heap.size, k * 3 + 2, none⟩ (.slice (some ⟨wr.heap.size, 0, none⟩) m m) = (wr.setCell ⟨w1.heap.size, k * 3 + 2, none⟩ (.slice (some ⟨wr.heap.size, 0, none⟩) m m)).alloc (.cells (madeCells #[.int .i64 0] m) 2) := World.setCell_alloc_past _ _ _ _ hblt
      rw [hsp] at HO2 Hbn
      clear hG hG2 hcs hfz q1 hb3 hzr hzl hpl hsp
      have k0 : (0 : Int) ≤ (k : Int) := by omega
      have k1 : (k : Int) < (m : Int) := by omega
      have hbm : m ≤ 9223372036854775807 := by omega
      go_wp2
      go_roundw
      case rel => exact ⟨k + 1, by omega, by go_num, HO2.out, Hbn.out⟩
      case measure => simp [intOf]; omega
    · have hkm : k = m := by omega
      have hO := HO.out
      rw [hkm, ← Hll.out, part_all, Hll.out] at hO
      have HBk := Lib.hid hO
      have Hkm := Lib.hid hkm
      clear hkm hO
      go_wp2
      go_ret
      exact ⟨_, _, _, by rw [Hll.out]; rfl, Hb1.out.size, by rw [Hll.out]; exact HBk.out, held_next Hb1.out Hb.out⟩
end Go.Proofs.YtnkgakhnlbifdaaGreat
namespace Go.Proofs.YtnkgakhnlbifdaaGreat
open Go.RowKit
set_option maxRecDepth 100000 in
set_option maxHeartbeats 8000000 in
theorem kNew_calls (c : Cf) (who : Int) (w : World) : Calls Tryz.prog 18 #[cfV c, .int .i64 who] w (GaveK w (newK c who)) := by
 have HW := Lib.hid ((Whole.made w 23 (cfCells c)).alloc (.cells (bkCells bk0 (.slice none 0 0) (.slice none 0 0) (.slice none 0 0) (.slice none 0 0) (.slice none 0 0) (.slice none 0 0) (.slice none 0 0)) 37))
 have HZ := Lib.hid (Whole.made2 w (.cells (cfCells c) 23) 37 (bkCells bk0 (.slice none 0 0) (.slice none 0 0) (.slice none 0 0) (.slice none 0 0) (.slice none 0 0) (.slice none 0 0) (.slice none 0 0)))
 have Hb0 := Lib.hid (below_two w (.cells (cfCells c) 23) (.cells (bkCells bk0 (.slice none 0 0) (.slice none 0 0) (.slice none 0 0) (.slice none 0 0) (.slice none 0 0) (.slice none 0 0) (.slice none 0 0)) 37))
 obtain ⟨nn, q, r, p, kk, cc⟩ := c
 obtain ⟨ok, Hok⟩ : ∃ z, Hid (amB ⟨nn, q, r, p, kk, cc⟩ who = z) := ⟨_, rfl⟩
 obtain ⟨res, Hres⟩ : ∃ z, Hid (newK ⟨nn, q, r, p, kk, cc⟩ who = z) := ⟨_, Lib.hid rfl⟩
 have hcall := fun w => kamong_calls ⟨nn, q, r, p, kk, cc⟩ who w
 rw [Hok.out] at hcall
 have Hcall := Lib.hid hcall
 clear hcall
 rw [Hres.out]
 go_enter Tryz.func18, Tryz.ntmps18
 go_wp2_with fail
 refine (Hcall.out _).mono ?_
 rintro e w1 ⟨rfl, hb⟩
 have Hb1 := Lib.hid (held_next Hb0.out hb)
 have HW1 := Lib.hid (HW.out.later hb HW.out.lt)
 have HZ1 := Lib.hid (HZ.out.later hb HZ.out.lt)
 clear hb
 have hlt1 := HZ1.out.lt
 obtain ⟨d0, d1, d2, d3, d4, d5⟩ := config_cells HW1.out
 simp only at d0 d1 d2 d3 d4 d5
 by_cases hall : cfOk ⟨nn, q, r, p, kk, cc⟩ ∧ 0 ≤ who ∧ who < nn
 · obtain ⟨hc, hw0, hwn⟩ := hall
   obtain rfl : ok = true := Hok.out.symm.trans (decide_eq_true ⟨hc, hw0, hwn⟩)
   obtain ⟨N, hN⟩ : ∃ N : Nat, nn = (N : Int) := ⟨nn.toNat, by have h : 1 ≤ nn := hc.1; omega⟩
   subst hN
   have h16 : N ≤ 16 := by have h : (N : Int) ≤ 16 := hc.2.1; omega
   obtain ⟨L, HL⟩ : ∃ z, Hid (newL ⟨(N : Int), q, r, p, kk, cc⟩ = z) := ⟨_, Lib.hid rfl⟩
   have hlen : L.length = N ∧ ∀ k, k < L.length → (at_ L k).out.length ≤ 1000 := by
    have e : newL ⟨(N : Int), q, r, p, kk, cc⟩ = List.replicate N (zeroRow N) := by
     show (if cfOk ⟨(N : Int), q, r, p, kk, cc⟩ then List.replicate ((N : Int)).toNat (zeroRow ((N : Int)).toNat) else []) = _
     rw [if_pos hc, Int.toNat_natCast]
    rw [← HL.out, e]
    refine ⟨List.length_replicate, fun k hk => ?_⟩
    rw [List.length_replicate] at hk
    unfold at_
    rw [List.getElem?_replicate, if_pos hk]
    show (zeroRow N).out.length ≤ 1000
    simp only [zeroRow, List.length_replicate]
    omega
   have Hlen := Lib.hid hlen
   have hx : newK ⟨(N : Int), q, r, p, kk, cc⟩ who = (⟨0, L, [], [], 0, List.replicate N nt0, au0⟩, 0) := by
    show (if cfOk ⟨(N : Int), q, r, p, kk, cc⟩ ∧ 0 ≤ who ∧ who < (N : Int) then _ else _) = _
    rw [if_pos ⟨hc, hw0, hwn⟩, HL.out]
    show (_, _) = (_, _)
    rw [Int.toNat_natCast]
   obtain rfl : res = (⟨0, L, [], [], 0, List.replicate N nt0, au0⟩, 0) := Hres.out.symm.trans hx
   have g1 : ¬ who < 0 := by omega
   have g2 : ¬ (N : Int) ≤ who := by omega
   have Hc := Lib.hid hc
   clear hc hx hlen hwn hw0
   have hmk : ∀ w : World, (Instr.makeSlice 29 (.int .i64 (N : Int)) (.int .i64 (N : Int))).run Tryz.prog w = .ok (.slice (some ⟨w.heap.size, 0, none⟩) N N) (w.alloc (.cells (madeCells zero7 (N * 7)) 71)) := fun w => run_make_notes (by omega)
   go_wp2_with fail
   refine wp_region_each_at ?hm ?hb (fun a0 d a' w' => ∃ (e0 e1 e2 e3 e4 e5 e7 : Value) (A1 : Option Addr) (C1 g4 : Nat), a' = putAll a0 [(11, e0), (12, e1), (13, e2), (14, e3), (15, e4), (16, e5), (5, e7)] ∧ Below w.heap.size w w' ∧ (d 0 = true → e0 = (cfV ⟨(N : Int), q, r, p, kk, cc⟩)) ∧ (d 1 = true → (e1 = .slice A1 L.length C1 ∧ ∃ B, w1.heap.size ≤ B ∧ OwnBooks w' B (.slice A1 L.length C1) L)) ∧ (d 2 = true → e2 = (.pointer (some ⟨w.heap.size, 0, none⟩))) ∧ (d 3 = true → e3 = (.int .i64 (N : Int))) ∧ (d 4 = true → (e4 = .slice (some ⟨g4, 0, none⟩) N N ∧ Notes w' (.slice (some ⟨g4, 0, none⟩) N N) (List.replicate N nt0) ∧ w1.heap.size ≤ g4)) ∧ (d 5 = true → (d 1 = true ∧ d 4 = true ∧ e5 = .agg (bkCells ⟨0, L, [], [], 0, List.replicate N nt0, au0⟩ (.slice A1 L.length C1) (.slice none 0 0) (.slice none 0 0) (.slice (some ⟨g4, 0, none⟩) N N) (.slice none 0 0) (.slice none 0 0) (.slice none 0 0)))) ∧ (d 6 = true → (d 1 = true ∧ d 4 = true ∧ d 5 = true ∧ Whole w' (w.heap.size + 1) 37 (bkCells ⟨0, L, [], [], 0, List.replicate N nt0, au0⟩ (.slice A1 L.length C1) (.slice none 0 0) (.slice none 0 0) (.slice (some ⟨g4, 0, none⟩) N N) (.slice none 0 0) (.slice none 0 0) (.slice none 0 0)))) ∧ (d 7 = true → (e7 = .int .i64 0)) ∧ (d 6 = false → Whole w' (w.heap.size + 1) 37 (bkCells bk0 (.slice none 0 0) (.slice none 0 0) (.slice none 0 0) (.slice none 0 0) (.slice none 0 0) (.slice none 0 0) (.slice none 0 0))) ∧ Whole w' w.heap.size 23 (cfCells ⟨(N : Int), q, r, p, kk, cc⟩) ∧ w1.heap.size ≤ w'.heap.size) ?h0 ?step ?ends
   case hm => kernel_rfl
   case hb => kernel_rfl
   case h0 =>
    refine ⟨undef, undef, undef, undef, undef, undef, .int .i64 0, none, 0, 0, ?_, Hb1.out.drew, fun h => absurd h (by decide), fun h => absurd h (by decide), fun h => absurd h (by decide), fun h => absurd h (by decide), fun h => absurd h (by decide), fun h => absurd h (by decide), fun h => absurd h (by decide), fun h => absurd h (by decide), fun _ => HZ1.out.drew, HW1.out.drew, Nat.le_refl _⟩
    simp only [putAll, Act.put, qA, qB, qC]
   case step =>
    intro i d a' w' hi hJ hd hk
    obtain ⟨e0, e1, e2, e3, e4, e5, e7, A1, C1, g4, rfl, hC⟩ := hJ
    obtain ⟨hB, hC⟩ := hC
    obtain ⟨c0, hC⟩ := hC
    obtain ⟨c1, hC⟩ := hC
    obtain ⟨c2, hC⟩ := hC
    obtain ⟨c3, hC⟩ := hC
    obtain ⟨c4, hC⟩ := hC
    obtain ⟨c5, hC⟩ := hC
    obtain ⟨c6, hC⟩ := hC
    obtain ⟨c7, hC⟩ := hC
    obtain ⟨cg, hC⟩ := hC
    obtain ⟨cw, hC⟩ := hC
    have cz := hC
    clear hC
    match i, hi, hd, hk with
    | 0, _, hd, hk =>
      obtain ⟨z0, z1, z2, z3, z4, z5⟩ := config_cells cw
      simp only at z0 z1 z2 z3 z4 z5
      apply wpOp_at
      case ho => rfl
      intro K hK
      simp only [putAll, Act.put, qA, qB, qC]
      go_simp
      refine hK _ _ ⟨(cfV ⟨(N : Int), q, r, p, kk, cc⟩), e1, e2, e3, e4, e5, e7, A1, C1, g4, ?_, hB, fun _ => rfl, c1, c2, c3, c4, c5, c6, c7, cg, cw, cz⟩
      simp only [putAll, Act.put, qA, qB, qC]
      all_goals rfl
    | 1, _, hd, hk =>
      have h0 : d 0 = true := hk 0 (by decide +kernel)
      obtain rfl := c0 h0
      apply wpOp_at
      case ho => rfl
      intro K hK
      simp only [putAll, Act.put, qA, qB, qC]
      go_simp
      refine (rNew_own ⟨(N : Int), q, r, p, kk, cc⟩ w').mono ?_
      rw [HL.out]
      rintro e w'' ⟨A, C, B9, rfl, hB9, hO, hb⟩
      refine hK _ _ ⟨(cfV ⟨(N : Int), q, r, p, kk, cc⟩), .slice A L.length C, e2, e3, e4, e5, e7, A, C, g4, ?_, hB.trans (hb.mono hB.size), c0, fun _ => ⟨rfl, B9, Nat.le_trans cz hB9, hO⟩, c2, c3, fun h => ⟨(c4 h).1, (c4 h).2.1.later hb, (c4 h).2.2⟩, fun h => Bool.noConfusion (hd.symm.trans (c5 h).1), fun h => Bool.noConfusion (hd.symm.trans (c6 h).1), c7, fun h => (cg h).later hb (cg h).lt, cw.later hb cw.lt, Nat.le_trans cz hb.size⟩
      simp only [putAll, Act.put, qA, qB, qC]
      all_goals rfl
    | 2, _, hd, hk =>
      apply wpOp_at
      case ho => rfl
      intro K hK
      simp only [putAll, Act.put, qA, qB, qC]
      go_simp
      refine hK _ _ ⟨e0, e1, (.pointer (some ⟨w.heap.size, 0, none⟩)), e3, e4, e5, e7, A1, C1, g4, ?_, hB, c0, c1, fun _ => rfl, c3, c4, c5, c6, c7, cg, cw, cz⟩
      simp only [putAll, Act.put, qA, qB, qC]
      all_goals rfl
    | 3, _, hd, hk =>
      have h2 : d 2 = true := hk 2 (by decide +kernel)
      obtain rfl := c2 h2
      obtain ⟨z0, z1, z2, z3, z4, z5⟩ := config_cells cw
      simp only at z0 z1 z2 z3 z4 z5
      apply wpOp_at
      case ho => rfl
      intro K hK
      simp only [putAll, Act.put, qA, qB, qC]
      go_simp
      refine hK _ _ ⟨e0, e1, (.pointer (some ⟨w.heap.size, 0, none⟩)), (.int .i64 (N : Int)), e4, e5, e7, A1, C1, g4, ?_, hB, c0, c1, c2, fun _ => rfl, c4, c5, c6, c7, cg, cw, cz⟩
      simp only [putAll, Act.put, qA, qB, qC]
      all_goals rfl
    | 4, _, hd, hk =>
      have h3 : d 3 = true := hk 3 (by decide +kernel)
      obtain rfl := c3 h3
      have hb := below_box w' (.cells (madeCells zero7 (N * 7)) 71)
      have hnt := notes_zero (m := N) (by omega) (Whole.made w' 71 (madeCells zero7 (N * 7)))
      apply wpOp_at
      case ho => rfl
      intro K hK
      simp only [putAll, Act.put, qA, qB, qC]
      go_simp
      refine hK _ _ ⟨e0, e1, e2, (.int .i64 (N : Int)), .slice (some ⟨w'.heap.size, 0, none⟩) N N, e5, e7, A1, C1, w'.heap.size, ?_, hB.trans (hb.mono hB.size), c0, fun h => by
       obtain ⟨h1, B, h2, h3⟩ := c1 h
       exact ⟨h1, B, h2, h3.later hb⟩, c2, c3, fun _ => ⟨rfl, hnt, cz⟩, fun h => Bool.noConfusion (hd.symm.trans (c5 h).2.1), fun h => Bool.noConfusion (hd.symm.trans (c6 h).2.1), c7, fun h => (cg h).later hb (cg h).lt, cw.later hb cw.lt, Nat.le_trans cz hb.size⟩
      simp only [putAll, Act.put, qA, qB, qC]
      all_goals rfl
    | 5, _, hd, hk =>
      have h1 : d 1 = true := hk 1 (by decide +kernel)
      have h4 : d 4 = true := hk 4 (by decide +kernel)
      obtain ⟨rfl, hp1⟩ := c1 h1
      obtain ⟨rfl, hp4⟩ := c4 h4
      apply wpOp_at
      case ho => rfl
      intro K hK
      simp only [putAll, Act.put, qA, qB, qC]
      go_simp
      refine hK _ _ ⟨e0, .slice A1 L.length C1, e2, e3, .slice (some ⟨g4, 0, none⟩) N N, .agg (bkCells ⟨0, L, [], [], 0, List.replicate N nt0, au0⟩ (.slice A1 L.length C1) (.slice none 0 0) (.slice none 0 0) (.slice (some ⟨g4, 0, none⟩) N N) (.slice none 0 0) (.slice none 0 0) (.slice none 0 0)), e7, A1, C1, g4, ?_, hB, c0, fun _ => ⟨rfl, hp1⟩, c2, c3, fun _ => ⟨rfl, hp4⟩, fun _ => ⟨h1, h4, rfl⟩, fun h => ⟨(c6 h).1, (c6 h).2.1, rfl, (c6 h).2.2.2⟩, c7, cg, cw, cz⟩
      simp only [putAll, Act.put, qA, qB, qC]
      all_goals rfl
    | 6, _, hd, hk =>
      have h5 : d 5 = true := hk 5 (by decide +kernel)
      obtain ⟨h1, h4, rfl⟩ := c5 h5
      obtain ⟨rfl, B, hB1, hO1⟩ := c1 h1
      obtain ⟨rfl, hn4, hg4⟩ := c4 h4
      have hZ := cg hd
      have y0 := hZ.free 0
      have y1 := hZ.free 1
      have y2 := hZ.free 2
      have y3 := hZ.free 3
      have y4 := hZ.free 4
      have y5 := hZ.free 5
      have y6 := hZ.free 6
      have y7 := hZ.free 7
      have y8 := hZ.free 8
      have y9 := hZ.free 9
      have y10 := hZ.free 10
      have y11 := hZ.free 11
      obtain ⟨⟨z0, z1, z2, z3⟩, ⟨z4, z5, z6, z7⟩, z8, z9, z10, z11⟩ := bk_cells hZ
      have hwh := bk12_whole (x := ⟨0, L, [], [], 0, List.replicate N nt0, au0⟩) (rv := .slice A1 L.length C1) (lv := .slice none 0 0) (ov := .slice none 0 0) (nv := .slice (some ⟨g4, 0, none⟩) N N) (tv := .slice none 0 0) (uv := .slice none 0 0) (iv := .slice none 0 0) hZ
      have hbl := bk12_below (g := w.heap.size + 1) (x := ⟨0, L, [], [], 0, List.replicate N nt0, au0⟩) (rv := .slice A1 L.length C1) (lv := .slice none 0 0) (ov := .slice none 0 0) (nv := .slice (some ⟨g4, 0, none⟩) N N) (tv := .slice none 0 0) (uv := .slice none 0 0) (iv := .slice none 0 0) hB (by omega)
      have hlb := bk12_below (g := w.heap.size + 1) (x := ⟨0, L, [], [], 0, List.replicate N nt0, au0⟩) (rv := .slice A1 L.length C1) (lv := .slice none 0 0) (ov := .slice none 0 0) (nv := .slice (some ⟨g4, 0, none⟩) N N) (tv := .slice none 0 0) (uv := .slice none 0 0) (iv := .slice none 0 0) (Below.refl (w.heap.size + 1) w') (Nat.le_refl _)
      have hO6 := bk12_own (g := w.heap.size + 1) (x := ⟨0, L, [], [], 0, List.replicate N nt0, au0⟩) (rv := .slice A1 L.length C1) (lv := .slice none 0 0) (ov := .slice none 0 0) (nv := .slice (some ⟨g4, 0, none⟩) N N) (tv := .slice none 0 0) (uv := .slice none 0 0) (iv := .slice none 0 0) hO1 (by omega)
      have hN6 := bk12_notes (g := w.heap.size + 1) (x := ⟨0, L, [], [], 0, List.replicate N nt0, au0⟩) (rv := .slice A1 L.length C1) (lv := .slice none 0 0) (ov := .slice none 0 0) (nv := .slice (some ⟨g4, 0, none⟩) N N) (tv := .slice none 0 0) (uv := .slice none 0 0) (iv := .slice none 0 0) hn4 List.length_replicate.symm (fun ad had => by cases had; show g4 ≠ w.heap.size + 1; omega)
      apply wpOp_at
      case ho => rfl
      intro K hK
      simp only [putAll, Act.put, qA, qB, qC]
      go_simp
      refine hK _ _ ⟨e0, .slice A1 L.length C1, e2, e3, .slice (some ⟨g4, 0, none⟩) N N, .agg (bkCells ⟨0, L, [], [], 0, List.replicate N nt0, au0⟩ (.slice A1 L.length C1) (.slice none 0 0) (.slice none 0 0) (.slice (some ⟨g4, 0, none⟩) N N) (.slice none 0 0) (.slice none 0 0) (.slice none 0 0)), e7, A1, C1, g4, ?_, hbl, c0, fun _ => ⟨rfl, B, hB1, hO6⟩, c2, c3, fun _ => ⟨rfl, hN6, hg4⟩, fun _ => ⟨h1, h4, rfl⟩, fun _ => ⟨h1, h4, h5, hwh⟩, c7, fun h => Bool.noConfusion (show true = false from h), cw.later hlb (Nat.lt_succ_self _), Nat.le_trans cz hlb.size⟩
      simp only [putAll, Act.put, qA, qB, qC]
      all_goals rfl
    | 7, _, hd, hk =>
      have h6 : d 6 = true := hk 6 (by decide +kernel)
      obtain ⟨h1, h4, h5, hwh⟩ := c6 h6
      obtain ⟨rfl, hp1⟩ := c1 h1
      obtain ⟨rfl, hp4⟩ := c4 h4
      obtain ⟨_, _, rfl⟩ := c5 h5
      apply wpOp_at
      case ho => rfl
      intro K hK
      simp only [putAll, Act.put, qA, qB, qC]
      go_simp
      refine hK _ _ ⟨e0, .slice A1 L.length C1, e2, e3, .slice (some ⟨g4, 0, none⟩) N N, .agg (bkCells ⟨0, L, [], [], 0, List.replicate N nt0, au0⟩ (.slice A1 L.length C1) (.slice none 0 0) (.slice none 0 0) (.slice (some ⟨g4, 0, none⟩) N N) (.slice none 0 0) (.slice none 0 0) (.slice none 0 0)), .int .i64 0, A1, C1, g4, ?_, hB, c0, fun _ => ⟨rfl, hp1⟩, c2, c3, fun _ => ⟨rfl, hp4⟩, fun _ => ⟨h1, h4, rfl⟩, c6, fun _ => rfl, cg, cw, cz⟩
      simp only [putAll, Act.put, qA, qB, qC]
      all_goals rfl
    | k + 8, hi, _, _ => exact absurd hi (by simp)
   case ends =>
    intro d a' w9 hJ hall
    obtain ⟨e0, e1, e2, e3, e4, e5, e7, A1, C1, g4, rfl, hC⟩ := hJ
    obtain ⟨hB, hC⟩ := hC
    obtain ⟨c0, hC⟩ := hC
    obtain ⟨c1, hC⟩ := hC
    obtain ⟨c2, hC⟩ := hC
    obtain ⟨c3, hC⟩ := hC
    obtain ⟨c4, hC⟩ := hC
    obtain ⟨c5, hC⟩ := hC
    obtain ⟨c6, hC⟩ := hC
    obtain ⟨c7, hC⟩ := hC
    obtain ⟨cg, hC⟩ := hC
    obtain ⟨cw, hC⟩ := hC
    have cz := hC
    clear hC
    obtain ⟨h1, h4, h5, hwh⟩ := c6 (hall 6 (by decide +kernel))
    obtain ⟨rfl, B, hB1, hO1⟩ := c1 h1
    obtain ⟨rfl, hn4, hg4⟩ := c4 h4
    obtain ⟨_, _, rfl⟩ := c5 h5
    obtain rfl := c7 (hall 7 (by decide +kernel))
    have HE := Lib.hid hwh
    have HO := Lib.hid hO1
    have HN := Lib.hid hn4
    have HBE := Lib.hid hB
    clear c0 c1 c2 c3 c4 c5 c6 c7 cg cw cz hall hwh hO1 hn4 hB h1 h4 h5
    simp only [putAll, Act.put, qA, qB, qC]
    obtain ⟨⟨Z0, Z1, Z2, Z3⟩, ⟨Z4, Z5, Z6, Z7⟩, Z8, Z9, Z10, Z11⟩ := bk_cells HE.out
    simp only at Z0 Z1 Z2 Z3 Z4 Z5 Z6 Z7 Z8 Z9 Z10 Z11
    go_wp2_with fail
    obtain ⟨A9, C9, e9, hbk⟩ := HO.out.books (by have := Hlen.out.1; omega) (fun k hk => by have := Hlen.out.2 k hk; omega)
    simp only [Value.slice.injEq] at e9
    obtain ⟨rfl, _, rfl⟩ := e9
    refine bodyPost_ret (v := .tuple #[bkAt ⟨0, L, [], [], 0, List.replicate N nt0, au0⟩ ⟨A1, L.length, C1, none, 0, 0, none, 0, 0, some ⟨g4, 0, none⟩, N, N, ⟨none, 0, 0, none, 0, 0, none, 0, 0⟩⟩, .int .i64 0]) (by simp [results, Tryz.results18, go_sem, Z0, Z1, Z2, Z3, Z4, Z5, Z6, Z7, Z8, Z9, Z10, Z11]) rfl ⟨_, rfl, ⟨⟨rfl, hbk⟩, ⟨rfl, Line.nil _ _ _ (fun _ => rfl)⟩, ⟨rfl, Line.nil _ _ _ (fun _ => rfl)⟩, ⟨List.length_replicate.symm, HN.out⟩, au_in0 _⟩, HBE.out⟩
 · have hno : newK ⟨nn, q, r, p, kk, cc⟩ who = (bk0, 1) := if_neg hall
   obtain rfl : res = (bk0, 1) := Hres.out.symm.trans hno
   clear hno
   have y0 := HZ1.out.free 0
   have y1 := HZ1.out.free 1
   have y2 := HZ1.out.free 2
   have y3 := HZ1.out.free 3
   have y4 := HZ1.out.free 4
   have y5 := HZ1.out.free 5
   have y6 := HZ1.out.free 6
   have y7 := HZ1.out.free 7
   have y8 := HZ1.out.free 8
   have y9 := HZ1.out.free 9
   have y10 := HZ1.out.free 10
   have y11 := HZ1.out.free 11
   obtain ⟨⟨z0, z1, z2, z3⟩, ⟨z4, z5, z6, z7⟩, z8, z9, z10, z11⟩ := bk_cells HZ1.out
   simp only at z0 z1 z2 z3 z4 z5 z6 z7 z8 z9 z10 z11
   have HZn := Lib.hid (bk12_whole (x := bk0) (rv := .slice none 0 0) (lv := .slice none 0 0) (ov := .slice none 0 0) (nv := .slice none 0 0) (tv := .slice none 0 0) (uv := .slice none 0 0) (iv := .slice none 0 0) HZ1.out)
   have hend : ∀ W, W = bk12 w1 (w.heap.size + 1) bk0 (.slice none 0 0) (.slice none 0 0) (.slice none 0 0) (.slice none 0 0) (.slice none 0 0) (.slice none 0 0) (.slice none 0 0) → Below w.heap.size w W := fun W e => by rw [e]; exact bk12_below Hb1.out (by omega)
   have Hend := Lib.hid hend
   clear hend
   have Hall := Lib.hid hall
   clear hall
   obtain rfl : ok = false := Hok.out.symm.trans (decide_eq_false Hall.out)
   go_wp2_with fail
   obtain ⟨⟨Z0, Z1, Z2, Z3⟩, ⟨Z4, Z5, Z6, Z7⟩, Z8, Z9, Z10, Z11⟩ := bk_cells HZn.out
   simp only [bk12] at Z0 Z1 Z2 Z3 Z4 Z5 Z6 Z7 Z8 Z9 Z10 Z11
   refine bodyPost_ret (v := .tuple #[bkAt bk0 bl0, .int .i64 1]) (by simp [results, Tryz.results18, go_sem, Z0, Z1, Z2, Z3, Z4, Z5, Z6, Z7, Z8, Z9, Z10, Z11]) rfl ⟨bl0, rfl, bk_in0 _, Hend.out _ rfl⟩
end Go.Proofs.YtnkgakhnlbifdaaGreat
namespace Go.Proofs.YtnkgakhnlbifdaaGreat
open Go.RowKit
set_option maxRecDepth 100000 in
theorem append_still {w : World} {B g n cap : Nat} {zs : List Int} {y : Int} (hown : Fresh B 5 w (.slice (some ⟨g, 0, none⟩) n cap) zs) (hn : n = zs.length) (hcap : n ≤ cap) (hy : 0 ≤ y ∧ y < 256) (hB : B ≤ w.heap.size) {a c : Nat}
 (hone : w.cell? ⟨a, 0, none⟩ = some (.int .u8 y)) (hroom : n ≤ 1000000) :
 ∃ A C w', (Builtin.append_ #[24, 24] 24 #[.slice (some ⟨g, 0, none⟩) n cap, .slice (some ⟨a, 0, none⟩) 1 c]).run Tryz.prog w = .ok (.slice A (n + 1) C) w' ∧ Bytes w' (.slice A (n + 1) C) (zs ++ [y]) ∧ n + 1 ≤ C ∧ Bytes w' (.slice (some ⟨g, 0, none⟩) n cap) zs ∧ Below B w w' ∧ (∀ k, k < w.heap.size → k ≠ g → w'.heap[k]? = w.heap[k]?) ∧ w.heap.size ≤ w'.heap.size := by
 obtain ⟨i5, hi, hz0, hz1, hz2⟩ := info_parts info_u8
 have hb0 := hown.bytes
 have hsm : ∀ c ∈ zs ++ [y], 0 ≤ c ∧ c < 256 := fun x hx => by
  rcases List.mem_append.1 hx with h | h
  · exact hown.2.2 x h
  · rw [List.mem_singleton.1 h]; exact hy
 have hgB : B ≤ g := by
  obtain ⟨g', cap', e, h1, _⟩ := hown.form
  simp only [Value.slice.injEq, Option.some.injEq, Addr.mk.injEq, and_true] at e
  rw [e.1]; exact h1
 have hnews : ∀ j u, [Value.int .u8 y][j]? = some u → w.cell? ((⟨a, 0, none⟩ : Addr).add j) = some u := fun j u h => by
  match j, h with
  | 0, h => simp only [List.getElem?_cons_zero, Option.some.injEq] at h; rw [← h]; exact hone
  | j + 1, h => simp at h
 by_cases hr : n + 1 ≤ cap
 · have ho : w.ownsRow B 5 1 (.slice (some ⟨g, 0, none⟩) n cap) n (zs.map (Value.int .u8)) := by rw [hn]; have := hown.1; rw [← hn] at this ⊢; exact this
   obtain ⟨w', h1, h2, h3⟩ := run_append_fits (P := Tryz.prog) w B 24 24 5 i5 1 Tryz.underlying24 hi hz1 g n cap _ ho ⟨a, 0, none⟩ 1 c [.int .u8 y] rfl hnews (fun u hu => by rw [List.mem_singleton.1 hu]; rfl) hr
   have hbel : Below B w w' := (Below.refl B w).grown h3 hB (fun k hk => by cases hk; exact hgB)
   have h4 : w'.ownsRow B 5 1 (.slice (some ⟨g, 0, none⟩) (n + 1) cap) (n + 1) ((zs ++ [y]).map (Value.int .u8)) := by rw [List.map_append]; exact h2
   obtain ⟨g', cap', e, _, _, _, hb4⟩ := bytes_of_own h4 (fun e => by cases e) (by omega) hsm
   have hl : (zs ++ [y]).length = n + 1 := by rw [List.length_append, hn]; rfl
   refine ⟨_, _, w', h1, hb4, hr, ?_, hbel, fun k hk hne => h3.block k hk (fun e => hne (Option.some.inj e)), h3.size⟩
   obtain ⟨hz1', hz2', hz3'⟩ := hb4
   refine ⟨hb0.1, hb0.2.1, Or.inr ⟨g, 0, cap, by rw [hn], fun j hj => ?_⟩⟩
   rcases hz3' with ⟨_, _, e1, _, _⟩ | ⟨b, off, c', e1, hc⟩
   · simp at e1
   · simp only [Value.slice.injEq, Option.some.injEq, Addr.mk.injEq, and_true] at e1
     obtain ⟨⟨rfl, rfl⟩, _, _⟩ := e1
     have h5 := hc j (by rw [hl]; omega)
     rw [h5]
     congr 2
     rw [List.getD_eq_getElem?_getD, List.getD_eq_getElem?_getD, List.getElem?_append_left hj]
 · have holds : ∀ j u, (zs.map (Value.int .u8))[j]? = some u → w.cell? ((⟨g, 0, none⟩ : Addr).add j) = some u := fun j u h => by
    rw [List.getElem?_map] at h
    obtain ⟨v, hv, rfl⟩ := Option.map_eq_some_iff.1 h
    have hj : j < zs.length := (List.getElem?_eq_some_iff.1 hv).1
    rcases hb0.2.2 with ⟨_, _, e1, _, e2⟩ | ⟨b, off, c', e1, hc⟩
    · rw [e2] at hj; exact absurd hj (by simp)
    · simp only [Value.slice.injEq, Option.some.injEq, Addr.mk.injEq, and_true] at e1
      obtain ⟨⟨rfl, rfl⟩, _, _⟩ := e1
      have h5 := hc j hj
      rw [Nat.zero_add] at h5
      rw [Addr.add_lit, Nat.zero_add, h5, List.getD_eq_getElem?_getD, hv]
      rfl
   have hcap2 : cap = n := by omega
   have hrun := run_append_grow (P := Tryz.prog) w 24 24 5 i5 (.int .u8 0) Tryz.underlying24 hi hz0 ⟨g, 0, none⟩ n cap (zs.map (Value.int .u8)) (by rw [List.length_map, hz1, hn, Nat.mul_one]) holds ⟨a, 0, none⟩ 1 c [.int .u8 y] (by rw [hz1]; rfl) hnews (by omega) (by omega)
    (by rw [hz2]; have := nextslicecap_le (show cap < n + 1 by omega); omega)
   have hCn := grownCap_ge w (n + 1) cap 5
   generalize grownCap w (n + 1) cap 5 = C at hrun hCn
   have hbe : Below w.heap.size w (w.drew.alloc (.cells ((zs.map (Value.int .u8)).toArray ++ [Value.int .u8 y].toArray ++ Builtin.zeroCells (Value.int .u8 0).cells (C - (n + 1))) 5)) := ((Below.refl w.heap.size w).drew).alloc (Nat.le_refl _) _
   refine ⟨_, C, _, hrun, ?_, hCn, hb0.later hbe, hbe.mono hB, fun k hk _ => hbe.block k hk, hbe.size⟩
   refine ⟨by rw [List.length_append, List.length_singleton]; omega, hsm, Or.inr ⟨w.heap.size, 0, C, by rw [List.length_append, hn]; rfl, fun j hj => ?_⟩⟩
   rw [Nat.zero_add]
   refine cell_new w.drew _ _ _ j _ ?_
   have hjl : j < n + 1 := by rw [List.length_append, List.length_singleton] at hj; omega
   rw [Array.getElem?_append_left (by simp; omega), show (zs.map (Value.int .u8)).toArray ++ [Value.int .u8 y].toArray = ((zs ++ [y]).map (Value.int .u8)).toArray by simp, List.getElem?_toArray, List.getElem?_map, List.getD_eq_getElem?_getD, List.getElem?_eq_getElem hj]
   rfl
end Go.Proofs.YtnkgakhnlbifdaaGreat
