/- Parts, as far as BookTakesCards reaches them, of: BookCatch, BookNil, RqEql, StampMay, ClaimSmall. No law is proved here. -/
import Derived.Test.YtnkgakhnlbifdaaGreatTb21
import Derived.Test.YtnkgakhnlbifdaaGreatTb1
import Derived.Test.YtnkgakhnlbifdaaGreatTb2
import Derived.Test.YtnkgakhnlbifdaaGreatTb4
import Derived.Defers
import Derived.Recover
import Derived.WalkKit
import Derived.ProofKit
import Derived.WalkLawsBesides
import Derived.ChangeSame
import Derived.Deep.QuietTactic
import Derived.BigQuiet
import Derived.Test.YtnkgakhnlbifdaaGreatTb3
namespace Go.Proofs.YtnkgakhnlbifdaaGreat
open Go.RowKit
set_option maxRecDepth 100000 in
set_option maxHeartbeats 8000000 in
theorem kcatch_idle (p q : Addr) (w : World) :
 CallsD Tryz.prog 19 #[.pointer (some p), .pointer (some q)] .returning w fun e u' w' => e = .returned (.tuple #[]) ∧ u' = .returning ∧ w' = w := by
 refine callsD_of_wpS Tryz.func19 rfl fun c₀ cs hu => ?_
 apply wpS_seq
 apply wpS_region
 simp [wpOpsS, go_sem, recoverD, hu, Tryz.ntmps19, Exit.thenS]
 refine wpS_of_wp ?_
 show Code.wp _ _ _ { tmps := #[.pointer (some p), .pointer (some q), .nilIface, undef, undef, .nilIface, undef, undef, undef, undef, undef, undef, undef, undef, undef, undef, undef], defers := [] } _
 have hnil : ∀ w : World, (binOp BinOp.eql 20 .nilIface .nilIface).run Tryz.prog w = .ok (.bool true) w := fun _ => by kernel_rfl
 go_wp2_with fail
 cases c₀
 simp_all [bodyPostS, results, Tryz.results19]
set_option maxRecDepth 100000 in
set_option maxHeartbeats 8000000 in
theorem kcatch_wrong (go gk : Nat) (x : Bk) (rv lv ov nv tv uv iv : Value) (b : Bool) (w : World) (hO : Whole w go 37 (bkCells x rv lv ov nv tv uv iv)) (hK : Whole w gk 4 #[.bool b]) (hne : go ≠ gk) :
 CallsD Tryz.prog 19 #[.pointer (some ⟨go, 0, none⟩), .pointer (some ⟨gk, 0, none⟩)] (.panicking [{ v := .iface 53 (.agg #[]), recovered := false }]) w fun e u' w' =>
  e = .returned (.tuple #[]) ∧ u' = .panicking [{ v := .iface 53 (.agg #[]), recovered := true }] ∧ Whole w' go 37 (bkCells bk0 (.slice none 0 0) (.slice none 0 0) (.slice none 0 0) (.slice none 0 0) (.slice none 0 0) (.slice none 0 0) (.slice none 0 0)) ∧ Whole w' gk 4 #[.bool false] ∧ ∀ B w0, Below B w0 w → B ≤ go → B ≤ gk → Below B w0 w' := by
 have HF : Hid (∀ W : World, W = ((bk12 w go bk0 (.slice none 0 0) (.slice none 0 0) (.slice none 0 0) (.slice none 0 0) (.slice none 0 0) (.slice none 0 0) (.slice none 0 0)).setCell ⟨gk, 0, none⟩ (.bool false)).alloc (.cells #[] 53) →
  Whole W go 37 (bkCells bk0 (.slice none 0 0) (.slice none 0 0) (.slice none 0 0) (.slice none 0 0) (.slice none 0 0) (.slice none 0 0) (.slice none 0 0)) ∧ Whole W gk 4 #[.bool false] ∧ ∀ B w0, Below B w0 w → B ≤ go → B ≤ gk → Below B w0 W) := fun W hW => by
  subst hW
  have ho : ∀ {t : TypeId} {cs : Array Value} {q : World} (i : Nat) (u : Value), Whole q gk t cs → Whole (q.setCell ⟨go, i, none⟩ u) gk t cs := fun i u h => h.other (p := ⟨go, i, none⟩) (fun e => hne e.symm) u
  have h1 := (bk12_whole (x := bk0) (rv := (.slice none 0 0)) (lv := (.slice none 0 0)) (ov := (.slice none 0 0)) (nv := (.slice none 0 0)) (tv := (.slice none 0 0)) (uv := (.slice none 0 0)) (iv := (.slice none 0 0)) hO).other (p := ⟨gk, 0, none⟩) hne (.bool false)
  have h2 : Whole (bk12 w go bk0 (.slice none 0 0) (.slice none 0 0) (.slice none 0 0) (.slice none 0 0) (.slice none 0 0) (.slice none 0 0) (.slice none 0 0)) gk 4 #[.bool b] := by
   unfold bk12
   exact (ho 11 _ (ho 10 _ (ho 9 _ (ho 8 _ (ho 7 _ (ho 6 _ (ho 5 _ (ho 4 _ (ho 3 _ (ho 2 _ (ho 1 _ (ho 0 _ hK))))))))))))
  have h3 := h2.set 0 (.bool false)
  have hb := below_box ((bk12 w go bk0 (.slice none 0 0) (.slice none 0 0) (.slice none 0 0) (.slice none 0 0) (.slice none 0 0) (.slice none 0 0) (.slice none 0 0)).setCell ⟨gk, 0, none⟩ (.bool false)) (.cells #[] 53)
  refine ⟨h1.later hb h1.lt, h3.later hb h3.lt, fun B w0 q1 q2 q3 => ?_⟩
  have hb2 := (bk12_below (x := bk0) (rv := (.slice none 0 0)) (lv := (.slice none 0 0)) (ov := (.slice none 0 0)) (nv := (.slice none 0 0)) (tv := (.slice none 0 0)) (uv := (.slice none 0 0)) (iv := (.slice none 0 0)) q1 q2).setCell (p := ⟨gk, 0, none⟩) q3 (.bool false)
  exact hb2.trans (hb.mono (Nat.le_of_lt (Nat.lt_of_le_of_lt q2 h1.lt)))
 obtain ⟨⟨y0, y1, y2, y3⟩, ⟨y4, y5, y6, y7⟩, y8, y9, y10, y11⟩ := bk_cells hO
 have k0 := hK.cell 0
 have fk := hK.free 0
 have hlk := hK.lt
 have hlo := hO.lt
 have hne' : gk ≠ go := fun e => hne e.symm
 have fz0 := hO.free 0
 have fz1 := hO.free 1
 have fz2 := hO.free 2
 have fz3 := hO.free 3
 have fz4 := hO.free 4
 have fz5 := hO.free 5
 have fz6 := hO.free 6
 have fz7 := hO.free 7
 have fz8 := hO.free 8
 have fz9 := hO.free 9
 have fz10 := hO.free 10
 have fz11 := hO.free 11
 clear hO hK
 refine callsD_of_wpS Tryz.func19 rfl fun c₀ cs hu => ?_
 apply wpS_seq
 apply wpS_region
 simp [wpOpsS, go_sem, recoverD, hu, Tryz.ntmps19, Exit.thenS]
 refine wpS_of_wp ?_
 show Code.wp _ _ _ { tmps := #[.pointer (some ⟨go, 0, none⟩), .pointer (some ⟨gk, 0, none⟩), .iface 53 (.agg #[]), undef, undef, .iface 53 (.agg #[]), undef, undef, undef, undef, undef, undef, undef, undef, undef, undef, undef], defers := [] } _
 have hta : ∀ w : World, (Instr.typeAssert (.iface 53 (.agg #[])) 20 53 true).run Tryz.prog w = .ok (.tuple #[.agg #[], .bool true]) w := fun _ => by kernel_rfl
 have hne1 : ∀ w : World, (binOp BinOp.eql 20 (.iface 53 (.agg #[])) .nilIface).run Tryz.prog w = .ok (.bool false) w := fun _ => by kernel_rfl
 go_wp2_with fail
 exact ⟨rfl, _, rfl, _, results_none rfl _ _ _, rfl, rfl, HF.out _ rfl⟩
end Go.Proofs.YtnkgakhnlbifdaaGreat
namespace Go.Proofs.YtnkgakhnlbifdaaGreat
open Go.RowKit
abbrev bl0 : Bl := ⟨none, 0, 0, none, 0, 0, none, 0, 0, none, 0, 0, ⟨none, 0, 0, none, 0, 0, none, 0, 0⟩⟩
theorem nums_nil' (w : World) : Nums w (.slice none 0 0) [] := elems_nil w none 0 1 _ (fun _ => rfl)
theorem bools_nil' (w : World) : Bools w (.slice none 0 0) [] := elems_nil w none 0 1 _ (fun _ => rfl)
theorem notes_nil' (w : World) : Notes w (.slice none 0 0) [] := elems_nil w none 0 7 _ (fun _ => rfl)
theorem au_in0 (w : World) : AuIn w ⟨none, 0, 0, none, 0, 0, none, 0, 0⟩ au0 := ⟨⟨rfl, bools_nil' w⟩, ⟨rfl, nums_nil' w⟩, rfl, nums_nil' w⟩
theorem bk_in0 (w : World) : BkIn w bl0 bk0 := ⟨⟨rfl, books_nil _ _ _ (fun _ => rfl)⟩, ⟨rfl, Line.nil _ _ _ (fun _ => rfl)⟩, ⟨rfl, Line.nil _ _ _ (fun _ => rfl)⟩, ⟨rfl, notes_nil' w⟩, au_in0 w⟩
end Go.Proofs.YtnkgakhnlbifdaaGreat
namespace Go.Proofs.YtnkgakhnlbifdaaGreat
open Go.RowKit
theorem run_eql_rqs (w : World) (x y : Rq) : (binOp .eql 67 (rqV x) (rqV y)).run Tryz.prog w = .ok (.bool (decide (x = y))) w := by
 obtain ⟨t, a, m⟩ := x
 obtain ⟨u, b, n⟩ := y
 by_cases h1 : t = u
 · subst h1
   by_cases h2 : a = b
   · subst h2
     by_cases h3 : m = n
     · subst h3; simp [go_sem, Tryz.underlying67, Tryz.underlying65]
     · simp [go_sem, Tryz.underlying67, Tryz.underlying65, h3]
   · simp [go_sem, Tryz.underlying67, Tryz.underlying65, h2]
 · simp [go_sem, Tryz.underlying67, Tryz.underlying65, h1]
end Go.Proofs.YtnkgakhnlbifdaaGreat
namespace Go.Proofs.YtnkgakhnlbifdaaGreat
open Go.RowKit
set_option maxHeartbeats 400000 in
theorem stampmay_calls (t a n : Int) (w : World) :
 Calls Tryz.prog 80 #[stampV t a, .int .i64 n] w (Says w (mayB t a n)) := by
 by_cases h : 1 ≤ t ∧ t ≤ 1125899906842624 ∧ 0 ≤ a ∧ a < n
 · rw [mayB_yes h]
   obtain ⟨h1, h2, h3, h4⟩ := h
   go_enter Tryz.func80, Tryz.ntmps80
   go_wp2_with fail
   go_ret
   exact ⟨by simp_all, below_box _ _⟩
 · rw [mayB_no h]
   by_cases h1 : 1 ≤ t
   · by_cases h2 : t ≤ 1125899906842624
     · by_cases h3 : 0 ≤ a
       · have h4 : ¬ a < n := by omega
         clear h
         go_enter Tryz.func80, Tryz.ntmps80
         go_wp2_with fail
         go_ret
         exact ⟨by simp_all, below_box _ _⟩
       · clear h
         go_enter Tryz.func80, Tryz.ntmps80
         go_wp2_with fail
         go_ret
         exact ⟨by simp_all, below_box _ _⟩
     · clear h
       go_enter Tryz.func80, Tryz.ntmps80
       go_wp2_with fail
       go_ret
       exact ⟨by simp_all, below_box _ _⟩
   · clear h
     go_enter Tryz.func80, Tryz.ntmps80
     go_wp2_with fail
     go_ret
     exact ⟨by simp_all, below_box _ _⟩
end Go.Proofs.YtnkgakhnlbifdaaGreat
namespace Go.Proofs.YtnkgakhnlbifdaaGreat
open Go.RowKit
abbrev tdV (c : Cf) (who : Int) (x : Nt) : Value := .agg #[.int .i64 c.n, .int .i64 c.q, .int .i64 c.r, .int .i64 c.p, .int .i64 c.k, .int .i64 c.c, .int .i64 who, .int .i64 x.clk, .int .i64 x.t, .int .i64 x.a, .int .i64 x.m, .int .i64 x.asks, .int .i64 x.try_, .int .i64 x.ph]
abbrev tdCells (c : Cf) (who : Int) (x : Nt) : Array Value := #[.int .i64 c.n, .int .i64 c.q, .int .i64 c.r, .int .i64 c.p, .int .i64 c.k, .int .i64 c.c, .int .i64 who, .int .i64 x.clk, .int .i64 x.t, .int .i64 x.a, .int .i64 x.m, .int .i64 x.asks, .int .i64 x.try_, .int .i64 x.ph]
theorem run_eql_lk (w : World) (t p u q : Int) : (binOp .eql 31 (.agg #[.int .i64 t, .int .i64 p]) (.agg #[.int .i64 u, .int .i64 q])).run Tryz.prog w = .ok (.bool (decide (t = u ∧ p = q))) w := by
 by_cases h1 : t = u
 · subst h1
   by_cases h2 : p = q
   · subst h2; simp [go_sem, Tryz.underlying31]
   · simp [go_sem, Tryz.underlying31, h2]
 · simp [go_sem, Tryz.underlying31, h1]
set_option maxHeartbeats 4000000 in
theorem none_calls (t a m : Int) (w : World) : Calls Tryz.prog 115 #[rqV ⟨t, a, m⟩] w (Says w (decide (t = 0 ∧ a = 0 ∧ m = 0))) := by
 obtain ⟨z, Hz⟩ : ∃ z, Hid (decide (t = 0 ∧ a = 0 ∧ m = 0) = z) := ⟨_, rfl⟩
 have heq : ∀ w : World, (binOp .eql 67 (.agg #[.int .i64 t, .int .i64 a, .int .i64 m]) (.agg #[.int .i64 0, .int .i64 0, .int .i64 0])).run Tryz.prog w = .ok (.bool z) w := fun w => (run_eql_rqs w ⟨t, a, m⟩ ⟨0, 0, 0⟩).trans (by rw [← Hz.out]; simp)
 rw [Hz.out]
 have Hb0 := Lib.hid (below_box w (.cells (rqCells ⟨t, a, m⟩) 67))
 go_enter Tryz.func115, Tryz.ntmps115
 go_wp2_with fail
 go_ret
 exact ⟨by rfl, Hb0.out⟩
set_option maxHeartbeats 4000000 in
theorem amongc_calls (c : Cf) (who : Int) (w : World) : Calls Tryz.prog 74 #[cfV c, .int .i64 who] w (Says w (decide (0 ≤ who ∧ who < c.n))) := by
 have Hb0 := Lib.hid (below_box w (.cells (cfCells c) 23))
 obtain ⟨n, q, r, p, kk, cc⟩ := c
 simp only
 by_cases h1 : 0 ≤ who
 · by_cases h2 : who < n
   · rw [decide_eq_true ⟨h1, h2⟩]
     go_enter Tryz.func74, Tryz.ntmps74
     go_wp2_with fail
     go_ret
     exact ⟨by simp, Hb0.out⟩
   · rw [decide_eq_false (fun h => h2 h.2)]
     go_enter Tryz.func74, Tryz.ntmps74
     go_wp2_with fail
     go_ret
     exact ⟨by first | (simp; done) | (simp; omega), Hb0.out⟩
 · rw [decide_eq_false (fun h => h1 h.1)]
   go_enter Tryz.func74, Tryz.ntmps74
   go_wp2_with fail
   go_ret
   exact ⟨by simp, Hb0.out⟩
set_option maxRecDepth 100000 in
set_option maxHeartbeats 4000000 in
theorem looks_calls (t p : Int) (w : World) : Calls Tryz.prog 116 #[.agg #[.int .i64 t, .int .i64 p]] w (Says w (lookB t p)) := by
 obtain ⟨res, Hres⟩ : ∃ z, Hid (lookB t p = z) := ⟨_, rfl⟩
 rw [Hres.out]
 have yes : lookOk t p → res = true := fun h => Hres.out.symm.trans (decide_eq_true h)
 have no : ¬ lookOk t p → res = false := fun h => Hres.out.symm.trans (decide_eq_false h)
 have Yes := Lib.hid yes; have No := Lib.hid no; clear yes no
 have Hb0 := Lib.hid (below_box w (.cells #[.int .i64 t, .int .i64 p] 31))
 obtain ⟨z, Hz⟩ : ∃ z, Hid (decide (t = 0 ∧ p = 0) = z) := ⟨_, rfl⟩
 have heq : ∀ w : World, (binOp .eql 31 (.agg #[.int .i64 t, .int .i64 p]) (.agg #[.int .i64 0, .int .i64 0])).run Tryz.prog w = .ok (.bool z) w := fun w => (run_eql_lk w t p 0 0).trans (by rw [← Hz.out])
 cases z with
 | true =>
   obtain rfl := Yes.out (Or.inl (of_decide_eq_true Hz.out))
   go_enter Tryz.func116, Tryz.ntmps116
   go_wp2_with fail
   go_ret
   exact ⟨by rfl, Hb0.out⟩
 | false =>
   have Hz2 := Lib.hid (of_decide_eq_false Hz.out)
   by_cases h1 : 1 ≤ t
   · by_cases h2 : t ≤ 1125899906842624
     · by_cases h3 : p = 1
       · subst h3
         obtain rfl := Yes.out (Or.inr ⟨by omega, h2, by decide, by decide⟩)
         go_enter Tryz.func116, Tryz.ntmps116
         go_wp2_with fail
         go_ret
         exact ⟨by first | rfl | (simp; done) | (simp; omega), Hb0.out⟩
       · have s3 : (p == 1) = false := beq_eq_false_iff_ne.2 h3
         by_cases h4 : p = 2
         · subst h4
           obtain rfl := Yes.out (Or.inr ⟨by omega, h2, by decide, by decide⟩)
           go_enter Tryz.func116, Tryz.ntmps116
           go_wp2_with fail
           go_ret
           exact ⟨by first | rfl | (simp; done) | (simp; omega), Hb0.out⟩
         · have s4 : (p == 2) = false := beq_eq_false_iff_ne.2 h4
           have n3 := Lib.hid h3; have n4 := Lib.hid h4; clear h3 h4
           obtain rfl := No.out (fun h => by have h9 := Hz2.out; have := n3.out; have := n4.out; rcases h with h | h; exact h9 h; omega)
           go_enter Tryz.func116, Tryz.ntmps116
           go_wp2_with fail
           go_ret
           exact ⟨by first | rfl | (simp; done) | (simp; omega), Hb0.out⟩
     ·
      obtain rfl := No.out (fun h => by have h9 := Hz2.out; rcases h with h | h; exact h9 h; omega)
      go_enter Tryz.func116, Tryz.ntmps116
      go_wp2_with fail
      go_ret
      exact ⟨by first | rfl | (simp; done) | (simp; omega), Hb0.out⟩
   ·
    obtain rfl := No.out (fun h => by have h9 := Hz2.out; rcases h with h | h; exact h9 h; omega)
    go_enter Tryz.func116, Tryz.ntmps116
    go_wp2_with fail
    go_ret
    exact ⟨by first | rfl | (simp; done) | (simp; omega), Hb0.out⟩
theorem td_cells {w : World} {g : Nat} {c : Cf} {who : Int} {x : Nt} (h : Whole w g 119 (tdCells c who x)) :
 w.cell? ⟨g, 0, none⟩ = some (.int .i64 c.n) ∧ w.cell? ⟨g, 1, none⟩ = some (.int .i64 c.q) ∧ w.cell? ⟨g, 2, none⟩ = some (.int .i64 c.r) ∧ w.cell? ⟨g, 3, none⟩ = some (.int .i64 c.p) ∧ w.cell? ⟨g, 4, none⟩ = some (.int .i64 c.k) ∧ w.cell? ⟨g, 5, none⟩ = some (.int .i64 c.c) ∧ w.cell? ⟨g, 6, none⟩ = some (.int .i64 who) ∧
 w.cell? ⟨g, 7, none⟩ = some (.int .i64 x.clk) ∧ w.cell? ⟨g, 8, none⟩ = some (.int .i64 x.t) ∧ w.cell? ⟨g, 9, none⟩ = some (.int .i64 x.a) ∧ w.cell? ⟨g, 10, none⟩ = some (.int .i64 x.m) ∧ w.cell? ⟨g, 11, none⟩ = some (.int .i64 x.asks) ∧ w.cell? ⟨g, 12, none⟩ = some (.int .i64 x.try_) ∧ w.cell? ⟨g, 13, none⟩ = some (.int .i64 x.ph) :=
 ⟨h.cell 0, h.cell 1, h.cell 2, h.cell 3, h.cell 4, h.cell 5, h.cell 6, h.cell 7, h.cell 8, h.cell 9, h.cell 10, h.cell 11, h.cell 12, h.cell 13⟩
def clockB (x : Nt) : Bool := decide (0 ≤ x.clk ∧ x.clk ≤ 1125899906842624)
def headB (c : Cf) (who : Int) (x : Nt) : Bool := noHead x || hasHead c who x
def asksB (c : Cf) (x : Nt) : Bool := decide (0 ≤ x.asks ∧ x.asks ≤ c.r)
theorem noteB_parts (c : Cf) (who : Int) (x : Nt) : noteB c who x = (clockB x && (headB c who x && (asksB c x && lookB x.try_ x.ph))) := rfl
set_option maxRecDepth 100000 in
set_option maxHeartbeats 4000000 in
theorem clock_calls (c : Cf) (who : Int) (x : Nt) (w : World) : Calls Tryz.prog 100 #[tdV c who x] w (Says w (clockB x)) := by
 have Hb0 := Lib.hid (below_box w (.cells (tdCells c who x) 119))
 obtain ⟨n, q, r, p, kk, cc⟩ := c
 obtain ⟨clk, t, a, m, asks, try_, ph⟩ := x
 obtain ⟨res, Hres⟩ : ∃ z, Hid (decide (0 ≤ clk ∧ clk ≤ 1125899906842624) = z) := ⟨_, rfl⟩
 show Calls _ _ _ _ (Says w (decide (0 ≤ clk ∧ clk ≤ 1125899906842624)))
 rw [Hres.out]
 by_cases h1 : 0 ≤ clk
 · by_cases h2 : clk ≤ 1125899906842624
   · obtain rfl : res = true := Hres.out.symm.trans (decide_eq_true ⟨h1, h2⟩)
     go_enter Tryz.func100, Tryz.ntmps100
     go_wp2_with fail
     go_ret
     exact ⟨by first | rfl | (simp; done) | (simp; omega), Hb0.out⟩
   · obtain rfl : res = false := Hres.out.symm.trans (decide_eq_false (fun h => h2 h.2))
     go_enter Tryz.func100, Tryz.ntmps100
     go_wp2_with fail
     go_ret
     exact ⟨by first | rfl | (simp; done) | (simp; omega), Hb0.out⟩
 · obtain rfl : res = false := Hres.out.symm.trans (decide_eq_false (fun h => h1 h.1))
   go_enter Tryz.func100, Tryz.ntmps100
   go_wp2_with fail
   go_ret
   exact ⟨by first | rfl | (simp; done) | (simp; omega), Hb0.out⟩
set_option maxRecDepth 100000 in
set_option maxHeartbeats 4000000 in
theorem asks_calls (c : Cf) (who : Int) (x : Nt) (w : World) : Calls Tryz.prog 102 #[tdV c who x] w (Says w (asksB c x)) := by
 have Hb0 := Lib.hid (below_box w (.cells (tdCells c who x) 119))
 obtain ⟨n, q, r, p, kk, cc⟩ := c
 obtain ⟨clk, t, a, m, asks, try_, ph⟩ := x
 obtain ⟨res, Hres⟩ : ∃ z, Hid (decide (0 ≤ asks ∧ asks ≤ r) = z) := ⟨_, rfl⟩
 show Calls _ _ _ _ (Says w (decide (0 ≤ asks ∧ asks ≤ r)))
 rw [Hres.out]
 by_cases h1 : 0 ≤ asks
 · by_cases h2 : asks ≤ r
   · obtain rfl : res = true := Hres.out.symm.trans (decide_eq_true ⟨h1, h2⟩)
     go_enter Tryz.func102, Tryz.ntmps102
     go_wp2_with fail
     go_ret
     exact ⟨by first | rfl | (simp; done) | (simp; omega), Hb0.out⟩
   · obtain rfl : res = false := Hres.out.symm.trans (decide_eq_false (fun h => h2 h.2))
     go_enter Tryz.func102, Tryz.ntmps102
     go_wp2_with fail
     go_ret
     exact ⟨by first | rfl | (simp; done) | (simp; omega), Hb0.out⟩
 · obtain rfl : res = false := Hres.out.symm.trans (decide_eq_false (fun h => h1 h.1))
   go_enter Tryz.func102, Tryz.ntmps102
   go_wp2_with fail
   go_ret
   exact ⟨by first | rfl | (simp; done) | (simp; omega), Hb0.out⟩
set_option maxRecDepth 100000 in
set_option maxHeartbeats 4000000 in
theorem look_calls (c : Cf) (who : Int) (x : Nt) (w : World) : Calls Tryz.prog 103 #[tdV c who x] w (Says w (lookB x.try_ x.ph)) := by
 have Hb0 := Lib.hid (below_box w (.cells (tdCells c who x) 119))
 obtain ⟨n, q, r, p, kk, cc⟩ := c
 obtain ⟨clk, t, a, m, asks, try_, ph⟩ := x
 simp only
 obtain ⟨res, Hres⟩ : ∃ z, Hid (lookB try_ ph = z) := ⟨_, rfl⟩
 rw [Hres.out]
 go_enter Tryz.func103, Tryz.ntmps103
 go_wp2_with fail
 refine (looks_calls try_ ph _).mono ?_
 rw [Hres.out]
 rintro e w1 ⟨rfl, hb⟩
 have Hb1 := Lib.hid (held_next Hb0.out hb)
 clear hb
 go_wp2_with fail
 go_ret
 exact ⟨by rfl, Hb1.out⟩
end Go.Proofs.YtnkgakhnlbifdaaGreat
