/- Package mail, walked: the reader's look and books. No law is proved here. -/
import Derived.Test.YtfpadcfahfanoaaMg12
import Derived.Test.YtfpadcfahfanoaaPaintStand
import Derived.Deep.RegionHeld3
namespace Go.Proofs.Ytfpadcfahfanoaa
open Go.RowKit

/-- the reader, and how far it is -/
def RdSt (w0 : World) (gr : Nat) (s : List Int × Bool) (w : World) : Prop := Below w0.heap.size w0 w ∧ ∃ v, Whole w gr 48 #[v, .bool s.2] ∧ GoodB w0 v s.1
/-- all blocks that were there but the reader's stay -/
def ButR (gr : Nat) (w w' : World) : Prop := w.heap.size ≤ w'.heap.size ∧ ∀ b, b < w.heap.size → b ≠ gr → w'.heap[b]? = w.heap[b]?
theorem ButR.whole {gr : Nat} {w w' : World} (h : ButR gr w w') {g : Nat} {t : TypeId} {cs : Array Value} (hw : Whole w g t cs) (hg : g ≠ gr) : Whole w' g t cs := (h.2 g hw.lt hg).trans hw
theorem ButR.trans {gr : Nat} {a b c : World} (h : ButR gr a b) (k : ButR gr b c) : ButR gr a c := ⟨Nat.le_trans h.1 k.1, fun q hq hne => (k.2 q (Nat.lt_of_lt_of_le hq h.1) hne).trans (h.2 q hq hne)⟩
theorem ButR.of {gr : Nat} {w w' : World} (h : Below w.heap.size w w') : ButR gr w w' := ⟨h.size, fun b hb _ => h.block b hb⟩
theorem ButR.rdW {gr : Nat} {w W : World} (h : ButR gr w W) {p : Addr} {x : Int} {v : Value} {b : Bool} (hp : w.heap.size ≤ p.block) : ButR gr w (rdW gr p x v b W) :=
  ⟨by unfold Go.Proofs.Ytfpadcfahfanoaa.rdW; simp; exact h.1, fun q hq hne => (rdW_block hne (by omega)).trans (h.2 q hq hne)⟩
theorem ButR.set {gr : Nat} {w W : World} (h : ButR gr w W) {p : Addr} (hp : w.heap.size ≤ p.block) (u : Value) : ButR gr w (W.setCell p u) :=
  ⟨by simp; exact h.1, fun q hq hne => (Below.heap_setCell W p u q (by omega)).trans (h.2 q hq hne)⟩
theorem RdSt.set {w0 : World} {gr : Nat} {s : List Int × Bool} {w : World} (h : RdSt w0 gr s w) {p : Addr} (h1 : w0.heap.size ≤ p.block) (h2 : gr ≠ p.block) (u : Value) : RdSt w0 gr s (w.setCell p u) := by
  obtain ⟨h0, v, hW, hG⟩ := h
  exact ⟨h0.setCell h1 u, v, hW.other h2 u, hG⟩
theorem RdSt.later {w0 : World} {gr : Nat} {s : List Int × Bool} {w w' : World} (h : RdSt w0 gr s w) (hb : Below w.heap.size w w') : RdSt w0 gr s w' := by
  obtain ⟨h0, v, hW, hG⟩ := h
  exact ⟨held_next h0 hb, v, hW.later hb hW.lt, hG⟩
theorem look_world (w : World) (A B C D : Array Value) : ∃ W4, (((w.alloc (.cells A 32)).alloc (.cells B 2)).alloc (.cells C 2)).alloc (.cells D 50) = W4 ∧ Whole W4 w.heap.size 32 A ∧ Whole W4 (w.heap.size + 1) 2 B ∧ Whole W4 (w.heap.size + 1 + 1) 2 C ∧ Whole W4 (w.heap.size + 1 + 1 + 1) 50 D ∧ Below w.heap.size w W4 :=
  ⟨_, rfl, (((Whole.made w _ _).alloc _).alloc _).alloc _, ((Whole.made2 w _ _ _).alloc _).alloc _, (Whole.madeAt _ _ _ _ (by simp)).alloc _, Whole.madeAt _ _ _ _ (by simp), ((below_two w _ _).alloc (by simp; omega) _).alloc (by simp; omega) _⟩
/-- a look, read -/
def LookR (w0 : World) (gr : Nat) (s : List Int × Bool) (w : World) (e : Ending) (w' : World) : Prop := e = .returned (.agg #[.int .i64 (rdX s 0), .int .i64 (rdX s 1)]) ∧ RdSt w0 gr (rdS s 2) w' ∧ ButR gr w w'

set_option maxRecDepth 100000 in
set_option maxHeartbeats 8000000 in
theorem rdlook_calls (w0 : World) (gr : Nat) (s : List Int × Bool) (w : World) (hgr : w0.heap.size ≤ gr) (h : RdSt w0 gr s w) :
    Calls Try.prog 18 #[.pointer (some ⟨gr, 0, none⟩)] w (LookR w0 gr s w) := by
  obtain ⟨hb0, v, hW, hv⟩ := h
  have hlt : gr < w.heap.size := hW.lt
  have HW := Lib.hid hW; clear hW
  have HV := Lib.hid hv; clear hv
  have Hb0 := Lib.hid hb0; clear hb0
  go_enter Try.func18, Try.ntmps18
  go_wp2_with fail
  obtain ⟨W4, hW4, B1, B2, B3, B4, Bb⟩ := look_world w #[.int .i64 0, .int .i64 0] #[.int .i64 0] #[.int .i64 0] #[.pointer (some ⟨w.heap.size + 1, 0, none⟩), .pointer (some ⟨w.heap.size + 1 + 1, 0, none⟩)]
  rw [hW4]
  have hsz : w0.heap.size ≤ w.heap.size := Hb0.out.size
  refine (rdnums_calls w0 gr (w.heap.size + 1 + 1 + 1) 0 2 (fun j => ⟨w.heap.size + 1 + j, 0, none⟩) s v _ rfl (by decide) W4 (Hb0.out.trans (Bb.mono hsz)) (HW.out.later Bb hlt) HV.out hgr ?_ B4 ?_ (by omega)).mono ?_
  · intro j hj
    match j, hj with
    | 0, _ => exact ⟨⟨_, 0, _, _, rfl, B2, by decide⟩, by show w.heap.size + 1 + 0 ≠ gr; omega, by show _ ≤ w.heap.size + 1 + 0; omega, by show _ ≠ w.heap.size + 1 + 0; omega⟩
    | 1, _ => exact ⟨⟨_, 0, _, _, rfl, B3, by decide⟩, by show w.heap.size + 1 + 1 ≠ gr; omega, by show _ ≤ w.heap.size + 1 + 1; omega, by show _ ≠ w.heap.size + 1 + 1; omega⟩
  · intro j hj
    match j, hj with
    | 0, _ => rfl
    | 1, _ => rfl
  rintro e w5 ⟨rfl, hK⟩
  obtain ⟨u, hu, hug⟩ := RdK.reader (HW.out.later Bb hlt) HV.out (fun j _ => by show w.heap.size + 1 + j ≠ gr; omega) hK
  have hb5 : Below w0.heap.size w0 w5 := RdK.below (Hb0.out.trans (Bb.mono hsz)) hgr (fun j _ => by show _ ≤ w.heap.size + 1 + j; omega) hK
  have hbox : Whole w5 w.heap.size 32 #[.int .i64 0, .int .i64 0] := RdK.kept B1 (by omega) (fun j _ => by show _ ≠ w.heap.size + 1 + j; omega) hK
  obtain ⟨W5, v5, ⟨W6, v6, hK0, hg6, hw6⟩, hg5, hw5⟩ := hK
  have hK0' : W6 = W4 := hK0
  subst hK0'
  have q1 : Whole w5 (w.heap.size + 1) 2 #[.int .i64 (rdX s 0)] := by
    rw [hw5]
    refine rdW_other ?_ (by omega) (by show _ ≠ w.heap.size + 1 + 1; omega)
    rw [hw6]
    exact rdW_at (g := w.heap.size + 1) (i := 0) B2 (by omega)
  have q2 : Whole w5 (w.heap.size + 1 + 1) 2 #[.int .i64 (rdX s 1)] := by
    rw [hw5]
    refine rdW_at (g := w.heap.size + 1 + 1) (i := 0) (cs := #[.int .i64 0]) ?_ (by omega)
    rw [hw6]
    exact rdW_other B3 (by omega) (by show _ ≠ w.heap.size + 1 + 0; omega)
  have qr : ButR gr w w5 := by
    rw [hw5]
    refine ButR.rdW ?_ (by show _ ≤ w.heap.size + 1 + 1; omega)
    rw [hw6]
    exact ButR.rdW (ButR.of Bb) (by show _ ≤ w.heap.size + 1 + 0; omega)
  have HR := Lib.hid hu
  have HG := Lib.hid hug
  have Hb5 := Lib.hid hb5
  have HQ := Lib.hid qr
  have HBox := Lib.hid hbox
  clear hK0 hg6 hw6 hg5 hw5 hu hug hb5 qr B1 B2 B3 B4 Bb hW4
  obtain ⟨x0, Hx0⟩ : ∃ z, Hid (rdX s 0 = z) := ⟨_, rfl⟩
  obtain ⟨x1, Hx1⟩ : ∃ z, Hid (rdX s 1 = z) := ⟨_, rfl⟩
  rw [Hx0.out] at q1
  rw [Hx1.out] at q2
  have p1 : w5.cell? ⟨w.heap.size + 1, 0, none⟩ = some (.int .i64 x0) := q1.cell 0
  have p2 : w5.cell? ⟨w.heap.size + 1 + 1, 0, none⟩ = some (.int .i64 x1) := q2.cell 0
  have b0 : w5.cell? ⟨w.heap.size, 0, none⟩ = some (.int .i64 0) := hbox.cell 0
  have b1 : w5.cell? ⟨w.heap.size, 1, none⟩ = some (.int .i64 0) := hbox.cell 1
  have f0 := hbox.free 0
  have f1 := hbox.free 1
  clear q1 q2 hbox
  have hw8 : Whole ((w5.setCell ⟨w.heap.size, 0, none⟩ (.int .i64 x0)).setCell ⟨w.heap.size, 1, none⟩ (.int .i64 x1)) w.heap.size 32 #[.int .i64 x0, .int .i64 x1] := (HBox.out.set 0 (.int .i64 x0)).set 1 (.int .i64 x1)
  have HW8 := Lib.hid hw8; clear hw8
  have k0 := HW8.out.cell 0
  have k1 := HW8.out.cell 1
  go_wp2_with fail
  refine bodyPost_ret (v := .agg #[.int .i64 x0, .int .i64 x1]) (by simp [results, Try.results18, go_sem, k0, k1]) rfl ?_
  exact ⟨by rw [Hx0.out, Hx1.out], (RdSt.set (RdSt.set ⟨Hb5.out, u, HR.out, HG.out⟩ (p := ⟨w.heap.size, 0, none⟩) hsz (by show gr ≠ w.heap.size; omega) _) (p := ⟨w.heap.size, 1, none⟩) hsz (by show gr ≠ w.heap.size; omega) _), (HQ.out.set (p := ⟨w.heap.size, 0, none⟩) (Nat.le_refl _) _).set (p := ⟨w.heap.size, 1, none⟩) (Nat.le_refl _) _⟩

/-- books, read -/
def BooksR (w0 : World) (gr : Nat) (c : Cf) (s : List Int × Bool) (w : World) (e : Ending) (w' : World) : Prop := ∃ A C, e = .returned (.slice A (rdB c s).1.length C) ∧ BooksFar w.heap.size w' (.slice A (rdB c s).1.length C) (rdB c s).1 ∧ RdSt w0 gr (rdB c s).2 w' ∧ ButR gr w w'
theorem booksFar_nil (B : Nat) (w : World) : BooksFar B w (.slice none 0 0) [] := ⟨books_nil _ _ _ (fun _ => rfl), fun _ _ _ => books_nil _ _ _ (fun _ => rfl)⟩
set_option maxRecDepth 100000 in
set_option maxHeartbeats 8000000 in
theorem rdbooks_calls (w0 : World) (gr : Nat) (c : Cf) (s : List Int × Bool) (w : World) (hgr : w0.heap.size ≤ gr) (h : RdSt w0 gr s w) :
    Calls Try.prog 17 #[.pointer (some ⟨gr, 0, none⟩), cfV c] w (BooksR w0 gr c s w) := by
  obtain ⟨hb0, v, hW, hv⟩ := h
  have hlt : gr < w.heap.size := hW.lt
  have HW := Lib.hid hW; clear hW
  obtain ⟨A, n, C, rfl, hn, hnC, hG⟩ := hv
  have Hn := Lib.hid hn; clear hn
  have HG := Lib.hid hG; clear hG
  have Hb0 := Lib.hid hb0; clear hb0
  have HC := Lib.hid (Whole.made w 23 (cfCells c))
  have Hb1 := Lib.hid (below_box w (.cells (cfCells c) 23))
  have HW1 := Lib.hid (HW.out.later Hb1.out hlt)
  obtain ⟨N, q, r, p, kk, cc⟩ := c
  go_enter Try.func17, Try.ntmps17
  go_wp2_with fail
  show Code.wp _ _ _ _ (w.alloc (.cells (cfCells ⟨N, q, r, p, kk, cc⟩) 23))
  obtain ⟨W1, hW1⟩ : ∃ z, w.alloc (.cells (cfCells ⟨N, q, r, p, kk, cc⟩) 23) = z := ⟨_, rfl⟩
  rw [hW1] at HC Hb1 HW1 ⊢
  clear hW1
  have hb01 : Below w0.heap.size w0 W1 := held_next Hb0.out Hb1.out
  have KP : Hid (∀ w', Below W1.heap.size W1 w' → Below W1.heap.size W1 w' ∧ w'.cell? ⟨gr, 0, none⟩ = some (.slice A n C) ∧ Whole w' w.heap.size 23 (cfCells ⟨N, q, r, p, kk, cc⟩)) :=
    fun w' h => ⟨h, (HW1.out.later h HW1.out.lt).cell 0, HC.out.later h HC.out.lt⟩
  have HC6 : Hid (∀ w', Whole w' w.heap.size 23 (cfCells ⟨N, q, r, p, kk, cc⟩) → w'.cell? ⟨w.heap.size, 0, none⟩ = some (.int .i64 N) ∧ w'.cell? ⟨w.heap.size, 1, none⟩ = some (.int .i64 q) ∧ w'.cell? ⟨w.heap.size, 2, none⟩ = some (.int .i64 r) ∧ w'.cell? ⟨w.heap.size, 3, none⟩ = some (.int .i64 p) ∧ w'.cell? ⟨w.heap.size, 4, none⟩ = some (.int .i64 kk) ∧ w'.cell? ⟨w.heap.size, 5, none⟩ = some (.int .i64 cc)) :=
    fun w' h => ⟨h.cell 0, h.cell 1, h.cell 2, h.cell 3, h.cell 4, h.cell 5⟩
  have KQ : Hid (∀ w', Below W1.heap.size W1 w' → Below W1.heap.size W1 w' ∧ w'.cell? ⟨gr, 0, none⟩ = some (.slice A n C) ∧ w'.cell? ⟨w.heap.size, 0, none⟩ = some (.int .i64 N) ∧ w'.cell? ⟨w.heap.size, 1, none⟩ = some (.int .i64 q) ∧ w'.cell? ⟨w.heap.size, 2, none⟩ = some (.int .i64 r) ∧ w'.cell? ⟨w.heap.size, 3, none⟩ = some (.int .i64 p) ∧ w'.cell? ⟨w.heap.size, 4, none⟩ = some (.int .i64 kk) ∧ w'.cell? ⟨w.heap.size, 5, none⟩ = some (.int .i64 cc)) :=
    fun w' h => ⟨h, (KP.out w' h).2.1, HC6.out w' (KP.out w' h).2.2⟩
  have hws : w.heap.size ≤ W1.heap.size := Hb1.out.size
  have hall : ∀ W, Below W1.heap.size W1 W → Calls Try.prog 37 #[cfV ⟨N, q, r, p, kk, cc⟩, .slice A n C] W (TookBA W (.slice A n C) s.1 (takeB ⟨N, q, r, p, kk, cc⟩ s.1)) := fun W hW => pTake_all ⟨N, q, r, p, kk, cc⟩ A n C s.1 W (HG.out W (held_next hb01 hW)) Hn.out hnC
  have Hall := Lib.hid hall; clear hall
  cases hres : takeB ⟨N, q, r, p, kk, cc⟩ s.1 with
  | none =>
    have HB : Hid (rdB ⟨N, q, r, p, kk, cc⟩ s = ([], ([], true))) := rdB_no (b := s.2) hres
    have HT : Hid (∀ W, Below W1.heap.size W1 W → Calls Try.prog 37 #[cfV ⟨N, q, r, p, kk, cc⟩, .slice A n C] W (fun e w' => e = .returned (.tuple #[.slice none 0 0, .slice none 0 0, .bool false]) ∧ Below W.heap.size W w')) := fun W hW => (Hall.out W hW).mono fun e w' h => by
      rw [hres] at h
      rcases h with ⟨_, _, _, _, _, _, h, _⟩ | h
      · cases h
      · exact h.2
    clear hres Hall
    go_region_held3 (fun w' => Below W1.heap.size W1 w' ∧ w'.cell? ⟨gr, 0, none⟩ = some (.slice A n C) ∧ w'.cell? ⟨w.heap.size, 0, none⟩ = some (.int .i64 N) ∧ w'.cell? ⟨w.heap.size, 1, none⟩ = some (.int .i64 q) ∧ w'.cell? ⟨w.heap.size, 2, none⟩ = some (.int .i64 r) ∧ w'.cell? ⟨w.heap.size, 3, none⟩ = some (.int .i64 p) ∧ w'.cell? ⟨w.heap.size, 4, none⟩ = some (.int .i64 kk) ∧ w'.cell? ⟨w.heap.size, 5, none⟩ = some (.int .i64 cc))
      (first | exact KQ.out _ (Below.refl _ _).drew | exact KQ.out _ hS9)
      (first | (go_at_call 37; refine (HT.out _ (Below.refl _ _).drew).mono ?_; rintro ee w9 ⟨rfl, hb9⟩; have hS9 := (Below.refl W1.heap.size W1).drew.trans (hb9.mono (Nat.le_refl _))) | fail)
    have hr9 := HW1.out.later hS9 HW1.out.lt
    have HR9 := Lib.hid hr9
    clear hr9
    go_wp2_with fail
    refine (behind_calls gr _ none 0 0 s.2 false w9 HR9.out).mono ?_
    rintro e w5 ⟨rfl, hw5⟩
    have hst : RdSt w0 gr ([], true) w5 := by
      rw [hw5]
      refine ⟨((held_next hb01 hS9).setCell (p := ⟨gr, 0, none⟩) hgr _).setCell (p := ⟨gr, 1, none⟩) hgr _, .slice none 0 0, ?_, goodB_nil _⟩
      have h := (HR9.out.set 0 (.slice none 0 0)).set 1 (.bool (s.2 || !false))
      rw [show (s.2 || !false) = true by simp] at h ⊢
      exact h
    have hbr : ButR gr w w5 := by
      rw [hw5]
      have h := ButR.of (gr := gr) (held_next Hb1.out hS9)
      exact ⟨by simp; exact h.1, fun b hb hne => (Below.heap_setCell _ ⟨gr, 1, none⟩ _ b hne).trans ((Below.heap_setCell _ ⟨gr, 0, none⟩ _ b hne).trans (h.2 b hb hne))⟩
    have HSt := Lib.hid hst
    have HBr := Lib.hid hbr
    clear hst hbr hw5
    go_wp2_with fail
    go_ret
    refine ⟨none, 0, ?_, ?_, ?_, HBr.out⟩
    · rw [HB.out]; rfl
    · rw [HB.out]; exact booksFar_nil _ _
    · rw [HB.out]; exact HSt.out
  | some pr =>
    obtain ⟨l, rest⟩ := pr
    have HB : Hid (rdB ⟨N, q, r, p, kk, cc⟩ s = (l, (rest, s.2))) := rdB_yes (b := s.2) hres
    have HT : Hid (∀ W, Below W1.heap.size W1 W → Calls Try.prog 37 #[cfV ⟨N, q, r, p, kk, cc⟩, .slice A n C] W (fun e w' => ∃ A' C' B' D', e = .returned (.tuple #[.slice A' l.length C', .slice B' rest.length D', .bool true]) ∧ BooksFar w.heap.size w' (.slice A' l.length C') l ∧ GoodB w0 (.slice B' rest.length D') rest ∧ Below W.heap.size W w')) := fun W hW => (Hall.out W hW).mono fun e w' h => by
      rw [hres] at h
      rcases h with ⟨l', rest', A', C', B', D', h1, h2, h3, h4, h5, h6⟩ | h
      · simp only [Option.some.injEq, Prod.mk.injEq] at h1
        obtain ⟨rfl, rfl⟩ := h1
        exact ⟨A', C', B', D', h2, h3.mono (Nat.le_trans hws hW.size), ⟨B', _, D', rfl, rfl, h5, fun W' hW' => h4 W' (HG.out W' hW')⟩, h6⟩
      · cases h.1
    clear hres Hall
    obtain ⟨ll, Hll⟩ : ∃ z, Hid (l.length = z) := ⟨_, rfl⟩
    obtain ⟨lr, Hlr⟩ : ∃ z, Hid (rest.length = z) := ⟨_, rfl⟩
    rw [Hll.out, Hlr.out] at HT
    go_region_held3 (fun w' => Below W1.heap.size W1 w' ∧ w'.cell? ⟨gr, 0, none⟩ = some (.slice A n C) ∧ w'.cell? ⟨w.heap.size, 0, none⟩ = some (.int .i64 N) ∧ w'.cell? ⟨w.heap.size, 1, none⟩ = some (.int .i64 q) ∧ w'.cell? ⟨w.heap.size, 2, none⟩ = some (.int .i64 r) ∧ w'.cell? ⟨w.heap.size, 3, none⟩ = some (.int .i64 p) ∧ w'.cell? ⟨w.heap.size, 4, none⟩ = some (.int .i64 kk) ∧ w'.cell? ⟨w.heap.size, 5, none⟩ = some (.int .i64 cc))
      (first | exact KQ.out _ (Below.refl _ _).drew | exact KQ.out _ hS9)
      (first | (go_at_call 37; refine (HT.out _ (Below.refl _ _).drew).mono ?_; rintro ee w9 ⟨A', C', B', D', rfl, hf9, hg9, hb9⟩; have hS9 := (Below.refl W1.heap.size W1).drew.trans (hb9.mono (Nat.le_refl _))) | fail)
    have hr9 := HW1.out.later hS9 HW1.out.lt
    have HR9 := Lib.hid hr9
    have HF9 := Lib.hid hf9
    have HG9 := Lib.hid hg9
    clear hr9 hf9 hg9
    go_wp2_with fail
    refine (behind_calls gr _ B' lr D' s.2 true w9 HR9.out).mono ?_
    rintro e w5 ⟨rfl, hw5⟩
    have hst : RdSt w0 gr (rest, s.2) w5 := by
      rw [hw5]
      refine ⟨((held_next hb01 hS9).setCell (p := ⟨gr, 0, none⟩) hgr _).setCell (p := ⟨gr, 1, none⟩) hgr _, .slice B' lr D', ?_, HG9.out⟩
      have h := (HR9.out.set 0 (.slice B' lr D')).set 1 (.bool (s.2 || !true))
      rw [show (s.2 || !true) = s.2 by simp] at h ⊢
      exact h
    have hbr : ButR gr w w5 := by
      rw [hw5]
      have h := ButR.of (gr := gr) (held_next Hb1.out hS9)
      exact ⟨by simp; exact h.1, fun b hb hne => (Below.heap_setCell _ ⟨gr, 1, none⟩ _ b hne).trans ((Below.heap_setCell _ ⟨gr, 0, none⟩ _ b hne).trans (h.2 b hb hne))⟩
    have hfar : BooksFar w.heap.size w5 (.slice A' ll C') l := by
      rw [hw5]
      exact (HF9.out.other (p := ⟨gr, 0, none⟩) hlt _).other (p := ⟨gr, 1, none⟩) hlt _
    have HSt := Lib.hid hst
    have HBr := Lib.hid hbr
    have HFar := Lib.hid hfar
    clear hst hbr hw5 hfar
    go_wp2_with fail
    go_ret
    refine ⟨A', C', ?_, ?_, ?_, HBr.out⟩
    · rw [HB.out, Hll.out]; rfl
    · rw [HB.out]; simp only; rw [Hll.out]; exact HFar.out
    · rw [HB.out]; exact HSt.out
end Go.Proofs.Ytfpadcfahfanoaa
