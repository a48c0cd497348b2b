/- TapeTurns, walked. No law is proved here. -/
import Derived.Test.YtokdppjpgeaiiaaTapeAwake
import Derived.Deep.RegionHeld3
import Derived.Test.YtokdppjpgeaiiaaEach
namespace Go.Proofs.Ytokdppjpgeaiiaa
open Go.RowKit

theorem write_one {za : List Int} (h : za.length ≤ 20000) : writeT ⟨⟨[], []⟩, ⟨[], []⟩⟩ false za = (⟨⟨[], za⟩, ⟨[], []⟩⟩, 0) := by
  have h2 : mayT (wroteT ⟨⟨[], []⟩, ⟨[], []⟩⟩ false za) = true := decide_eq_true (by show ([] ++ ([] ++ za)).length + ([] ++ []).length ≤ 65536; simp; omega)
  unfold writeT
  rw [show mayT ⟨⟨[], []⟩, ⟨[], []⟩⟩ = true from rfl, if_pos rfl, h2, if_pos rfl]; rfl
theorem write_two {za zb : List Int} (h : za.length ≤ 20000) (h' : zb.length ≤ 20000) : writeT ⟨⟨za, []⟩, ⟨[], []⟩⟩ true zb = (⟨⟨za, []⟩, ⟨[], zb⟩⟩, 0) := by
  have h1 : mayT ⟨⟨za, []⟩, ⟨[], []⟩⟩ = true := decide_eq_true (by show (za ++ []).length + ([] ++ []).length ≤ 65536; simp; omega)
  have h2 : mayT (wroteT ⟨⟨za, []⟩, ⟨[], []⟩⟩ true zb) = true := decide_eq_true (by show (za ++ []).length + ([] ++ ([] ++ zb)).length ≤ 65536; simp; omega)
  unfold writeT
  rw [h1, if_pos rfl, h2, if_pos rfl]; rfl
theorem sync_one (za : List Int) : syncT ⟨⟨[], za⟩, ⟨[], []⟩⟩ false = ⟨⟨za, []⟩, ⟨[], []⟩⟩ := rfl
theorem sync_two (za zb : List Int) : syncT ⟨⟨za, []⟩, ⟨[], zb⟩⟩ true = ⟨⟨za, []⟩, ⟨zb, []⟩⟩ := rfl
/-- a tape that a call answered: it lies in neither box that is there -/
def Res (w : World) (d8 d9 : Bool) (g8 g9 : Nat) (v : Value) (T : Tp) : Prop := ∃ y : TpS, v = tpV y ∧ TB w y T ∧ (d8 = true → TOff g8 y T) ∧ (d9 = true → TOff g9 y T)
theorem Res.later {w w' : World} {d8 d9 : Bool} {g8 g9 : Nat} {v : Value} {T : Tp} (h : Res w d8 d9 g8 g9 v T) (hb : Below w.heap.size w w') : Res w' d8 d9 g8 g9 v T := by
  obtain ⟨y, h1, h2, h3, h4⟩ := h
  exact ⟨y, h1, h2.later hb, h3, h4⟩
theorem Res.made8 {w w' : World} {d8 d9 : Bool} {g8 g9 : Nat} {v : Value} {T : Tp} (h : Res w d8 d9 g8 g9 v T) (hb : Below w.heap.size w w') : Res w' true d9 w.heap.size g9 v T := by
  obtain ⟨y, h1, h2, h3, h4⟩ := h
  exact ⟨y, h1, h2.later hb, fun _ => h2.off (Nat.le_refl _), h4⟩
theorem Res.made9 {w w' : World} {d8 d9 : Bool} {g8 g9 : Nat} {v : Value} {T : Tp} (h : Res w d8 d9 g8 g9 v T) (hb : Below w.heap.size w w') : Res w' d8 true g8 w.heap.size v T := by
  obtain ⟨y, h1, h2, h3, h4⟩ := h
  exact ⟨y, h1, h2.later hb, h3, fun _ => h2.off (Nat.le_refl _)⟩
theorem Res.store {w : World} {d8 d9 : Bool} {g8 g9 g : Nat} {v : Value} {T : Tp} (h : Res w d8 d9 g8 g9 v T) (hg : (g = g8 ∧ d8 = true) ∨ (g = g9 ∧ d9 = true)) (x0 x1 x2 x3 : Value) :
    Res ((((w.setCell ⟨g, 0, none⟩ x0).setCell ⟨g, 1, none⟩ x1).setCell ⟨g, 2, none⟩ x2).setCell ⟨g, 3, none⟩ x3) d8 d9 g8 g9 v T := by
  obtain ⟨y, h1, h2, h3, h4⟩ := h
  refine ⟨y, h1, h2.four ?_ _ _ _ _, h3, h4⟩
  rcases hg with ⟨rfl, h⟩ | ⟨rfl, h⟩
  · exact h3 h
  · exact h4 h
/-- a box of the call's own: behind its store it holds the tape -/
def Box (w : World) (B : Nat) (d8 d9 o : Bool) (g g8 g9 : Nat) (v : Value) (T : Tp) : Prop :=
  v = .pointer (some ⟨g, 0, none⟩) ∧ B ≤ g ∧ g < w.heap.size ∧ ∃ v0 v1 v2 v3, Whole w g 26 #[v0, v1, v2, v3] ∧ (o = true → Res w d8 d9 g8 g9 (.agg #[v0, v1, v2, v3]) T)
theorem Box.later {w w' : World} {B : Nat} {d8 d9 o : Bool} {g g8 g9 : Nat} {v : Value} {T : Tp} (h : Box w B d8 d9 o g g8 g9 v T) (hb : Below w.heap.size w w') : Box w' B d8 d9 o g g8 g9 v T := by
  obtain ⟨h1, h2, h3, v0, v1, v2, v3, hw, hr⟩ := h
  exact ⟨h1, h2, Nat.lt_of_lt_of_le h3 hb.size, v0, v1, v2, v3, hw.later hb h3, fun h => (hr h).later hb⟩
theorem Box.made8 {w w' : World} {B : Nat} {d8 d9 o : Bool} {g g8 g9 : Nat} {v : Value} {T : Tp} (h : Box w B d8 d9 o g g8 g9 v T) (hb : Below w.heap.size w w') : Box w' B true d9 o g w.heap.size g9 v T := by
  obtain ⟨h1, h2, h3, v0, v1, v2, v3, hw, hr⟩ := h
  exact ⟨h1, h2, Nat.lt_of_lt_of_le h3 hb.size, v0, v1, v2, v3, hw.later hb h3, fun h => (hr h).made8 hb⟩
theorem Box.made9 {w w' : World} {B : Nat} {d8 d9 o : Bool} {g g8 g9 : Nat} {v : Value} {T : Tp} (h : Box w B d8 d9 o g g8 g9 v T) (hb : Below w.heap.size w w') : Box w' B d8 true o g g8 w.heap.size v T := by
  obtain ⟨h1, h2, h3, v0, v1, v2, v3, hw, hr⟩ := h
  exact ⟨h1, h2, Nat.lt_of_lt_of_le h3 hb.size, v0, v1, v2, v3, hw.later hb h3, fun h => (hr h).made9 hb⟩
theorem whole_four {w : World} {g h : Nat} {T : TypeId} {cs : Array Value} (hw : Whole w g T cs) (hne : g ≠ h) (x0 x1 x2 x3 : Value) : Whole ((((w.setCell ⟨h, 0, none⟩ x0).setCell ⟨h, 1, none⟩ x1).setCell ⟨h, 2, none⟩ x2).setCell ⟨h, 3, none⟩ x3) g T cs :=
  (((hw.other (p := ⟨h, 0, none⟩) hne x0).other (p := ⟨h, 1, none⟩) hne x1).other (p := ⟨h, 2, none⟩) hne x2).other (p := ⟨h, 3, none⟩) hne x3
theorem Box.store {w : World} {B : Nat} {d8 d9 o : Bool} {g g8 g9 k : Nat} {v : Value} {T : Tp} (h : Box w B d8 d9 o g g8 g9 v T) (hk : (k = g8 ∧ d8 = true) ∨ (k = g9 ∧ d9 = true)) (hne : g ≠ k) (x0 x1 x2 x3 : Value) :
    Box ((((w.setCell ⟨k, 0, none⟩ x0).setCell ⟨k, 1, none⟩ x1).setCell ⟨k, 2, none⟩ x2).setCell ⟨k, 3, none⟩ x3) B d8 d9 o g g8 g9 v T := by
  obtain ⟨h1, h2, h3, v0, v1, v2, v3, hw, hr⟩ := h
  exact ⟨h1, h2, by simpa using h3, v0, v1, v2, v3, whole_four hw hne _ _ _ _, fun h => (hr h).store hk _ _ _ _⟩
theorem Box.stored {w : World} {B : Nat} {d8 d9 o : Bool} {g g8 g9 : Nat} {v : Value} {T : Tp} (h : Box w B d8 d9 o g g8 g9 v T) (x0 x1 x2 x3 : Value) (hr : Res w d8 d9 g8 g9 (.agg #[x0, x1, x2, x3]) T) (hg : (g = g8 ∧ d8 = true) ∨ (g = g9 ∧ d9 = true)) :
    Box ((((w.setCell ⟨g, 0, none⟩ x0).setCell ⟨g, 1, none⟩ x1).setCell ⟨g, 2, none⟩ x2).setCell ⟨g, 3, none⟩ x3) B d8 d9 true g g8 g9 v T := by
  obtain ⟨h1, h2, h3, v0, v1, v2, v3, hw, _⟩ := h
  exact ⟨h1, h2, by simpa using h3, x0, x1, x2, x3, tape_left4 hw _ _ _ _, fun _ => hr.store hg _ _ _ _⟩
theorem lose_one (z : List Int) (keep : Int) : loseT ⟨⟨z, []⟩, ⟨[], []⟩⟩ keep = ⟨⟨z, []⟩, ⟨[], []⟩⟩ := by
  have h : heldV keep ([] : List Int).length = 0 := by have := heldV_le keep ([] : List Int).length; simpa using this
  unfold loseT lostA Ar.all
  simp only [h]
  simp

set_option maxRecDepth 100000 in
set_option maxHeartbeats 8000000 in
theorem tapeturns_law (sa sb : Sl) (za zb : List Int) (keep : Int) (w : World) (hA : SB w sa za) (hB : SB w sb zb) :
    Calls Try.prog 5 #[slV sa, slV sb, .int .i64 keep] w (Says w true) := by
  obtain ⟨aa, na, ca⟩ := sa
  obtain ⟨ab, nb, cb⟩ := sb
  have HA := Lib.hid hA; clear hA
  have HB := Lib.hid hB; clear hB
  show Calls Try.prog 5 #[.slice aa na ca, .slice ab nb cb, .int .i64 keep] w _
  go_enter Try.func5, Try.ntmps5
  go_wp2_with fail
  refine (awake7 _).mono ?_
  rintro e w0 ⟨rfl, hb⟩
  have Hb0 := Lib.hid hb; clear hb
  by_cases hna : 20000 < na
  · go_wp2_with fail
    go_ret
    exact ⟨by rfl, Hb0.out⟩
  by_cases hnb : 20000 < nb
  · go_wp2_with fail
    go_ret
    exact ⟨by rfl, Hb0.out⟩
  have hla : za.length ≤ 20000 := by have := HA.out.1; simp only at this; omega
  have hlb : zb.length ≤ 20000 := by have := HB.out.1; simp only at this; omega
  have Hla := Lib.hid hla; clear hla
  have Hlb := Lib.hid hlb; clear hlb
  go_wp2_with fail
  refine (tWrite_calls ⟨⟨⟨none, 0, 0⟩, ⟨none, 0, 0⟩⟩, ⟨⟨none, 0, 0⟩, ⟨none, 0, 0⟩⟩⟩ ⟨⟨[], []⟩, ⟨[], []⟩⟩ false ⟨aa, na, ca⟩ za _ ⟨⟨SB.nil _, SB.nil _⟩, SB.nil _, SB.nil _⟩ ⟨⟨by decide, by decide⟩, by decide, by decide⟩ (HA.out.later Hb0.out) (by have := Hla.out; omega)).mono ?_
  rw [write_one Hla.out]
  rintro e w1 ⟨⟨⟨⟨ap1, np1, cp1⟩, ⟨ap2, np2, cp2⟩⟩, ⟨⟨ap3, np3, cp3⟩, ⟨ap4, np4, cp4⟩⟩⟩, rfl, hT, _, hb⟩
  have Hb1 := Lib.hid (held_next Hb0.out hb)
  have HT1 := Lib.hid hT
  clear hb hT
  have HX1 := Lib.hid (Whole.made w1 26 #[.slice ap1 np1 cp1, .slice ap2 np2 cp2, .slice ap3 np3 cp3, .slice ap4 np4 cp4])
  have Hbx := Lib.hid (below_box w1 (.cells #[.slice ap1 np1 cp1, .slice ap2 np2 cp2, .slice ap3 np3 cp3, .slice ap4 np4 cp4] 26))
  go_wp2_with fail
  refine (tSync_calls ⟨⟨⟨ap1, np1, cp1⟩, ⟨ap2, np2, cp2⟩⟩, ⟨⟨ap3, np3, cp3⟩, ⟨ap4, np4, cp4⟩⟩⟩ ⟨⟨[], za⟩, ⟨[], []⟩⟩ false _ (HT1.out.later Hbx.out) ⟨⟨by show 0 ≤ _; omega, by show za.length ≤ _; have := Hla.out; omega⟩, Nat.zero_le _, Nat.zero_le _⟩).mono ?_
  rw [sync_one]
  rintro e w2 ⟨⟨⟨⟨aq1, nq1, cq1⟩, ⟨aq2, nq2, cq2⟩⟩, ⟨⟨aq3, nq3, cq3⟩, ⟨aq4, nq4, cq4⟩⟩⟩, rfl, hT, hO, hb⟩
  have HX2 := Lib.hid (HX1.out.later hb HX1.out.lt)
  have Hb2 := Lib.hid (held_next Hbx.out hb)
  have HT2 := Lib.hid hT
  have HO2 := Lib.hid (hO w1.heap.size (by simp) (HT1.out.off (Nat.le_refl _)))
  clear hb hT hO
  go_wp2_with fail
  refine (tWrite_calls ⟨⟨⟨aq1, nq1, cq1⟩, ⟨aq2, nq2, cq2⟩⟩, ⟨⟨aq3, nq3, cq3⟩, ⟨aq4, nq4, cq4⟩⟩⟩ ⟨⟨za, []⟩, ⟨[], []⟩⟩ true ⟨ab, nb, cb⟩ zb _ HT2.out ⟨⟨by show za.length ≤ _; have := Hla.out; omega, by show 0 ≤ _; omega⟩, Nat.zero_le _, Nat.zero_le _⟩ (HB.out.later (held_next Hb1.out Hb2.out)) (by have := Hlb.out; omega)).mono ?_
  rw [write_two Hla.out Hlb.out]
  rintro e w3 ⟨⟨⟨⟨ar1, nr1, cr1⟩, ⟨ar2, nr2, cr2⟩⟩, ⟨⟨ar3, nr3, cr3⟩, ⟨ar4, nr4, cr4⟩⟩⟩, rfl, hT, hO, hb⟩
  have HX3 := Lib.hid (HX2.out.later hb HX2.out.lt)
  have Hb3 := Lib.hid (held_next Hb2.out hb)
  have hO3 := hO w1.heap.size HX2.out.lt ⟨HO2.out, HB.out.off (by have := Hb1.out.size; omega)⟩
  have HT3 : Hid (TB ((((w3.setCell ⟨w1.heap.size, 0, none⟩ (.slice ar1 nr1 cr1)).setCell ⟨w1.heap.size, 1, none⟩ (.slice ar2 nr2 cr2)).setCell ⟨w1.heap.size, 2, none⟩ (.slice ar3 nr3 cr3)).setCell ⟨w1.heap.size, 3, none⟩ (.slice ar4 nr4 cr4)) ⟨⟨⟨ar1, nr1, cr1⟩, ⟨ar2, nr2, cr2⟩⟩, ⟨⟨ar3, nr3, cr3⟩, ⟨ar4, nr4, cr4⟩⟩⟩ ⟨⟨za, []⟩, ⟨[], zb⟩⟩) := ⟨⟨hT.1.1.four hO3.1.1 _ _ _ _, hT.1.2.four hO3.1.2 _ _ _ _⟩, hT.2.1.four hO3.2.1 _ _ _ _, hT.2.2.four hO3.2.2 _ _ _ _⟩
  have HX4 := Lib.hid (tape_left4 HX3.out (.slice ar1 nr1 cr1) (.slice ar2 nr2 cr2) (.slice ar3 nr3 cr3) (.slice ar4 nr4 cr4))
  have HO3 := Lib.hid hO3
  have Hb4 := Lib.hid (below_four Hb3.out (Nat.le_refl _) (.slice ar1 nr1 cr1) (.slice ar2 nr2 cr2) (.slice ar3 nr3 cr3) (.slice ar4 nr4 cr4))
  have z0 := HX3.out.cell 0
  have z1 := HX3.out.cell 1
  have z2 := HX3.out.cell 2
  have z3 := HX3.out.cell 3
  have y0 := HX3.out.free 0
  have y1 := HX3.out.free 1
  have y2 := HX3.out.free 2
  have y3 := HX3.out.free 3
  have hlt3 : w1.heap.size < w3.heap.size := HX3.out.lt
  clear hb hT hO hO3
  go_wp2_with fail
  clear z0 z1 z2 z3 y0 y1 y2 y3
  refine (tSync_calls ⟨⟨⟨ar1, nr1, cr1⟩, ⟨ar2, nr2, cr2⟩⟩, ⟨⟨ar3, nr3, cr3⟩, ⟨ar4, nr4, cr4⟩⟩⟩ ⟨⟨za, []⟩, ⟨[], zb⟩⟩ true _ HT3.out ⟨⟨by show za.length ≤ _; have := Hla.out; omega, by show 0 ≤ _; omega⟩, by show 0 ≤ _; omega, by show zb.length ≤ _; have := Hlb.out; omega⟩).mono ?_
  rw [sync_two]
  rintro e w5 ⟨⟨⟨⟨as1, ns1, cs1⟩, ⟨as2, ns2, cs2⟩⟩, ⟨⟨as3, ns3, cs3⟩, ⟨as4, ns4, cs4⟩⟩⟩, rfl, hT, hO, hb⟩
  have HX5 := Lib.hid (HX4.out.later hb HX4.out.lt)
  have Hb5 := Lib.hid (held_next Hb4.out hb)
  have hO5 := hO w1.heap.size HX4.out.lt HO3.out
  obtain ⟨w6, hw6⟩ : ∃ z, ((((w5.setCell ⟨w1.heap.size, 0, none⟩ (.slice as1 ns1 cs1)).setCell ⟨w1.heap.size, 1, none⟩ (.slice as2 ns2 cs2)).setCell ⟨w1.heap.size, 2, none⟩ (.slice as3 ns3 cs3)).setCell ⟨w1.heap.size, 3, none⟩ (.slice as4 ns4 cs4)) = z := ⟨_, rfl⟩
  have HT6 : Hid (TB w6 ⟨⟨⟨as1, ns1, cs1⟩, ⟨as2, ns2, cs2⟩⟩, ⟨⟨as3, ns3, cs3⟩, ⟨as4, ns4, cs4⟩⟩⟩ ⟨⟨za, []⟩, ⟨zb, []⟩⟩) := by rw [← hw6]; exact ⟨⟨hT.1.1.four hO5.1.1 _ _ _ _, hT.1.2.four hO5.1.2 _ _ _ _⟩, hT.2.1.four hO5.2.1 _ _ _ _, hT.2.2.four hO5.2.2 _ _ _ _⟩
  have HX6 : Hid (Whole w6 w1.heap.size 26 #[.slice as1 ns1 cs1, .slice as2 ns2 cs2, .slice as3 ns3 cs3, .slice as4 ns4 cs4]) := by rw [← hw6]; exact tape_left4 HX5.out _ _ _ _
  have Hb6 : Hid (Below w1.heap.size w1 w6) := by rw [← hw6]; exact below_four Hb5.out (Nat.le_refl _) _ _ _ _
  have z0 := HX5.out.cell 0
  have z1 := HX5.out.cell 1
  have z2 := HX5.out.cell 2
  have z3 := HX5.out.cell 3
  have y0 := HX5.out.free 0
  have y1 := HX5.out.free 1
  have y2 := HX5.out.free 2
  have y3 := HX5.out.free 3
  have hlt5 : w1.heap.size < w5.heap.size := HX5.out.lt
  clear hb hT hO hO5
  go_wp2_with fail
  clear z0 z1 z2 z3 y0 y1 y2 y3 hw6
  have hfit0 : (⟨⟨za, []⟩, ⟨zb, []⟩⟩ : Tp).fits 400000 := ⟨⟨by show za.length ≤ _; have := Hla.out; omega, Nat.zero_le _⟩, by show zb.length ≤ _; have := Hlb.out; omega, Nat.zero_le _⟩
  have hfit1 : (turnT ⟨⟨za, []⟩, ⟨zb, []⟩⟩).fits 400000 := ⟨hfit0.2, Nat.zero_le _, Nat.zero_le _⟩
  have hfit2 : (wipeT ⟨⟨za, []⟩, ⟨zb, []⟩⟩).fits 400000 := ⟨hfit0.1, Nat.zero_le _, Nat.zero_le _⟩
  have Hf0 := Lib.hid hfit0
  have Hf1 := Lib.hid hfit1
  have Hf2 := Lib.hid hfit2
  clear hfit0 hfit1 hfit2
  refine wp_region_each_at ?hm ?hb (fun a0 d a' w' => ∃ (e0 e1 e2 e3 e4 e5 e6 e7 e8 e9 : Value) (g8 g9 : Nat), a' = putAll a0 [(39, e0), (40, e1), (41, e2), (42, e3), (43, e4), (44, e5), (45, e6), (46, e7), (10, e8), (11, e9)] ∧ Below w6.heap.size w6 w' ∧ (d 0 = true → e0 = tpV ⟨⟨⟨as1, ns1, cs1⟩, ⟨as2, ns2, cs2⟩⟩, ⟨⟨as3, ns3, cs3⟩, ⟨as4, ns4, cs4⟩⟩⟩) ∧ (d 1 = true → Res w' (d 8) (d 9) g8 g9 e1 (turnT ⟨⟨za, []⟩, ⟨zb, []⟩⟩)) ∧ (d 2 = true → e2 = .int .i64 keep) ∧ (d 3 = true → Res w' (d 8) (d 9) g8 g9 e3 (loseT (turnT ⟨⟨za, []⟩, ⟨zb, []⟩⟩) keep)) ∧ (d 4 = true → e4 = tpV ⟨⟨⟨as1, ns1, cs1⟩, ⟨as2, ns2, cs2⟩⟩, ⟨⟨as3, ns3, cs3⟩, ⟨as4, ns4, cs4⟩⟩⟩) ∧ (d 5 = true → Res w' (d 8) (d 9) g8 g9 e5 (wipeT ⟨⟨za, []⟩, ⟨zb, []⟩⟩)) ∧ (d 6 = true → e6 = .int .i64 keep) ∧ (d 7 = true → Res w' (d 8) (d 9) g8 g9 e7 (loseT (wipeT ⟨⟨za, []⟩, ⟨zb, []⟩⟩) keep)) ∧ (d 8 = true → Box w' w6.heap.size (d 8) (d 9) (d 10) g8 g8 g9 e8 (loseT (turnT ⟨⟨za, []⟩, ⟨zb, []⟩⟩) keep)) ∧ (d 9 = true → Box w' w6.heap.size (d 8) (d 9) (d 11) g9 g8 g9 e9 (loseT (wipeT ⟨⟨za, []⟩, ⟨zb, []⟩⟩) keep)) ∧ (d 8 = true → d 9 = true → g8 ≠ g9) ∧ (d 10 = true → d 8 = true) ∧ (d 11 = true → d 9 = true)) ?h0 ?step ?ends
  case hm => kernel_rfl
  case hb => kernel_rfl
  case h0 =>
    refine ⟨undef, undef, undef, undef, undef, undef, undef, undef, undef, undef, 0, 0, ?_, (Below.refl _ _).drew, fun h => absurd h (by decide), fun h => absurd h (by decide), fun h => absurd h (by decide), fun h => absurd h (by decide), fun h => absurd h (by decide), fun h => absurd h (by decide), fun h => absurd h (by decide), fun h => absurd h (by decide), fun h => absurd h (by decide), fun h => absurd h (by decide), fun h => absurd h (by decide), fun h => absurd h (by decide), fun h => absurd h (by decide)⟩
    simp only [putAll, Act.put, List.setIfInBounds_toArray, List.set_cons_zero, List.set_cons_succ]
  case step =>
    intro i d a' w' hi hJ hd hk
    obtain ⟨e0, e1, e2, e3, e4, e5, e6, e7, e8, e9, g8, g9, rfl, hB, c0, c1, c2, c3, c4, c5, c6, c7, c8, c9, hne, k8, k9⟩ := hJ
    match i, hi, hd, hk with
    | 0, _, hd, hk =>
      have HXc := HX6.out.later hB HX6.out.lt
      have z0 := HXc.cell 0
      have z1 := HXc.cell 1
      have z2 := HXc.cell 2
      have z3 := HXc.cell 3
      apply wpOp_at
      case ho => rfl
      intro K hK
      simp only [putAll, Act.put, List.setIfInBounds_toArray, List.set_cons_zero, List.set_cons_succ]
      go_simp
      refine hK _ _ ⟨tpV ⟨⟨⟨as1, ns1, cs1⟩, ⟨as2, ns2, cs2⟩⟩, ⟨⟨as3, ns3, cs3⟩, ⟨as4, ns4, cs4⟩⟩⟩, e1, e2, e3, e4, e5, e6, e7, e8, e9, g8, g9, ?_, hB, fun _ => rfl, c1, c2, c3, c4, c5, c6, c7, c8, c9, hne, k8, k9⟩
      simp only [putAll, Act.put, List.setIfInBounds_toArray, List.set_cons_zero, List.set_cons_succ]
    | 1, _, hd, hk =>
      have h0 : d 0 = true := hk 0 (by decide +kernel)
      obtain rfl := c0 h0
      apply wpOp_at
      case ho => rfl
      intro K hK
      simp only [putAll, Act.put, List.setIfInBounds_toArray, List.set_cons_zero, List.set_cons_succ]
      go_simp
      refine (tTurn_calls ⟨⟨⟨as1, ns1, cs1⟩, ⟨as2, ns2, cs2⟩⟩, ⟨⟨as3, ns3, cs3⟩, ⟨as4, ns4, cs4⟩⟩⟩ ⟨⟨za, []⟩, ⟨zb, []⟩⟩ _ (HT6.out.later hB) Hf0.out).mono ?_
      rintro e w'' ⟨y, rfl, hT, hO, hb⟩
      refine hK _ _ ⟨tpV ⟨⟨⟨as1, ns1, cs1⟩, ⟨as2, ns2, cs2⟩⟩, ⟨⟨as3, ns3, cs3⟩, ⟨as4, ns4, cs4⟩⟩⟩, tpV y, e2, e3, e4, e5, e6, e7, e8, e9, g8, g9, ?_, hB.trans (hb.mono hB.size), c0, fun _ => ⟨y, rfl, hT, fun h => hO g8 (c8 h).2.2.1 (HT6.out.off (c8 h).2.1), fun h => hO g9 (c9 h).2.2.1 (HT6.out.off (c9 h).2.1)⟩, c2, fun h => (c3 h).later hb, c4, fun h => (c5 h).later hb, c6, fun h => (c7 h).later hb, fun h => (c8 h).later hb, fun h => (c9 h).later hb, hne, k8, k9⟩
      simp only [putAll, Act.put, List.setIfInBounds_toArray, List.set_cons_zero, List.set_cons_succ]
    | 2, _, hd, hk =>
      apply wpOp_at
      case ho => rfl
      intro K hK
      simp only [putAll, Act.put, List.setIfInBounds_toArray, List.set_cons_zero, List.set_cons_succ]
      go_simp
      refine hK _ _ ⟨e0, e1, .int .i64 keep, e3, e4, e5, e6, e7, e8, e9, g8, g9, ?_, hB, c0, c1, fun _ => rfl, c3, c4, c5, c6, c7, c8, c9, hne, k8, k9⟩
      simp only [putAll, Act.put, List.setIfInBounds_toArray, List.set_cons_zero, List.set_cons_succ]
    | 3, _, hd, hk =>
      have h1 : d 1 = true := hk 1 (by decide +kernel)
      have h2 : d 2 = true := hk 2 (by decide +kernel)
      obtain rfl := c2 h2
      obtain ⟨y0, rfl, hT0, o8, o9⟩ := c1 h1
      apply wpOp_at
      case ho => rfl
      intro K hK
      simp only [putAll, Act.put, List.setIfInBounds_toArray, List.set_cons_zero, List.set_cons_succ]
      go_simp
      refine (tLose_calls y0 _ keep _ hT0 Hf1.out).mono ?_
      rintro e w'' ⟨y, rfl, hT, hO, hb⟩
      refine hK _ _ ⟨e0, tpV y0, .int .i64 keep, tpV y, e4, e5, e6, e7, e8, e9, g8, g9, ?_, hB.trans (hb.mono hB.size), c0, fun h => (c1 h).later hb, c2, fun _ => ⟨y, rfl, hT, fun h => hO g8 (c8 h).2.2.1 (o8 h), fun h => hO g9 (c9 h).2.2.1 (o9 h)⟩, c4, fun h => (c5 h).later hb, c6, fun h => (c7 h).later hb, fun h => (c8 h).later hb, fun h => (c9 h).later hb, hne, k8, k9⟩
      simp only [putAll, Act.put, List.setIfInBounds_toArray, List.set_cons_zero, List.set_cons_succ]
    | 4, _, hd, hk =>
      have HXc := HX6.out.later hB HX6.out.lt
      have z0 := HXc.cell 0
      have z1 := HXc.cell 1
      have z2 := HXc.cell 2
      have z3 := HXc.cell 3
      apply wpOp_at
      case ho => rfl
      intro K hK
      simp only [putAll, Act.put, List.setIfInBounds_toArray, List.set_cons_zero, List.set_cons_succ]
      go_simp
      refine hK _ _ ⟨e0, e1, e2, e3, tpV ⟨⟨⟨as1, ns1, cs1⟩, ⟨as2, ns2, cs2⟩⟩, ⟨⟨as3, ns3, cs3⟩, ⟨as4, ns4, cs4⟩⟩⟩, e5, e6, e7, e8, e9, g8, g9, ?_, hB, c0, c1, c2, c3, fun _ => rfl, c5, c6, c7, c8, c9, hne, k8, k9⟩
      simp only [putAll, Act.put, List.setIfInBounds_toArray, List.set_cons_zero, List.set_cons_succ]
    | 5, _, hd, hk =>
      have h4 : d 4 = true := hk 4 (by decide +kernel)
      obtain rfl := c4 h4
      apply wpOp_at
      case ho => rfl
      intro K hK
      simp only [putAll, Act.put, List.setIfInBounds_toArray, List.set_cons_zero, List.set_cons_succ]
      go_simp
      refine (tWipe_calls ⟨⟨⟨as1, ns1, cs1⟩, ⟨as2, ns2, cs2⟩⟩, ⟨⟨as3, ns3, cs3⟩, ⟨as4, ns4, cs4⟩⟩⟩ ⟨⟨za, []⟩, ⟨zb, []⟩⟩ _ (HT6.out.later hB) Hf0.out).mono ?_
      rintro e w'' ⟨y, rfl, hT, hO, hb⟩
      refine hK _ _ ⟨e0, e1, e2, e3, tpV ⟨⟨⟨as1, ns1, cs1⟩, ⟨as2, ns2, cs2⟩⟩, ⟨⟨as3, ns3, cs3⟩, ⟨as4, ns4, cs4⟩⟩⟩, tpV y, e6, e7, e8, e9, g8, g9, ?_, hB.trans (hb.mono hB.size), c0, fun h => (c1 h).later hb, c2, fun h => (c3 h).later hb, c4, fun _ => ⟨y, rfl, hT, fun h => hO g8 (c8 h).2.2.1 (HT6.out.off (c8 h).2.1), fun h => hO g9 (c9 h).2.2.1 (HT6.out.off (c9 h).2.1)⟩, c6, fun h => (c7 h).later hb, fun h => (c8 h).later hb, fun h => (c9 h).later hb, hne, k8, k9⟩
      simp only [putAll, Act.put, List.setIfInBounds_toArray, List.set_cons_zero, List.set_cons_succ]
    | 6, _, hd, hk =>
      apply wpOp_at
      case ho => rfl
      intro K hK
      simp only [putAll, Act.put, List.setIfInBounds_toArray, List.set_cons_zero, List.set_cons_succ]
      go_simp
      refine hK _ _ ⟨e0, e1, e2, e3, e4, e5, .int .i64 keep, e7, e8, e9, g8, g9, ?_, hB, c0, c1, c2, c3, c4, c5, fun _ => rfl, c7, c8, c9, hne, k8, k9⟩
      simp only [putAll, Act.put, List.setIfInBounds_toArray, List.set_cons_zero, List.set_cons_succ]
    | 7, _, hd, hk =>
      have h5 : d 5 = true := hk 5 (by decide +kernel)
      have h6 : d 6 = true := hk 6 (by decide +kernel)
      obtain rfl := c6 h6
      obtain ⟨y0, rfl, hT0, o8, o9⟩ := c5 h5
      apply wpOp_at
      case ho => rfl
      intro K hK
      simp only [putAll, Act.put, List.setIfInBounds_toArray, List.set_cons_zero, List.set_cons_succ]
      go_simp
      refine (tLose_calls y0 _ keep _ hT0 Hf2.out).mono ?_
      rintro e w'' ⟨y, rfl, hT, hO, hb⟩
      refine hK _ _ ⟨e0, e1, e2, e3, e4, tpV y0, .int .i64 keep, tpV y, e8, e9, g8, g9, ?_, hB.trans (hb.mono hB.size), c0, fun h => (c1 h).later hb, c2, fun h => (c3 h).later hb, c4, fun h => (c5 h).later hb, c6, fun _ => ⟨y, rfl, hT, fun h => hO g8 (c8 h).2.2.1 (o8 h), fun h => hO g9 (c9 h).2.2.1 (o9 h)⟩, fun h => (c8 h).later hb, fun h => (c9 h).later hb, hne, k8, k9⟩
      simp only [putAll, Act.put, List.setIfInBounds_toArray, List.set_cons_zero, List.set_cons_succ]
    | 8, _, hd, hk =>
      apply wpOp_at
      case ho => rfl
      intro K hK
      simp only [putAll, Act.put, List.setIfInBounds_toArray, List.set_cons_zero, List.set_cons_succ]
      go_simp
      have hbx := below_box w' (.cells #[.slice none 0 0, .slice none 0 0, .slice none 0 0, .slice none 0 0] 26)
      refine hK _ _ ⟨e0, e1, e2, e3, e4, e5, e6, e7, .pointer (some ⟨w'.heap.size, 0, none⟩), e9, w'.heap.size, g9, ?_, hB.trans (hbx.mono hB.size), c0, fun h => (c1 h).made8 hbx, c2, fun h => (c3 h).made8 hbx, c4, fun h => (c5 h).made8 hbx, c6, fun h => (c7 h).made8 hbx, fun _ => ⟨rfl, hB.size, by simp, _, _, _, _, Whole.made w' _ _, fun h => absurd (k8 h) (by rw [hd]; decide)⟩, fun h => (c9 h).made8 hbx, fun _ h => by have := (c9 h).2.2.1; omega, fun _ => rfl, k9⟩
      simp only [putAll, Act.put, List.setIfInBounds_toArray, List.set_cons_zero, List.set_cons_succ]
    | 9, _, hd, hk =>
      apply wpOp_at
      case ho => rfl
      intro K hK
      simp only [putAll, Act.put, List.setIfInBounds_toArray, List.set_cons_zero, List.set_cons_succ]
      go_simp
      have hbx := below_box w' (.cells #[.slice none 0 0, .slice none 0 0, .slice none 0 0, .slice none 0 0] 26)
      refine hK _ _ ⟨e0, e1, e2, e3, e4, e5, e6, e7, e8, .pointer (some ⟨w'.heap.size, 0, none⟩), g8, w'.heap.size, ?_, hB.trans (hbx.mono hB.size), c0, fun h => (c1 h).made9 hbx, c2, fun h => (c3 h).made9 hbx, c4, fun h => (c5 h).made9 hbx, c6, fun h => (c7 h).made9 hbx, fun h => (c8 h).made9 hbx, fun _ => ⟨rfl, hB.size, by simp, _, _, _, _, Whole.made w' _ _, fun h => absurd (k9 h) (by rw [hd]; decide)⟩, fun h _ => by have := (c8 h).2.2.1; omega, k8, fun _ => rfl⟩
      simp only [putAll, Act.put, List.setIfInBounds_toArray, List.set_cons_zero, List.set_cons_succ]
    | 10, _, hd, hk =>
      have h3 : d 3 = true := hk 3 (by decide +kernel)
      have h8 : d 8 = true := hk 8 (by decide +kernel)
      have h9 : d 9 = true := hk 9 (by decide +kernel)
      obtain ⟨⟨⟨⟨ay1, ny1, cy1⟩, ⟨ay2, ny2, cy2⟩⟩, ⟨⟨ay3, ny3, cy3⟩, ⟨ay4, ny4, cy4⟩⟩⟩, rfl, hT0, o8, o9⟩ := c3 h3
      obtain ⟨rfl, hg1, hg2, v0, v1, v2, v3, hW, _⟩ := c8 h8
      have z0 := hW.cell 0
      have z1 := hW.cell 1
      have z2 := hW.cell 2
      have z3 := hW.cell 3
      have y0 := hW.free 0
      have y1 := hW.free 1
      have y2 := hW.free 2
      have y3 := hW.free 3
      apply wpOp_at
      case ho => rfl
      intro K hK
      simp only [putAll, Act.put, List.setIfInBounds_toArray, List.set_cons_zero, List.set_cons_succ]
      go_simp
      refine hK _ _ ⟨e0, e1, e2, .agg #[.slice ay1 ny1 cy1, .slice ay2 ny2 cy2, .slice ay3 ny3 cy3, .slice ay4 ny4 cy4], e4, e5, e6, e7, .pointer (some ⟨g8, 0, none⟩), e9, g8, g9, ?_, below_four hB hg1 _ _ _ _, c0, fun h => (c1 h).store (Or.inl ⟨rfl, h8⟩) _ _ _ _, c2, fun h => (c3 h).store (Or.inl ⟨rfl, h8⟩) _ _ _ _, c4, fun h => (c5 h).store (Or.inl ⟨rfl, h8⟩) _ _ _ _, c6, fun h => (c7 h).store (Or.inl ⟨rfl, h8⟩) _ _ _ _, fun h => (c8 h).stored _ _ _ _ (c3 h3) (Or.inl ⟨rfl, h8⟩), fun h => (c9 h).store (Or.inl ⟨rfl, h8⟩) (fun e => hne h8 h9 e.symm) _ _ _ _, hne, fun _ => h8, k9⟩
      simp only [putAll, Act.put, List.setIfInBounds_toArray, List.set_cons_zero, List.set_cons_succ]
    | 11, _, hd, hk =>
      have h7 : d 7 = true := hk 7 (by decide +kernel)
      have h8 : d 8 = true := hk 8 (by decide +kernel)
      have h9 : d 9 = true := hk 9 (by decide +kernel)
      obtain ⟨⟨⟨⟨ay1, ny1, cy1⟩, ⟨ay2, ny2, cy2⟩⟩, ⟨⟨ay3, ny3, cy3⟩, ⟨ay4, ny4, cy4⟩⟩⟩, rfl, hT0, o8, o9⟩ := c7 h7
      obtain ⟨rfl, hg1, hg2, v0, v1, v2, v3, hW, _⟩ := c9 h9
      have z0 := hW.cell 0
      have z1 := hW.cell 1
      have z2 := hW.cell 2
      have z3 := hW.cell 3
      have y0 := hW.free 0
      have y1 := hW.free 1
      have y2 := hW.free 2
      have y3 := hW.free 3
      apply wpOp_at
      case ho => rfl
      intro K hK
      simp only [putAll, Act.put, List.setIfInBounds_toArray, List.set_cons_zero, List.set_cons_succ]
      go_simp
      refine hK _ _ ⟨e0, e1, e2, e3, e4, e5, e6, .agg #[.slice ay1 ny1 cy1, .slice ay2 ny2 cy2, .slice ay3 ny3 cy3, .slice ay4 ny4 cy4], e8, .pointer (some ⟨g9, 0, none⟩), g8, g9, ?_, below_four hB hg1 _ _ _ _, c0, fun h => (c1 h).store (Or.inr ⟨rfl, h9⟩) _ _ _ _, c2, fun h => (c3 h).store (Or.inr ⟨rfl, h9⟩) _ _ _ _, c4, fun h => (c5 h).store (Or.inr ⟨rfl, h9⟩) _ _ _ _, c6, fun h => (c7 h).store (Or.inr ⟨rfl, h9⟩) _ _ _ _, fun h => (c8 h).store (Or.inr ⟨rfl, h9⟩) (hne h8 h9) _ _ _ _, fun h => (c9 h).stored _ _ _ _ (c7 h7) (Or.inr ⟨rfl, h9⟩), hne, k8, fun _ => h9⟩
      simp only [putAll, Act.put, List.setIfInBounds_toArray, List.set_cons_zero, List.set_cons_succ]
    | k + 12, hi, _, _ => exact absurd hi (by simp)
  case ends =>
    intro d a' w' hJ hall
    obtain ⟨e0, e1, e2, e3, e4, e5, e6, e7, e8, e9, g8, g9, rfl, hB, c0, c1, c2, c3, c4, c5, c6, c7, c8, c9, hne, k8, k9⟩ := hJ
    obtain ⟨rfl, hg8, hl8, v0, v1, v2, v3, hW8, r8⟩ := c8 (hall 8 (by decide +kernel))
    obtain ⟨rfl, hg9, hl9, u0, u1, u2, u3, hW9, r9⟩ := c9 (hall 9 (by decide +kernel))
    obtain ⟨⟨⟨⟨ax1, nx1, cx1⟩, ⟨ax2, nx2, cx2⟩⟩, ⟨⟨ax3, nx3, cx3⟩, ⟨ax4, nx4, cx4⟩⟩⟩, ex, hTx, _, _⟩ := r8 (hall 10 (by decide +kernel))
    obtain ⟨⟨⟨⟨ay1, ny1, cy1⟩, ⟨ay2, ny2, cy2⟩⟩, ⟨⟨ay3, ny3, cy3⟩, ⟨ay4, ny4, cy4⟩⟩⟩, ey, hTy, _, _⟩ := r9 (hall 11 (by decide +kernel))
    simp only [tpV, slV, Value.agg.injEq, Array.mk.injEq, List.cons.injEq, and_true] at ex ey
    obtain ⟨rfl, rfl, rfl, rfl⟩ := ex
    obtain ⟨rfl, rfl, rfl, rfl⟩ := ey
    rw [show loseT (turnT ⟨⟨za, []⟩, ⟨zb, []⟩⟩) keep = ⟨⟨zb, []⟩, ⟨[], []⟩⟩ from lose_one zb keep] at hTx
    rw [show loseT (wipeT ⟨⟨za, []⟩, ⟨zb, []⟩⟩) keep = ⟨⟨za, []⟩, ⟨[], []⟩⟩ from lose_one za keep] at hTy
    have HTx := Lib.hid hTx
    have HTy := Lib.hid hTy
    have HBe := Lib.hid (held_next Hb1.out (Hb6.out.trans (hB.mono Hb6.out.size)))
    have z0 := hW8.cell 0
    have z1 := hW8.cell 1
    have z2 := hW8.cell 2
    have z3 := hW8.cell 3
    have x0 := hW9.cell 0
    have x1 := hW9.cell 1
    have x2 := hW9.cell 2
    have x3 := hW9.cell 3
    clear hTx hTy c0 c1 c2 c3 c4 c5 c6 c7 c8 c9 hne k8 k9 r8 r9 hg8 hg9 hB hall
    simp only [putAll, Act.put, List.setIfInBounds_toArray, List.set_cons_zero, List.set_cons_succ]
    go_wp2_with fail
    refine (reftsame_yes ⟨⟨⟨ax1, nx1, cx1⟩, ⟨ax2, nx2, cx2⟩⟩, ⟨⟨ax3, nx3, cx3⟩, ⟨ax4, nx4, cx4⟩⟩⟩ ⟨⟨⟨ab, nb, cb⟩, ⟨none, 0, 0⟩⟩, ⟨⟨none, 0, 0⟩, ⟨none, 0, 0⟩⟩⟩ ⟨⟨zb, []⟩, ⟨[], []⟩⟩ _ HTx.out ⟨⟨HB.out.later HBe.out, SB.nil _⟩, SB.nil _, SB.nil _⟩).mono ?_
    rintro e w7 ⟨rfl, hb⟩
    have HBf := Lib.hid (held_next HBe.out hb)
    have HTz := Lib.hid (HTy.out.later hb)
    have HWz := Lib.hid (hW9.later hb hl9)
    clear z0 z1 z2 z3 x0 x1 x2 x3 hb
    have x0 := HWz.out.cell 0
    have x1 := HWz.out.cell 1
    have x2 := HWz.out.cell 2
    have x3 := HWz.out.cell 3
    go_wp2_with fail
    refine (reftsame_yes ⟨⟨⟨ay1, ny1, cy1⟩, ⟨ay2, ny2, cy2⟩⟩, ⟨⟨ay3, ny3, cy3⟩, ⟨ay4, ny4, cy4⟩⟩⟩ ⟨⟨⟨aa, na, ca⟩, ⟨none, 0, 0⟩⟩, ⟨⟨none, 0, 0⟩, ⟨none, 0, 0⟩⟩⟩ ⟨⟨za, []⟩, ⟨[], []⟩⟩ _ HTz.out ⟨⟨HA.out.later HBf.out, SB.nil _⟩, SB.nil _, SB.nil _⟩).mono ?_
    rintro e w8 ⟨rfl, hb⟩
    have HBg := Lib.hid (held_next HBf.out hb)
    clear hb
    go_wp2_with fail
    go_ret
    exact ⟨by rfl, HBg.out⟩
end Go.Proofs.Ytokdppjpgeaiiaa
