/- Package want: what is kept. No law is proved here. -/
import Derived.Test.YtbcmoepbegbnpaaWantLast
namespace Go.Proofs.Ytbcmoepbegbnpaa
open Go.RowKit

theorem keep_is (l : List Int) (x : Int) : keepN l x = l.drop (l.length - 63) ++ [x] := by
  unfold keepN lastN
  rw [List.length_append, List.length_singleton, show l.length + 1 - 64 = l.length - 63 by omega, List.drop_append_of_le_length (by omega)]
set_option maxRecDepth 100000 in
set_option maxHeartbeats 4000000 in
theorem nKeep_calls (a : Option Addr) (m d : Nat) (l : List Int) (x : Int) (hm : m = l.length) (hs : m ≤ 1000) (w : World) (hA : Nums w (.slice a m d) l) :
    Calls Try.prog 10 #[.slice a m d, .int .i64 x] w (GaveN w (keepN l x)) := by
  have HL := Lib.hid (last_calls a m d l hm (by omega) 63 (by decide) (by decide) w hA)
  rw [keep_is, ← hm]
  have hle : (l.drop (m - 63)).length ≤ 63 := by rw [List.length_drop]; omega
  generalize l.drop (m - 63) = k at *
  obtain ⟨n, Hn⟩ : ∃ z, Hid (k.length = z) := ⟨_, rfl⟩
  rw [Hn.out] at hle HL
  clear hA hm hs
  go_enter Try.func10, Try.ntmps10
  go_wp2_with fail
  refine HL.out.mono ?_
  rintro e w1 ⟨A, C, rfl, hN, rfl⟩
  have hb1 := below_box w1 (.cells #[.int .i64 x] 2)
  have hone := one_n64 (Whole.made w1 2 #[.int .i64 x])
  obtain ⟨w2, hw2⟩ : ∃ z, w1.alloc (.cells #[.int .i64 x] 2) = z := ⟨_, rfl⟩
  rw [hw2] at hb1 hone
  have hb2 := below_box w2 (.cells #[.slice A n C, .slice (some ⟨w1.heap.size, 0, none⟩) 1 1] 22)
  have hblock := Whole.made w2 22 #[.slice A n C, .slice (some ⟨w1.heap.size, 0, none⟩) 1 1]
  obtain ⟨w3, hw3⟩ : ∃ z, w2.alloc (.cells #[.slice A n C, .slice (some ⟨w1.heap.size, 0, none⟩) 1 1] 22) = z := ⟨_, rfl⟩
  rw [hw3] at hb2 hblock
  have hR : RowsN w3 w2.heap.size 2 (fun q => if q = 0 then (A, n, C) else (some ⟨w1.heap.size, 0, none⟩, 1, 1)) (fun q => if q = 0 then k else [x]) := by
    intro q hq
    rcases (by omega : q = 0 ∨ q = 1) with rfl | rfl
    · exact ⟨hblock.cell 0, Hn.out.symm, (hN.later hb1).later hb2⟩
    · exact ⟨hblock.cell 1, rfl, hone.later hb2⟩
  have hcat : catL (fun q => if q = 0 then k else [x]) 2 = k ++ [x] := by simp [catL]
  have hc := concatN_calls w2.heap.size 2 _ _ w3 hR (by decide) (by rw [hcat, List.length_append, List.length_singleton, Hn.out]; omega)
  have hsz : w2.heap.size = w1.heap.size + 1 := by rw [← hw2]; simp
  rw [hcat, hsz] at hc
  have HC := Lib.hid hc
  have Hb := Lib.hid (hb1.trans (hb2.mono hb1.size))
  have H2 := Lib.hid hw2
  have H3 := Lib.hid hw3
  clear hc hcat hsz hR hblock hone hb1 hb2 hN hw2 hw3
  trace_state
  go_wp2_with fail
  rw [H2.out, H3.out]
  refine HC.out.mono ?_
  rintro e w4 ⟨v, rfl, hO, hb⟩
  obtain ⟨A2, C2, hv, hn2⟩ := hO.nums (by rw [List.length_append, List.length_singleton, Hn.out]; omega)
  obtain ⟨q, Hq⟩ : ∃ z, Hid ((k ++ [x]).length = z) := ⟨_, rfl⟩
  rw [Hq.out] at hv hn2
  subst hv
  have HO := Lib.hid hn2
  have Hb4 := Lib.hid (Hb.out.trans (hb.mono Hb.out.size))
  clear hO hb hn2
  go_wp2_with fail
  go_ret
  exact ⟨A2, C2, by rw [Hq.out]; rfl, by rw [Hq.out]; exact HO.out, Hb4.out⟩
end Go.Proofs.Ytbcmoepbegbnpaa
