/- The document's own, layer 7: Turn, Wipe, held. No law is proved here. -/
import Derived.Test.YtokdppjpgeaiiaaRefTapeBytes
import Derived.Deep.RegionHeld3
namespace Go.Proofs.Ytokdppjpgeaiiaa
open Go.RowKit

set_option maxRecDepth 100000 in
theorem refturn_calls (x : TpS) (t : Tp) (w : World) (h : TB w x t) : Calls Try.prog 18 #[tpV x] w (Taped w (TOff · x t) (turnT t)) := by
  obtain ⟨⟨⟨a1, n1, c1⟩, ⟨a2, n2, c2⟩⟩, ⟨⟨a3, n3, c3⟩, ⟨a4, n4, c4⟩⟩⟩ := x
  have H := Lib.hid h; clear h
  show Calls Try.prog 18 #[.agg #[.slice a1 n1 c1, .slice a2 n2 c2, .slice a3 n3 c3, .slice a4 n4 c4]] w _
  go_enter Try.func18, Try.ntmps18
  go_wp2_with fail
  refine bodyPost_ret (v := .agg #[.slice a3 n3 c3, .slice a4 n4 c4, .slice none 0 0, .slice none 0 0]) (by simp [results, Try.results18, go_sem]) rfl ?_
  exact ⟨⟨⟨⟨a3, n3, c3⟩, ⟨a4, n4, c4⟩⟩, ⟨⟨none, 0, 0⟩, ⟨none, 0, 0⟩⟩⟩, rfl, ⟨H.out.2.later (below_two _ _ _), SB.nil _, SB.nil _⟩, fun g _ h => ⟨h.2, Off.nil _ _, Off.nil _ _⟩, below_two _ _ _⟩

set_option maxRecDepth 100000 in
theorem refwipe_calls (x : TpS) (t : Tp) (w : World) (h : TB w x t) : Calls Try.prog 20 #[tpV x] w (Taped w (TOff · x t) (wipeT t)) := by
  obtain ⟨⟨⟨a1, n1, c1⟩, ⟨a2, n2, c2⟩⟩, ⟨⟨a3, n3, c3⟩, ⟨a4, n4, c4⟩⟩⟩ := x
  have H := Lib.hid h; clear h
  show Calls Try.prog 20 #[.agg #[.slice a1 n1 c1, .slice a2 n2 c2, .slice a3 n3 c3, .slice a4 n4 c4]] w _
  go_enter Try.func20, Try.ntmps20
  go_wp2_with fail
  refine bodyPost_ret (v := .agg #[.slice a1 n1 c1, .slice a2 n2 c2, .slice none 0 0, .slice none 0 0]) (by simp [results, Try.results20, go_sem]) rfl ?_
  exact ⟨⟨⟨⟨a1, n1, c1⟩, ⟨a2, n2, c2⟩⟩, ⟨⟨none, 0, 0⟩, ⟨none, 0, 0⟩⟩⟩, rfl, ⟨H.out.1.later (below_two _ _ _), SB.nil _, SB.nil _⟩, fun g _ h => ⟨h.1, Off.nil _ _, Off.nil _ _⟩, below_two _ _ _⟩

theorem refheld_calls (v : Int) (n : Nat) (w : World) : Calls Try.prog 31 #[.int .i64 v, .int .i64 (n : Int)] w (fun e w' => e = .returned (.int .i64 (heldV v n : Int)) ∧ w = w') := by
  by_cases h1 : v < 0
  · rw [show heldV v n = 0 from if_pos h1]
    go_enter Try.func31, Try.ntmps31
    go_wp2
    go_ret
    exact ⟨by rfl, rfl⟩
  · by_cases h2 : (n : Int) < v
    · rw [show heldV v n = n from (if_neg h1).trans (if_pos h2)]
      go_enter Try.func31, Try.ntmps31
      go_wp2
      go_ret
      exact ⟨by rfl, rfl⟩
    · have e : ((heldV v n : Nat) : Int) = v := by
        rw [show heldV v n = v.toNat from (if_neg h1).trans (if_neg h2)]
        omega
      rw [e]
      clear e
      go_enter Try.func31, Try.ntmps31
      go_wp2
      go_ret
      exact ⟨by rfl, rfl⟩
end Go.Proofs.Ytokdppjpgeaiiaa
