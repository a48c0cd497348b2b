/- A request in a block of its own, cell by cell. No law is proved here. -/
import Derived.Test.YtefekkfocogghaaLineWords
namespace Go.Proofs.Ytefekkfocogghaa
open Go.RowKit

theorem rq_cells {wr : World} {g : Nat} {x : Rq} (h : Whole wr g 28 (rqCells x)) :
    wr.cell? ⟨g, 0, none⟩ = some (.int .i64 x.t) ∧ wr.cell? ⟨g, 1, none⟩ = some (.int .i64 x.a) ∧ wr.cell? ⟨g, 2, none⟩ = some (.int .i64 x.m) := ⟨h.cell 0, h.cell 1, h.cell 2⟩
end Go.Proofs.Ytefekkfocogghaa
