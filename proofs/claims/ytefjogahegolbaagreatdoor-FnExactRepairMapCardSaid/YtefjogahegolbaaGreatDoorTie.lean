/-
  DERIVED. GIVEN WITH THE SEED: THE PROGRAM's TIES (one call each: nine closed facts by the kernel) AND EACH ROW's TIE, after the 31st guide's Derived/Test/Toyas{Tie, Card}.lean. No idea stands in it: it is a product of the set-up. Laid BY PROGRAM, IN A SANDBOX (cutbox-door.mjs). By AI agents, Wed Nov 11 2026. No macro, syntax, notation, axiom, sorry.
-/
import Derived.Test.YtefjogahegolbaaGreatDoorRows
import Derived.LaidByTextLater
import Derived.SevenTiedAt
import Derived.LaidSub
import Derived.LaidOnce
namespace Go.Proofs.YtefjogahegolbaaGreatDoor
open Go
set_option maxRecDepth 100000
theorem seatTie1 : Tryz.prog.laidByTextLater [("loop.example/g01300/impl.errInvalid", Rows.laid_loop_example_g01300_impl_errInvalid), ("loop.example/g01300/impl.errRange", Rows.laid_loop_example_g01300_impl_errRange), ("loop.example/g01300/impl.errLimit", Rows.laid_loop_example_g01300_impl_errLimit), ("loop.example/g01300/impl.errState", Rows.laid_loop_example_g01300_impl_errState), ("loop.example/g01300/impl.errNotFound", Rows.laid_loop_example_g01300_impl_errNotFound)] [.sentinel, .sentinel, .sentinel, .sentinel, .sentinel] true :=
  Program.laidByTextLater_by_one 104 8 2 (by kernel_rfl) (by kernel_rfl) (by kernel_rfl) (by kernel_rfl) (by kernel_rfl) (by kernel_rfl) (fun _ _ => by kernel_rfl)
theorem noOwnUnsafe : Tryz.pinned.checked.prog.headLifts.contains "ownunsafe" = false := by kernel_rfl
theorem tie : Tryz.prog.laidByTextLater [("loop.example/g01300/impl.errInvalid", Rows.laid_loop_example_g01300_impl_errInvalid), ("loop.example/g01300/impl.errRange", Rows.laid_loop_example_g01300_impl_errRange), ("loop.example/g01300/impl.errLimit", Rows.laid_loop_example_g01300_impl_errLimit), ("loop.example/g01300/impl.errState", Rows.laid_loop_example_g01300_impl_errState), ("loop.example/g01300/impl.errNotFound", Rows.laid_loop_example_g01300_impl_errNotFound)] [.sentinel, .sentinel, .sentinel, .sentinel, .sentinel] true :=
  Program.laidByTextLater.sub seatTie1 ["loop.example/g01300/impl.errInvalid", "loop.example/g01300/impl.errRange", "loop.example/g01300/impl.errLimit", "loop.example/g01300/impl.errState", "loop.example/g01300/impl.errNotFound"] (by kernel_rfl) (by kernel_rfl)
theorem fnExactScoresOf_row_tie : Rows.fnExactScoresOfRow.laidByTextAt .later Tryz.pinned [.sentinel, .sentinel, .sentinel, .sentinel, .sentinel] true :=
  OpenClaim.laidByTextAt_later rfl rfl tie noOwnUnsafe
theorem fnExactScoreOf_row_tie : Rows.fnExactScoreOfRow.laidByTextAt .later Tryz.pinned [.sentinel, .sentinel, .sentinel, .sentinel, .sentinel] true :=
  OpenClaim.laidByTextAt_later rfl rfl tie noOwnUnsafe
theorem fnExactWorstFind_row_tie : Rows.fnExactWorstFindRow.laidByTextAt .later Tryz.pinned [.sentinel, .sentinel, .sentinel, .sentinel, .sentinel] true :=
  OpenClaim.laidByTextAt_later rfl rfl tie noOwnUnsafe
theorem fnExactBetterMap_row_tie : Rows.fnExactBetterMapRow.laidByTextAt .later Tryz.pinned [.sentinel, .sentinel, .sentinel, .sentinel, .sentinel] true :=
  OpenClaim.laidByTextAt_later rfl rfl tie noOwnUnsafe
theorem fnExactBestRepair_row_tie : Rows.fnExactBestRepairRow.laidByTextAt .later Tryz.pinned [.sentinel, .sentinel, .sentinel, .sentinel, .sentinel] true :=
  OpenClaim.laidByTextAt_later rfl rfl tie noOwnUnsafe
theorem fnExactRepairMap_row_tie : Rows.fnExactRepairMapRow.laidByTextAt .later Tryz.pinned [.sentinel, .sentinel, .sentinel, .sentinel, .sentinel] true :=
  OpenClaim.laidByTextAt_later rfl rfl tie noOwnUnsafe
theorem fnExactScoresOfUpto_row_tie : Rows.fnExactScoresOfUptoRow.laidByTextAt .later Tryz.pinned [.sentinel, .sentinel, .sentinel, .sentinel, .sentinel] true :=
  OpenClaim.laidByTextAt_later rfl rfl tie noOwnUnsafe
theorem fnExactScoreOfUpto_row_tie : Rows.fnExactScoreOfUptoRow.laidByTextAt .later Tryz.pinned [.sentinel, .sentinel, .sentinel, .sentinel, .sentinel] true :=
  OpenClaim.laidByTextAt_later rfl rfl tie noOwnUnsafe
theorem fnExactWorstFindUpto_row_tie : Rows.fnExactWorstFindUptoRow.laidByTextAt .later Tryz.pinned [.sentinel, .sentinel, .sentinel, .sentinel, .sentinel] true :=
  OpenClaim.laidByTextAt_later rfl rfl tie noOwnUnsafe
theorem fnExactBetterMapUpto_row_tie : Rows.fnExactBetterMapUptoRow.laidByTextAt .later Tryz.pinned [.sentinel, .sentinel, .sentinel, .sentinel, .sentinel] true :=
  OpenClaim.laidByTextAt_later rfl rfl tie noOwnUnsafe
theorem fnExactBestRepairUpto_row_tie : Rows.fnExactBestRepairUptoRow.laidByTextAt .later Tryz.pinned [.sentinel, .sentinel, .sentinel, .sentinel, .sentinel] true :=
  OpenClaim.laidByTextAt_later rfl rfl tie noOwnUnsafe
theorem fnExactRepairMapUpto_row_tie : Rows.fnExactRepairMapUptoRow.laidByTextAt .later Tryz.pinned [.sentinel, .sentinel, .sentinel, .sentinel, .sentinel] true :=
  OpenClaim.laidByTextAt_later rfl rfl tie noOwnUnsafe
end Go.Proofs.YtefjogahegolbaaGreatDoor
