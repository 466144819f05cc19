/- The bottle that is followed. -/
import Derived.Test.YtnhilgpdgicgfaaProg
import Derived.Test.YtnhilgpdgicgfaaBdB
namespace Go.Proofs.Ytnhilgpdgicgfaa
open Go.ChangeShapes Go.WideShapes Go.ChangeAt Go.RowKit Ve Vc
set_option linter.unusedVariables false
set_option linter.unusedSimpArgs false
set_option maxRecDepth 100000
noncomputable section
variable {mn:Md}
theorem impl_follow_enter:EntX Try.prog 37:=entX_ok (fn:=Try.f37) (by kernel_rfl) (by kernel_rfl) (by kernel_rfl)
theorem impl_drawing_1_enter:EntX Try.prog 71:=entX_ok (fn:=Try.f71) (by kernel_rfl) (by kernel_rfl) (by kernel_rfl)
end
end Go.Proofs.Ytnhilgpdgicgfaa
