/- The ways of a refusal, each by itself. -/
import Derived.Test.YtphmhgdedoeaeaaDoorProg
import Derived.Test.YtphmhgdedoeaeaaDoorCyA
namespace Go.Proofs.YtphmhgdedoeaeaaDoor
open Go.ChangeShapes Go.WideShapes Go.ChangeAt Go.RowKit Ve Vc
set_option linter.unusedVariables false
set_option linter.unusedSimpArgs false
set_option maxRecDepth 100000
noncomputable section
variable {F:Vc.Fd}
theorem rl_of {S:Array Value} {c b:Int} {f:Bool} (h:rl S c b f=true):spec_l01Is_v0 c S=true∧spec_l00In_v0 b 0 1=true∧f=true:=by
 unfold rl at h
 simp only [Bool.and_eq_true] at h
 exact h
end
end Go.Proofs.YtphmhgdedoeaeaaDoor
