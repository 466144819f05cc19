/- Nothing here: no spread comes in. -/
import Derived.Test.YtefjogahegolbaaDoorProg
import Derived.Test.YtefjogahegolbaaDoorCxD
set_option linter.unusedVariables false
set_option linter.unusedSimpArgs false
namespace Go.Proofs.YtefjogahegolbaaDoor
open Go.ChangeShapes Go.WideShapes Go.ChangeAt Go.RowKit Ve Vc
set_option maxRecDepth 100000
noncomputable section
variable {mn:Md}
end
end Go.Proofs.YtefjogahegolbaaDoor
