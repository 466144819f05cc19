/- Going forward and going backward to some cells. -/
import Derived.Test.YtdhckffhnkeogaaDoorProg
import Derived.Test.YtdhckffhnkeogaaDoorCmE
set_option linter.unusedVariables false
set_option linter.unusedSimpArgs false
namespace Go.Proofs.YtdhckffhnkeogaaDoor
open Go.ChangeShapes Go.WideShapes Go.ChangeAt Go.RowKit Ve Vc
set_option maxRecDepth 100000
noncomputable section
variable {mn:Md}
end
end Go.Proofs.YtdhckffhnkeogaaDoor
