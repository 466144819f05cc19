/- Plans that come in: copied, compared, valid, taken, in company. -/
import Derived.Test.YtgllknjdblkhnaaDoorProg
import Derived.Test.YtgllknjdblkhnaaDoorCmG
set_option linter.unusedVariables false
set_option linter.unusedSimpArgs false
namespace Go.Proofs.YtgllknjdblkhnaaDoor
open Go.ChangeShapes Go.WideShapes Go.ChangeAt Go.RowKit Ve Vc
set_option maxRecDepth 100000
noncomputable section
variable {mn:Md}
end
end Go.Proofs.YtgllknjdblkhnaaDoor
