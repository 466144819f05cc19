/- The least bit of a number, and an iterator over bits, in company: Go's text walked. -/
import Derived.Test.YtdhckffhnkeogaaDoorAsX
import Derived.Test.YtdhckffhnkeogaaDoorCxEach
set_option linter.unusedVariables false
set_option linter.unusedSimpArgs false
namespace Go.Proofs.YtdhckffhnkeogaaDoor
open Go.RowKit Go.Conc Go.Extern Ve Vc
set_option maxRecDepth 100000
set_option maxHeartbeats 1000000
section
variable {mn:Md}
end
variable {mn:Md}
noncomputable section
set_option maxHeartbeats 1000000 in
end
end Go.Proofs.YtdhckffhnkeogaaDoor
