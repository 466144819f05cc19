/- What a starter of goroutines does besides: channels made, closures, go statements, receives; what is named is forgotten. No program is named. -/
import Derived.Test.YtdoofckpedklnaaVcE
namespace Go.Proofs.Ytdoofckpedklnaa.Vc
open Go.RowKit Go.Conc Go.Proofs.Ytdoofckpedklnaa.Ve
set_option linter.unusedVariables false
set_option linter.unusedSimpArgs false
variable {mn:Md}
section
variable {P:Program} {IC:FuncId→ICon→Prop} {Γ:Cons} {W0:World} {n0:Nat} {D:List Nat} {ρ0:Nat→Ad}
end
end Go.Proofs.Ytdoofckpedklnaa.Vc
