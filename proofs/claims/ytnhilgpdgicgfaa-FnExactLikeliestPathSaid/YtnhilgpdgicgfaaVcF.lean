/- What a starter of goroutines does besides: channels made, closures, go statements, receives; what is named is forgotten. No program is named. -/
import Derived.Test.YtnhilgpdgicgfaaVcE
namespace Go.Proofs.Ytnhilgpdgicgfaa.Vc
open Go.RowKit Go.Conc Go.Proofs.Ytnhilgpdgicgfaa.Ve
set_option linter.unusedVariables false
set_option linter.unusedSimpArgs false
variable {mn:Md}
section
variable {P:Program} {IC:FuncId->ICon->Prop} {Γ:Cons} {W0:World} {n0:Nat} {D:List Nat} {ρ0:Nat->Ad}
end
end Go.Proofs.Ytnhilgpdgicgfaa.Vc
