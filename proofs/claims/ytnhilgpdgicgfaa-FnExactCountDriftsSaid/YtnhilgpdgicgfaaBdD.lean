/- One bottle: both sides told alike. -/
import Derived.Test.YtnhilgpdgicgfaaProg
import Derived.Test.YtnhilgpdgicgfaaBdC
namespace Go.Proofs.Ytnhilgpdgicgfaa
open Go.ChangeShapes Go.WideShapes Go.ChangeAt Go.RowKit Ve Vc
set_option linter.unusedVariables false
set_option linter.unusedSimpArgs false
set_option maxRecDepth 100000
noncomputable section
variable {mn:Md}
theorem bottle_begun (S:Array Value) (c b h:Int):impl_bottleCode_v0 S c b h=spec_l02Begun_v0 c b h S:=by
 unfold impl_bottleCode_v0 spec_l02Begun_v0 impl_spotCode_v0 impl_cellCode_v0 spec_l01Asked_v0 impl_seaCode_v0 impl_hasHours_v0
 rw [tide_eq,cell_is]
 have hh:spec_l00In_v0 h 0 14=(bif decide (h ≥ (0:Int)) then decide (h≤(14:Int)) else false):=rfl
 rw [hh]
 generalize (bif decide (h ≥ (0:Int)) then decide (h≤(14:Int)) else false)=q1
 generalize spec_l00In_v0 b 0 1=q2
 generalize spec_l01Is_v0 c S=q3
 generalize okS S=q4
 cases q1<;>cases q2<;>cases q3<;>cases q4<;>rfl
theorem begun_ok {S:Array Value} {c b h:Int} (h0:(spec_l02Begun_v0 c b h S != (0:Int))=false):((okS S)&&((spec_l01Is_v0 c S)&&((decide (0≤b)&&decide (b≤1))&&(decide (0≤h)&&decide (h≤14)))))=true:=by
 unfold spec_l02Begun_v0 spec_l01Asked_v0 at h0
 have i1:spec_l00In_v0 b 0 1=(decide (0≤b)&&decide (b≤1)):=by rw [in_eq,Bool.decide_and]
 have i2:spec_l00In_v0 h 0 14=(decide (0≤h)&&decide (h≤14)):=by rw [in_eq,Bool.decide_and]
 rw [i1,i2] at h0
 revert h0
 generalize (decide (0≤b)&&decide (b≤1))=q1
 generalize (decide (0≤h)&&decide (h≤14))=q2
 generalize spec_l01Is_v0 c S=q3
 generalize okS S=q4
 cases q1<;>cases q2<;>cases q3<;>cases q4<;>first | (intro _;rfl) | (intro h;cases h)
end
end Go.Proofs.Ytnhilgpdgicgfaa
