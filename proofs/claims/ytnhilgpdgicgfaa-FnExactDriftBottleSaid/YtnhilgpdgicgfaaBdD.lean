/- One bottle: both sides told alike. -/
import Derived.Test.YtnhilgpdgicgfaaProg
import Derived.Test.YtnhilgpdgicgfaaBdC
namespace Go.Proofs.Ytnhilgpdgicgfaa
open Go.ChangeShapes Go.WideShapes Go.ChangeAt Go.RowKit Ve Vc
open IntKind (i64)
set_option linter.unusedVariables false
set_option linter.unusedSimpArgs false
set_option maxRecDepth 100000
noncomputable section
variable {mn:Md}
theorem bottle_begun (S:Array Value) (c b h:Int):impl_bottleCode_v0 S c b h=spec_l02Begun_v0 c b h S:=by
 unfold impl_bottleCode_v0 spec_l02Begun_v0 impl_spotCode_v0 impl_cellCode_v0 spec_l01Asked_v0 impl_seaCode_v0 impl_hasHours_v0
 rw [tide_eq,cell_is]
 have hh:spec_l00In_v0 h 0 14=(bif decide (h ≥ (0:Int)) then decide (h≤(14:Int)) else false):=rfl
 rw [hh]
 generalize (bif decide (h ≥ (0:Int)) then decide (h≤(14:Int)) else false)=q1
 generalize spec_l00In_v0 b 0 1=q2
 generalize spec_l01Is_v0 c S=q3
 generalize okS S=q4
 cases q1<;>cases q2<;>cases q3<;>cases q4<;>rfl
theorem begun_ok {S:Array Value} {c b h:Int} (h0:(spec_l02Begun_v0 c b h S != (0:Int))=false):((okS S)&&((spec_l01Is_v0 c S)&&((decide (0≤b)&&decide (b≤1))&&(decide (0≤h)&&decide (h≤14)))))=true:=by
 unfold spec_l02Begun_v0 spec_l01Asked_v0 at h0
 have i1:spec_l00In_v0 b 0 1=(decide (0≤b)&&decide (b≤1)):=by rw [in_eq,Bool.decide_and]
 have i2:spec_l00In_v0 h 0 14=(decide (0≤h)&&decide (h≤14)):=by rw [in_eq,Bool.decide_and]
 rw [i1,i2] at h0
 revert h0
 generalize (decide (0≤b)&&decide (b≤1))=q1
 generalize (decide (0≤h)&&decide (h≤14))=q2
 generalize spec_l01Is_v0 c S=q3
 generalize okS S=q4
 cases q1<;>cases q2<;>cases q3<;>cases q4<;>first | (intro _;rfl) | (intro h;cases h)
noncomputable def dbN (S:Array Value) (c b h:Int):Nat:=bif (spec_l02Begun_v0 c b h S != (0:Int)) then 0 else h.toNat+1
noncomputable def dbA (S:Array Value) (c b h s:Int):Array Value:=bif (spec_l02Begun_v0 c b h S != (0:Int)) then #[] else arB S b (c,s) h.toNat
noncomputable def dbS (S:Array Value) (c b h s:Int):Int:=bif (spec_l02Begun_v0 c b h S != (0:Int)) then 0 else (rnB S b (c,s) h.toNat).2
noncomputable def impl_DriftBottle_con:Con:=fun args h=>match args,h with
 | [.g a0 37,.i .i64 a1,.i .i64 a2,.i .i64 a3,.i .u32 a4],[]=>some (.t [.x,.i .u32 (dbS a0 a1 a2 a3 a4),.i .i64 (spec_l02Begun_v0 a1 a2 a3 a0)],.newS (some 0) (dbN a0 a1 a2 a3) (dbA a0 a1 a2 a3 a4) 2,true)
 | _,_=>none
theorem impl_DriftBottle_ok:ConOkX mn Try.prog 12 impl_DriftBottle_con:=ConOkX.of impl_DriftBottle_sok (by
 intro ρ h w args vals r e hA hH hr
 unfold impl_DriftBottle_con at hr
 split at hr
 ·rename_i a0 a1 a2 a3 a4
  obtain ⟨rfl,hg⟩:=Prod.mk.inj (Option.some.inj hr)
  obtain ⟨rfl,hg2⟩:=Prod.mk.inj hg
  show wayRes (impl_DriftBottle_scon _ _)=_
  unfold impl_DriftBottle_scon
  simp only [wayRes]
  unfold dbN dbA dbS
  rw [bottle_begun]
  cases hz:((spec_l02Begun_v0 a1 a2 a3 a0) != (0:Int)) with
  | true=>rfl
  | false=>
   have hg:=begun_ok hz
   have h0:(spec_l02Begun_v0 a1 a2 a3 a0)=0:=by simpa using hz
   simp only [cond_false,hg,h0]
 ·cases hr)
noncomputable def spec_DriftBottle_G:Cons:=(mkΓ [(33,con spec_l02Begun_con),(34,con spec_l02Bottle_con)])
theorem spec_DriftBottle_ans (N:Nat) (a0:Array Value) (a1 a2 a3 a4:Int):ansV Try.prog spec_DriftBottle_G N Try.f10 [] [.g a0 37,.i .i64 (a1),.i .i64 (a2),.i .i64 (a3),.i .u32 (a4)] []=(bif ((spec_l02Begun_v0 a1 a2 a3 a0) != (0:Int)) then (some (.t [.x,.i .u32 (0:Int),.i .i64 (spec_l02Begun_v0 a1 a2 a3 a0)],.newS (some 0) 0 (#[]:Array Value) 2,true))
  else (bif ((okS a0)&&((spec_l01Is_v0 a1 a0)&&((decide (0≤a2)&&decide (a2≤1))&&(decide (0≤a3)&&decide (a3≤14))))) then (some (.t [.x,.i .u32 (rnB a0 a2 (a1,a4) a3.toNat).2,.i .i64 (0:Int)],.newS (some 0) ((a3.toNat+1)) (arB a0 a2 (a1,a4) a3.toNat) 2,true))
   else (none))):=by kernel_rfl
theorem spec_DriftBottle_main (a0:Array Value) (a1 a2 a3 a4:Int) (h_a0:WT Try.prog 37 a0) (h_a1:i64.min≤a1∧a1≤i64.max) (h_a2:i64.min≤a2∧a2≤i64.max) (h_a3:i64.min≤a3∧a3≤i64.max) (h_a4:IntKind.u32.min≤a4∧a4≤IntKind.u32.max) (hg:(true)=true):ansV Try.prog spec_DriftBottle_G 1000 Try.f10 [] [.g a0 37,.i .i64 (a1),.i .i64 (a2),.i .i64 (a3),.i .u32 (a4)] []=some (.t [.x,.i .u32 (dbS a0 a1 a2 a3 a4),.i .i64 (spec_l02Begun_v0 a1 a2 a3 a0)],.newS (some 0) (dbN a0 a1 a2 a3) (dbA a0 a1 a2 a3 a4) 2,true):=by
 refine (spec_DriftBottle_ans 1000 a0 a1 a2 a3 a4).trans ?_
 unfold dbN dbA dbS
 cases hz:((spec_l02Begun_v0 a1 a2 a3 a0) != (0:Int)) with
 | true=>rfl
 | false=>
  have hg:=begun_ok hz
  have h0:(spec_l02Begun_v0 a1 a2 a3 a0)=0:=by simpa using hz
  simp only [cond_false,hg,h0,cond_true]
noncomputable def spec_DriftBottle_con:Con:=fun args h=>match args,h with
 | [.g a0 37,.i .i64 a1,.i .i64 a2,.i .i64 a3,.i .u32 a4],[]=>some (.t [.x,.i .u32 (dbS a0 a1 a2 a3 a4),.i .i64 (spec_l02Begun_v0 a1 a2 a3 a0)],.newS (some 0) (dbN a0 a1 a2 a3) (dbA a0 a1 a2 a3 a4) 2,true)
 | _,_=>none
theorem spec_DriftBottle_enter:EntX Try.prog 10:=entX_ok (fn:=Try.f10) (by kernel_rfl) (by kernel_rfl) (by kernel_rfl)
theorem spec_DriftBottle_ok:ConOkX mn Try.prog 10 spec_DriftBottle_con:=(ansX_ok (N:=1000) (by kernel_rfl) (mkΓ_consX (con_okX spec_l02Begun_ok) spec_l02Begun_enter (mkΓ_consX (con_okX spec_l02Bottle_ok) spec_l02Bottle_enter mkΓ_nilX)) (fn:=Try.f10) (by kernel_rfl) (by kernel_rfl) []).of (by
 intro ρ h w args vals r e hA hH hr
 unfold spec_DriftBottle_con at hr
 split at hr
 ·rename_i a0 a1 a2 a3 a4
  obtain ⟨rfl,hg⟩:=Prod.mk.inj (Option.some.inj hr)
  obtain ⟨rfl,hg2⟩:=Prod.mk.inj hg
  exact spec_DriftBottle_main a0 a1 a2 a3 a4 (hA.wt 0 rfl) (hA.rng 1 rfl) (hA.rng 2 rfl) (hA.rng 3 rfl) (hA.rng 4 rfl) hg2
 ·cases hr)
end
end Go.Proofs.Ytnhilgpdgicgfaa
