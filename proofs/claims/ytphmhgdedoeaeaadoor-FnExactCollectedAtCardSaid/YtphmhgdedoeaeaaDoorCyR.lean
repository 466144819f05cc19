/- The ways of a refusal, each by itself. -/
import Derived.Test.YtphmhgdedoeaeaaDoorProg
import Derived.Test.YtphmhgdedoeaeaaDoorCyA
namespace Go.Proofs.YtphmhgdedoeaeaaDoor
open Go.ChangeShapes Go.WideShapes Go.ChangeAt Go.RowKit Ve Vc
set_option linter.unusedVariables false
set_option linter.unusedSimpArgs false
set_option maxRecDepth 100000
noncomputable section
variable {F:Vc.Fd}
theorem rl_of {S:Array Value} {c b:Int} {f:Bool} (h:rl S c b f=true):spec_l01Is_v0 c S=true∧spec_l00In_v0 b 0 1=true∧f=true:=by
 unfold rl at h
 simp only [Bool.and_eq_true] at h
 exact h
theorem hours_eq14 (n:Int):impl_hasHours_v0 n=spec_l00In_v0 n 0 14:=rfl
theorem every_eq14 (n:Int):impl_isEvery_v0 n=spec_l00In_v0 n 1 14:=rfl
noncomputable def impl_releaseError_con0:Con:=fun args h=>match args,h with
 | [.g a0 36,.i .i64 a1,.i .i64 a2,.b a3],[.gl 0 184 g_e0 101973,.gl 1 184 g_e1 93330,.gl 3 184 g_e2 112315,.gl 2 184 g_e3 124718,.gl 4 184 g_e4 94254]=>some (.a (.e 3),.none,(okS a0&&(rl a0 a1 a2 a3&&(spec_l01Dry_v0 a1 a0))))
 | _,_=>none
theorem impl_releaseError_ok0:ConOkX (md F) Tryd.prog 52 impl_releaseError_con0:=ConOkX.of impl_releaseError_sok (by
 intro ρ h w args vals r e hA hH hr
 unfold impl_releaseError_con0 at hr
 split at hr
 ·rename_i a0 a1 a2 a3 g_e0 g_e1 g_e2 g_e3 g_e4
  obtain ⟨rfl,hg⟩:=Prod.mk.inj (Option.some.inj hr)
  obtain ⟨rfl,hg2⟩:=Prod.mk.inj hg
  simp only [Bool.and_eq_true,Bool.not_eq_true'] at hg2
  obtain ⟨q0,q1,q2⟩:=hg2
  show wayRes (impl_releaseError_scon _ _)=_
  unfold impl_releaseError_scon
  simp only [wayRes,q0,q1,q2,cond_true,cond_false]
 ·cases hr)
noncomputable def impl_releaseError_con1:Con:=fun args h=>match args,h with
 | [.g a0 36,.i .i64 a1,.i .i64 a2,.b a3],[.gl 0 184 g_e0 101973,.gl 1 184 g_e1 93330,.gl 3 184 g_e2 112315,.gl 2 184 g_e3 124718,.gl 4 184 g_e4 94254]=>some (.a (.v (.nilIface)),.none,(okS a0&&(rl a0 a1 a2 a3&&((!(spec_l01Dry_v0 a1 a0))))))
 | _,_=>none
theorem impl_releaseError_ok1:ConOkX (md F) Tryd.prog 52 impl_releaseError_con1:=ConOkX.of impl_releaseError_sok (by
 intro ρ h w args vals r e hA hH hr
 unfold impl_releaseError_con1 at hr
 split at hr
 ·rename_i a0 a1 a2 a3 g_e0 g_e1 g_e2 g_e3 g_e4
  obtain ⟨rfl,hg⟩:=Prod.mk.inj (Option.some.inj hr)
  obtain ⟨rfl,hg2⟩:=Prod.mk.inj hg
  simp only [Bool.and_eq_true,Bool.not_eq_true'] at hg2
  obtain ⟨q0,q1,q2⟩:=hg2
  show wayRes (impl_releaseError_scon _ _)=_
  unfold impl_releaseError_scon
  simp only [wayRes,q0,q1,q2,cond_true,cond_false]
 ·cases hr)
noncomputable def impl_releaseError_con2:Con:=fun args h=>match args,h with
 | [.g a0 36,.i .i64 a1,.i .i64 a2,.b a3],[.gl 0 184 g_e0 101973,.gl 1 184 g_e1 93330,.gl 3 184 g_e2 112315,.gl 2 184 g_e3 124718,.gl 4 184 g_e4 94254]=>some (.a (.e 1),.none,(okS a0&&((!(rl a0 a1 a2 a3)))))
 | _,_=>none
theorem impl_releaseError_ok2:ConOkX (md F) Tryd.prog 52 impl_releaseError_con2:=ConOkX.of impl_releaseError_sok (by
 intro ρ h w args vals r e hA hH hr
 unfold impl_releaseError_con2 at hr
 split at hr
 ·rename_i a0 a1 a2 a3 g_e0 g_e1 g_e2 g_e3 g_e4
  obtain ⟨rfl,hg⟩:=Prod.mk.inj (Option.some.inj hr)
  obtain ⟨rfl,hg2⟩:=Prod.mk.inj hg
  simp only [Bool.and_eq_true,Bool.not_eq_true'] at hg2
  obtain ⟨q0,q1⟩:=hg2
  show wayRes (impl_releaseError_scon _ _)=_
  unfold impl_releaseError_scon
  simp only [wayRes,q0,q1,cond_true,cond_false]
 ·cases hr)
noncomputable def impl_releaseError_con3:Con:=fun args h=>match args,h with
 | [.g a0 36,.i .i64 a1,.i .i64 a2,.b a3],[.gl 0 184 g_e0 101973,.gl 1 184 g_e1 93330,.gl 3 184 g_e2 112315,.gl 2 184 g_e3 124718,.gl 4 184 g_e4 94254]=>some (.a (.e 0),.none,(!(okS a0)))
 | _,_=>none
theorem impl_releaseError_ok3:ConOkX (md F) Tryd.prog 52 impl_releaseError_con3:=ConOkX.of impl_releaseError_sok (by
 intro ρ h w args vals r e hA hH hr
 unfold impl_releaseError_con3 at hr
 split at hr
 ·rename_i a0 a1 a2 a3 g_e0 g_e1 g_e2 g_e3 g_e4
  obtain ⟨rfl,hg⟩:=Prod.mk.inj (Option.some.inj hr)
  obtain ⟨rfl,hg2⟩:=Prod.mk.inj hg
  simp only [Bool.and_eq_true,Bool.not_eq_true'] at hg2
  have q0:=hg2
  show wayRes (impl_releaseError_scon _ _)=_
  unfold impl_releaseError_scon
  simp only [wayRes,q0,cond_true,cond_false]
 ·cases hr)
end
end Go.Proofs.YtphmhgdedoeaeaaDoor
