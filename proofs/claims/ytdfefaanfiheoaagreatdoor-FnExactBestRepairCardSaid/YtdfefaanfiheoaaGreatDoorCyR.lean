/- The ways of a refusal, each by itself. -/
import Derived.Test.YtdfefaanfiheoaaGreatDoorProg
import Derived.Test.YtdfefaanfiheoaaGreatDoorCyA
set_option linter.unusedVariables false
set_option linter.unusedSimpArgs false
namespace Go.Proofs.YtdfefaanfiheoaaGreatDoor
open Go.ChangeShapes Go.WideShapes Go.ChangeAt Go.RowKit Ve Vc
set_option maxRecDepth 100000
noncomputable section
variable {F:Vc.Fd}
def Zh4:Con:=λargs h=>match args,h with|[.g a0 37,.i .i64 a1,.i .i64 a2,.b a3],[.gl 0 185 g_e0 101973,.gl 1 185 g_e1 93330,.gl 3 185 g_e2 124718,.gl 2 185 g_e3 112315,.gl 4 185 g_e4 94254]=>some (.a (.e 2),.none,(okS a0&&(rl a0 a1 a2 a3&&(Zaf a1 a0))))|_,_=>none
theorem Zt3:Uac (md F) Tryz.prog 57 Zh4:=Uac.of Zgh (by
 intro ρ h w args vals r e hA hH hr;unfold Zh4 at hr;split at hr
 ·rename_i a0 a1 a2 a3 g_e0 g_e1 g_e2 g_e3 g_e4;obtain⟨rfl,rfl,hg2⟩:=BQi hr
  try simp only[Q7,Bool.not_eq_true']at hg2
  obtain⟨q0,q1,q2⟩:=hg2
  show Uat (Za4 _ _)=_
  unfold Za4;simp only[Uat,q0,q1,q2,Q1,Q2]
 ·cases hr)
def Zh8:Con:=λargs h=>match args,h with|[.g a0 37,.i .i64 a1,.i .i64 a2,.b a3],[.gl 0 185 g_e0 101973,.gl 1 185 g_e1 93330,.gl 3 185 g_e2 124718,.gl 2 185 g_e3 112315,.gl 4 185 g_e4 94254]=>some (.a (.v .nilIface),.none,(okS a0&&(rl a0 a1 a2 a3&&((!(Zaf a1 a0))))))|_,_=>none
theorem Ztm:Uac (md F) Tryz.prog 57 Zh8:=Uac.of Zgh (by
 intro ρ h w args vals r e hA hH hr;unfold Zh8 at hr;split at hr
 ·rename_i a0 a1 a2 a3 g_e0 g_e1 g_e2 g_e3 g_e4;obtain⟨rfl,rfl,hg2⟩:=BQi hr
  try simp only[Q7,Bool.not_eq_true']at hg2
  obtain⟨q0,q1,q2⟩:=hg2
  show Uat (Za4 _ _)=_
  unfold Za4;simp only[Uat,q0,q1,q2,Q1,Q2]
 ·cases hr)
def Zia:Con:=λargs h=>match args,h with|[.g a0 37,.i .i64 a1,.i .i64 a2,.b a3],[.gl 0 185 g_e0 101973,.gl 1 185 g_e1 93330,.gl 3 185 g_e2 124718,.gl 2 185 g_e3 112315,.gl 4 185 g_e4 94254]=>some (.a (.e 1),.none,(okS a0&&((!(rl a0 a1 a2 a3)))))|_,_=>none
theorem Ztv:Uac (md F) Tryz.prog 57 Zia:=Uac.of Zgh (by
 intro ρ h w args vals r e hA hH hr;unfold Zia at hr;split at hr
 ·rename_i a0 a1 a2 a3 g_e0 g_e1 g_e2 g_e3 g_e4;obtain⟨rfl,rfl,hg2⟩:=BQi hr
  try simp only[Q7,Bool.not_eq_true']at hg2
  obtain⟨q0,q1⟩:=hg2
  show Uat (Za4 _ _)=_
  unfold Za4;simp only[Uat,q0,q1,Q1,Q2]
 ·cases hr)
def Zh9:Con:=λargs h=>match args,h with|[.g a0 37,.i .i64 a1,.i .i64 a2,.b a3],[.gl 0 185 g_e0 101973,.gl 1 185 g_e1 93330,.gl 3 185 g_e2 124718,.gl 2 185 g_e3 112315,.gl 4 185 g_e4 94254]=>some (.a (.e 0),.none,(!(okS a0)))|_,_=>none
theorem Ztp:Uac (md F) Tryz.prog 57 Zh9:=Uac.of Zgh (by
 intro ρ h w args vals r e hA hH hr;unfold Zh9 at hr;split at hr
 ·rename_i a0 a1 a2 a3 g_e0 g_e1 g_e2 g_e3 g_e4;obtain⟨rfl,rfl,hg2⟩:=BQi hr
  try simp only[Q7,Bool.not_eq_true']at hg2
  have q0:=hg2
  show Uat (Za4 _ _)=_
  unfold Za4;simp only[Uat,q0,Q1,Q2]
 ·cases hr)
end
end Go.Proofs.YtdfefaanfiheoaaGreatDoor
