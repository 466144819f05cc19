/- The ways of a refusal, each by itself. -/
import Derived.Test.YtefjogahegolbaaDoorProg
import Derived.Test.YtefjogahegolbaaDoorCyA
set_option linter.unusedVariables false
set_option linter.unusedSimpArgs false
namespace Go.Proofs.YtefjogahegolbaaDoor
open Go.ChangeShapes Go.WideShapes Go.ChangeAt Go.RowKit Ve Vc
set_option maxRecDepth 100000
noncomputable section
variable {F:Vc.Fd}
theorem rl_of{S:Array Value}{c b:Int}{f:Bool}(h:rl S c b f=true):Zac c S=true/\Zaa b 0 1=true/\f=true:=by unfold rl at h;simp only[Q7]at h;exact h
def Zf4:Con:=λargs h=>match args,h with|[.g a0 35,.i .i64 a1,.i .i64 a2,.b a3],[.gl 1 140 g_e0 101973,.gl 2 140 g_e1 93330,.gl 0 140 g_e2 124718,.gl 3 140 g_e3 112315,.gl 4 140 g_e4 94254]=>some (.a (.e 2),.none,(okS a0&&(rl a0 a1 a2 a3&&(Zab a1 a0))))|_,_=>none
theorem Zoz:Uad (md F) Tryd.prog 33 Zf4:=Uad.of Zem (by
 intro ρ h w args vals r e hA hH hr;unfold Zf4 at hr;split at hr
 ·rename_i a0 a1 a2 a3 g_e0 g_e1 g_e2 g_e3 g_e4;obtain⟨rfl,rfl,hg2⟩:=BQi hr
  try simp only[Q7,Bool.not_eq_true']at hg2
  obtain⟨q0,q1,q2⟩:=hg2
  show Uaf (Zaw _ _)=_
  unfold Zaw;simp only[Uaf,q0,q1,q2,Q1,Q2]
 ·cases hr)
def Zf6:Con:=λargs h=>match args,h with|[.g a0 35,.i .i64 a1,.i .i64 a2,.b a3],[.gl 1 140 g_e0 101973,.gl 2 140 g_e1 93330,.gl 0 140 g_e2 124718,.gl 3 140 g_e3 112315,.gl 4 140 g_e4 94254]=>some (.a (.v .nilIface),.none,(okS a0&&(rl a0 a1 a2 a3&&((!(Zab a1 a0))))))|_,_=>none
theorem Zjn:Uad (md F) Tryd.prog 33 Zf6:=Uad.of Zem (by
 intro ρ h w args vals r e hA hH hr;unfold Zf6 at hr;split at hr
 ·rename_i a0 a1 a2 a3 g_e0 g_e1 g_e2 g_e3 g_e4;obtain⟨rfl,rfl,hg2⟩:=BQi hr
  try simp only[Q7,Bool.not_eq_true']at hg2
  obtain⟨q0,q1,q2⟩:=hg2
  show Uaf (Zaw _ _)=_
  unfold Zaw;simp only[Uaf,q0,q1,q2,Q1,Q2]
 ·cases hr)
def Zf3:Con:=λargs h=>match args,h with|[.g a0 35,.i .i64 a1,.i .i64 a2,.b a3],[.gl 1 140 g_e0 101973,.gl 2 140 g_e1 93330,.gl 0 140 g_e2 124718,.gl 3 140 g_e3 112315,.gl 4 140 g_e4 94254]=>some (.a (.e 1),.none,(okS a0&&((!(rl a0 a1 a2 a3)))))|_,_=>none
theorem Zob:Uad (md F) Tryd.prog 33 Zf3:=Uad.of Zem (by
 intro ρ h w args vals r e hA hH hr;unfold Zf3 at hr;split at hr
 ·rename_i a0 a1 a2 a3 g_e0 g_e1 g_e2 g_e3 g_e4;obtain⟨rfl,rfl,hg2⟩:=BQi hr
  try simp only[Q7,Bool.not_eq_true']at hg2
  obtain⟨q0,q1⟩:=hg2
  show Uaf (Zaw _ _)=_
  unfold Zaw;simp only[Uaf,q0,q1,Q1,Q2]
 ·cases hr)
def Zf2:Con:=λargs h=>match args,h with|[.g a0 35,.i .i64 a1,.i .i64 a2,.b a3],[.gl 1 140 g_e0 101973,.gl 2 140 g_e1 93330,.gl 0 140 g_e2 124718,.gl 3 140 g_e3 112315,.gl 4 140 g_e4 94254]=>some (.a (.e 0),.none,(!(okS a0)))|_,_=>none
theorem Zoi:Uad (md F) Tryd.prog 33 Zf2:=Uad.of Zem (by
 intro ρ h w args vals r e hA hH hr;unfold Zf2 at hr;split at hr
 ·rename_i a0 a1 a2 a3 g_e0 g_e1 g_e2 g_e3 g_e4;obtain⟨rfl,rfl,hg2⟩:=BQi hr
  try simp only[Q7,Bool.not_eq_true']at hg2
  have q0:=hg2
  show Uaf (Zaw _ _)=_
  unfold Zaw;simp only[Uaf,q0,Q1,Q2]
 ·cases hr)
end
end Go.Proofs.YtefjogahegolbaaDoor
