import Derived.Test.YtdofpgniogochaaDoorProg
import Derived.Test.YtdofpgniogochaaDoorCyA
namespace Go.Proofs.YtdofpgniogochaaDoor
open Go.ChangeShapes Go.WideShapes Go.ChangeAt Go.RowKit Ve Vc
set_option linter.unusedVariables false
set_option linter.unusedSimpArgs false
set_option maxRecDepth 100000
noncomputable section
variable {F:Vc.Fd}
theorem Ygw (n:Int):Zd6 n=Zaa n 1 14:=rfl
def Zgo:Con:=fun args h=>match args,h with
 | [.g a0 35,.i .i64 a1,.i .i64 a2,.b a3],[.gl 1 215 g_e0 101973,.gl 2 215 g_e1 93330,.gl 0 215 g_e2 124718,.gl 3 215 g_e3 112315,.gl 4 215 g_e4 94254]=>some (.a (.e 2),.none,(okS a0&&(rl a0 a1 a2 a3&&(Zag a1 a0))))
 | _,_=>none
theorem Zqm:ConOkX (md F) Tryd.prog 77 Zgo:=ConOkX.of Zet (by
 intro ρ h w args vals r e hA hH hr
 unfold Zgo at hr
 split at hr
 ·rename_i a0 a1 a2 a3 g_e0 g_e1 g_e2 g_e3 g_e4
  obtain ⟨rfl,hg⟩:=Prod.mk.inj (Option.some.inj hr)
  obtain ⟨rfl,hg2⟩:=Prod.mk.inj hg
  simp only [Bool.and_eq_true,Bool.not_eq_true'] at hg2
  obtain ⟨q0,q1,q2⟩:=hg2
  show wayRes (Za0 _ _)=_
  unfold Za0
  simp only [wayRes,q0,q1,q2,cond_true,cond_false]
 ·cases hr)
def Zgt:Con:=fun args h=>match args,h with
 | [.g a0 35,.i .i64 a1,.i .i64 a2,.b a3],[.gl 1 215 g_e0 101973,.gl 2 215 g_e1 93330,.gl 0 215 g_e2 124718,.gl 3 215 g_e3 112315,.gl 4 215 g_e4 94254]=>some (.a (.v (.nilIface)),.none,(okS a0&&(rl a0 a1 a2 a3&&((!(Zag a1 a0))))))
 | _,_=>none
theorem Zqu:ConOkX (md F) Tryd.prog 77 Zgt:=ConOkX.of Zet (by
 intro ρ h w args vals r e hA hH hr
 unfold Zgt at hr
 split at hr
 ·rename_i a0 a1 a2 a3 g_e0 g_e1 g_e2 g_e3 g_e4
  obtain ⟨rfl,hg⟩:=Prod.mk.inj (Option.some.inj hr)
  obtain ⟨rfl,hg2⟩:=Prod.mk.inj hg
  simp only [Bool.and_eq_true,Bool.not_eq_true'] at hg2
  obtain ⟨q0,q1,q2⟩:=hg2
  show wayRes (Za0 _ _)=_
  unfold Za0
  simp only [wayRes,q0,q1,q2,cond_true,cond_false]
 ·cases hr)
def Zgn:Con:=fun args h=>match args,h with
 | [.g a0 35,.i .i64 a1,.i .i64 a2,.b a3],[.gl 1 215 g_e0 101973,.gl 2 215 g_e1 93330,.gl 0 215 g_e2 124718,.gl 3 215 g_e3 112315,.gl 4 215 g_e4 94254]=>some (.a (.e 1),.none,(okS a0&&((!(rl a0 a1 a2 a3)))))
 | _,_=>none
theorem Zqs:ConOkX (md F) Tryd.prog 77 Zgn:=ConOkX.of Zet (by
 intro ρ h w args vals r e hA hH hr
 unfold Zgn at hr
 split at hr
 ·rename_i a0 a1 a2 a3 g_e0 g_e1 g_e2 g_e3 g_e4
  obtain ⟨rfl,hg⟩:=Prod.mk.inj (Option.some.inj hr)
  obtain ⟨rfl,hg2⟩:=Prod.mk.inj hg
  simp only [Bool.and_eq_true,Bool.not_eq_true'] at hg2
  obtain ⟨q0,q1⟩:=hg2
  show wayRes (Za0 _ _)=_
  unfold Za0
  simp only [wayRes,q0,q1,cond_true,cond_false]
 ·cases hr)
def Zgs:Con:=fun args h=>match args,h with
 | [.g a0 35,.i .i64 a1,.i .i64 a2,.b a3],[.gl 1 215 g_e0 101973,.gl 2 215 g_e1 93330,.gl 0 215 g_e2 124718,.gl 3 215 g_e3 112315,.gl 4 215 g_e4 94254]=>some (.a (.e 0),.none,(!(okS a0)))
 | _,_=>none
theorem Zq0:ConOkX (md F) Tryd.prog 77 Zgs:=ConOkX.of Zet (by
 intro ρ h w args vals r e hA hH hr
 unfold Zgs at hr
 split at hr
 ·rename_i a0 a1 a2 a3 g_e0 g_e1 g_e2 g_e3 g_e4
  obtain ⟨rfl,hg⟩:=Prod.mk.inj (Option.some.inj hr)
  obtain ⟨rfl,hg2⟩:=Prod.mk.inj hg
  simp only [Bool.and_eq_true,Bool.not_eq_true'] at hg2
  have q0:=hg2
  show wayRes (Za0 _ _)=_
  unfold Za0
  simp only [wayRes,q0,cond_true,cond_false]
 ·cases hr)
end
end Go.Proofs.YtdofpgniogochaaDoor
