/- For all pairs of seas, cells, tides and finds spec and program tell the same best repair. -/
import Derived.Test.YtdfefaanfiheoaaGreatDoorRows
import Derived.Test.YtdfefaanfiheoaaGreatDoorChecked
import Derived.Test.YtdfefaanfiheoaaGreatDoorCuH
import Derived.Test.YtdfefaanfiheoaaGreatDoorCuP
import Derived.Test.YtdfefaanfiheoaaGreatDoorVcG
import Derived.Test.YtdfefaanfiheoaaGreatDoorCards
import Derived.Test.YtdfefaanfiheoaaGreatDoorTie
set_option linter.unusedVariables false
set_option linter.unusedSimpArgs false
namespace Go.Proofs.YtdfefaanfiheoaaGreatDoor
open Go.ChangeShapes Go.WideShapes Go.ChangeAt Go.RowKit Ve Vc
open IntKind (i64)
set_option maxRecDepth 100000
noncomputable section
variable {F:Vc.Fd}
theorem Ybs(N:Nat)(a0 a1:Array Value):ansV Tryz.prog (mkΓ []) N Tryz.f27 [] [.g a0 53,.g a1 53] []=(bif ((num a0 0) != (num a1 0)) then (some (.a (.b false),.none,true)) else (bif ((num a0 1) != (num a1 1)) then (some (.a (.b false),.none,true)) else (some (.a (.b true),.none,true)))):=by kernel_rfl
theorem Zyn(a0 a1:Array Value)(h_a0:WT Tryz.prog 53 a0)(h_a1:WT Tryz.prog 53 a1)(hg:(true)=true):ansV Tryz.prog (mkΓ []) 1000 Tryz.f27 [] [.g a0 53,.g a1 53] []=some (.a (.b (Uap a0 a1)),.none,true):=by
 have hz:a0.size=2:=by rw[h_a0.layLen];kernel_rfl
 have hy:a1.size=2:=by rw[h_a1.layLen];kernel_rfl
 refine(Ybs 1000 a0 a1).trans ?_;cases hb:Uap a0 a1
 ·have hne:=Ygp.1 hb;cases h0:(num a0 0 != num a1 0)
  ·skip
   cases h1:(num a0 1 != num a1 1)
   ·skip
    exfalso;refine hne (Zin λi=> ?_)
    by_cases c0:i=0
    ·subst c0;rw[(h_a0.int (k:=.i8) (o:=0) (by kernel_rfl)).1,(h_a1.int (k:=.i8) (o:=0) (by kernel_rfl)).1,Yqj h0]
    by_cases c1:i=1
    ·subst c1;rw[(h_a0.int (k:=.i8) (o:=1) (by kernel_rfl)).1,(h_a1.int (k:=.i8) (o:=1) (by kernel_rfl)).1,Yqj h1]
    rw[Array.getElem?_eq_none (by omega),Array.getElem?_eq_none (by omega)]
   ·rfl
  ·rfl
 ·rw[Zii.1 hb];simp only[bne_self_eq_false,Q2,Zqy,Bool.not_true]
def Zl8:Con:=λargs h=>match args,h with|[.g a0 53,.g a1 53],[]=>some (.a (.b (Uap a0 a1)),.none,true)|_,_=>none
theorem Zw8:EntX Tryz.prog 27:=Zaj (fn:=Tryz.f27)
theorem Ydy:Uac (md F) Tryz.prog 27 Zl8:=(ansY (N:=1000) mKn Tryz.f27 []).of (by
 intro ρ h w args vals r e hA hH hr;unfold Zl8 at hr;split at hr
 ·rename_i a0 a1;obtain⟨rfl,rfl,hg2⟩:=BQi hr;exact Zyn a0 a1 (hA.wt 0 rfl) (hA.wt 1 rfl) hg2
 ·cases hr)
def Zkj:Cons:=(mkΓ [(9,con Zm8),(11,con Zp4),(12,con Zmv),(14,con Zm9),(25,con Zka),(26,conG Zkh),(27,con Zl8)])
theorem Zpn(N:Nat)(a0 a1:Array Value)(a2 a3:Int)(g_e0 g_e1 g_e2 g_e3 g_e4:Addr)(b_a4:Option (Option Addr))(n_a4:Nat)(a4:Array Value):ansV Tryz.prog Zkj N Tryz.f7 [] [.g a0 28,.g a1 28,.i .i64 a2,.i .i64 a3,.l 5] [.gl 0 185 g_e0 101973,.gl 1 185 g_e1 93330,.gl 3 185 g_e2 124718,.gl 2 185 g_e3 112315,.gl 4 185 g_e4 94254,.sl (.came b_a4) n_a4 a4 72]=(bif decide ((Zd3 (1048576:Int) b_a4 n_a4 a4)<(0:Int)) then (some (.a (.b true),.none,true)) else (bif decide (n_a4<=1048576) then (bif decide (n_a4<=1048576) then (bif (!(Uap (bif ((Uao a0 a1 n_a4 a4 a2 a3 true) != (0:Int)) then (#[.int .i8 0,.int .i8 0]:Array Value) else bif (bst Tryz.prog a0 a1 a2 a3 a4 n_a4 (dfT a0 a1 2).length).2.2.2 then (bst Tryz.prog a0 a1 a2 a3 a4 n_a4 (dfT a0 a1 2).length).1 else (#[.int .i8 0,.int .i8 0]:Array Value)) (bif ((Uao a0 a1 n_a4 a4 a2 a3 true) != (0:Int)) then (#[.int .i8 0,.int .i8 0]:Array Value) else bif (bst Tryz.prog a0 a1 a2 a3 a4 n_a4 (dfT a0 a1 2).length).2.2.2 then (bst Tryz.prog a0 a1 a2 a3 a4 n_a4 (dfT a0 a1 2).length).1 else (#[.int .i8 0,.int .i8 0]:Array Value)))) then (some (.a (.b false),.none,true)) else (bif ((bif ((Uao a0 a1 n_a4 a4 a2 a3 true) != (0:Int)) then 0 else bif (bst Tryz.prog a0 a1 a2 a3 a4 n_a4 (dfT a0 a1 2).length).2.2.2 then (bst Tryz.prog a0 a1 a2 a3 a4 n_a4 (dfT a0 a1 2).length).2.2.1 else 0) != (bif ((Uao a0 a1 n_a4 a4 a2 a3 true) != (0:Int)) then 0 else bif (bst Tryz.prog a0 a1 a2 a3 a4 n_a4 (dfT a0 a1 2).length).2.2.2 then (bst Tryz.prog a0 a1 a2 a3 a4 n_a4 (dfT a0 a1 2).length).2.2.1 else 0)) then (some (.a (.b false),.none,true)) else (bif ((bif ((Uao a0 a1 n_a4 a4 a2 a3 true) != (0:Int)) then (Uao a0 a1 n_a4 a4 a2 a3 true) else bif (bst Tryz.prog a0 a1 a2 a3 a4 n_a4 (dfT a0 a1 2).length).2.2.2 then 0 else 6) != (bif ((Uao a0 a1 n_a4 a4 a2 a3 true) != (0:Int)) then (Uao a0 a1 n_a4 a4 a2 a3 true) else bif (bst Tryz.prog a0 a1 a2 a3 a4 n_a4 (dfT a0 a1 2).length).2.2.2 then 0 else 6)) then (some (.a (.b false),.none,true)) else (bif decide (n_a4<=1048576) then (bif (!((decide (n_a4=n_a4)&&Uap a4 a4))) then (some (.a (.b false),.none,true)) else (some (.a (.b true),.none,true))) else (none))))) else (none)) else (none))):=by kernel_rfl
def Zbx(P:Program)(a0 a1:Array Value)(a2 a3:Int)(g_e0 g_e1 g_e2 g_e3 g_e4:Addr)(b_a4:Option (Option Addr))(n_a4:Nat)(a4:Array Value):Bool:=(bif decide ((Zd3 (1048576:Int) b_a4 n_a4 a4)<(0:Int)) then true else (bif (!(Uap (bif ((Uao a0 a1 n_a4 a4 a2 a3 true) != (0:Int)) then (#[.int .i8 0,.int .i8 0]:Array Value) else bif (bst P a0 a1 a2 a3 a4 n_a4 (dfT a0 a1 2).length).2.2.2 then (bst P a0 a1 a2 a3 a4 n_a4 (dfT a0 a1 2).length).1 else (#[.int .i8 0,.int .i8 0]:Array Value)) (bif ((Uao a0 a1 n_a4 a4 a2 a3 true) != (0:Int)) then (#[.int .i8 0,.int .i8 0]:Array Value) else bif (bst P a0 a1 a2 a3 a4 n_a4 (dfT a0 a1 2).length).2.2.2 then (bst P a0 a1 a2 a3 a4 n_a4 (dfT a0 a1 2).length).1 else (#[.int .i8 0,.int .i8 0]:Array Value)))) then false else (bif ((bif ((Uao a0 a1 n_a4 a4 a2 a3 true) != (0:Int)) then 0 else bif (bst P a0 a1 a2 a3 a4 n_a4 (dfT a0 a1 2).length).2.2.2 then (bst P a0 a1 a2 a3 a4 n_a4 (dfT a0 a1 2).length).2.2.1 else 0) != (bif ((Uao a0 a1 n_a4 a4 a2 a3 true) != (0:Int)) then 0 else bif (bst P a0 a1 a2 a3 a4 n_a4 (dfT a0 a1 2).length).2.2.2 then (bst P a0 a1 a2 a3 a4 n_a4 (dfT a0 a1 2).length).2.2.1 else 0)) then false else (bif ((bif ((Uao a0 a1 n_a4 a4 a2 a3 true) != (0:Int)) then (Uao a0 a1 n_a4 a4 a2 a3 true) else bif (bst P a0 a1 a2 a3 a4 n_a4 (dfT a0 a1 2).length).2.2.2 then 0 else 6) != (bif ((Uao a0 a1 n_a4 a4 a2 a3 true) != (0:Int)) then (Uao a0 a1 n_a4 a4 a2 a3 true) else bif (bst P a0 a1 a2 a3 a4 n_a4 (dfT a0 a1 2).length).2.2.2 then 0 else 6)) then false else (bif (!((decide (n_a4=n_a4)&&Uap a4 a4))) then false else true)))))
def Zbu(a0 a1:Array Value)(a2 a3:Int)(g_e0 g_e1 g_e2 g_e3 g_e4:Addr)(b_a4:Option (Option Addr))(n_a4:Nat)(a4:Array Value):Bool:=(bif decide ((Zd3 (1048576:Int) b_a4 n_a4 a4)<(0:Int)) then true else (bif decide (n_a4<=1048576) then (bif decide (n_a4<=1048576) then (bif (!(Uap (bif ((Uao a0 a1 n_a4 a4 a2 a3 true) != (0:Int)) then (#[.int .i8 0,.int .i8 0]:Array Value) else bif (bst Tryz.prog a0 a1 a2 a3 a4 n_a4 (dfT a0 a1 2).length).2.2.2 then (bst Tryz.prog a0 a1 a2 a3 a4 n_a4 (dfT a0 a1 2).length).1 else (#[.int .i8 0,.int .i8 0]:Array Value)) (bif ((Uao a0 a1 n_a4 a4 a2 a3 true) != (0:Int)) then (#[.int .i8 0,.int .i8 0]:Array Value) else bif (bst Tryz.prog a0 a1 a2 a3 a4 n_a4 (dfT a0 a1 2).length).2.2.2 then (bst Tryz.prog a0 a1 a2 a3 a4 n_a4 (dfT a0 a1 2).length).1 else (#[.int .i8 0,.int .i8 0]:Array Value)))) then true else (bif ((bif ((Uao a0 a1 n_a4 a4 a2 a3 true) != (0:Int)) then 0 else bif (bst Tryz.prog a0 a1 a2 a3 a4 n_a4 (dfT a0 a1 2).length).2.2.2 then (bst Tryz.prog a0 a1 a2 a3 a4 n_a4 (dfT a0 a1 2).length).2.2.1 else 0) != (bif ((Uao a0 a1 n_a4 a4 a2 a3 true) != (0:Int)) then 0 else bif (bst Tryz.prog a0 a1 a2 a3 a4 n_a4 (dfT a0 a1 2).length).2.2.2 then (bst Tryz.prog a0 a1 a2 a3 a4 n_a4 (dfT a0 a1 2).length).2.2.1 else 0)) then true else (bif ((bif ((Uao a0 a1 n_a4 a4 a2 a3 true) != (0:Int)) then (Uao a0 a1 n_a4 a4 a2 a3 true) else bif (bst Tryz.prog a0 a1 a2 a3 a4 n_a4 (dfT a0 a1 2).length).2.2.2 then 0 else 6) != (bif ((Uao a0 a1 n_a4 a4 a2 a3 true) != (0:Int)) then (Uao a0 a1 n_a4 a4 a2 a3 true) else bif (bst Tryz.prog a0 a1 a2 a3 a4 n_a4 (dfT a0 a1 2).length).2.2.2 then 0 else 6)) then true else decide (n_a4<=1048576)))) else false) else false))
theorem Zo3(a0 a1:Array Value)(a2 a3:Int)(g_e0 g_e1 g_e2 g_e3 g_e4:Addr)(b_a4:Option (Option Addr))(n_a4:Nat)(a4:Array Value)(h_a0:WT Tryz.prog 28 a0)(h_a1:WT Tryz.prog 28 a1)(h_a2:i64.min<=a2/\a2<=i64.max)(h_a3:i64.min<=a3/\a3<=i64.max)(h_a4:SlT 72 n_a4 a4)(hg:((Zbu a0 a1 a2 a3 g_e0 g_e1 g_e2 g_e3 g_e4 b_a4 n_a4 a4))=true):ansV Tryz.prog Zkj 1000 Tryz.f7 [] [.g a0 28,.g a1 28,.i .i64 a2,.i .i64 a3,.l 5] [.gl 0 185 g_e0 101973,.gl 1 185 g_e1 93330,.gl 3 185 g_e2 124718,.gl 2 185 g_e3 112315,.gl 4 185 g_e4 94254,.sl (.came b_a4) n_a4 a4 72]=some (.a (.b ((Zbx Tryz.prog a0 a1 a2 a3 g_e0 g_e1 g_e2 g_e3 g_e4 b_a4 n_a4 a4))),.none,true):=by
 refine(Zpn 1000 a0 a1 a2 a3 g_e0 g_e1 g_e2 g_e3 g_e4 b_a4 n_a4 a4).trans ?_;unfold Zbu at hg;unfold Zbx;revert hg;generalize (decide ((Zd3 (1048576:Int) b_a4 n_a4 a4)<(0:Int)))=b2;intro hg;cases b2
 ·skip
  revert hg;generalize (decide (n_a4<=1048576))=b4;intro hg;cases b4
  ·skip
   first|exact(nomatch (hg:false=true))|rfl
  ·skip
   revert hg;generalize ((!(Uap (bif ((Uao a0 a1 n_a4 a4 a2 a3 true) != (0:Int)) then (#[.int .i8 0,.int .i8 0]:Array Value) else bif (bst Tryz.prog a0 a1 a2 a3 a4 n_a4 (dfT a0 a1 2).length).2.2.2 then (bst Tryz.prog a0 a1 a2 a3 a4 n_a4 (dfT a0 a1 2).length).1 else (#[.int .i8 0,.int .i8 0]:Array Value)) (bif ((Uao a0 a1 n_a4 a4 a2 a3 true) != (0:Int)) then (#[.int .i8 0,.int .i8 0]:Array Value) else bif (bst Tryz.prog a0 a1 a2 a3 a4 n_a4 (dfT a0 a1 2).length).2.2.2 then (bst Tryz.prog a0 a1 a2 a3 a4 n_a4 (dfT a0 a1 2).length).1 else (#[.int .i8 0,.int .i8 0]:Array Value)))))=b6;intro hg;cases b6
   ·skip
    revert hg;generalize (((bif ((Uao a0 a1 n_a4 a4 a2 a3 true) != (0:Int)) then 0 else bif (bst Tryz.prog a0 a1 a2 a3 a4 n_a4 (dfT a0 a1 2).length).2.2.2 then (bst Tryz.prog a0 a1 a2 a3 a4 n_a4 (dfT a0 a1 2).length).2.2.1 else 0) != (bif ((Uao a0 a1 n_a4 a4 a2 a3 true) != (0:Int)) then 0 else bif (bst Tryz.prog a0 a1 a2 a3 a4 n_a4 (dfT a0 a1 2).length).2.2.2 then (bst Tryz.prog a0 a1 a2 a3 a4 n_a4 (dfT a0 a1 2).length).2.2.1 else 0)))=b8;intro hg;cases b8
    ·skip
     revert hg;generalize (((bif ((Uao a0 a1 n_a4 a4 a2 a3 true) != (0:Int)) then (Uao a0 a1 n_a4 a4 a2 a3 true) else bif (bst Tryz.prog a0 a1 a2 a3 a4 n_a4 (dfT a0 a1 2).length).2.2.2 then 0 else 6) != (bif ((Uao a0 a1 n_a4 a4 a2 a3 true) != (0:Int)) then (Uao a0 a1 n_a4 a4 a2 a3 true) else bif (bst Tryz.prog a0 a1 a2 a3 a4 n_a4 (dfT a0 a1 2).length).2.2.2 then 0 else 6)))=b10;intro hg;cases b10
     ·skip
      revert hg;generalize ((!((decide (n_a4=n_a4)&&Uap a4 a4))))=b12;intro hg;cases b12
      ·skip
       first|rfl|exact(nomatch (hg:false=true))
      ·skip
       first|rfl|exact(nomatch (hg:false=true))
     ·skip
      first|rfl|exact(nomatch (hg:false=true))
    ·skip
     first|rfl|exact(nomatch (hg:false=true))
   ·skip
    first|rfl|exact(nomatch (hg:false=true))
 ·skip
  first|rfl|exact(nomatch (hg:false=true))
def Zfl:Con:=λargs h=>match args,h with|[.g a0 28,.g a1 28,.i .i64 a2,.i .i64 a3,.l 5],[.gl 0 185 g_e0 101973,.gl 1 185 g_e1 93330,.gl 3 185 g_e2 124718,.gl 2 185 g_e3 112315,.gl 4 185 g_e4 94254,.sl (.came b_a4) n_a4 a4 72]=>some (.a (.b ((Zbx Tryz.prog a0 a1 a2 a3 g_e0 g_e1 g_e2 g_e3 g_e4 b_a4 n_a4 a4))),.none,(Zbu a0 a1 a2 a3 g_e0 g_e1 g_e2 g_e3 g_e4 b_a4 n_a4 a4))|_,_=>none
theorem Zp0:Uac (md F) Tryz.prog 7 Zfl:=(ansY (N:=1000) (mKc (Zae Ygc) Zyu (mKc (Zae Yk8) Ye2 (mKc (Zae Yhm) Zzi (mKc (Zae Ygs) Yav (mKc (Zae Zzn) Zst (mKc (Zle Yad) Zts (mKc (Zae Ydy) Zw8 mKn))))))) Tryz.f7 []).of (by
 intro ρ h w args vals r e hA hH hr;unfold Zfl at hr;split at hr
 ·rename_i a0 a1 a2 a3 g_e0 g_e1 g_e2 g_e3 g_e4 b_a4 n_a4 a4;obtain⟨rfl,rfl,hg2⟩:=BQi hr;exact Zo3 a0 a1 a2 a3 g_e0 g_e1 g_e2 g_e3 g_e4 b_a4 n_a4 a4 (hA.wt 0 rfl) (hA.wt 1 rfl) (hA.rng 2 rfl) (hA.rng 3 rfl) (hH.slw 5 rfl) hg2
 ·cases hr)
theorem Zpe(a0 a1:Array Value)(a2 a3:Int)(g_e0 g_e1 g_e2 g_e3 g_e4:Addr)(b_a4:Option (Option Addr))(n_a4:Nat)(a4:Array Value)(h_a0:WT Tryz.prog 28 a0)(h_a1:WT Tryz.prog 28 a1)(h_a2:i64.min<=a2/\a2<=i64.max)(h_a3:i64.min<=a3/\a3<=i64.max)(h_a4:n_a4<=9223372036854775807):((Zbu a0 a1 a2 a3 g_e0 g_e1 g_e2 g_e3 g_e4 b_a4 n_a4 a4))=true/\((Zbx Tryz.prog a0 a1 a2 a3 g_e0 g_e1 g_e2 g_e3 g_e4 b_a4 n_a4 a4))=true:=by
 unfold Zbu Zbx Zd3;rw[IntWalk.i64_in (1048576 - (n_a4:Int)) (by omega)]
 by_cases h:n_a4<=1048576
 ·have e1:decide ((1048576:Int) - (n_a4:Int)<0)=false:=Q4 (by omega);have e3:=Q3 h;simp only[e1,e3,decide_true,Bool.and_self,Zqy,bne_self_eq_false,Bool.not_true,Q2,Q1,and_self]
 ·have e1:decide ((1048576:Int) - (n_a4:Int)<0)=true:=Q3 (by omega);have e2:decide ((-1:Int)<0)=true:=by decide
  simp only[e1,e2,Q1];exact⟨trivial,trivial⟩
namespace lawFnExactBestRepair
theorem Ys8(Lk:Looks)(g:Bool){p:Pinned}{s:OpenSpec}{c:OpenClaim}(kinds:List LaidKind)(tests:Bool)(har:Bool×String)(lk:Bool)
  (hc:c.holds p s) (hw:c.wfByText s=true)
  (htie:c.laidByTextAt Lk p kinds tests)
  (hst:c.start=.entering) (hnb:c.noBlocks=false/\c.again=false) (hm:p.checked.prog.mainIs=some (har.1,har.2.toList)) (hn:(!har.1&&har.2.isEmpty && !lk)=false)
  (hl:∀f fn,p.checked.prog.funcNamed c.func=some f->p.checked.prog.funcs[f]?=some fn->lk=p.checked.prog.looks []/\∀(j:Nat) t,fn.params[j]?=some t->p.checked.prog.wantsStandIn t=false)
  (hg:g=c.goesBy p.checked.prog) :
  Claim7.holds p (.plain s) { stood:={ row:=c,standIns:=[],harness:=har,looks:=lk },kinds:=[],alts:=[],goes:=g,laidByText:=true,laidKinds:=kinds,laidTests:=tests,laidLooks:=Lk }:=by
 have h6:∀r:OpenClaim,Claim7.isSixth { stood:={ row:=r,standIns:=[],harness:=har,looks:=lk },kinds:=[] }=false:=λr=>by simpa [Claim7.isSixth] using hn
 exact⟨Claim7.tied_new_at Lk kinds tests (Claim7.new_of_sixth hc har lk hst hnb hm (h6 c) hl) hw,(λD hD=>by cases hD),htie,(λh=>by cases h),hg⟩
theorem own:ownKnob Tryz.prog.godebug=none:=by kernel_rfl
theorem star : "*" ++ "errors.errorString" = "*errors.errorString" := by decide
theorem Yna (u : TypeId) (h : Tryz.prog.typeName? 3 u = some "*errors.errorString") : u = 185 :=
 typeName_ptr_named (nm := "errors.errorString") (by rw [star]; kernel_rfl) (by kernel_rfl) (by decide) u (by rw [star]; exact h)
theorem n_e0 : Tryz.prog.globalNamed "loop.example/g01300/impl.errInvalid" = some 0 := by kernel_rfl
theorem t_e0:(Tryz.prog.globals[0]?).map (·.type)=some 102:=by kernel_rfl
theorem n_e1 : Tryz.prog.globalNamed "loop.example/g01300/impl.errRange" = some 1 := by kernel_rfl
theorem t_e1:(Tryz.prog.globals[1]?).map (·.type)=some 102:=by kernel_rfl
theorem n_e2 : Tryz.prog.globalNamed "loop.example/g01300/impl.errState" = some 3 := by kernel_rfl
theorem t_e2:(Tryz.prog.globals[3]?).map (·.type)=some 102:=by kernel_rfl
theorem n_e3 : Tryz.prog.globalNamed "loop.example/g01300/impl.errLimit" = some 2 := by kernel_rfl
theorem t_e3:(Tryz.prog.globals[2]?).map (·.type)=some 102:=by kernel_rfl
theorem n_e4 : Tryz.prog.globalNamed "loop.example/g01300/impl.errNotFound" = some 4 := by kernel_rfl
theorem t_e4:(Tryz.prog.globals[4]?).map (·.type)=some 102:=by kernel_rfl
theorem laid_all{W:World}(h:laidMetH Tryz.prog Rows.fnExactBestRepairRow.laid W):∃b0 b1 b2 b3 b4:Addr,BIs Tryz.prog idA [] W ⟨0,0⟩ (.gl 0 185 b0 36452)/\BIs Tryz.prog idA [] W ⟨0,0⟩ (.gl 1 185 b1 27809)/\BIs Tryz.prog idA [] W ⟨0,0⟩ (.gl 3 185 b2 59197)/\BIs Tryz.prog idA [] W ⟨0,0⟩ (.gl 2 185 b3 46794)/\BIs Tryz.prog idA [] W ⟨0,0⟩ (.gl 4 185 b4 28733):=by have h0:laidMet Tryz.prog Rows.fnExactBestRepairRow.laid W:=h;have h1:=laidMet.tail h0;have h2:=laidMet.tail h1;have h3:=laidMet.tail h2;have h4:=laidMet.tail h3;obtain⟨b0,k0⟩:=Yh3 h0 n_e0 t_e0 Tryz.underlying102 Yna Tryz.underlying185 Tryz.underlying212 rfl rfl Tryz.underlying9 (by kernel_rfl) (by kernel_rfl);obtain⟨b1,k1⟩:=Yh3 h1 n_e1 t_e1 Tryz.underlying102 Yna Tryz.underlying185 Tryz.underlying212 rfl rfl Tryz.underlying9 (by kernel_rfl) (by kernel_rfl);obtain⟨b2,k2⟩:=Yh3 h3 n_e2 t_e2 Tryz.underlying102 Yna Tryz.underlying185 Tryz.underlying212 rfl rfl Tryz.underlying9 (by kernel_rfl) (by kernel_rfl);obtain⟨b3,k3⟩:=Yh3 h2 n_e3 t_e3 Tryz.underlying102 Yna Tryz.underlying185 Tryz.underlying212 rfl rfl Tryz.underlying9 (by kernel_rfl) (by kernel_rfl);obtain⟨b4,k4⟩:=Yh3 h4 n_e4 t_e4 Tryz.underlying102 Yna Tryz.underlying185 Tryz.underlying212 rfl rfl Tryz.underlying9 (by kernel_rfl) (by kernel_rfl);exact⟨b0,b1,b2,b3,b4,k0,k1,k2,k3,k4⟩
def low:Nat:=(World.holding Tryz.prog default ⟨#[],#[],[]⟩).heap.size
def Udd(os:Os):World:=
 let w0:=World.holding Tryz.prog os ⟨#[.cells #[.string ⟨(#[116,104,101,32,115,101,97,32,111,114,32,116,104,101,32,102,105,110,100,115,32,97,114,101,32,110,111,116,32,118,97,108,105,100]:Array UInt8)⟩] 212,.cells #[.string ⟨(#[97,32,110,117,109,98,101,114,32,105,115,32,111,117,116,32,111,102,32,105,116,115,32,114,97,110,103,101]:Array UInt8)⟩] 212,.cells #[.string ⟨(#[108,97,110,100,32,105,115,32,119,104,101,114,101,32,119,97,116,101,114,32,104,97,115,32,116,111,32,98,101,44,32,111,114,32,119,97,116,101,114,32,119,104,101,114,101,32,108,97,110,100,32,104,97,115,32,116,111,32,98,101]:Array UInt8)⟩] 212,.cells #[.string ⟨(#[116,104,101,114,101,32,119,111,117,108,100,32,98,101,32,116,111,111,32,109,97,110,121,32,102,105,110,100,115]:Array UInt8)⟩] 212,.cells #[.string ⟨(#[116,104,101,114,101,32,105,115,32,110,111,116,104,105,110,103,32,111,102,32,116,104,105,115,32,107,105,110,100]:Array UInt8)⟩] 212],#[],[]⟩
 { w0 with heap:=((((w0.heap.modify 0 fun
   |.cells _ t frozen=>.cells #[.iface 185 (.pointer (some ⟨low+0,0,none⟩))] t frozen
   |o=>o).modify 1 fun
   |.cells _ t frozen=>.cells #[.iface 185 (.pointer (some ⟨low+1,0,none⟩))] t frozen
   |o=>o).modify 3 fun
   |.cells _ t frozen=>.cells #[.iface 185 (.pointer (some ⟨low+2,0,none⟩))] t frozen
   |o=>o).modify 2 fun
   |.cells _ t frozen=>.cells #[.iface 185 (.pointer (some ⟨low+3,0,none⟩))] t frozen
   |o=>o).modify 4 fun
   |.cells _ t frozen=>.cells #[.iface 185 (.pointer (some ⟨low+4,0,none⟩))] t frozen
   |o=>o }
theorem laid_met(os:Os)(args:Array Value):laidMet Tryz.prog Rows.fnExactBestRepairRow.laid ((Udd os).forCall (λ_ _=>0) ⟨#[],args,[]⟩).memory:=
 laidMet_of_run' 8 (by kernel_rfl) (by kernel_rfl)
theorem reads(os:Os){H:Type}(enc:TypeId×Value->H):∃x,DataW.whole enc Tryz.prog ((Udd os).forCall (λ_ _=>0) ⟨#[],#[.agg (zc Tryz.prog 28),.agg (zc Tryz.prog 28),.int .i64 0,.int .i64 0,.slice none 0 0],[]⟩).memory Tryz.f7.params.toList Rows.fnExactBestRepairSpec.vars false (#[.agg (zc Tryz.prog 28),.agg (zc Tryz.prog 28),.int .i64 0,.int .i64 0,.slice none 0 0]:Array Value).toList 8=some x:=
 Option.isSome_iff_exists.1 (by kernel_rfl)
set_option maxRecDepth 100000 in
theorem lifted(os:Os)(started:os.Started)(H:Type)(enc:TypeId×Value->H):
  ReturnsInLeavingWide {} Tryz.checked os 7 .any ((OpenSpec.ofChange Rows.fnExactBestRepairSpec).preRow enc Tryz.prog Tryz.f7 Rows.fnExactBestRepairRow.domain false Rows.fnExactBestRepairRow.laid) (Rows.fnExactBestRepairSpec.post enc Tryz.prog Tryz.f7 false true false false):=by
 obtain⟨x,hx⟩:=reads os enc;refine Yer (C:=Tryz.checked) (tb:=4) own (by kernel_rfl) Tryz.func7 (by kernel_rfl) Tryz.underlying4 (of_decide_eq_true (by kernel_rfl)) (by kernel_rfl) ?_ os started H enc
  (witness_row_at (enc:=enc) (C:=Tryz.checked) false (Udd os) #[.agg (zc Tryz.prog 28),.agg (zc Tryz.prog 28),.int .i64 0,.int .i64 0,.slice none 0 0] rfl (by kernel_rfl) (by kernel_rfl) (by kernel_rfl)
   (OpenSpec.preRow_of_cond 8 hx (by kernel_rfl) (λk hk=>by cases hk) (by kernel_rfl) (laid_met os _))) ?_
 ·intro H ds gs hds hgs;rw[show Tryz.f7.params.toList.length=5 by kernel_rfl]at hds;rw[show Rows.fnExactBestRepairSpec.vars.length=5 by kernel_rfl]at hgs
  match ds,hds,gs,hgs with|[_,_,_,_,_],_,[_,_,_,_,_],_=>rfl
 ·intro W base args ds ps hval hA hL;obtain⟨b0,b1,b2,b3,b4,k0,k1,k2,k3,k4⟩:=laid_all hL;rw[Tryz.params7]at hA hval;obtain⟨v0,vs0,d0,ds0,p0,q0,ha0,rfl,rfl,h0,r0⟩:=trodAll_cons hA;obtain⟨v1,vs1,d1,ds1,p1,q1,rfl,rfl,rfl,h1,r1⟩:=trodAll_cons r0;obtain⟨v2,vs2,d2,ds2,p2,q2,rfl,rfl,rfl,h2,r2⟩:=trodAll_cons r1;obtain⟨v3,vs3,d3,ds3,p3,q3,rfl,rfl,rfl,h3,r3⟩:=trodAll_cons r2;obtain⟨v4,vs4,d4,ds4,p4,q4,rfl,rfl,rfl,h4,r4⟩:=trodAll_cons r3;obtain⟨rfl,rfl,rfl⟩:=trodAll_nil r4;have hargs:args=#[v0,v1,v2,v3,v4]:=by cases args;simp_all
  obtain⟨a0,e0,w0⟩:=Yn4 (t:=28) 8 (by kernel_rfl) (by kernel_rfl) (hval 0 28 v0 rfl (by rw[hargs];rfl)) h0;obtain⟨a1,e1,w1⟩:=Yn4 (t:=28) 8 (by kernel_rfl) (by kernel_rfl) (hval 1 28 v1 rfl (by rw[hargs];rfl)) h1;obtain⟨a2,e2,_,_,w2⟩:=open_int Tryz.underlying2 (hval 2 2 v2 rfl (by rw[hargs];rfl)) h2;obtain⟨a3,e3,_,_,w3⟩:=open_int Tryz.underlying2 (hval 3 2 v3 rfl (by rw[hargs];rfl)) h3;obtain⟨x_a4,n_a4,c_a4,a4,e4,w4⟩:=open_sl (P:=Tryz.prog) (t:=29) (e:=72) 8 Tryz.underlying29 (by kernel_rfl) (by kernel_rfl) (Nat.lt_of_lt_of_eq (by decide:0<2) (by kernel_rfl)) (okWide_slice Tryz.underlying29 (hval 4 29 v4 rfl (by rw[hargs];rfl))) h4;obtain rfl:args=#[.agg a0,.agg a1,.int .i64 a2,.int .i64 a3,.slice x_a4 n_a4 c_a4]:=by rw[hargs,e0,e1,e2,e3,e4]
  obtain⟨hg,hv⟩:=Zpe a0 a1 a2 a3 b0 b1 b2 b3 b4 (some x_a4) n_a4 a4 w0 w1 (wfb w2) (wfb w3) w4.2.2.1;have hr:Zfl [.g a0 28,.g a1 28,.i .i64 a2,.i .i64 a3,.l 5] [.gl 0 185 b0 101973,.gl 1 185 b1 93330,.gl 3 185 b2 124718,.gl 2 185 b3 112315,.gl 4 185 b4 94254,.sl (.came (some x_a4)) n_a4 a4 72]=some (.a (.b true),.none,true):=by
   show (some (SV.a (SA.b ((Zbx Tryz.prog a0 a1 a2 a3 b0 b1 b2 b3 b4 (some x_a4) n_a4 a4))),Eff.none,(Zbu a0 a1 a2 a3 b0 b1 b2 b3 b4 (some x_a4) n_a4 a4)):Option (SV×Eff×Bool))=_
   rw[hg,hv]
  exact Ys0 (by kernel_rfl) Zp0 (hh:=[.gl 0 185 b0 36452,.gl 1 185 b1 27809,.gl 3 185 b2 59197,.gl 2 185 b3 46794,.gl 4 185 b4 28733,.sl (.came (some x_a4)) n_a4 a4 72]) (by kernel_rfl) hr W (vals:=[.agg a0,.agg a1,.int .i64 a2,.int .i64 a3,.slice x_a4 n_a4 c_a4]) (.gl k0 (.gl k1 (.gl k2 (.gl k3 (.gl k4 (.cons w4 .nil)))))) (Ucs ⟨rfl,w0⟩ (Ucs ⟨rfl,w1⟩ (Ucs ⟨rfl,wfb w2⟩ (Ucs ⟨rfl,wfb w3⟩ (Ucs (is_came rfl) (allNil2 _))))))
theorem said:Rows.FnExactBestRepairSaid:=
 OpenClaim.holds_of_wide_leaving 7 Tryz.f7 rfl rfl rfl rfl rfl rfl rfl ⟨rfl,rfl,rfl,rfl,rfl⟩ rfl rfl rfl rfl rfl (by kernel_rfl) Tryz.func7 (by kernel_rfl)
  (of_decide_eq_true (by kernel_rfl)) (by unfold Func.isWrapper;first | (rw[if_pos (by decide +kernel)];kernel_rfl) | (rw[if_neg (by decide +kernel)];exact⟨rfl,rfl⟩))
  (λos started H enc _=>by rw[OpenClaim.pre_eq_preRow];exact lifted os started H enc)
theorem plain(f:FuncId)(fn:Func)(hf:Tryz.pinned.checked.prog.funcNamed Rows.fnExactBestRepairRow.func=some f)(hfn:Tryz.pinned.checked.prog.funcs[f]?=some fn):
  Rows.fnExactBestRepairCard.stood.looks=Tryz.pinned.checked.prog.looks []/\∀(j:Nat) t,fn.params[j]?=some t->Tryz.pinned.checked.prog.wantsStandIn t=false:=by
 obtain rfl:f=7:=Q5 ((show Tryz.prog.funcNamed Rows.fnExactBestRepairRow.func=some 7 by kernel_rfl).symm.trans hf) |>.symm
 obtain rfl:fn=Tryz.f7:=(Q5 (Tryz.func7.symm.trans hfn)).symm;refine⟨by kernel_rfl,λj t ht=> ?_⟩;have hall:∀t∈Tryz.f7.params.toList,Tryz.prog.wantsStandIn t=false:=of_decide_eq_true (by kernel_rfl);exact hall t (by simpa using Array.mem_of_getElem? ht)
theorem proved:Rows.FnExactBestRepairCardSaid:=
 Ys8 .later true _ _ _ _ said (by kernel_rfl) fnExactBestRepair_row_tie rfl ⟨rfl,rfl⟩ (by kernel_rfl) rfl plain (by kernel_rfl)
#print axioms proved
end lawFnExactBestRepair
end
end Go.Proofs.YtdfefaanfiheoaaGreatDoor
