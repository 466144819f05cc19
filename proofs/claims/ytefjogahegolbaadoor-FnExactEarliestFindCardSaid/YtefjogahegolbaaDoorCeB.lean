/- The first hour in which something strands on a beach, in the program. -/
import Derived.Test.YtefjogahegolbaaDoorProg
import Derived.Test.YtefjogahegolbaaDoorCeA
set_option linter.unusedVariables false
set_option linter.unusedSimpArgs false
open _root_.Bool renaming not_eq_true'->jA
namespace Go.Proofs.YtefjogahegolbaaDoor
open Tryd (f11 f12 f14 f17)
open Go.ChangeShapes Go.WideShapes Go.ChangeAt Go.RowKit Ve Vc
open Tryd (prog)
open IntKind (i64)
set_option maxRecDepth 100000
noncomputable section
variable {F:Vc.Fd}
def Zn2:Cons:=(mkΓ [(29,con Zj7),(30,con Zbj),(31,con Ze6)])
theorem Zu3(N:Nat)(a1 a2 a3:Int)(a4:Bool)(a0:Array Value):ansV prog Zn2 N f11 [] [.w 0,.i .i64 a1,.i .i64 a2,.i .i64 a3,.b a4] [.row a0 35]=(bif a4 then (bif (Zbz a1 a2 (Zac a3 a0) a0) then (bif ((Zao a1 a2 (Zac a3 a0) a0)==(0:Int)) then (bif decide (0<=(IntKind.u64.wrap a3)) then (bif (!((Zab a3 a0))) then (some (.a (.i .i64 4),.none,true)) else (some (.a (.i .i64 (Zao a1 a2 (Zac a3 a0) a0)),.none,true))) else (none)) else (some (.a (.i .i64 (Zao a1 a2 (Zac a3 a0) a0)),.none,true))) else (none)) else (bif (Zbz a1 a2 false a0) then (bif ((Zao a1 a2 false a0)==(0:Int)) then (bif decide (0<=(IntKind.u64.wrap a3)) then (bif (!((Zab a3 a0))) then (some (.a (.i .i64 4),.none,true)) else (some (.a (.i .i64 (Zao a1 a2 false a0)),.none,true))) else (none)) else (some (.a (.i .i64 (Zao a1 a2 false a0)),.none,true))) else (none))):=by kernel_rfl
def Zax(a1 a2 a3:Int)(a4:Bool)(a0:Array Value):Int:=(bif a4 then (bif ((Zao a1 a2 (Zac a3 a0) a0)==(0:Int)) then (bif (!((Zab a3 a0))) then (4:Int) else (Zao a1 a2 (Zac a3 a0) a0)) else (Zao a1 a2 (Zac a3 a0) a0)) else (bif ((Zao a1 a2 false a0)==(0:Int)) then (bif (!((Zab a3 a0))) then (4:Int) else (Zao a1 a2 false a0)) else (Zao a1 a2 false a0)))
def Zdm(a1 a2 a3:Int)(a4:Bool)(a0:Array Value):Bool:=(bif a4 then (bif (Zbz a1 a2 (Zac a3 a0) a0) then (bif ((Zao a1 a2 (Zac a3 a0) a0)==(0:Int)) then decide (0<=(IntKind.u64.wrap a3)) else true) else false) else (bif (Zbz a1 a2 false a0) then (bif ((Zao a1 a2 false a0)==(0:Int)) then decide (0<=(IntKind.u64.wrap a3)) else true) else false))
theorem Zub(a1 a2 a3:Int)(a4:Bool)(a0:Array Value)(h_a1:i64.min<=a1/\a1<=i64.max)(h_a2:i64.min<=a2/\a2<=i64.max)(h_a3:i64.min<=a3/\a3<=i64.max)(h_a0:WT prog 35 a0)(hg:((Zdm a1 a2 a3 a4 a0))=true):ansV prog Zn2 1000 f11 [] [.w 0,.i .i64 a1,.i .i64 a2,.i .i64 a3,.b a4] [.row a0 35]=some (.a (.i .i64 (Zax a1 a2 a3 a4 a0)),.none,true):=by
 refine(Zu3 1000 a1 a2 a3 a4 a0).trans ?_;unfold Zdm at hg;unfold Zax;revert hg;generalize (a4)=b2;intro hg;cases b2
 ·skip
  revert hg;generalize ((Zbz a1 a2 false a0))=b4;intro hg;cases b4
  ·skip
   first|exact(nomatch (hg:false=true))|rfl
  ·skip
   revert hg;generalize (((Zao a1 a2 false a0)==(0:Int)))=b6;intro hg;cases b6
   ·skip
    first|rfl|exact(nomatch (hg:false=true))
   ·skip
    revert hg;generalize (decide (0<=(IntKind.u64.wrap a3)))=b8;intro hg;cases b8
    ·skip
     first|exact(nomatch (hg:false=true))|rfl
    ·skip
     revert hg;generalize ((!((Zab a3 a0))))=b10;intro hg;cases b10
     ·skip
      first|rfl|exact(nomatch (hg:false=true))
     ·skip
      first|rfl|exact(nomatch (hg:false=true))
 ·skip
  revert hg;generalize ((Zbz a1 a2 (Zac a3 a0) a0))=b4;intro hg;cases b4
  ·skip
   first|exact(nomatch (hg:false=true))|rfl
  ·skip
   revert hg;generalize (((Zao a1 a2 (Zac a3 a0) a0)==(0:Int)))=b6;intro hg;cases b6
   ·skip
    first|rfl|exact(nomatch (hg:false=true))
   ·skip
    revert hg;generalize (decide (0<=(IntKind.u64.wrap a3)))=b8;intro hg;cases b8
    ·skip
     first|exact(nomatch (hg:false=true))|rfl
    ·skip
     revert hg;generalize ((!((Zab a3 a0))))=b10;intro hg;cases b10
     ·skip
      first|rfl|exact(nomatch (hg:false=true))
     ·skip
      first|rfl|exact(nomatch (hg:false=true))
def Ziw:Con:=λargs h=>match args,h with|[.w 0,.i .i64 a1,.i .i64 a2,.i .i64 a3,.b a4],[.row a0 35]=>some (.a (.i .i64 (Zax a1 a2 a3 a4 a0)),.none,(Zdm a1 a2 a3 a4 a0))|_,_=>none
theorem Zrr:EntX prog 11:=Zal (fn:=f11)
theorem Zwm:Uad (md F) prog 11 Ziw:=(ansY (N:=1000) (mKc (Zah Zye) Zr3 (mKc (Zah Zim) Zfs (mKc (Zah Zjg) Zgu mKn))) f11 []).of (by
 intro ρ h w args vals r e hA hH hr;unfold Ziw at hr;split at hr
 ·rename_i a1 a2 a3 a4 a0;obtain⟨rfl,rfl,hg2⟩:=BQi hr;exact Zub a1 a2 a3 a4 a0 (hA.rng 1 rfl) (hA.rng 2 rfl) (hA.rng 3 rfl) (hH.wt 0 rfl) hg2
 ·cases hr)
theorem beach_gd(c b be:Int)(f:Bool)(S:Array Value):Zdm c b be f S=true:=by unfold Zdm;rw[Yjm,Yjm,Ybv];cases f<;>simp
def bl(S:Array Value)(c b be:Int)(f:Bool):Bool:=rl S c b (f&&Zac be S)
theorem Ufq{S:Array Value}{c b be:Int}{f:Bool}(h:bl S c b be f=true):Zac c S=true/\Zaa b 0 1=true/\f=true/\Zac be S=true:=by obtain⟨h1,h2,h3⟩:=rl_of h;rw[Q7]at h3;exact⟨h1,h2,h3.1,h3.2⟩
theorem Ygn(c b be:Int)(f:Bool)(S:Array Value):Zax c b be f S=bif okS S then (bif bl S c b be f then (bif Zab c S then 4 else bif Zab be S then 0 else 4) else 2) else 1:=by
 unfold Zax bl;rw[Yj5,Yj5];cases f with
 |false=>
  rw[Bool.false_and];have hr:rl S c b false=false:=by unfold rl;simp
  rw[hr];cases okS S<;>rfl
 |true=>rw[Bool.true_and];cases okS S<;>cases rl S c b (Zac be S)<;>cases Zab c S<;>cases Zab be S<;>rfl
theorem Zzu{S:Array Value}(hS:WT prog 35 S){c:Int}(hc:0<=c/\c<=35):Zaf S c=!(Zab c S):=by unfold Zaf;rw[Yc2 hS hc]
def Zk2:Cons:=(mkΓ [(33,conG Zf4),(34,con Zc3),(35,con Zce)])
theorem Zpb(N:Nat)(a0:Array Value)(a1 a2 a3:Int)(a4:Bool)(g_e0 g_e1 g_e2 g_e3 g_e4:Addr):ansV prog Zk2 N f14 [] [.g a0 35,.i .i64 a1,.i .i64 a2,.i .i64 a3,.b a4] [.gl 1 140 g_e0 101973,.gl 2 140 g_e1 93330,.gl 0 140 g_e2 124718,.gl 3 140 g_e3 112315,.gl 4 140 g_e4 94254]=(bif a4 then (bif (okS a0&&(rl a0 a1 a2 (Zak a0 a3)&&(Zab a1 a0))) then (some (.a (.e 2),.none,true)) else (none)) else (bif (okS a0&&(rl a0 a1 a2 false&&(Zab a1 a0))) then (some (.a (.e 2),.none,true)) else (none))):=by kernel_rfl
def Zht:Cons:=(mkΓ [(33,conG Zf6),(34,con Zc3),(35,con Zce)])
theorem Zjo(N:Nat)(a0:Array Value)(a1 a2 a3:Int)(a4:Bool)(g_e0 g_e1 g_e2 g_e3 g_e4:Addr):ansV prog Zht N f14 [] [.g a0 35,.i .i64 a1,.i .i64 a2,.i .i64 a3,.b a4] [.gl 1 140 g_e0 101973,.gl 2 140 g_e1 93330,.gl 0 140 g_e2 124718,.gl 3 140 g_e3 112315,.gl 4 140 g_e4 94254]=(bif a4 then (bif (okS a0&&(rl a0 a1 a2 (Zak a0 a3)&&((!(Zab a1 a0))))) then (bif decide (0<=a3) then (bif (Zaf a0 a3) then (some (.a (.e 2),.none,true)) else (some (.a (.v .nilIface),.none,true))) else (none)) else (none)) else (bif (okS a0&&(rl a0 a1 a2 false&&((!(Zab a1 a0))))) then (bif decide (0<=a3) then (bif (Zaf a0 a3) then (some (.a (.e 2),.none,true)) else (some (.a (.v .nilIface),.none,true))) else (none)) else (none))):=by kernel_rfl
def Zkt:Cons:=(mkΓ [(33,conG Zf3),(34,con Zc3),(35,con Zce)])
theorem Zov(N:Nat)(a0:Array Value)(a1 a2 a3:Int)(a4:Bool)(g_e0 g_e1 g_e2 g_e3 g_e4:Addr):ansV prog Zkt N f14 [] [.g a0 35,.i .i64 a1,.i .i64 a2,.i .i64 a3,.b a4] [.gl 1 140 g_e0 101973,.gl 2 140 g_e1 93330,.gl 0 140 g_e2 124718,.gl 3 140 g_e3 112315,.gl 4 140 g_e4 94254]=(bif a4 then (bif (okS a0&&((!(rl a0 a1 a2 (Zak a0 a3))))) then (some (.a (.e 1),.none,true)) else (none)) else (bif (okS a0&&((!(rl a0 a1 a2 false)))) then (some (.a (.e 1),.none,true)) else (none))):=by kernel_rfl
def Zk1:Cons:=(mkΓ [(33,conG Zf2),(34,con Zc3),(35,con Zce)])
theorem Zpd(N:Nat)(a0:Array Value)(a1 a2 a3:Int)(a4:Bool)(g_e0 g_e1 g_e2 g_e3 g_e4:Addr):ansV prog Zk1 N f14 [] [.g a0 35,.i .i64 a1,.i .i64 a2,.i .i64 a3,.b a4] [.gl 1 140 g_e0 101973,.gl 2 140 g_e1 93330,.gl 0 140 g_e2 124718,.gl 3 140 g_e3 112315,.gl 4 140 g_e4 94254]=(bif a4 then (bif (!(okS a0)) then (some (.a (.e 0),.none,true)) else (none)) else (bif (!(okS a0)) then (some (.a (.e 0),.none,true)) else (none))):=by kernel_rfl
theorem Zoa(a0:Array Value)(a1 a2 a3:Int)(a4:Bool)(g_e0 g_e1 g_e2 g_e3 g_e4:Addr)(h_a0:WT prog 35 a0)(h_a1:i64.min<=a1/\a1<=i64.max)(h_a2:i64.min<=a2/\a2<=i64.max)(h_a3:i64.min<=a3/\a3<=i64.max)(hc0:(okS a0)=false)(hg:(true)=true):ansV prog Zk1 1000 f14 [] [.g a0 35,.i .i64 a1,.i .i64 a2,.i .i64 a3,.b a4] [.gl 1 140 g_e0 101973,.gl 2 140 g_e1 93330,.gl 0 140 g_e2 124718,.gl 3 140 g_e3 112315,.gl 4 140 g_e4 94254]=some (.a (.e 0),.none,true):=by refine(Zpd 1000 a0 a1 a2 a3 a4 g_e0 g_e1 g_e2 g_e3 g_e4).trans ?_;cases a4<;>simp only[hc0,BQ9,Q1,Q2]
theorem Zo2(a0:Array Value)(a1 a2 a3:Int)(a4:Bool)(g_e0 g_e1 g_e2 g_e3 g_e4:Addr)(h_a0:WT prog 35 a0)(h_a1:i64.min<=a1/\a1<=i64.max)(h_a2:i64.min<=a2/\a2<=i64.max)(h_a3:i64.min<=a3/\a3<=i64.max)(hc0:(okS a0)=true)(hc1:(bl a0 a1 a2 a3 a4)=false)(hg:(true)=true):ansV prog Zkt 1000 f14 [] [.g a0 35,.i .i64 a1,.i .i64 a2,.i .i64 a3,.b a4] [.gl 1 140 g_e0 101973,.gl 2 140 g_e1 93330,.gl 0 140 g_e2 124718,.gl 3 140 g_e3 112315,.gl 4 140 g_e4 94254]=some (.a (.e 1),.none,true):=by
 refine(Zov 1000 a0 a1 a2 a3 a4 g_e0 g_e1 g_e2 g_e3 g_e4).trans ?_;have hr:rl a0 a1 a2 false=false:=by unfold rl;simp
 cases ha:a4 with
 |false=>simp only[hc0,hr,BQ9,Q1,Q2]
 |true=>
  have hrl:rl a0 a1 a2 (Zac a3 a0)=false:=by unfold bl at hc1;rw[ha,Bool.true_and]at hc1;exact hc1
  simp only[Zpg,hc0,hrl,BQ9,Q1,Q2]
theorem Zn3(a0:Array Value)(a1 a2 a3:Int)(a4:Bool)(g_e0 g_e1 g_e2 g_e3 g_e4:Addr)(h_a0:WT prog 35 a0)(h_a1:i64.min<=a1/\a1<=i64.max)(h_a2:i64.min<=a2/\a2<=i64.max)(h_a3:i64.min<=a3/\a3<=i64.max)(hc0:(okS a0)=true)(hc1:(bl a0 a1 a2 a3 a4)=true)(hc2:(Zab a1 a0)=false)(hc3:(Zab a3 a0)=false)(hg:(true)=true):ansV prog Zht 1000 f14 [] [.g a0 35,.i .i64 a1,.i .i64 a2,.i .i64 a3,.b a4] [.gl 1 140 g_e0 101973,.gl 2 140 g_e1 93330,.gl 0 140 g_e2 124718,.gl 3 140 g_e3 112315,.gl 4 140 g_e4 94254]=some (.a (.e 2),.none,true):=by
 refine(Zjo 1000 a0 a1 a2 a3 a4 g_e0 g_e1 g_e2 g_e3 g_e4).trans ?_;obtain⟨q1,q2,q3,q4⟩:=Ufq hc1;have hr:=Zgd q4;subst q3;have hrl:rl a0 a1 a2 (Zac a3 a0)=true:=by unfold bl at hc1;simpa using hc1
 simp only[Zpg,hrl,hc0,hc2,hc3,Zzu h_a0 hr,Q3 hr.1,BQ9,Q1,Q2]
theorem Zpi(a0:Array Value)(a1 a2 a3:Int)(a4:Bool)(g_e0 g_e1 g_e2 g_e3 g_e4:Addr)(h_a0:WT prog 35 a0)(h_a1:i64.min<=a1/\a1<=i64.max)(h_a2:i64.min<=a2/\a2<=i64.max)(h_a3:i64.min<=a3/\a3<=i64.max)(hc0:(okS a0)=true)(hc1:(bl a0 a1 a2 a3 a4)=true)(hc2:(Zab a1 a0)=false)(hc3:(Zab a3 a0)=true)(hg:(true)=true):ansV prog Zht 1000 f14 [] [.g a0 35,.i .i64 a1,.i .i64 a2,.i .i64 a3,.b a4] [.gl 1 140 g_e0 101973,.gl 2 140 g_e1 93330,.gl 0 140 g_e2 124718,.gl 3 140 g_e3 112315,.gl 4 140 g_e4 94254]=some (.a (.v .nilIface),.none,true):=by
 refine(Zjo 1000 a0 a1 a2 a3 a4 g_e0 g_e1 g_e2 g_e3 g_e4).trans ?_;obtain⟨q1,q2,q3,q4⟩:=Ufq hc1;have hr:=Zgd q4;subst q3;have hrl:rl a0 a1 a2 (Zac a3 a0)=true:=by unfold bl at hc1;simpa using hc1
 simp only[Zpg,hrl,hc0,hc2,hc3,Zzu h_a0 hr,Q3 hr.1,BQ9,Q1,Q2]
theorem Zom(a0:Array Value)(a1 a2 a3:Int)(a4:Bool)(g_e0 g_e1 g_e2 g_e3 g_e4:Addr)(h_a0:WT prog 35 a0)(h_a1:i64.min<=a1/\a1<=i64.max)(h_a2:i64.min<=a2/\a2<=i64.max)(h_a3:i64.min<=a3/\a3<=i64.max)(hc0:(okS a0)=true)(hc1:(bl a0 a1 a2 a3 a4)=true)(hc2:(Zab a1 a0)=true)(hg:(true)=true):ansV prog Zk2 1000 f14 [] [.g a0 35,.i .i64 a1,.i .i64 a2,.i .i64 a3,.b a4] [.gl 1 140 g_e0 101973,.gl 2 140 g_e1 93330,.gl 0 140 g_e2 124718,.gl 3 140 g_e3 112315,.gl 4 140 g_e4 94254]=some (.a (.e 2),.none,true):=by
 refine(Zpb 1000 a0 a1 a2 a3 a4 g_e0 g_e1 g_e2 g_e3 g_e4).trans ?_;obtain⟨q1,q2,q3,q4⟩:=Ufq hc1;have hr:=Zgd q4;subst q3;have hrl:rl a0 a1 a2 (Zac a3 a0)=true:=by unfold bl at hc1;simpa using hc1
 simp only[Zpg,hrl,hc0,hc2,Zzu h_a0 hr,Q3 hr.1,BQ9,Q1,Q2]
def Zav:SCon:=λargs h=>match args,h with|[.g a0 35,.i .i64 a1,.i .i64 a2,.i .i64 a3,.b a4],[.gl 1 140 g_e0 101973,.gl 2 140 g_e1 93330,.gl 0 140 g_e2 124718,.gl 3 140 g_e3 112315,.gl 4 140 g_e4 94254]=>.two (okS a0) (.two (bl a0 a1 a2 a3 a4) (.two (Zab a1 a0) (.one (some (.a (.e 2),.none,true))) (.two (Zab a3 a0) (.one (some (.a (.v .nilIface),.none,true))) (.one (some (.a (.e 2),.none,true))))) (.one (some (.a (.e 1),.none,true)))) (.one (some (.a (.e 0),.none,true)))|_,_=>.one none
theorem Zcf:EntX prog 14:=Zal (fn:=f14)
theorem Zd5:Uad (md F) prog 14 (λargs h=>Uaf (Zav args h)):=by
 intro ρ h w args vals r e hn hr hA hH;dsimp only at hr;unfold Zav at hr;split at hr
 ·rename_i a0 a1 a2 a3 a4 g_e0 g_e1 g_e2 g_e3 g_e4;simp only[Uaf]at hr;cases hc0:(okS a0)
  ·rw[hc0]at hr;simp only[Uaf,Q1,Q2]at hr;obtain⟨rfl,rfl,hg2⟩:=BQi hr;exact((ansY (N:=1000) (mKc (Zdy Zoi) Zcq (mKc (Zah Zca) Zbm (mKc (Zah Zdg) Zb6 mKn))) f14 [])) ρ _ w _ vals _ _ hn ((Zoa a0 a1 a2 a3 a4 g_e0 g_e1 g_e2 g_e3 g_e4 (hA.wt 0 rfl) (hA.rng 1 rfl) (hA.rng 2 rfl) (hA.rng 3 rfl) hc0 hg2)) hA hH
  ·rw [hc0] at hr;simp only[Uaf,Q1,Q2]at hr;cases hc1:(bl a0 a1 a2 a3 a4)
   ·rw[hc1]at hr;simp only[Uaf,Q1,Q2]at hr;obtain⟨rfl,rfl,hg2⟩:=BQi hr;exact((ansY (N:=1000) (mKc (Zdy Zob) Zcq (mKc (Zah Zca) Zbm (mKc (Zah Zdg) Zb6 mKn))) f14 [])) ρ _ w _ vals _ _ hn ((Zo2 a0 a1 a2 a3 a4 g_e0 g_e1 g_e2 g_e3 g_e4 (hA.wt 0 rfl) (hA.rng 1 rfl) (hA.rng 2 rfl) (hA.rng 3 rfl) hc0 hc1 hg2)) hA hH
   ·rw[hc1]at hr;simp only[Uaf,Q1,Q2]at hr;cases hc2:(Zab a1 a0)
    ·rw[hc2]at hr;simp only[Uaf,Q1,Q2]at hr;cases hc3:(Zab a3 a0)
     ·rw[hc3]at hr;simp only[Uaf,Q1,Q2]at hr;obtain⟨rfl,rfl,hg2⟩:=BQi hr;exact((ansY (N:=1000) (mKc (Zdy Zjn) Zcq (mKc (Zah Zca) Zbm (mKc (Zah Zdg) Zb6 mKn))) f14 [])) ρ _ w _ vals _ _ hn ((Zn3 a0 a1 a2 a3 a4 g_e0 g_e1 g_e2 g_e3 g_e4 (hA.wt 0 rfl) (hA.rng 1 rfl) (hA.rng 2 rfl) (hA.rng 3 rfl) hc0 hc1 hc2 hc3 hg2)) hA hH
     ·rw[hc3]at hr;simp only[Uaf,Q1,Q2]at hr;obtain⟨rfl,rfl,hg2⟩:=BQi hr;exact((ansY (N:=1000) (mKc (Zdy Zjn) Zcq (mKc (Zah Zca) Zbm (mKc (Zah Zdg) Zb6 mKn))) f14 [])) ρ _ w _ vals _ _ hn ((Zpi a0 a1 a2 a3 a4 g_e0 g_e1 g_e2 g_e3 g_e4 (hA.wt 0 rfl) (hA.rng 1 rfl) (hA.rng 2 rfl) (hA.rng 3 rfl) hc0 hc1 hc2 hc3 hg2)) hA hH
    ·rw[hc2]at hr;simp only[Uaf,Q1,Q2]at hr;obtain⟨rfl,rfl,hg2⟩:=BQi hr;exact((ansY (N:=1000) (mKc (Zdy Zoz) Zcq (mKc (Zah Zca) Zbm (mKc (Zah Zdg) Zb6 mKn))) f14 [])) ρ _ w _ vals _ _ hn ((Zom a0 a1 a2 a3 a4 g_e0 g_e1 g_e2 g_e3 g_e4 (hA.wt 0 rfl) (hA.rng 1 rfl) (hA.rng 2 rfl) (hA.rng 3 rfl) hc0 hc1 hc2 hg2)) hA hH
 ·simp only[Uaf]at hr;cases hr
def Zg4:Con:=λargs h=>match args,h with|[.g a0 35,.i .i64 a1,.i .i64 a2,.i .i64 a3,.b a4],[.gl 1 140 g_e0 101973,.gl 2 140 g_e1 93330,.gl 0 140 g_e2 124718,.gl 3 140 g_e3 112315,.gl 4 140 g_e4 94254]=>some (.a (.e 2),.none,(okS a0&&(bl a0 a1 a2 a3 a4&&(Zab a1 a0))))|_,_=>none
theorem Zrm:Uad (md F) prog 14 Zg4:=Uad.of Zd5 (by
 intro ρ h w args vals r e hA hH hr;unfold Zg4 at hr;split at hr
 ·rename_i a0 a1 a2 a3 a4 g_e0 g_e1 g_e2 g_e3 g_e4;obtain⟨rfl,rfl,hg2⟩:=BQi hr
  try simp only[Q7,jA]at hg2
  obtain⟨q0,q1,q2⟩:=hg2
  show Uaf (Zav _ _)=_
  unfold Zav;simp only[Uaf,q0,q1,q2,Q1,Q2]
 ·cases hr)
def Zg8:Con:=λargs h=>match args,h with|[.g a0 35,.i .i64 a1,.i .i64 a2,.i .i64 a3,.b a4],[.gl 1 140 g_e0 101973,.gl 2 140 g_e1 93330,.gl 0 140 g_e2 124718,.gl 3 140 g_e3 112315,.gl 4 140 g_e4 94254]=>some (.a (.v .nilIface),.none,(okS a0&&(bl a0 a1 a2 a3 a4&&((!(Zab a1 a0))&&(Zab a3 a0)))))|_,_=>none
theorem Zk5:Uad (md F) prog 14 Zg8:=Uad.of Zd5 (by
 intro ρ h w args vals r e hA hH hr;unfold Zg8 at hr;split at hr
 ·rename_i a0 a1 a2 a3 a4 g_e0 g_e1 g_e2 g_e3 g_e4;obtain⟨rfl,rfl,hg2⟩:=BQi hr
  try simp only[Q7,jA]at hg2
  obtain⟨q0,q1,q2,q3⟩:=hg2
  show Uaf (Zav _ _)=_
  unfold Zav;simp only[Uaf,q0,q1,q2,q3,Q1,Q2]
 ·cases hr)
def Zhd:Con:=λargs h=>match args,h with|[.g a0 35,.i .i64 a1,.i .i64 a2,.i .i64 a3,.b a4],[.gl 1 140 g_e0 101973,.gl 2 140 g_e1 93330,.gl 0 140 g_e2 124718,.gl 3 140 g_e3 112315,.gl 4 140 g_e4 94254]=>some (.a (.e 2),.none,(okS a0&&(bl a0 a1 a2 a3 a4&&((!(Zab a1 a0))&&((!(Zab a3 a0)))))))|_,_=>none
theorem Zro:Uad (md F) prog 14 Zhd:=Uad.of Zd5 (by
 intro ρ h w args vals r e hA hH hr;unfold Zhd at hr;split at hr
 ·rename_i a0 a1 a2 a3 a4 g_e0 g_e1 g_e2 g_e3 g_e4;obtain⟨rfl,rfl,hg2⟩:=BQi hr
  try simp only[Q7,jA]at hg2
  obtain⟨q0,q1,q2,q3⟩:=hg2
  show Uaf (Zav _ _)=_
  unfold Zav;simp only[Uaf,q0,q1,q2,q3,Q1,Q2]
 ·cases hr)
def Zg5:Con:=λargs h=>match args,h with|[.g a0 35,.i .i64 a1,.i .i64 a2,.i .i64 a3,.b a4],[.gl 1 140 g_e0 101973,.gl 2 140 g_e1 93330,.gl 0 140 g_e2 124718,.gl 3 140 g_e3 112315,.gl 4 140 g_e4 94254]=>some (.a (.e 1),.none,(okS a0&&((!(bl a0 a1 a2 a3 a4)))))|_,_=>none
theorem Zq8:Uad (md F) prog 14 Zg5:=Uad.of Zd5 (by
 intro ρ h w args vals r e hA hH hr;unfold Zg5 at hr;split at hr
 ·rename_i a0 a1 a2 a3 a4 g_e0 g_e1 g_e2 g_e3 g_e4;obtain⟨rfl,rfl,hg2⟩:=BQi hr
  try simp only[Q7,jA]at hg2
  obtain⟨q0,q1⟩:=hg2
  show Uaf (Zav _ _)=_
  unfold Zav;simp only[Uaf,q0,q1,Q1,Q2]
 ·cases hr)
def Zhe:Con:=λargs h=>match args,h with|[.g a0 35,.i .i64 a1,.i .i64 a2,.i .i64 a3,.b a4],[.gl 1 140 g_e0 101973,.gl 2 140 g_e1 93330,.gl 0 140 g_e2 124718,.gl 3 140 g_e3 112315,.gl 4 140 g_e4 94254]=>some (.a (.e 0),.none,(!(okS a0)))|_,_=>none
theorem Zq6:Uad (md F) prog 14 Zhe:=Uad.of Zd5 (by
 intro ρ h w args vals r e hA hH hr;unfold Zhe at hr;split at hr
 ·rename_i a0 a1 a2 a3 a4 g_e0 g_e1 g_e2 g_e3 g_e4;obtain⟨rfl,rfl,hg2⟩:=BQi hr
  try simp only[Q7,jA]at hg2
  have q0:=hg2
  show Uaf (Zav _ _)=_
  unfold Zav;simp only[Uaf,q0,Q1,Q2]
 ·cases hr)
theorem Yin{c b be:Int}{f:Bool}{S:Array Value}(h:(Zax c b be f S != (0:Int))=false):okS S=true/\bl S c b be f=true/\Zab c S=false/\Zab be S=true:=by rw[Ygn]at h;cases h1:okS S<;>cases h2:bl S c b be f<;>cases h3:Zab c S<;>cases h4:Zab be S<;>first|exact⟨rfl,rfl,rfl,rfl⟩ | (exfalso;rw[h1,h2,h3,h4]at h;revert h;decide)
theorem Yky{C:Array Value}(h:WT prog 39 C):C.size=2/\i64.wrap (num C 0)=num C 0/\i64.wrap (num C 1)=num C 1:=by have h0:=(h.int (o:=0) (k:=.i8) (by kernel_rfl)).2;have h1:=(h.int (o:=1) (k:=.i8) (by kernel_rfl)).2;have m8:IntKind.i8.min=-128/\IntKind.i8.max=127:=⟨rfl,rfl⟩;rw[m8.1,m8.2]at h0 h1;have e0:i64.wrap (num C 0)=num C 0:=w64 (by omega);have e1:i64.wrap (num C 1)=num C 1:=w64 (by omega);exact⟨by rw[h.layLen];kernel_rfl,e0,e1⟩
def canB(P:Program)(S:Array Value)(c b:Int)(be h:Int):Bool:=decide (num (subV (byV P S c b h.toNat) (byV P S c b (h.toNat - 1)) 12) be.toNat > (0:Int))
theorem Zzb(N:Nat)(a1 a2:Int)(a3 a0:Array Value):ansV prog (mkΓ [(20,con Zjf)]) N f12 [] [.w 0,.i .i64 a1,.i .i64 a2,.g a3 39] [.row a0 35]=(bif (okS a0&&((Zac a1 a0&&Zaa a2 0 1)&&Zaa (i64.wrap (num a3 1)) 1 14)) then (bif (decide (0<=(num a3 0))&&decide ((num a3 0)<36)) then (some (.a (.b (decide ((num (subV (byV prog a0 a1 a2 (i64.wrap (num a3 1)).toNat) (byV prog a0 a1 a2 ((i64.wrap (num a3 1)).toNat - 1)) 12) ((num a3 0).toNat*1)) > (0:Int)))),.none,true)) else (none)) else (none)):=by kernel_rfl
theorem Zwo(a1 a2:Int)(a3 a0:Array Value)(h_a1:i64.min<=a1/\a1<=i64.max)(h_a2:i64.min<=a2/\a2<=i64.max)(h_a3:WT prog 39 a3)(h_a0:WT prog 35 a0)(hg:(((okS a0&&(Zac a1 a0&&Zaa a2 0 1))&&(Zaa (num a3 1) 1 14&&(decide (0<=num a3 0)&&decide (num a3 0<36)))))=true):ansV prog (mkΓ [(20,con Zjf)]) 1000 f12 [] [.w 0,.i .i64 a1,.i .i64 a2,.g a3 39] [.row a0 35]=some (.a (.b ((canB prog a0 a1 a2 (num a3 0) (num a3 1)))),.none,true):=by obtain⟨z,e0,e1⟩:=Yky h_a3;rw[Q7,Q7,Q7,Q7]at hg;obtain⟨⟨q0,q1,q2⟩,q3,q4⟩:=hg;refine(Zzb 1000 a1 a2 a3 a0).trans ?_;unfold canB;simp only[e1,q0,q1,q2,q3,q4,Bool.and_self,Q1,Nat.mul_one]
def Zk9:Con:=λargs h=>match args,h with|[.w 0,.i .i64 a1,.i .i64 a2,.g a3 39],[.row a0 35]=>some (.a (.b ((canB prog a0 a1 a2 (num a3 0) (num a3 1)))),.none,((okS a0&&(Zac a1 a0&&Zaa a2 0 1))&&(Zaa (num a3 1) 1 14&&(decide (0<=num a3 0)&&decide (num a3 0<36)))))|_,_=>none
theorem Zvc:EntX prog 12:=Zal (fn:=f12)
theorem Yai:Uad (md F) prog 12 Zk9:=(ansY (N:=1000) (mKc (Zah Yce) Zw1 mKn) f12 []).of (by
 intro ρ h w args vals r e hA hH hr;unfold Zk9 at hr;split at hr
 ·rename_i a1 a2 a3 a0;obtain⟨rfl,rfl,hg2⟩:=BQi hr;exact Zwo a1 a2 a3 a0 (hA.rng 1 rfl) (hA.rng 2 rfl) (hA.wt 3 rfl) (hH.wt 0 rfl) hg2
 ·cases hr)
theorem num_zrow(i:Nat):num (zc prog 60) i=0:=by
 rw[show zc prog 60=(List.replicate 36 (Value.int .i64 0)).toArray by kernel_rfl];unfold num;rw[List.getElem?_toArray,List.getElem?_replicate]
 by_cases h:i<36
 ·rw[if_pos h]
 ·rw[if_neg h]
def fstH(A:Array Value)(be:Int):Nat->Int
 |0=>0
 |k+1=>bif fstH A be k != 0 then fstH A be k else bif decide (num (lndV A (k+1)) be.toNat > 0) then ((k+1:Nat):Int) else 0
theorem Ycj{A:Array Value}{be:Int}{g:Int×Array Value->Array Value×Int->Option (Stp (Array Value×Int) (Array Value×Int))}(hg:∀x t,g x t=bif decide (num x.2 be.toNat > 0) then some (.done ((#[.nilIface]:Array Value),x.1)) else some (.more t))(t:Array Value×Int):
  ∀k,Uas g (lndL A k) t=bif fstH A be k != 0 then some (.done ((#[.nilIface]:Array Value),fstH A be k)) else some (.more t)
 |0=>rfl
 | k+1=>by
  have ih:=Ycj (A:=A) hg t k;have hs:∀(h:fstH A be k != 0) ,fstH A be (k+1)=fstH A be k:=λh=>by rw[fstH,h];rfl
  rw[lndL];cases hz:Ubg (lndV A (k+1)) (zc prog 60) with
  | true=>
   rw[Q1,ih];have e:=Zt7.1 hz;have:fstH A be (k+1)=fstH A be k:=by
    rw[fstH,e,num_zrow];cases hf:fstH A be k != 0 with
    |true=>rfl
    |false=>
     have:fstH A be k=0:=by simpa using hf
     rw[this];rfl
   rw[this]
  | false=>
   rw[Q2,Zfr,ih];cases hf:fstH A be k != 0 with
   |true=>rw[hs hf,hf];rfl
   | false=>
    simp only[Q2,Uas];rw[hg,fstH,hf];dsimp only[Q2];cases hd:decide (num (lndV A (k+1)) be.toNat > 0) with
    |true=>
     have:((((k+1:Nat):Int)) != 0)=true:=by simp;omega
     simp only[Q1,this]
    |false=>rfl
def Zat:Cons:=(mkΓx [] [(40,Zfd)] [(61,Zb9)])
def Zb7(a1:Int)(g_e0 g_e1 g_e2 g_e3 g_e4:Addr)(b_a0:Option (Option Addr))(n_a0:Nat)(a0:Array Value):St:=(⟨.a (.l 5)::.a (.i .i64 a1)::.a (.u)::.a (.w 6)::.a (.w 7)::.a (.w 8)::.a (.u)::.a (.u)::.a (.l 5)::.a (.c 61 [12])::us 8 ([]),[.gl 1 140 g_e0 101973,.gl 2 140 g_e1 93330,.gl 0 140 g_e2 124718,.gl 3 140 g_e3 112315,.gl 4 140 g_e4 94254,.sl (.came b_a0) n_a0 a0 60,.row #[.int .i64 a1] 2,.row #[.int .i64 0] 2,.row #[.nilIface] 49,.no,.no,.no,.one (.l 5) 54,.no,.no,.no,.no],[]⟩:St)
def Zfe(a1:Int)(g_e0 g_e1 g_e2 g_e3 g_e4:Addr)(b_a0:Option (Option Addr))(n_a0:Nat)(a0:Array Value):St:=(⟨.a (.l 5)::.a (.i .i64 a1)::.a (.u)::.a (.w 6)::.a (.w 7)::.a (.w 8)::.a (.u)::.a (.u)::.a (.l 5)::.a (.c 61 [12])::us 8 ([]),[.gl 1 140 g_e0 101973,.gl 2 140 g_e1 93330,.gl 0 140 g_e2 124718,.gl 3 140 g_e3 112315,.gl 4 140 g_e4 94254,.sl (.came b_a0) n_a0 a0 60,.row #[.int .i64 a1] 2,.row #[.int .i64 0] 2,.row #[.nilIface] 49,.no,.no,.no,.one (.l 5) 54,.no,.no,.no,.no],[]⟩:St)
def Zc7:Array Value×Int->BS
 |(r0_8,r0_7)=>([.row r0_8 49,.row #[.int .i64 r0_7] 2]:BS)
def Zgb:Array Value×Int->Exit×BS
 |t=>(.ret,Zc7 t)
def Zba(P:Program)(a1:Int)(g_e0 g_e1 g_e2 g_e3 g_e4:Addr)(b_a0:Option (Option Addr))(n_a0:Nat)(a0:Array Value)(x0:(Int×Array Value)):Array Value×Int->Option (Stp (Array Value×Int) (Array Value×Int))
 |(r0_8,r0_7)=>bif (decide (0<=a1)&&decide (a1<36)) then (bif decide ((num x0.2 ((a1).toNat*1)) > (0:Int)) then (some (.done ((#[.nilIface]:Array Value),x0.1))) else (some (.more (r0_8,r0_7)))) else (none)
noncomputable abbrev cKCeB17:=codeOf f17
theorem Znw(N:Nat)(a1:Int)(g_e0 g_e1 g_e2 g_e3 g_e4:Addr)(b_a0:Option (Option Addr))(n_a0:Nat)(a0:Array Value)(x0:(Int×Array Value)):∀t:Array Value×Int,Ugb prog Zat N (Ugi (cAt cKCeB17 [1,0,1,0])) (cAt cKCeB17 [1,0,1,0,0]) (pAt (Uaa cKCeB17 [([6000000000],[8,7])]).1 [1,0,1,0]) 17 [8,7] [10,11] [(6,10)] (Zfe a1 g_e0 g_e1 g_e2 g_e3 g_e4 b_a0 n_a0 a0) [.i .i64 (x0.1),.g x0.2 60] (Zc7 t)=mapS Zc7 Zgb (Zba prog a1 g_e0 g_e1 g_e2 g_e3 g_e4 b_a0 n_a0 a0 x0 t):=by
 rintro⟨r0_8,r0_7⟩
 conv=>rhs;simp only[Zba,Zbg,Zbe,Zbd,Zbh,Zc7,Zgb]
 kernel_rfl
def Ze0(P:Program)(N:Nat)(a1:Int)(g_e0 g_e1 g_e2 g_e3 g_e4:Addr)(b_a0:Option (Option Addr))(n_a0:Nat)(a0:Array Value)(q0_8:Array Value)(q0_7:Int):Option (SV×Eff×Bool):=some (.t [.i .i64 0,.v (.iface 140 (.pointer (some g_e4)))],.none,true)
theorem Zkx(N:Nat)(a1:Int)(g_e0 g_e1 g_e2 g_e3 g_e4:Addr)(b_a0:Option (Option Addr))(n_a0:Nat)(a0:Array Value)(q0_8:Array Value)(q0_7:Int):(Uac 0 (kSeq (veC prog Zat N (cAt cKCeB17 [1,1]) (pAt (Uaa cKCeB17 [([6000000000],[8,7])]).1 [1,1]) (SV×Eff×Bool)) (finK prog [.gl 1 140 g_e0 101973,.gl 2 140 g_e1 93330,.gl 0 140 g_e2 124718,.gl 3 140 g_e3 112315,.gl 4 140 g_e4 94254,.sl (.came b_a0) n_a0 a0 60] [.cell 4 2,.cell 5 49]))) .normal (Uar [8,7] (Zb7 a1 g_e0 g_e1 g_e2 g_e3 g_e4 b_a0 n_a0 a0) ([.row q0_8 49,.row #[.int .i64 q0_7] 2]:BS))=Ze0 prog N a1 g_e0 g_e1 g_e2 g_e3 g_e4 b_a0 n_a0 a0 q0_8 q0_7:=by kernel_rfl
def Ze1(P:Program)(N:Nat)(a1:Int)(g_e0 g_e1 g_e2 g_e3 g_e4:Addr)(b_a0:Option (Option Addr))(n_a0:Nat)(a0:Array Value)(q0_8:Array Value)(q0_7:Int):Option (SV×Eff×Bool):=some (.t [.i .i64 q0_7,.v ((cel q0_8 0))],.none,true)
theorem Zko(N:Nat)(a1:Int)(g_e0 g_e1 g_e2 g_e3 g_e4:Addr)(b_a0:Option (Option Addr))(n_a0:Nat)(a0:Array Value)(q0_8:Array Value)(q0_7:Int):(Uac 0 (kSeq (veC prog Zat N (cAt cKCeB17 [1,1]) (pAt (Uaa cKCeB17 [([6000000000],[8,7])]).1 [1,1]) (SV×Eff×Bool)) (finK prog [.gl 1 140 g_e0 101973,.gl 2 140 g_e1 93330,.gl 0 140 g_e2 124718,.gl 3 140 g_e3 112315,.gl 4 140 g_e4 94254,.sl (.came b_a0) n_a0 a0 60] [.cell 4 2,.cell 5 49]))) .ret (Uar [8,7] (Zb7 a1 g_e0 g_e1 g_e2 g_e3 g_e4 b_a0 n_a0 a0) ([.row q0_8 49,.row #[.int .i64 q0_7] 2]:BS))=Ze1 prog N a1 g_e0 g_e1 g_e2 g_e3 g_e4 b_a0 n_a0 a0 q0_8 q0_7:=by kernel_rfl
theorem Znu(N:Nat)(a1:Int)(g_e0 g_e1 g_e2 g_e3 g_e4:Addr)(b_a0:Option (Option Addr))(n_a0:Nat)(a0:Array Value):Uby (Uas (λ(x0:(Int×Array Value)) (hb:BS)=>Ugb prog Zat N (Ugi (cAt cKCeB17 [1,0,1,0])) (cAt cKCeB17 [1,0,1,0,0]) (pAt (Uaa cKCeB17 [([6000000000],[8,7])]).1 [1,0,1,0]) 17 [8,7] [10,11] [(6,10)] (Zfe a1 g_e0 g_e1 g_e2 g_e3 g_e4 b_a0 n_a0 a0) [.i .i64 (x0.1),.g x0.2 60] hb) (lndL a0 (n_a0 - 1)) ([.row (#[.nilIface]:Array Value) 49,.row #[.int .i64 0] 2]:BS)) (λhb=>(Uac 0 (kSeq (veC prog Zat N (cAt cKCeB17 [1,1]) (pAt (Uaa cKCeB17 [([6000000000],[8,7])]).1 [1,1]) (SV×Eff×Bool)) (finK prog [.gl 1 140 g_e0 101973,.gl 2 140 g_e1 93330,.gl 0 140 g_e2 124718,.gl 3 140 g_e3 112315,.gl 4 140 g_e4 94254,.sl (.came b_a0) n_a0 a0 60] [.cell 4 2,.cell 5 49]))) .normal (Uar [8,7] (Zb7 a1 g_e0 g_e1 g_e2 g_e3 g_e4 b_a0 n_a0 a0) hb)) (λe hb=>(Uac 0 (kSeq (veC prog Zat N (cAt cKCeB17 [1,1]) (pAt (Uaa cKCeB17 [([6000000000],[8,7])]).1 [1,1]) (SV×Eff×Bool)) (finK prog [.gl 1 140 g_e0 101973,.gl 2 140 g_e1 93330,.gl 0 140 g_e2 124718,.gl 3 140 g_e3 112315,.gl 4 140 g_e4 94254,.sl (.came b_a0) n_a0 a0 60] [.cell 4 2,.cell 5 49]))) e (Uar [8,7] (Zb7 a1 g_e0 g_e1 g_e2 g_e3 g_e4 b_a0 n_a0 a0) hb))=Ud7 (Uas (Zba prog a1 g_e0 g_e1 g_e2 g_e3 g_e4 b_a0 n_a0 a0) (lndL a0 (n_a0 - 1)) ((#[.nilIface]:Array Value),(0:Int))) (λx=>Ze0 prog N a1 g_e0 g_e1 g_e2 g_e3 g_e4 b_a0 n_a0 a0 x.1 x.2) (λx=>Ze1 prog N a1 g_e0 g_e1 g_e2 g_e3 g_e4 b_a0 n_a0 a0 x.1 x.2):=by
 refine Ztu Zc7 Zgb _ _ (λy t=>Znw N a1 g_e0 g_e1 g_e2 g_e3 g_e4 b_a0 n_a0 a0 y t) _ ((#[.nilIface]:Array Value),(0:Int)) _ _ _ _ ?_ ?_
 ·intro x;exact Zkx N a1 g_e0 g_e1 g_e2 g_e3 g_e4 b_a0 n_a0 a0 x.1 x.2
 ·skip
  intro x;exact Zko N a1 g_e0 g_e1 g_e2 g_e3 g_e4 b_a0 n_a0 a0 x.1 x.2
theorem Zik(N:Nat)(a1:Int)(g_e0 g_e1 g_e2 g_e3 g_e4:Addr)(b_a0:Option (Option Addr))(n_a0:Nat)(a0:Array Value):ansV prog Zat N f17 [([6000000000],[8,7])] [.l 5,.i .i64 a1] [.gl 1 140 g_e0 101973,.gl 2 140 g_e1 93330,.gl 0 140 g_e2 124718,.gl 3 140 g_e3 112315,.gl 4 140 g_e4 94254,.sl (.came b_a0) n_a0 a0 60]=(Ud7 (Uas (Zba prog a1 g_e0 g_e1 g_e2 g_e3 g_e4 b_a0 n_a0 a0) (lndL a0 (n_a0 - 1)) ((#[.nilIface]:Array Value),(0:Int))) (λx=>Ze0 prog N a1 g_e0 g_e1 g_e2 g_e3 g_e4 b_a0 n_a0 a0 x.1 x.2) (λx=>Ze1 prog N a1 g_e0 g_e1 g_e2 g_e3 g_e4 b_a0 n_a0 a0 x.1 x.2)):=by
 conv=>rhs;simp only[<- Znu N a1 g_e0 g_e1 g_e2 g_e3 g_e4 b_a0 n_a0 a0]
 kernel_rfl
theorem Zll(a1:Int)(g_e0 g_e1 g_e2 g_e3 g_e4:Addr)(b_a0:Option (Option Addr))(n_a0:Nat)(a0:Array Value)(h_a1:i64.min<=a1/\a1<=i64.max)(h_a0:a0.size=n_a0*(lay prog 60).length/\(∀k,k<n_a0->WT prog 60 (a0.extract (k*(lay prog 60).length) (k*(lay prog 60).length+(lay prog 60).length)))/\n_a0<=9223372036854775807)(hc0:(((fstH a0 a1 (n_a0 - 1)) != (0:Int)))=false)(hg:((decide (0<=a1)&&decide (a1<36)))=true):ansV prog Zat 1000 f17 [([6000000000],[8,7])] [.l 5,.i .i64 a1] [.gl 1 140 g_e0 101973,.gl 2 140 g_e1 93330,.gl 0 140 g_e2 124718,.gl 3 140 g_e3 112315,.gl 4 140 g_e4 94254,.sl (.came b_a0) n_a0 a0 60]=some (.t [.i .i64 0,.v ((.iface 140 (.pointer (some g_e4))))],.none,true):=by
 refine(Zik 1000 a1 g_e0 g_e1 g_e2 g_e3 g_e4 b_a0 n_a0 a0).trans ?_;have hf:=Ycj (A:=a0) (be:=a1) (g:=Zba prog a1 g_e0 g_e1 g_e2 g_e3 g_e4 b_a0 n_a0 a0) (λx t=>by
  obtain⟨t1,t2⟩:=t;simp only[Zba,hg,Q1,Nat.mul_one]) ((#[.nilIface]:Array Value),(0:Int)) (n_a0 - 1)
 rw[hc0]at hf;simp only[Q2]at hf;rw[hf];rfl
theorem Zlt(a1:Int)(g_e0 g_e1 g_e2 g_e3 g_e4:Addr)(b_a0:Option (Option Addr))(n_a0:Nat)(a0:Array Value)(h_a1:i64.min<=a1/\a1<=i64.max)(h_a0:a0.size=n_a0*(lay prog 60).length/\(∀k,k<n_a0->WT prog 60 (a0.extract (k*(lay prog 60).length) (k*(lay prog 60).length+(lay prog 60).length)))/\n_a0<=9223372036854775807)(hc0:(((fstH a0 a1 (n_a0 - 1)) != (0:Int)))=true)(hg:((decide (0<=a1)&&decide (a1<36)))=true):ansV prog Zat 1000 f17 [([6000000000],[8,7])] [.l 5,.i .i64 a1] [.gl 1 140 g_e0 101973,.gl 2 140 g_e1 93330,.gl 0 140 g_e2 124718,.gl 3 140 g_e3 112315,.gl 4 140 g_e4 94254,.sl (.came b_a0) n_a0 a0 60]=some (.t [.i .i64 (fstH a0 a1 (n_a0 - 1)),.v .nilIface],.none,true):=by
 refine(Zik 1000 a1 g_e0 g_e1 g_e2 g_e3 g_e4 b_a0 n_a0 a0).trans ?_;have hf:=Ycj (A:=a0) (be:=a1) (g:=Zba prog a1 g_e0 g_e1 g_e2 g_e3 g_e4 b_a0 n_a0 a0) (λx t=>by
  obtain⟨t1,t2⟩:=t;simp only[Zba,hg,Q1,Nat.mul_one]) ((#[.nilIface]:Array Value),(0:Int)) (n_a0 - 1)
 rw[hc0]at hf;simp only[Q1]at hf;rw[hf];rfl
def Zbc:SCon:=λargs h=>match args,h with|[.l 5,.i .i64 a1],[.gl 1 140 g_e0 101973,.gl 2 140 g_e1 93330,.gl 0 140 g_e2 124718,.gl 3 140 g_e3 112315,.gl 4 140 g_e4 94254,.sl (.came b_a0) n_a0 a0 60]=>.two (((fstH a0 a1 (n_a0 - 1)) != (0:Int))) (.one (some (.t [.i .i64 (fstH a0 a1 (n_a0 - 1)),.v .nilIface],.none,(decide (0<=a1)&&decide (a1<36))))) (.one (some (.t [.i .i64 0,.e 4],.none,(decide (0<=a1)&&decide (a1<36)))))|_,_=>.one none
theorem Zbq:EntX prog 17:=Zal (fn:=f17)
theorem Zb2:Uad (md F) prog 17 (λargs h=>Uaf (Zbc args h)):=by
 intro ρ h w args vals r e hn hr hA hH;dsimp only at hr;unfold Zbc at hr;split at hr
 ·rename_i a1 g_e0 g_e1 g_e2 g_e3 g_e4 b_a0 n_a0 a0;simp only[Uaf]at hr;cases hc0:(((fstH a0 a1 (n_a0 - 1)) != (0:Int)))
  ·rw[hc0]at hr;simp only[Uaf,Q1,Q2]at hr;obtain⟨rfl,rfl,hg2⟩:=BQi hr;exact Ua4.mono (((ansY (N:=1000) (mkΓx_nX Zh3 Zg2 (mkΓx_iX Zg3 Zgf mkΓx_nilX)) f17 [([6000000000],[8,7])])) ρ _ w _ vals _ _ hn ((Zll a1 g_e0 g_e1 g_e2 g_e3 g_e4 b_a0 n_a0 a0 (hA.rng 1 rfl) (hH.slw 5 rfl) hc0 hg2)) hA hH) λv w' q=>⟨toE rfl q.1,q.2⟩
  ·rw[hc0]at hr;simp only[Uaf,Q1,Q2]at hr;obtain⟨rfl,rfl,hg2⟩:=BQi hr;exact((ansY (N:=1000) (mkΓx_nX Zh3 Zg2 (mkΓx_iX Zg3 Zgf mkΓx_nilX)) f17 [([6000000000],[8,7])])) ρ _ w _ vals _ _ hn ((Zlt a1 g_e0 g_e1 g_e2 g_e3 g_e4 b_a0 n_a0 a0 (hA.rng 1 rfl) (hH.slw 5 rfl) hc0 hg2)) hA hH
 ·simp only[Uaf]at hr;cases hr
end
end Go.Proofs.YtefjogahegolbaaDoor
