/- The earliest find: both sides. -/
import Derived.Test.YtefjogahegolbaaDoorProg
import Derived.Test.YtefjogahegolbaaDoorCeB
set_option linter.unusedVariables false
set_option linter.unusedSimpArgs false
open _root_.Bool renaming and_self->jA,and_true->jB,true_and->jC,not_false->jD,not_true->jE
namespace Go.Proofs.YtefjogahegolbaaDoor
open Tryd (f5 f7)
open Go.ChangeShapes Go.WideShapes Go.ChangeAt Go.RowKit Ve Vc
open Tryd (prog)
open IntKind (i64)
set_option maxRecDepth 100000
noncomputable section
variable {F:Vc.Fd}
def fstC(P:Program)(S:Array Value)(c b be:Int):Nat->Int
 |0=>0
 |k+1=>bif fstC P S c b be k != 0 then fstC P S c b be k else bif canB P S c b be ((k+1:Nat):Int) then ((k+1:Nat):Int) else 0
theorem Yfr(S:Array Value)(c b be:Int):∀k,k<=14->fstH (recC prog S c b 14) be k=fstC prog S c b be k
 |0,_=>rfl
 | k+1,hk=>by
  have e:decide (num (lndV (recC prog S c b 14) (k+1)) be.toNat > 0)=canB prog S c b be ((k+1:Nat):Int):=by unfold lndV canB;rw[Yfx S c b 14 (k+1) hk,show k+1 - 1=k by omega,Yfx S c b 14 k (by omega),Q9,show k+1 - 1=k by omega]
  rw[fstH,fstC,Yfr S c b be k (by omega),e]
theorem Ydz(S:Array Value)(c b be:Int):∀n,fstC prog S c b be n=match (List.range n).find? (λk=>canB prog S c b be ((k+1:Nat):Int)) with|some k=>((k+1:Nat):Int)|none=>0
 |0=>rfl
 | n+1=>by
  rw[fstC,List.range_succ,List.find?_append,Ydz S c b be n];cases h:(List.range n).find? (λk=>canB prog S c b be ((k+1:Nat):Int)) with
  |some j=>
   have:((((j+1:Nat):Int)) != 0)=true:=by simp;omega
   simp only[this,Q1,Option.some_or]
  |none=>simp only[Option.none_or,List.find?_cons,List.find?_nil];cases canB prog S c b be ((n+1:Nat):Int)<;>rfl
theorem w8{n:Int}(h: -128<=n/\n<=127):IntKind.i8.wrap n=n:=IntWalk.i8_in n h
def Zjm:Cons:=(mkΓw [(17,Ufu Zbc)] [(14,conG Zg4),(15,conG Ze4),(16,con Zdb)] [] [])
theorem Znd(N:Nat)(a0:Array Value)(a1 a2 a3:Int)(g_e0 g_e1 g_e2 g_e3 g_e4:Addr):ansV prog Zjm N f7 [] [.g a0 35,.i .i64 a1,.i .i64 a2,.i .i64 a3] [.gl 1 140 g_e0 101973,.gl 2 140 g_e1 93330,.gl 0 140 g_e2 124718,.gl 3 140 g_e3 112315,.gl 4 140 g_e4 94254]=(bif (okS a0&&(bl a0 a1 a2 a3 true&&(Zab a1 a0))) then (some (.t [.i .i64 0,.i .i64 4],.none,true)) else (none)):=by kernel_rfl
def Zgk:Cons:=(mkΓw [(17,Ufu Zbc)] [(14,conG Zg8),(15,conG Ze4),(16,con Zdb)] [] [])
theorem Zit(N:Nat)(a0:Array Value)(a1 a2 a3:Int)(g_e0 g_e1 g_e2 g_e3 g_e4:Addr):ansV prog Zgk N f7 [] [.g a0 35,.i .i64 a1,.i .i64 a2,.i .i64 a3] [.gl 1 140 g_e0 101973,.gl 2 140 g_e1 93330,.gl 0 140 g_e2 124718,.gl 3 140 g_e3 112315,.gl 4 140 g_e4 94254]=(bif (okS a0&&(bl a0 a1 a2 a3 true&&((!(Zab a1 a0))&&(Zab a3 a0)))) then (bif (okS a0&&((Zac a1 a0&&Zaa a2 0 1)&&Zaa (14:Int) 0 14)) then (bif ((fstH (recC prog a0 a1 a2 (14:Int).toNat) a3 ((((14:Int).toNat+1)) - 1)) != (0:Int)) then (bif (decide (0<=a3)&&decide (a3<36)) then (some (.t [.i .i64 (fstH (recC prog a0 a1 a2 (14:Int).toNat) a3 ((((14:Int).toNat+1)) - 1)),.i .i64 0],.none,true)) else (none)) else (bif (decide (0<=a3)&&decide (a3<36)) then (some (.t [.i .i64 0,.i .i64 6],.none,true)) else (none))) else (none)) else (none)):=by kernel_rfl
def Zjs:Cons:=(mkΓw [(17,Ufu Zbc)] [(14,conG Zhd),(15,conG Ze4),(16,con Zdb)] [] [])
theorem Zm5(N:Nat)(a0:Array Value)(a1 a2 a3:Int)(g_e0 g_e1 g_e2 g_e3 g_e4:Addr):ansV prog Zjs N f7 [] [.g a0 35,.i .i64 a1,.i .i64 a2,.i .i64 a3] [.gl 1 140 g_e0 101973,.gl 2 140 g_e1 93330,.gl 0 140 g_e2 124718,.gl 3 140 g_e3 112315,.gl 4 140 g_e4 94254]=(bif (okS a0&&(bl a0 a1 a2 a3 true&&((!(Zab a1 a0))&&((!(Zab a3 a0)))))) then (some (.t [.i .i64 0,.i .i64 4],.none,true)) else (none)):=by kernel_rfl
def Zjp:Cons:=(mkΓw [(17,Ufu Zbc)] [(14,conG Zg5),(15,conG Ze4),(16,con Zdb)] [] [])
theorem Zng(N:Nat)(a0:Array Value)(a1 a2 a3:Int)(g_e0 g_e1 g_e2 g_e3 g_e4:Addr):ansV prog Zjp N f7 [] [.g a0 35,.i .i64 a1,.i .i64 a2,.i .i64 a3] [.gl 1 140 g_e0 101973,.gl 2 140 g_e1 93330,.gl 0 140 g_e2 124718,.gl 3 140 g_e3 112315,.gl 4 140 g_e4 94254]=(bif (okS a0&&((!(bl a0 a1 a2 a3 true)))) then (some (.t [.i .i64 0,.i .i64 2],.none,true)) else (none)):=by kernel_rfl
def Zjt:Cons:=(mkΓw [(17,Ufu Zbc)] [(14,conG Zhe),(15,conG Ze4),(16,con Zdb)] [] [])
theorem Zm8(N:Nat)(a0:Array Value)(a1 a2 a3:Int)(g_e0 g_e1 g_e2 g_e3 g_e4:Addr):ansV prog Zjt N f7 [] [.g a0 35,.i .i64 a1,.i .i64 a2,.i .i64 a3] [.gl 1 140 g_e0 101973,.gl 2 140 g_e1 93330,.gl 0 140 g_e2 124718,.gl 3 140 g_e3 112315,.gl 4 140 g_e4 94254]=(bif (!(okS a0)) then (some (.t [.i .i64 0,.i .i64 1],.none,true)) else (none)):=by kernel_rfl
theorem Zmw(a0:Array Value)(a1 a2 a3:Int)(g_e0 g_e1 g_e2 g_e3 g_e4:Addr)(h_a0:WT prog 35 a0)(h_a1:i64.min<=a1/\a1<=i64.max)(h_a2:i64.min<=a2/\a2<=i64.max)(h_a3:i64.min<=a3/\a3<=i64.max)(hc0:(okS a0)=false)(hg:(true)=true):ansV prog Zjt 1000 f7 [] [.g a0 35,.i .i64 a1,.i .i64 a2,.i .i64 a3] [.gl 1 140 g_e0 101973,.gl 2 140 g_e1 93330,.gl 0 140 g_e2 124718,.gl 3 140 g_e3 112315,.gl 4 140 g_e4 94254]=some (.t [.i .i64 0,.i .i64 1],.none,true):=by refine(Zm8 1000 a0 a1 a2 a3 g_e0 g_e1 g_e2 g_e3 g_e4).trans ?_;simp only[hc0,jA,jB,jC,jD,jE,Q1,Q2]
theorem Zmr(a0:Array Value)(a1 a2 a3:Int)(g_e0 g_e1 g_e2 g_e3 g_e4:Addr)(h_a0:WT prog 35 a0)(h_a1:i64.min<=a1/\a1<=i64.max)(h_a2:i64.min<=a2/\a2<=i64.max)(h_a3:i64.min<=a3/\a3<=i64.max)(hc0:(okS a0)=true)(hc1:(bl a0 a1 a2 a3 true)=false)(hg:(true)=true):ansV prog Zjp 1000 f7 [] [.g a0 35,.i .i64 a1,.i .i64 a2,.i .i64 a3] [.gl 1 140 g_e0 101973,.gl 2 140 g_e1 93330,.gl 0 140 g_e2 124718,.gl 3 140 g_e3 112315,.gl 4 140 g_e4 94254]=some (.t [.i .i64 0,.i .i64 2],.none,true):=by refine(Zng 1000 a0 a1 a2 a3 g_e0 g_e1 g_e2 g_e3 g_e4).trans ?_;simp only[hc0,hc1,jA,jB,jC,jD,jE,Q1,Q2]
theorem Znc(a0:Array Value)(a1 a2 a3:Int)(g_e0 g_e1 g_e2 g_e3 g_e4:Addr)(h_a0:WT prog 35 a0)(h_a1:i64.min<=a1/\a1<=i64.max)(h_a2:i64.min<=a2/\a2<=i64.max)(h_a3:i64.min<=a3/\a3<=i64.max)(hc0:(okS a0)=true)(hc1:(bl a0 a1 a2 a3 true)=true)(hc2:(Zab a1 a0)=false)(hc3:(Zab a3 a0)=false)(hg:(true)=true):ansV prog Zjs 1000 f7 [] [.g a0 35,.i .i64 a1,.i .i64 a2,.i .i64 a3] [.gl 1 140 g_e0 101973,.gl 2 140 g_e1 93330,.gl 0 140 g_e2 124718,.gl 3 140 g_e3 112315,.gl 4 140 g_e4 94254]=some (.t [.i .i64 0,.i .i64 4],.none,true):=by refine(Zm5 1000 a0 a1 a2 a3 g_e0 g_e1 g_e2 g_e3 g_e4).trans ?_;simp only[hc0,hc1,hc2,hc3,jA,jB,jC,jD,jE,Q1,Q2]
theorem Znl(a0:Array Value)(a1 a2 a3:Int)(g_e0 g_e1 g_e2 g_e3 g_e4:Addr)(h_a0:WT prog 35 a0)(h_a1:i64.min<=a1/\a1<=i64.max)(h_a2:i64.min<=a2/\a2<=i64.max)(h_a3:i64.min<=a3/\a3<=i64.max)(hc0:(okS a0)=true)(hc1:(bl a0 a1 a2 a3 true)=true)(hc2:(Zab a1 a0)=false)(hc3:(Zab a3 a0)=true)(hc4:(((fstC prog a0 a1 a2 a3 14) != (0:Int)))=false)(hg:(true)=true):ansV prog Zgk 1000 f7 [] [.g a0 35,.i .i64 a1,.i .i64 a2,.i .i64 a3] [.gl 1 140 g_e0 101973,.gl 2 140 g_e1 93330,.gl 0 140 g_e2 124718,.gl 3 140 g_e3 112315,.gl 4 140 g_e4 94254]=some (.t [.i .i64 0,.i .i64 6],.none,true):=by refine(Zit 1000 a0 a1 a2 a3 g_e0 g_e1 g_e2 g_e3 g_e4).trans ?_;obtain⟨q1,q2,_,q4⟩:=Ufq hc1;have r3:=Zgd q4;have hfr:=Yfr a0 a1 a2 a3 14 (Nat.le_refl _);have e14:(14:Int).toNat=14:=rfl;have e15:14+1 - 1=14:=rfl;simp only[e14,e15,hfr,hc0,hc1,hc2,hc3,hc4,q1,q2,Uf9 (x:=(14:Int)) (a:=0) (b:=14) (by omega),Q3 r3.1,Q3 (show a3<36 by omega),jA,jB,jC,jD,jE,Q1,Q2]
theorem Zmz(a0:Array Value)(a1 a2 a3:Int)(g_e0 g_e1 g_e2 g_e3 g_e4:Addr)(h_a0:WT prog 35 a0)(h_a1:i64.min<=a1/\a1<=i64.max)(h_a2:i64.min<=a2/\a2<=i64.max)(h_a3:i64.min<=a3/\a3<=i64.max)(hc0:(okS a0)=true)(hc1:(bl a0 a1 a2 a3 true)=true)(hc2:(Zab a1 a0)=false)(hc3:(Zab a3 a0)=true)(hc4:(((fstC prog a0 a1 a2 a3 14) != (0:Int)))=true)(hg:(true)=true):ansV prog Zgk 1000 f7 [] [.g a0 35,.i .i64 a1,.i .i64 a2,.i .i64 a3] [.gl 1 140 g_e0 101973,.gl 2 140 g_e1 93330,.gl 0 140 g_e2 124718,.gl 3 140 g_e3 112315,.gl 4 140 g_e4 94254]=some (.t [.i .i64 (fstC prog a0 a1 a2 a3 14),.i .i64 0],.none,true):=by refine(Zit 1000 a0 a1 a2 a3 g_e0 g_e1 g_e2 g_e3 g_e4).trans ?_;obtain⟨q1,q2,_,q4⟩:=Ufq hc1;have r3:=Zgd q4;have hfr:=Yfr a0 a1 a2 a3 14 (Nat.le_refl _);have e14:(14:Int).toNat=14:=rfl;have e15:14+1 - 1=14:=rfl;simp only[e14,e15,hfr,hc0,hc1,hc2,hc3,hc4,q1,q2,Uf9 (x:=(14:Int)) (a:=0) (b:=14) (by omega),Q3 r3.1,Q3 (show a3<36 by omega),jA,jB,jC,jD,jE,Q1,Q2]
theorem Znk(a0:Array Value)(a1 a2 a3:Int)(g_e0 g_e1 g_e2 g_e3 g_e4:Addr)(h_a0:WT prog 35 a0)(h_a1:i64.min<=a1/\a1<=i64.max)(h_a2:i64.min<=a2/\a2<=i64.max)(h_a3:i64.min<=a3/\a3<=i64.max)(hc0:(okS a0)=true)(hc1:(bl a0 a1 a2 a3 true)=true)(hc2:(Zab a1 a0)=true)(hg:(true)=true):ansV prog Zjm 1000 f7 [] [.g a0 35,.i .i64 a1,.i .i64 a2,.i .i64 a3] [.gl 1 140 g_e0 101973,.gl 2 140 g_e1 93330,.gl 0 140 g_e2 124718,.gl 3 140 g_e3 112315,.gl 4 140 g_e4 94254]=some (.t [.i .i64 0,.i .i64 4],.none,true):=by refine(Znd 1000 a0 a1 a2 a3 g_e0 g_e1 g_e2 g_e3 g_e4).trans ?_;simp only[hc0,hc1,hc2,jA,jB,jC,jD,jE,Q1,Q2]
def Zd9:SCon:=λargs h=>match args,h with|[.g a0 35,.i .i64 a1,.i .i64 a2,.i .i64 a3],[.gl 1 140 g_e0 101973,.gl 2 140 g_e1 93330,.gl 0 140 g_e2 124718,.gl 3 140 g_e3 112315,.gl 4 140 g_e4 94254]=>.two (okS a0) (.two (bl a0 a1 a2 a3 true) (.two (Zab a1 a0) (.one (some (.t [.i .i64 0,.i .i64 4],.none,true))) (.two (Zab a3 a0) (.two (((fstC prog a0 a1 a2 a3 14) != (0:Int))) (.one (some (.t [.i .i64 (fstC prog a0 a1 a2 a3 14),.i .i64 0],.none,true))) (.one (some (.t [.i .i64 0,.i .i64 6],.none,true)))) (.one (some (.t [.i .i64 0,.i .i64 4],.none,true))))) (.one (some (.t [.i .i64 0,.i .i64 2],.none,true)))) (.one (some (.t [.i .i64 0,.i .i64 1],.none,true)))|_,_=>.one none
theorem Zna:EntX prog 7:=Zal (fn:=f7)
theorem Zpe:Uad (md F) prog 7 (λargs h=>Uaf (Zd9 args h)):=by
 intro ρ h w args vals r e hn hr hA hH;dsimp only at hr;unfold Zd9 at hr;split at hr
 ·rename_i a0 a1 a2 a3 g_e0 g_e1 g_e2 g_e3 g_e4;simp only[Uaf]at hr;cases hc0:(okS a0)
  ·rw[hc0]at hr;simp only[Uaf,Q1,Q2]at hr;obtain⟨rfl,rfl,hg2⟩:=BQi hr;exact((ansY (N:=1000) (mkΓw_sX (Zmh Zb2) Zbq (mKw (Zdy Zq6) Zcf (mKw (Zdy Zf1) Zd4 (mKw (Zah Zeh) Zc8 mkΓx_nilX)))) f7 [])) ρ _ w _ vals _ _ hn ((Zmw a0 a1 a2 a3 g_e0 g_e1 g_e2 g_e3 g_e4 (hA.wt 0 rfl) (hA.rng 1 rfl) (hA.rng 2 rfl) (hA.rng 3 rfl) hc0 hg2)) hA hH
  ·rw [hc0] at hr;simp only[Uaf,Q1,Q2]at hr;cases hc1:(bl a0 a1 a2 a3 true)
   ·rw[hc1]at hr;simp only[Uaf,Q1,Q2]at hr;obtain⟨rfl,rfl,hg2⟩:=BQi hr;exact((ansY (N:=1000) (mkΓw_sX (Zmh Zb2) Zbq (mKw (Zdy Zq8) Zcf (mKw (Zdy Zf1) Zd4 (mKw (Zah Zeh) Zc8 mkΓx_nilX)))) f7 [])) ρ _ w _ vals _ _ hn ((Zmr a0 a1 a2 a3 g_e0 g_e1 g_e2 g_e3 g_e4 (hA.wt 0 rfl) (hA.rng 1 rfl) (hA.rng 2 rfl) (hA.rng 3 rfl) hc0 hc1 hg2)) hA hH
   ·rw [hc1] at hr;simp only[Uaf,Q1,Q2]at hr;cases hc2:(Zab a1 a0)
    ·rw[hc2]at hr;simp only[Uaf,Q1,Q2]at hr;cases hc3:(Zab a3 a0)
     ·rw[hc3]at hr;simp only[Uaf,Q1,Q2]at hr;obtain⟨rfl,rfl,hg2⟩:=BQi hr;exact((ansY (N:=1000) (mkΓw_sX (Zmh Zb2) Zbq (mKw (Zdy Zro) Zcf (mKw (Zdy Zf1) Zd4 (mKw (Zah Zeh) Zc8 mkΓx_nilX)))) f7 [])) ρ _ w _ vals _ _ hn ((Znc a0 a1 a2 a3 g_e0 g_e1 g_e2 g_e3 g_e4 (hA.wt 0 rfl) (hA.rng 1 rfl) (hA.rng 2 rfl) (hA.rng 3 rfl) hc0 hc1 hc2 hc3 hg2)) hA hH
     ·rw[hc3]at hr;simp only[Uaf,Q1,Q2]at hr;cases hc4:(((fstC prog a0 a1 a2 a3 14) != (0:Int)))
      ·rw[hc4]at hr;simp only[Uaf,Q1,Q2]at hr;obtain⟨rfl,rfl,hg2⟩:=BQi hr;exact((ansY (N:=1000) (mkΓw_sX (Zmh Zb2) Zbq (mKw (Zdy Zk5) Zcf (mKw (Zdy Zf1) Zd4 (mKw (Zah Zeh) Zc8 mkΓx_nilX)))) f7 [])) ρ _ w _ vals _ _ hn ((Znl a0 a1 a2 a3 g_e0 g_e1 g_e2 g_e3 g_e4 (hA.wt 0 rfl) (hA.rng 1 rfl) (hA.rng 2 rfl) (hA.rng 3 rfl) hc0 hc1 hc2 hc3 hc4 hg2)) hA hH
      ·rw[hc4]at hr;simp only[Uaf,Q1,Q2]at hr;obtain⟨rfl,rfl,hg2⟩:=BQi hr;exact((ansY (N:=1000) (mkΓw_sX (Zmh Zb2) Zbq (mKw (Zdy Zk5) Zcf (mKw (Zdy Zf1) Zd4 (mKw (Zah Zeh) Zc8 mkΓx_nilX)))) f7 [])) ρ _ w _ vals _ _ hn ((Zmz a0 a1 a2 a3 g_e0 g_e1 g_e2 g_e3 g_e4 (hA.wt 0 rfl) (hA.rng 1 rfl) (hA.rng 2 rfl) (hA.rng 3 rfl) hc0 hc1 hc2 hc3 hc4 hg2)) hA hH
    ·rw[hc2]at hr;simp only[Uaf,Q1,Q2]at hr;obtain⟨rfl,rfl,hg2⟩:=BQi hr;exact((ansY (N:=1000) (mkΓw_sX (Zmh Zb2) Zbq (mKw (Zdy Zrm) Zcf (mKw (Zdy Zf1) Zd4 (mKw (Zah Zeh) Zc8 mkΓx_nilX)))) f7 [])) ρ _ w _ vals _ _ hn ((Znk a0 a1 a2 a3 g_e0 g_e1 g_e2 g_e3 g_e4 (hA.wt 0 rfl) (hA.rng 1 rfl) (hA.rng 2 rfl) (hA.rng 3 rfl) hc0 hc1 hc2 hg2)) hA hH
 ·simp only[Uaf]at hr;cases hr
def Zgs:Con:=λargs h=>match args,h with|[.g a0 35,.i .i64 a1,.i .i64 a2,.i .i64 a3],[.gl 1 140 g_e0 101973,.gl 2 140 g_e1 93330,.gl 0 140 g_e2 124718,.gl 3 140 g_e3 112315,.gl 4 140 g_e4 94254]=>some (.t [.i .i64 (bif okS a0 then (bif bl a0 a1 a2 a3 true then (bif Zab a1 a0 then (0:Int) else (bif Zab a3 a0 then (bif ((fstC prog a0 a1 a2 a3 14) != (0:Int)) then (fstC prog a0 a1 a2 a3 14) else (0:Int)) else (0:Int))) else (0:Int)) else (0:Int)),.i .i64 (bif okS a0 then (bif bl a0 a1 a2 a3 true then (bif Zab a1 a0 then (4:Int) else (bif Zab a3 a0 then (bif ((fstC prog a0 a1 a2 a3 14) != (0:Int)) then (0:Int) else (6:Int)) else (4:Int))) else (2:Int)) else (1:Int))],.none,true)|_,_=>none
theorem Zqb:Uad (md F) prog 7 Zgs:=Uad.of Zpe (by
 intro ρ h w args vals r e hA hH hr;unfold Zgs at hr;split at hr
 ·rename_i a0 a1 a2 a3 g_e0 g_e1 g_e2 g_e3 g_e4;obtain⟨rfl,rfl,hg2⟩:=BQi hr
  show Uaf (Zd9 _ _)=_
  unfold Zd9;simp only[Uaf];cases okS a0<;>cases bl a0 a1 a2 a3 true<;>cases Zab a1 a0<;>cases Zab a3 a0<;>cases ((fstC prog a0 a1 a2 a3 14) != (0:Int))<;>simp only[Q1,Q2]
 ·cases hr)
def Zbn:Cons:=(mkΓ [(11,con Ziw),(12,con Zk9)])
def Zb3(a0:Array Value)(a1 a2 a3:Int):St:=(⟨.a (.g a0 35)::.a (.i .i64 a1)::.a (.i .i64 a2)::.a (.i .i64 a3)::.a (.w 0)::us 3 (.a (.i .i64 0)::.a (.i .i64 0)::.a (.i .i64 (Zax a1 a2 a3 true a0))::.a (.i .i64 1)::.a (.i .i64 a1)::.a (.i .i64 a2)::.a (.i .i64 a3)::.a (.i .i64 (Zax a1 a2 a3 true a0))::.a (.i .i64 (Zax a1 a2 a3 true a0))::.a (.b (((Zax a1 a2 a3 true a0) != (0:Int))))::us 14 ([])),[.row a0 35,.no,.no],[]⟩:St)
def Zcw:Int×Int×Int->LS
 |(y0_8,y0_9,y0_11)=>([.a (.i .i64 y0_8),.a (.i .i64 y0_9),.a (.i .i64 y0_11)],[])
def Zhc:(Stp (Int×Int×Int) (Int×Int×Int))->Exit×LS
 |.more t=>(.ret,Zcw t)
 |.done t=>((.exit 0),Zcw t)
def Za3(P:Program)(a0:Array Value)(a1 a2 a3:Int):Int×Int×Int->Option (Stp (Int×Int×Int) (Stp (Int×Int×Int) (Int×Int×Int)))
 |(y0_8,y0_9,y0_11)=>bif decide (y0_11<=(14:Int)) then (bif ((okS a0&&(Zac a1 a0&&Zaa a2 0 1))&&(Zaa (num (#[.int .i8 (IntKind.i8.wrap a3),.int .i8 (IntKind.i8.wrap y0_11)]:Array Value) 1) 1 14&&(decide (0<=num (#[.int .i8 (IntKind.i8.wrap a3),.int .i8 (IntKind.i8.wrap y0_11)]:Array Value) 0)&&decide (num (#[.int .i8 (IntKind.i8.wrap a3),.int .i8 (IntKind.i8.wrap y0_11)]:Array Value) 0<36)))) then (bif (canB prog a0 a1 a2 (num (#[.int .i8 (IntKind.i8.wrap a3),.int .i8 (IntKind.i8.wrap y0_11)]:Array Value) 0) (num (#[.int .i8 (IntKind.i8.wrap a3),.int .i8 (IntKind.i8.wrap y0_11)]:Array Value) 1)) then (some (.done (.more (y0_11,(0:Int),y0_11)))) else (some (.more (y0_8,y0_9,(i64.wrap (y0_11+(1:Int))))))) else (none)) else (some (.done (.done (y0_8,y0_9,y0_11))))
noncomputable abbrev cKCeC5:=codeOf f5
theorem Zqp(N:Nat)(a0:Array Value)(a1 a2 a3:Int):∀t:Int×Int×Int,Uaw prog Zbn N (cAt cKCeC5 [1,1,0,1,0,0]) (pAt (Uaa cKCeC5 [([8,9,11],[])]).1 [1,1,0,1,0]) [8,9,11] [] (Zb3 a0 a1 a2 a3) (Zcw t)=mapS Zcw Zhc (Za3 prog a0 a1 a2 a3 t):=by
 rintro⟨y0_8,y0_9,y0_11⟩
 conv=>rhs;simp only[Za3,Zbg,Zbe,Zbd,Zbh,Zcw,Zhc]
 kernel_rfl
def Zf5(P:Program)(N:Nat)(a0:Array Value)(a1 a2 a3:Int)(z0_8:Int)(z0_9:Int)(z0_11:Int):Option (SV×Eff×Bool):=some (.t [.i .i64 z0_8,.i .i64 z0_9],.none,true)
theorem Zlq(N:Nat)(a0:Array Value)(a1 a2 a3:Int)(z0_8:Int)(z0_9:Int)(z0_11:Int):(Uac 0 (kSeq (veC prog Zbn N (cAt cKCeC5 [1,1,1]) (pAt (Uaa cKCeC5 [([8,9,11],[])]).1 [1,1,1]) (SV×Eff×Bool)) (finK prog [] [.tmp 8,.tmp 9]))) .ret (left (writes (cAt cKCeC5 [1,1,0,1,0,0])) [8,9,11] [] (Zb3 a0 a1 a2 a3) ([.a (.i .i64 z0_8),.a (.i .i64 z0_9),.a (.i .i64 z0_11)],[]))=Zf5 prog N a0 a1 a2 a3 z0_8 z0_9 z0_11:=by kernel_rfl
def Zf7(P:Program)(N:Nat)(a0:Array Value)(a1 a2 a3:Int)(z0_8:Int)(z0_9:Int)(z0_11:Int):Option (SV×Eff×Bool):=some (.t [.i .i64 0,.i .i64 6],.none,true)
theorem Zlx(N:Nat)(a0:Array Value)(a1 a2 a3:Int)(z0_8:Int)(z0_9:Int)(z0_11:Int):(Uac 0 (kSeq (veC prog Zbn N (cAt cKCeC5 [1,1,1]) (pAt (Uaa cKCeC5 [([8,9,11],[])]).1 [1,1,1]) (SV×Eff×Bool)) (finK prog [] [.tmp 8,.tmp 9]))) (.exit 0) (left (writes (cAt cKCeC5 [1,1,0,1,0,0])) [8,9,11] [] (Zb3 a0 a1 a2 a3) ([.a (.i .i64 z0_8),.a (.i .i64 z0_9),.a (.i .i64 z0_11)],[]))=Zf7 prog N a0 a1 a2 a3 z0_8 z0_9 z0_11:=by kernel_rfl
theorem Zqu(N:Nat)(a0:Array Value)(a1 a2 a3:Int):Ual (Uab (Uaw prog Zbn N (cAt cKCeC5 [1,1,0,1,0,0]) (pAt (Uaa cKCeC5 [([8,9,11],[])]).1 [1,1,0,1,0]) [8,9,11] [] (Zb3 a0 a1 a2 a3)) N ([.a (.i .i64 0),.a (.i .i64 0),.a (.i .i64 1)],[])) (λe s=>(Uac 0 (kSeq (veC prog Zbn N (cAt cKCeC5 [1,1,1]) (pAt (Uaa cKCeC5 [([8,9,11],[])]).1 [1,1,1]) (SV×Eff×Bool)) (finK prog [] [.tmp 8,.tmp 9]))) e (left (writes (cAt cKCeC5 [1,1,0,1,0,0])) [8,9,11] [] (Zb3 a0 a1 a2 a3) s))=Uay (Uab (Za3 prog a0 a1 a2 a3) N ((0:Int),(0:Int),(1:Int))) (st2 (λx=>Zf5 prog N a0 a1 a2 a3 x.1 x.2.1 x.2.2) (λx=>Zf7 prog N a0 a1 a2 a3 x.1 x.2.1 x.2.2)):=by refine Zbw Zcw Zhc _ _ (Zqp N a0 a1 a2 a3) N ((0:Int),(0:Int),(1:Int)) _ _ ?_;intro x;cases x with|more x=>exact Zlq N a0 a1 a2 a3 x.1 x.2.1 x.2.2|done x=>exact Zlx N a0 a1 a2 a3 x.1 x.2.1 x.2.2
theorem Zod(N:Nat)(a0:Array Value)(a1 a2 a3:Int):ansV prog Zbn N f5 [([8,9,11],[])] [.g a0 35,.i .i64 a1,.i .i64 a2,.i .i64 a3] []=(bif (Zdm a1 a2 a3 true a0) then (bif ((Zax a1 a2 a3 true a0) != (0:Int)) then (some (.t [.i .i64 0,.i .i64 (Zax a1 a2 a3 true a0)],.none,true)) else (Uay (Uab (Za3 prog a0 a1 a2 a3) N ((0:Int),(0:Int),(1:Int))) (st2 (λx=>Zf5 prog N a0 a1 a2 a3 x.1 x.2.1 x.2.2) (λx=>Zf7 prog N a0 a1 a2 a3 x.1 x.2.1 x.2.2)))) else (none)):=by
 conv=>rhs;simp only[<- Zqu N a0 a1 a2 a3]
 kernel_rfl
theorem Zny(a0:Array Value)(a1 a2 a3:Int)(h_a0:WT prog 35 a0)(h_a1:i64.min<=a1/\a1<=i64.max)(h_a2:i64.min<=a2/\a2<=i64.max)(h_a3:i64.min<=a3/\a3<=i64.max)(hg:(true)=true):ansV prog Zbn 1000 f5 [([8,9,11],[])] [.g a0 35,.i .i64 a1,.i .i64 a2,.i .i64 a3] []=some (.t [.i .i64 (bif okS a0 then (bif bl a0 a1 a2 a3 true then (bif Zab a1 a0 then (0:Int) else (bif Zab a3 a0 then (bif ((fstC prog a0 a1 a2 a3 14) != (0:Int)) then (fstC prog a0 a1 a2 a3 14) else (0:Int)) else (0:Int))) else (0:Int)) else (0:Int)),.i .i64 (bif okS a0 then (bif bl a0 a1 a2 a3 true then (bif Zab a1 a0 then (4:Int) else (bif Zab a3 a0 then (bif ((fstC prog a0 a1 a2 a3 14) != (0:Int)) then (0:Int) else (6:Int)) else (4:Int))) else (2:Int)) else (1:Int))],.none,true):=by
 refine(Zod 1000 a0 a1 a2 a3).trans ?_;rw[beach_gd];cases hz:(Zax a1 a2 a3 true a0 != (0:Int)) with
 |true=>
  rw[Ygn]at hz|-
  cases h1:okS a0<;>cases h2:bl a0 a1 a2 a3 true<;>cases h3:Zab a1 a0<;>cases h4:Zab a3 a0<;>first | (simp only[Q1,Q2];done) | (exfalso;rw[h1,h2,h3,h4]at hz;revert hz;decide)
 | false=>
  obtain⟨z1,z2,z3,z4⟩:=Yin hz;obtain⟨q1,q2,_,q4⟩:=Ufq z2;have r3:=Zgd q4;have e8:IntKind.i8.wrap a3=a3:=w8 (by omega);have hg:∀k:Nat,k<14->(Za3 prog a0 a1 a2 a3) ((0:Int),(0:Int),((k+1:Nat):Int))=bif canB prog a0 a1 a2 a3 ((k+1:Nat):Int) then some (.done (.more (((k+1:Nat):Int),(0:Int),((k+1:Nat):Int)))) else some (.more ((0:Int),(0:Int),((k+1+1:Nat):Int))):=λk hk=>by
   have e1:IntKind.i8.wrap ((k+1:Nat):Int)=((k+1:Nat):Int):=w8 (by omega);have e2:i64.wrap (((k+1:Nat):Int)+1)=((k+1+1:Nat):Int):=by rw[w64 (by omega)];omega
   have e3:num (#[.int .i8 (IntKind.i8.wrap a3),.int .i8 (IntKind.i8.wrap ((k+1:Nat):Int))]:Array Value) 0=a3:=e8;have e4:num (#[.int .i8 (IntKind.i8.wrap a3),.int .i8 (IntKind.i8.wrap ((k+1:Nat):Int))]:Array Value) 1=((k+1:Nat):Int):=e1;simp only[Za3,e2,e3,e4,z1,q1,q2,Uf9 (x:=((k+1:Nat):Int)) (a:=1) (b:=14) (by omega),Q3 (show ((k+1:Nat):Int)<=14 by omega),Q3 r3.1,Q3 (show a3<36 by omega),jA,Q1]
  have hL:Uab (Za3 prog a0 a1 a2 a3) 1000 ((0:Int),(0:Int),(1:Int))=_:=Zsu (g:=(Za3 prog a0 a1 a2 a3)) (λk=>((0:Int),(0:Int),((k+1:Nat):Int))) (λk=>canB prog a0 a1 a2 a3 ((k+1:Nat):Int)) 14 (N:=1000) (by omega) (xd:=.done ((0:Int),(0:Int),(15:Int))) (λk=>.more (((k+1:Nat):Int),(0:Int),((k+1:Nat):Int)))
   (fun k hk hp=>by rw [hg k hk,hp];rfl) (fun k hk hp=>by rw [hg k hk,hp];rfl) (by
    show (Za3 prog a0 a1 a2 a3) ((0:Int),(0:Int),(15:Int))=_
    simp only[Za3,show decide ((15:Int)<=14)=false from rfl,Q2])
  simp only[z1,z2,z3,z4,Q1,Q2];rw[hL,Ydz];cases (List.range 14).find? (λk=>canB prog a0 a1 a2 a3 ((k+1:Nat):Int)) with
  |none=>rfl
  |some k=>
   have:((((k+1:Nat):Int)) != 0)=true:=by simp;omega
   simp only[this,Q1];rfl
def Zgq:Con:=λargs h=>match args,h with|[.g a0 35,.i .i64 a1,.i .i64 a2,.i .i64 a3],[]=>some (.t [.i .i64 (bif okS a0 then (bif bl a0 a1 a2 a3 true then (bif Zab a1 a0 then (0:Int) else (bif Zab a3 a0 then (bif ((fstC prog a0 a1 a2 a3 14) != (0:Int)) then (fstC prog a0 a1 a2 a3 14) else (0:Int)) else (0:Int))) else (0:Int)) else (0:Int)),.i .i64 (bif okS a0 then (bif bl a0 a1 a2 a3 true then (bif Zab a1 a0 then (4:Int) else (bif Zab a3 a0 then (bif ((fstC prog a0 a1 a2 a3 14) != (0:Int)) then (0:Int) else (6:Int)) else (4:Int))) else (2:Int)) else (1:Int))],.none,true)|_,_=>none
theorem Zmi:EntX prog 5:=Zal (fn:=f5)
theorem Zqc:Uad (md F) prog 5 Zgq:=(ansY (N:=1000) (mKc (Zah Zwm) Zrr (mKc (Zah Yai) Zvc mKn)) f5 [([8,9,11],[])]).of (by
 intro ρ h w args vals r e hA hH hr;unfold Zgq at hr;split at hr
 ·rename_i a0 a1 a2 a3;obtain⟨rfl,rfl,hg2⟩:=BQi hr;exact Zny a0 a1 a2 a3 (hA.wt 0 rfl) (hA.rng 1 rfl) (hA.rng 2 rfl) (hA.rng 3 rfl) hg2
 ·cases hr)
end
end Go.Proofs.YtefjogahegolbaaDoor
