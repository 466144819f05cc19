/- Lists of numbers and of finds compared, marked and looked at again. -/
import Derived.Test.YtdfefaanfiheoaaGreatDoorProg
import Derived.Test.YtdfefaanfiheoaaGreatDoorCuA
set_option linter.unusedVariables false
set_option linter.unusedSimpArgs false
namespace Go.Proofs.YtdfefaanfiheoaaGreatDoor
open Tryz (f9 f14 f40)
open Go.ChangeShapes Go.WideShapes Go.ChangeAt Go.RowKit Ve Vc
open Tryz renaming prog -> PZ
open IntKind (i64)
set_option maxRecDepth 100000
noncomputable section
variable {F:Vc.Fd}
theorem Ybf(N:Nat)(a0 a1:Array Value):ansV PZ (mkΓ []) N f40 [] [.g a0 70,.g a1 70] []=(bif ((num a0 0) != (num a1 0)) then (some (.a (.b false),.none,true)) else (bif ((num a0 1) != (num a1 1)) then (some (.a (.b false),.none,true)) else (some (.a (.b true),.none,true)))):=by kernel_rfl
theorem Yap(a0 a1:Array Value)(h_a0:WT PZ 70 a0)(h_a1:WT PZ 70 a1)(hg:(true)=true):ansV PZ (mkΓ []) 1000 f40 [] [.g a0 70,.g a1 70] []=some (.a (.b (Uap a0 a1)),.none,true):=by
 have hz:a0.size=2:=by rw[h_a0.layLen];kernel_rfl
 have hy:a1.size=2:=by rw[h_a1.layLen];kernel_rfl
 refine(Ybf 1000 a0 a1).trans ?_;cases hb:Uap a0 a1
 ·have hne:=Ygp.1 hb;cases h0:(num a0 0 != num a1 0)
  ·skip
   cases h1:(num a0 1 != num a1 1)
   ·skip
    exfalso;refine hne (Zin λi=> ?_)
    by_cases c0:i=0
    ·subst c0;rw[(h_a0.int (k:=.i8) (o:=0) (by kernel_rfl)).1,(h_a1.int (k:=.i8) (o:=0) (by kernel_rfl)).1,Yqj h0]
    by_cases c1:i=1
    ·subst c1;rw[(h_a0.int (k:=.i8) (o:=1) (by kernel_rfl)).1,(h_a1.int (k:=.i8) (o:=1) (by kernel_rfl)).1,Yqj h1]
    rw[Array.getElem?_eq_none (by omega),Array.getElem?_eq_none (by omega)]
   ·rfl
  ·rfl
 ·rw[Zii.1 hb];simp only[bne_self_eq_false,Q2,Zqy,Bool.not_true]
def Zbk:Con:=λargs h=>match args,h with|[.g a0 70,.g a1 70],[]=>some (.a (.b (Uap a0 a1)),.none,true)|_,_=>none
theorem Zwo:EntX PZ 40:=Zaj (fn:=f40)
theorem Ydg:Uac (md F) PZ 40 Zbk:=(ansY (N:=1000) mKn f40 []).of (by
 intro ρ h w args vals r e hA hH hr;unfold Zbk at hr;split at hr
 ·rename_i a0 a1;obtain⟨rfl,rfl,hg2⟩:=BQi hr;exact Yap a0 a1 (hA.wt 0 rfl) (hA.wt 1 rfl) hg2
 ·cases hr)
def Zff(b_a0:Option (Option Addr))(n_a0:Nat)(a0:Array Value)(b_a1:Option (Option Addr))(n_a1:Nat)(a1:Array Value):St:=(⟨.a (.l 0)::.a (.l 1)::.a (.u)::.a (.u)::.a (.b false)::.a (.i .i64 0)::.a (.l 0)::.a (.i .i64 (n_a0:Int))::.a (.l 1)::.a (.i .i64 (n_a1:Int))::.a (.b (((n_a0:Int) != (n_a1:Int))))::us 16 ([]),[.sl (.came b_a0) n_a0 a0 70,.sl (.came b_a1) n_a1 a1 70],[]⟩:St)
def Zgn:Bool×Int->LS
 |(y0_4,y0_5)=>([.a (.b y0_4),.a (.i .i64 y0_5)],[])
def Zov:(Stp (Bool×Int) (Bool×Int))->Exit×LS
 |.more t=>(.ret,Zgn t)
 |.done t=>((.exit 0),Zgn t)
def Zd1(P:Program)(b_a0:Option (Option Addr))(n_a0:Nat)(a0:Array Value)(b_a1:Option (Option Addr))(n_a1:Nat)(a1:Array Value):Bool×Int->Option (Stp (Bool×Int) (Stp (Bool×Int) (Bool×Int)))
 |(y0_4,y0_5)=>bif decide (y0_5<(n_a0:Int)) then (bif (decide (0<=y0_5)&&decide (y0_5<(n_a0:Int))) then (bif (decide (0<=y0_5)&&decide (y0_5<(n_a1:Int))) then (bif (!(Uap (a0.extract ((y0_5).toNat*2) (((y0_5).toNat*2)+2)) (a1.extract ((y0_5).toNat*2) (((y0_5).toNat*2)+2)))) then (some (.done (.more (false,y0_5)))) else (some (.more (y0_4,(i64.wrap (y0_5+(1:Int))))))) else (none)) else (none)) else (some (.done (.done (y0_4,y0_5))))
noncomputable abbrev cKCuP14:=codeOf f14
theorem Yg2(N:Nat)(b_a0:Option (Option Addr))(n_a0:Nat)(a0:Array Value)(b_a1:Option (Option Addr))(n_a1:Nat)(a1:Array Value):∀t:Bool×Int,Uah PZ (mkΓ [(40,con Zbk)]) N (cAt cKCuP14 [1,1,0,1,0,0]) (pAt (Uaa cKCuP14 [([4,5],[])]).1 [1,1,0,1,0]) [4,5] [] (Zff b_a0 n_a0 a0 b_a1 n_a1 a1) (Zgn t)=mapS Zgn Zov (Zd1 PZ b_a0 n_a0 a0 b_a1 n_a1 a1 t):=by
 rintro⟨y0_4,y0_5⟩
 conv=>rhs;simp only[Zd1,Zao,Zam,Zan,Zap,Zgn,Zov]
 kernel_rfl
def Zl7(P:Program)(N:Nat)(b_a0:Option (Option Addr))(n_a0:Nat)(a0:Array Value)(b_a1:Option (Option Addr))(n_a1:Nat)(a1:Array Value)(z0_4:Bool)(z0_5:Int):Option (SV×Eff×Bool):=some (.a (.b z0_4),.none,true)
theorem Zvo(N:Nat)(b_a0:Option (Option Addr))(n_a0:Nat)(a0:Array Value)(b_a1:Option (Option Addr))(n_a1:Nat)(a1:Array Value)(z0_4:Bool)(z0_5:Int):(Uad 0 (kSeq (veC PZ (mkΓ [(40,con Zbk)]) N (cAt cKCuP14 [1,1,1]) (pAt (Uaa cKCuP14 [([4,5],[])]).1 [1,1,1]) (SV×Eff×Bool)) (finK PZ [.sl (.came b_a0) n_a0 a0 70,.sl (.came b_a1) n_a1 a1 70] [.tmp 4]))) .ret (left (writes (cAt cKCuP14 [1,1,0,1,0,0])) [4,5] [] (Zff b_a0 n_a0 a0 b_a1 n_a1 a1) ([.a (.b z0_4),.a (.i .i64 z0_5)],[]))=Zl7 PZ N b_a0 n_a0 a0 b_a1 n_a1 a1 z0_4 z0_5:=by kernel_rfl
def Zlz(P:Program)(N:Nat)(b_a0:Option (Option Addr))(n_a0:Nat)(a0:Array Value)(b_a1:Option (Option Addr))(n_a1:Nat)(a1:Array Value)(z0_4:Bool)(z0_5:Int):Option (SV×Eff×Bool):=some (.a (.b true),.none,true)
theorem Zu2(N:Nat)(b_a0:Option (Option Addr))(n_a0:Nat)(a0:Array Value)(b_a1:Option (Option Addr))(n_a1:Nat)(a1:Array Value)(z0_4:Bool)(z0_5:Int):(Uad 0 (kSeq (veC PZ (mkΓ [(40,con Zbk)]) N (cAt cKCuP14 [1,1,1]) (pAt (Uaa cKCuP14 [([4,5],[])]).1 [1,1,1]) (SV×Eff×Bool)) (finK PZ [.sl (.came b_a0) n_a0 a0 70,.sl (.came b_a1) n_a1 a1 70] [.tmp 4]))) (.exit 0) (left (writes (cAt cKCuP14 [1,1,0,1,0,0])) [4,5] [] (Zff b_a0 n_a0 a0 b_a1 n_a1 a1) ([.a (.b z0_4),.a (.i .i64 z0_5)],[]))=Zlz PZ N b_a0 n_a0 a0 b_a1 n_a1 a1 z0_4 z0_5:=by kernel_rfl
theorem Yh1(N:Nat)(b_a0:Option (Option Addr))(n_a0:Nat)(a0:Array Value)(b_a1:Option (Option Addr))(n_a1:Nat)(a1:Array Value):Uag (Uab (Uah PZ (mkΓ [(40,con Zbk)]) N (cAt cKCuP14 [1,1,0,1,0,0]) (pAt (Uaa cKCuP14 [([4,5],[])]).1 [1,1,0,1,0]) [4,5] [] (Zff b_a0 n_a0 a0 b_a1 n_a1 a1)) N ([.a (.b false),.a (.i .i64 0)],[])) (λe s=>(Uad 0 (kSeq (veC PZ (mkΓ [(40,con Zbk)]) N (cAt cKCuP14 [1,1,1]) (pAt (Uaa cKCuP14 [([4,5],[])]).1 [1,1,1]) (SV×Eff×Bool)) (finK PZ [.sl (.came b_a0) n_a0 a0 70,.sl (.came b_a1) n_a1 a1 70] [.tmp 4]))) e (left (writes (cAt cKCuP14 [1,1,0,1,0,0])) [4,5] [] (Zff b_a0 n_a0 a0 b_a1 n_a1 a1) s))=Uai (Uab (Zd1 PZ b_a0 n_a0 a0 b_a1 n_a1 a1) N (false,(0:Int))) (st2 (λx=>Zl7 PZ N b_a0 n_a0 a0 b_a1 n_a1 a1 x.1 x.2) (λx=>Zlz PZ N b_a0 n_a0 a0 b_a1 n_a1 a1 x.1 x.2)):=by refine Zar Zgn Zov _ _ (Yg2 N b_a0 n_a0 a0 b_a1 n_a1 a1) N (false,(0:Int)) _ _ ?_;intro x;cases x with|more x=>exact Zvo N b_a0 n_a0 a0 b_a1 n_a1 a1 x.1 x.2|done x=>exact Zu2 N b_a0 n_a0 a0 b_a1 n_a1 a1 x.1 x.2
theorem Ydl(N:Nat)(b_a0:Option (Option Addr))(n_a0:Nat)(a0:Array Value)(b_a1:Option (Option Addr))(n_a1:Nat)(a1:Array Value):ansV PZ (mkΓ [(40,con Zbk)]) N f14 [([4,5],[])] [.l 0,.l 1] [.sl (.came b_a0) n_a0 a0 70,.sl (.came b_a1) n_a1 a1 70]=(bif ((n_a0:Int) != (n_a1:Int)) then (some (.a (.b false),.none,true)) else (Uai (Uab (Zd1 PZ b_a0 n_a0 a0 b_a1 n_a1 a1) N (false,(0:Int))) (st2 (λx=>Zl7 PZ N b_a0 n_a0 a0 b_a1 n_a1 a1 x.1 x.2) (λx=>Zlz PZ N b_a0 n_a0 a0 b_a1 n_a1 a1 x.1 x.2)))):=by
 conv=>rhs;simp only[<- Yh1 N b_a0 n_a0 a0 b_a1 n_a1 a1]
 kernel_rfl
theorem Ybg(b_a0:Option (Option Addr))(n_a0:Nat)(a0:Array Value)(b_a1:Option (Option Addr))(n_a1:Nat)(a1:Array Value)(h_a0:a0.size=n_a0*(lay PZ 70).length/\(∀k,k<n_a0->WT PZ 70 (a0.extract (k*(lay PZ 70).length) (k*(lay PZ 70).length+(lay PZ 70).length)))/\n_a0<=9223372036854775807)(h_a1:a1.size=n_a1*(lay PZ 70).length/\(∀k,k<n_a1->WT PZ 70 (a1.extract (k*(lay PZ 70).length) (k*(lay PZ 70).length+(lay PZ 70).length)))/\n_a1<=9223372036854775807)(hg:(true)=true):ansV PZ (mkΓ [(40,con Zbk)]) 18446744073709551616 f14 [([4,5],[])] [.l 0,.l 1] [.sl (.came b_a0) n_a0 a0 70,.sl (.came b_a1) n_a1 a1 70]=some (.a (.b ((decide (n_a0=n_a1)&&Uap a0 a1))),.none,true):=by
 have hm:(lay PZ 70).length=2:=by kernel_rfl
 obtain⟨s1,s2,s3⟩:=h_a0;obtain⟨t1,t2,t3⟩:=h_a1;rw[hm]at s1 s2 t1 t2;have hq:(lay PZ 70)[0]?=some 0:=by kernel_rfl
 refine(Ydl 18446744073709551616 b_a0 n_a0 a0 b_a1 n_a1 a1).trans ?_
 by_cases hl:n_a0=n_a1
 case neg=>
  rw[Q4 hl,show ((n_a0:Int) != (n_a1:Int))=true from bne_iff_ne.2 (by omega)];rfl
 subst hl;rw[Q3 rfl,show ((n_a0:Int) != (n_a0:Int))=false from bne_self_eq_false _];simp only[Q2,Bool.true_and];have hb:Uap a0 a1=true ↔ ∀k,k<n_a0->(λk=>Uap (a0.extract (k*2) (k*2+2)) (a1.extract (k*2) (k*2+2))) k=true:=by
  constructor
  ·intro h k hk;rw[Zii.1 h];exact Zqy _
  ·intro h;refine Zii.2 ?_;exact Ym9 (n:=n_a0) (m:=2) (by omega) s1 t1 (λk hk=>Zii.1 (h k hk))
 refine(Yb2 (g:=Zd1 PZ b_a0 n_a0 a0 b_a1 n_a0 a1) (λk=>(false,(k:Int))) (λk=>Uap (a0.extract (k*2) (k*2+2)) (a1.extract (k*2) (k*2+2))) n_a0 (N:=18446744073709551616) (xd:=.done (false,(n_a0:Int))) (by omega) (λk hk hp=>by
  have h1:decide ((k:Int)<(n_a0:Int))=true:=Q3 (by omega);have h0:decide (0<=(k:Int))=true:=Q3 (by omega);have h3:i64.wrap ((k:Int)+1)=((k+1:Nat):Int):=by rw[IntWalk.i64_in _ (by omega)];omega
  have hp':Uap (a0.extract (k*2) (k*2+2)) (a1.extract (k*2) (k*2+2))=true:=hp;simp only[Zd1,h1,h0,Bool.and_self,Q9,Q1,h3,hp',Bool.not_true,Q2]) (by
  have h1:decide ((n_a0:Int)<(n_a0:Int))=false:=Q4 (by omega);simp only[Zd1,h1,Q2]) (Uap a0 a1) hb (some (.a (.b true),.none,true)) (some (.a (.b false),.none,true)) rfl (λk hk hp=>by
  refine⟨.more (false,(k:Int)),?_,rfl⟩;have h1:decide ((k:Int)<(n_a0:Int))=true:=Q3 (by omega);have h0:decide (0<=(k:Int))=true:=Q3 (by omega);have hp':Uap (a0.extract (k*2) (k*2+2)) (a1.extract (k*2) (k*2+2))=false:=hp;simp only[Zd1,h1,h0,Bool.and_self,Q9,Q1,hp',Bool.not_false])).trans ?_
 cases Uap a0 a1<;>rfl
def Zm9:Con:=λargs h=>match args,h with|[.l 0,.l 1],[.sl (.came b_a0) n_a0 a0 70,.sl (.came b_a1) n_a1 a1 70]=>some (.a (.b ((decide (n_a0=n_a1)&&Uap a0 a1))),.none,true)|_,_=>none
theorem Yav:EntX PZ 14:=Zaj (fn:=f14)
theorem Ygs:Uac (md F) PZ 14 Zm9:=(ansY (N:=18446744073709551616) (mKc (Zae Ydg) Zwo mKn) f14 [([4,5],[])]).of (by
 intro ρ h w args vals r e hA hH hr;unfold Zm9 at hr;split at hr
 ·rename_i b_a0 n_a0 a0 b_a1 n_a1 a1;obtain⟨rfl,rfl,hg2⟩:=BQi hr;exact Ybg b_a0 n_a0 a0 b_a1 n_a1 a1 (hH.slw 0 rfl) (hH.slw 1 rfl) hg2
 ·cases hr)
theorem Yed(N:Nat)(a1:Int)(b_a0:Option (Option Addr))(n_a0:Nat)(a0:Array Value):ansV PZ (mkΓ []) N f9 [] [.l 0,.i .i64 a1] [.sl (.came b_a0) n_a0 a0 72]=(bif decide ((i64.wrap (a1 - (n_a0:Int)))<(0:Int)) then (some (.a (.i .i64 (-1:Int)),.none,true)) else (some (.a (.i .i64 (i64.wrap (a1 - (n_a0:Int)))),.none,true))):=by kernel_rfl
def Zd3(a1:Int)(b_a0:Option (Option Addr))(n_a0:Nat)(a0:Array Value):Int:=(bif decide ((i64.wrap (a1 - (n_a0:Int)))<(0:Int)) then (-1:Int) else (i64.wrap (a1 - (n_a0:Int))))
theorem Ybo(a1:Int)(b_a0:Option (Option Addr))(n_a0:Nat)(a0:Array Value)(h_a1:i64.min<=a1/\a1<=i64.max)(h_a0:a0.size=n_a0*(lay PZ 72).length/\(∀k,k<n_a0->WT PZ 72 (a0.extract (k*(lay PZ 72).length) (k*(lay PZ 72).length+(lay PZ 72).length)))/\n_a0<=9223372036854775807)(hg:(true)=true):ansV PZ (mkΓ []) 1000 f9 [] [.l 0,.i .i64 a1] [.sl (.came b_a0) n_a0 a0 72]=some (.a (.i .i64 (Zd3 a1 b_a0 n_a0 a0)),.none,true):=by
 refine(Yed 1000 a1 b_a0 n_a0 a0).trans ?_;unfold Zd3;revert hg;generalize (decide ((i64.wrap (a1 - (n_a0:Int)))<(0:Int)))=b2;intro hg;cases b2
 ·skip
  first|rfl|exact(nomatch (hg:false=true))
 ·skip
  first|rfl|exact(nomatch (hg:false=true))
def Zm8:Con:=λargs h=>match args,h with|[.l 0,.i .i64 a1],[.sl (.came b_a0) n_a0 a0 72]=>some (.a (.i .i64 (Zd3 a1 b_a0 n_a0 a0)),.none,true)|_,_=>none
theorem Zyu:EntX PZ 9:=Zaj (fn:=f9)
theorem Ygc:Uac (md F) PZ 9 Zm8:=(ansY (N:=1000) mKn f9 []).of (by
 intro ρ h w args vals r e hA hH hr;unfold Zm8 at hr;split at hr
 ·rename_i a1 b_a0 n_a0 a0;obtain⟨rfl,rfl,hg2⟩:=BQi hr;exact Ybo a1 b_a0 n_a0 a0 (hA.rng 1 rfl) (hH.slw 0 rfl) hg2
 ·cases hr)
end
end Go.Proofs.YtdfefaanfiheoaaGreatDoor
