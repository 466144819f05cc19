/- Plans compared, marked and looked at again. -/
import Derived.Test.YtgllknjdblkhnaaGreatDoorProg
import Derived.Test.YtgllknjdblkhnaaGreatDoorCfG
set_option linter.unusedVariables false
set_option linter.unusedSimpArgs false
namespace Go.Proofs.YtgllknjdblkhnaaGreatDoor
open Tryz (f7 f17 f18 f19 f34)
open Go.ChangeShapes Go.WideShapes Go.ChangeAt Go.RowKit Ve Vc
open Tryz renaming prog -> PZ
open IntKind (i64)
set_option maxRecDepth 100000
noncomputable section
open Pop
variable {mn:Md}
theorem Zxr(N:Nat)(a0 a1:Array Value):ansV PZ (mkΓ []) N f34 [] [.g a0 48,.g a1 48] []=(bif ((num a0 0) != (num a1 0)) then (some (.a (.b false),.none,true)) else (bif ((num a0 1) != (num a1 1)) then (some (.a (.b false),.none,true)) else (bif ((num a0 2) != (num a1 2)) then (some (.a (.b false),.none,true)) else (some (.a (.b true),.none,true))))):=by kernel_rfl
theorem Zwb(a0 a1:Array Value)(h_a0:WT PZ 48 a0)(h_a1:WT PZ 48 a1)(hg:(true)=true):ansV PZ (mkΓ []) 1000 f34 [] [.g a0 48,.g a1 48] []=some (.a (.b (Ua2 a0 a1)),.none,true):=by
 have hz:a0.size=3:=by rw[h_a0.layLen];kernel_rfl
 have hy:a1.size=3:=by rw[h_a1.layLen];kernel_rfl
 refine(Zxr 1000 a0 a1).trans ?_;cases hb:Ua2 a0 a1
 ·have hne:=Yko.1 hb;cases h0:(num a0 0 != num a1 0)
  ·skip
   cases h1:(num a0 1 != num a1 1)
   ·skip
    cases h2:(num a0 2 != num a1 2)
    ·skip
     exfalso;refine hne (Zhy λi=> ?_)
     by_cases c0:i=0
     ·subst c0;rw[(h_a0.int (k:=.i8) (o:=0) (by kernel_rfl)).1,(h_a1.int (k:=.i8) (o:=0) (by kernel_rfl)).1,Yoy h0]
     by_cases c1:i=1
     ·subst c1;rw[(h_a0.int (k:=.i8) (o:=1) (by kernel_rfl)).1,(h_a1.int (k:=.i8) (o:=1) (by kernel_rfl)).1,Yoy h1]
     by_cases c2:i=2
     ·subst c2;rw[(h_a0.int (k:=.i16) (o:=2) (by kernel_rfl)).1,(h_a1.int (k:=.i16) (o:=2) (by kernel_rfl)).1,Yoy h2]
     rw[Array.getElem?_eq_none (by omega),Array.getElem?_eq_none (by omega)]
    ·rfl
   ·rfl
  ·rfl
 ·rw[Zl6.1 hb];simp only[bne_self_eq_false,Q2,Zke,Bool.not_true]
def Zbm:Con:=λargs h=>match args,h with|[.g a0 48,.g a1 48],[]=>some (.a (.b (Ua2 a0 a1)),.none,true)|_,_=>none
theorem Zut:EntX PZ 34:=Zak (fn:=f34)
theorem Yaj:Uac mn PZ 34 Zbm:=(ansY (N:=1000) mKn f34 []).of (by
 intro ρ h w args vals r e hA hH hr;unfold Zbm at hr;split at hr
 ·rename_i a0 a1;obtain⟨rfl,rfl,hg2⟩:=BQi hr;exact Zwb a0 a1 (hA.wt 0 rfl) (hA.wt 1 rfl) hg2
 ·cases hr)
def Zdl(b_a0:Option (Option Addr))(n_a0:Nat)(a0:Array Value)(b_a1:Option (Option Addr))(n_a1:Nat)(a1:Array Value):St:=(⟨.a (.l 0)::.a (.l 1)::.a (.u)::.a (.u)::.a (.b false)::.a (.i .i64 0)::.a (.l 0)::.a (.i .i64 (n_a0:Int))::.a (.l 1)::.a (.i .i64 (n_a1:Int))::.a (.b (((n_a0:Int) != (n_a1:Int))))::us 16 ([]),[.sl (.came b_a0) n_a0 a0 48,.sl (.came b_a1) n_a1 a1 48],[]⟩:St)
def Zek:Bool×Int->LS
 |(y0_4,y0_5)=>([.a (.b y0_4),.a (.i .i64 y0_5)],[])
def Zlb:(Stp (Bool×Int) (Bool×Int))->Exit×LS
 |.more t=>(.ret,Zek t)
 |.done t=>((.exit 0),Zek t)
def Zcz(P:Program)(b_a0:Option (Option Addr))(n_a0:Nat)(a0:Array Value)(b_a1:Option (Option Addr))(n_a1:Nat)(a1:Array Value):Bool×Int->Option (Stp (Bool×Int) (Stp (Bool×Int) (Bool×Int)))
 |(y0_4,y0_5)=>bif decide (y0_5<(n_a0:Int)) then (bif (decide (0<=y0_5)&&decide (y0_5<(n_a0:Int))) then (bif (decide (0<=y0_5)&&decide (y0_5<(n_a1:Int))) then (bif (!(Ua2 (a0.extract ((y0_5).toNat*3) (((y0_5).toNat*3)+3)) (a1.extract ((y0_5).toNat*3) (((y0_5).toNat*3)+3)))) then (some (.done (.more (false,y0_5)))) else (some (.more (y0_4,(i64.wrap (y0_5+(1:Int))))))) else (none)) else (none)) else (some (.done (.done (y0_4,y0_5))))
noncomputable abbrev cKCfH17:=codeOf f17
theorem Zwz(N:Nat)(b_a0:Option (Option Addr))(n_a0:Nat)(a0:Array Value)(b_a1:Option (Option Addr))(n_a1:Nat)(a1:Array Value):∀t:Bool×Int,Ual PZ (mkΓ [(34,con Zbm)]) N (cAt cKCfH17 [1,1,0,1,0,0]) (pAt (Uaa cKCfH17 [([4,5],[])]).1 [1,1,0,1,0]) [4,5] [] (Zdl b_a0 n_a0 a0 b_a1 n_a1 a1) (Zek t)=mapS Zek Zlb (Zcz PZ b_a0 n_a0 a0 b_a1 n_a1 a1 t):=by
 rintro⟨y0_4,y0_5⟩
 conv=>rhs;simp only[Zcz,Zax,Zay,Zaw,Zaz,Zek,Zlb]
 kernel_rfl
def Zi5(P:Program)(N:Nat)(b_a0:Option (Option Addr))(n_a0:Nat)(a0:Array Value)(b_a1:Option (Option Addr))(n_a1:Nat)(a1:Array Value)(z0_4:Bool)(z0_5:Int):Option (SV×Eff×Bool):=some (.a (.b z0_4),.none,true)
theorem Zp7(N:Nat)(b_a0:Option (Option Addr))(n_a0:Nat)(a0:Array Value)(b_a1:Option (Option Addr))(n_a1:Nat)(a1:Array Value)(z0_4:Bool)(z0_5:Int):(Uad 0 (kSeq (veC PZ (mkΓ [(34,con Zbm)]) N (cAt cKCfH17 [1,1,1]) (pAt (Uaa cKCfH17 [([4,5],[])]).1 [1,1,1]) (SV×Eff×Bool)) (finK PZ [.sl (.came b_a0) n_a0 a0 48,.sl (.came b_a1) n_a1 a1 48] [.tmp 4]))) .ret (left (writes (cAt cKCfH17 [1,1,0,1,0,0])) [4,5] [] (Zdl b_a0 n_a0 a0 b_a1 n_a1 a1) ([.a (.b z0_4),.a (.i .i64 z0_5)],[]))=Zi5 PZ N b_a0 n_a0 a0 b_a1 n_a1 a1 z0_4 z0_5:=by kernel_rfl
def Zi0(P:Program)(N:Nat)(b_a0:Option (Option Addr))(n_a0:Nat)(a0:Array Value)(b_a1:Option (Option Addr))(n_a1:Nat)(a1:Array Value)(z0_4:Bool)(z0_5:Int):Option (SV×Eff×Bool):=some (.a (.b true),.none,true)
theorem Zqo(N:Nat)(b_a0:Option (Option Addr))(n_a0:Nat)(a0:Array Value)(b_a1:Option (Option Addr))(n_a1:Nat)(a1:Array Value)(z0_4:Bool)(z0_5:Int):(Uad 0 (kSeq (veC PZ (mkΓ [(34,con Zbm)]) N (cAt cKCfH17 [1,1,1]) (pAt (Uaa cKCfH17 [([4,5],[])]).1 [1,1,1]) (SV×Eff×Bool)) (finK PZ [.sl (.came b_a0) n_a0 a0 48,.sl (.came b_a1) n_a1 a1 48] [.tmp 4]))) (.exit 0) (left (writes (cAt cKCfH17 [1,1,0,1,0,0])) [4,5] [] (Zdl b_a0 n_a0 a0 b_a1 n_a1 a1) ([.a (.b z0_4),.a (.i .i64 z0_5)],[]))=Zi0 PZ N b_a0 n_a0 a0 b_a1 n_a1 a1 z0_4 z0_5:=by kernel_rfl
theorem Zyv(N:Nat)(b_a0:Option (Option Addr))(n_a0:Nat)(a0:Array Value)(b_a1:Option (Option Addr))(n_a1:Nat)(a1:Array Value):Uah (Uab (Ual PZ (mkΓ [(34,con Zbm)]) N (cAt cKCfH17 [1,1,0,1,0,0]) (pAt (Uaa cKCfH17 [([4,5],[])]).1 [1,1,0,1,0]) [4,5] [] (Zdl b_a0 n_a0 a0 b_a1 n_a1 a1)) N ([.a (.b false),.a (.i .i64 0)],[])) (λe s=>(Uad 0 (kSeq (veC PZ (mkΓ [(34,con Zbm)]) N (cAt cKCfH17 [1,1,1]) (pAt (Uaa cKCfH17 [([4,5],[])]).1 [1,1,1]) (SV×Eff×Bool)) (finK PZ [.sl (.came b_a0) n_a0 a0 48,.sl (.came b_a1) n_a1 a1 48] [.tmp 4]))) e (left (writes (cAt cKCfH17 [1,1,0,1,0,0])) [4,5] [] (Zdl b_a0 n_a0 a0 b_a1 n_a1 a1) s))=Uao (Uab (Zcz PZ b_a0 n_a0 a0 b_a1 n_a1 a1) N (false,(0:Int))) (st2 (λx=>Zi5 PZ N b_a0 n_a0 a0 b_a1 n_a1 a1 x.1 x.2) (λx=>Zi0 PZ N b_a0 n_a0 a0 b_a1 n_a1 a1 x.1 x.2)):=by refine Za2 Zek Zlb _ _ (Zwz N b_a0 n_a0 a0 b_a1 n_a1 a1) N (false,(0:Int)) _ _ ?_;intro x;cases x with|more x=>exact Zp7 N b_a0 n_a0 a0 b_a1 n_a1 a1 x.1 x.2|done x=>exact Zqo N b_a0 n_a0 a0 b_a1 n_a1 a1 x.1 x.2
theorem Zv6(N:Nat)(b_a0:Option (Option Addr))(n_a0:Nat)(a0:Array Value)(b_a1:Option (Option Addr))(n_a1:Nat)(a1:Array Value):ansV PZ (mkΓ [(34,con Zbm)]) N f17 [([4,5],[])] [.l 0,.l 1] [.sl (.came b_a0) n_a0 a0 48,.sl (.came b_a1) n_a1 a1 48]=(bif ((n_a0:Int) != (n_a1:Int)) then (some (.a (.b false),.none,true)) else (Uao (Uab (Zcz PZ b_a0 n_a0 a0 b_a1 n_a1 a1) N (false,(0:Int))) (st2 (λx=>Zi5 PZ N b_a0 n_a0 a0 b_a1 n_a1 a1 x.1 x.2) (λx=>Zi0 PZ N b_a0 n_a0 a0 b_a1 n_a1 a1 x.1 x.2)))):=by
 conv=>rhs;simp only[<- Zyv N b_a0 n_a0 a0 b_a1 n_a1 a1]
 kernel_rfl
theorem Zt9(b_a0:Option (Option Addr))(n_a0:Nat)(a0:Array Value)(b_a1:Option (Option Addr))(n_a1:Nat)(a1:Array Value)(h_a0:a0.size=n_a0*(lay PZ 48).length/\(∀k,k<n_a0->WT PZ 48 (a0.extract (k*(lay PZ 48).length) (k*(lay PZ 48).length+(lay PZ 48).length)))/\n_a0<=9223372036854775807)(h_a1:a1.size=n_a1*(lay PZ 48).length/\(∀k,k<n_a1->WT PZ 48 (a1.extract (k*(lay PZ 48).length) (k*(lay PZ 48).length+(lay PZ 48).length)))/\n_a1<=9223372036854775807)(hg:(true)=true):ansV PZ (mkΓ [(34,con Zbm)]) 18446744073709551616 f17 [([4,5],[])] [.l 0,.l 1] [.sl (.came b_a0) n_a0 a0 48,.sl (.came b_a1) n_a1 a1 48]=some (.a (.b ((decide (n_a0=n_a1)&&Ua2 a0 a1))),.none,true):=by
 have hm:(lay PZ 48).length=3:=by kernel_rfl
 obtain⟨s1,s2,s3⟩:=h_a0;obtain⟨t1,t2,t3⟩:=h_a1;rw[hm]at s1 s2 t1 t2;have hq:(lay PZ 48)[0]?=some 0:=by kernel_rfl
 refine(Zv6 18446744073709551616 b_a0 n_a0 a0 b_a1 n_a1 a1).trans ?_
 by_cases hl:n_a0=n_a1
 case neg=>
  rw[Q4 hl,show ((n_a0:Int) != (n_a1:Int))=true from bne_iff_ne.2 (by omega)];rfl
 subst hl;rw[Q3 rfl,show ((n_a0:Int) != (n_a0:Int))=false from bne_self_eq_false _];simp only[Q2,Bool.true_and];have hb:Ua2 a0 a1=true ↔ ∀k,k<n_a0->(λk=>Ua2 (a0.extract (k*3) (k*3+3)) (a1.extract (k*3) (k*3+3))) k=true:=by
  constructor
  ·intro h k hk;rw[Zl6.1 h];exact Zke _
  ·intro h;refine Zl6.2 ?_;exact Yib (n:=n_a0) (m:=3) (by omega) s1 t1 (λk hk=>Zl6.1 (h k hk))
 refine(Ynj (g:=Zcz PZ b_a0 n_a0 a0 b_a1 n_a0 a1) (λk=>(false,(k:Int))) (λk=>Ua2 (a0.extract (k*3) (k*3+3)) (a1.extract (k*3) (k*3+3))) n_a0 (N:=18446744073709551616) (xd:=.done (false,(n_a0:Int))) (by omega) (λk hk hp=>by
  have h1:decide ((k:Int)<(n_a0:Int))=true:=Q3 (by omega);have h0:decide (0<=(k:Int))=true:=Q3 (by omega);have h3:i64.wrap ((k:Int)+1)=((k+1:Nat):Int):=by rw[IntWalk.i64_in _ (by omega)];omega
  have hp':Ua2 (a0.extract (k*3) (k*3+3)) (a1.extract (k*3) (k*3+3))=true:=hp;simp only[Zcz,h1,h0,Bool.and_self,Q9,Q1,h3,hp',Bool.not_true,Q2]) (by
  have h1:decide ((n_a0:Int)<(n_a0:Int))=false:=Q4 (by omega);simp only[Zcz,h1,Q2]) (Ua2 a0 a1) hb (some (.a (.b true),.none,true)) (some (.a (.b false),.none,true)) rfl (λk hk hp=>by
  refine⟨.more (false,(k:Int)),?_,rfl⟩;have h1:decide ((k:Int)<(n_a0:Int))=true:=Q3 (by omega);have h0:decide (0<=(k:Int))=true:=Q3 (by omega);have hp':Ua2 (a0.extract (k*3) (k*3+3)) (a1.extract (k*3) (k*3+3))=false:=hp;simp only[Zcz,h1,h0,Bool.and_self,Q9,Q1,hp',Bool.not_false])).trans ?_
 cases Ua2 a0 a1<;>rfl
def Zhb:Con:=λargs h=>match args,h with|[.l 0,.l 1],[.sl (.came b_a0) n_a0 a0 48,.sl (.came b_a1) n_a1 a1 48]=>some (.a (.b ((decide (n_a0=n_a1)&&Ua2 a0 a1))),.none,true)|_,_=>none
theorem Zr7:EntX PZ 17:=Zak (fn:=f17)
theorem Zxu:Uac mn PZ 17 Zhb:=(ansY (N:=18446744073709551616) (mKc (Zag Yaj) Zut mKn) f17 [([4,5],[])]).of (by
 intro ρ h w args vals r e hA hH hr;unfold Zhb at hr;split at hr
 ·rename_i b_a0 n_a0 a0 b_a1 n_a1 a1;obtain⟨rfl,rfl,hg2⟩:=BQi hr;exact Zt9 b_a0 n_a0 a0 b_a1 n_a1 a1 (hH.slw 0 rfl) (hH.slw 1 rfl) hg2
 ·cases hr)
theorem Yc5(N:Nat)(a0 a1:Array Value)(bR:Option (Option Addr))(nR:Nat)(aR:Array Value)(bQ:Option (Option Addr))(nQ:Nat)(aQ:Array Value):ansV PZ (mkΓ [(17,con Zhb)]) N f7 [] [.r a0 31 [(2,0)],.r a1 31 [(2,1)]] [.sl (.came bR) nR aR 48,.sl (.came bQ) nQ aQ 48]=(bif ((num a0 0) != (num a1 0)) then (some (.a (.b false),.none,true)) else (bif ((num a0 1) != (num a1 1)) then (some (.a (.b false),.none,true)) else (bif (!((decide (nR=nQ)&&Ua2 aR aQ))) then (some (.a (.b false),.none,true)) else (some (.a (.b true),.none,true))))):=by kernel_rfl
def Zbp(a0 a1:Array Value)(bR:Option (Option Addr))(nR:Nat)(aR:Array Value)(bQ:Option (Option Addr))(nQ:Nat)(aQ:Array Value):Bool:=(bif ((num a0 0) != (num a1 0)) then false else (bif ((num a0 1) != (num a1 1)) then false else (bif (!((decide (nR=nQ)&&Ua2 aR aQ))) then false else true)))
theorem Ybr(a0 a1:Array Value)(bR:Option (Option Addr))(nR:Nat)(aR:Array Value)(bQ:Option (Option Addr))(nQ:Nat)(aQ:Array Value)(h_a0:WT PZ 31 a0)(h_a1:WT PZ 31 a1)(h_a0x2:aR.size=nR*(lay PZ 48).length/\(∀k,k<nR->WT PZ 48 (aR.extract (k*(lay PZ 48).length) (k*(lay PZ 48).length+(lay PZ 48).length)))/\nR<=9223372036854775807)(h_a1x2:aQ.size=nQ*(lay PZ 48).length/\(∀k,k<nQ->WT PZ 48 (aQ.extract (k*(lay PZ 48).length) (k*(lay PZ 48).length+(lay PZ 48).length)))/\nQ<=9223372036854775807)(hg:(true)=true):ansV PZ (mkΓ [(17,con Zhb)]) 1000 f7 [] [.r a0 31 [(2,0)],.r a1 31 [(2,1)]] [.sl (.came bR) nR aR 48,.sl (.came bQ) nQ aQ 48]=some (.a (.b ((Zbp a0 a1 bR nR aR bQ nQ aQ))),.none,true):=by
 refine(Yc5 1000 a0 a1 bR nR aR bQ nQ aQ).trans ?_;unfold Zbp;revert hg;generalize (((num a0 0) != (num a1 0)))=b2;intro hg;cases b2
 ·skip
  revert hg;generalize (((num a0 1) != (num a1 1)))=b4;intro hg;cases b4
  ·skip
   revert hg;generalize ((!((decide (nR=nQ)&&Ua2 aR aQ))))=b6;intro hg;cases b6
   ·skip
    first|rfl|exact(nomatch (hg:false=true))
   ·skip
    first|rfl|exact(nomatch (hg:false=true))
  ·skip
   first|rfl|exact(nomatch (hg:false=true))
 ·skip
  first|rfl|exact(nomatch (hg:false=true))
def Zm8:Con:=λargs h=>match args,h with|[.r a0 31 [(2,0)],.r a1 31 [(2,1)]],[.sl (.came bR) nR aR 48,.sl (.came bQ) nQ aQ 48]=>some (.a (.b ((Zbp a0 a1 bR nR aR bQ nQ aQ))),.none,true)|_,_=>none
theorem Zz0:EntX PZ 7:=Zak (fn:=f7)
theorem Yey:Uac mn PZ 7 Zm8:=(ansY (N:=1000) (mKc (Zag Zxu) Zr7 mKn) f7 []).of (by
 intro ρ h w args vals r e hA hH hr;unfold Zm8 at hr;split at hr
 ·rename_i a0 a1 bR nR aR bQ nQ aQ;obtain⟨rfl,rfl,hg2⟩:=BQi hr;exact Ybr a0 a1 bR nR aR bQ nQ aQ (hA.wtr 0 rfl) (hA.wtr 1 rfl) (hH.slw 0 rfl) (hH.slw 1 rfl) hg2
 ·cases hr)
def celR(k:Int)(i:Nat):Value:=bif Nat.beq (i % 3) 2 then .int .i16 (IntKind.i16.wrap (k+(i:Int))) else .int .i8 (IntKind.i8.wrap (k+(i:Int)))
def mkR(n:Nat)(k:Int):Array Value:=⟨(List.range n).map (celR k)⟩
theorem Yl2(n:Nat)(k:Int):(mkR n k).size=n:=by simp[mkR]
theorem Yf4{n:Nat}{k:Int}{i:Nat}(h:i<n):(mkR n k)[i]?=some (celR k i):=by unfold mkR;simp[h]
theorem Ypa(k:Int)(i:Nat):celR k (i*3)=.int .i8 (IntKind.i8.wrap (k+((i*3:Nat):Int)))/\celR k (i*3+1)=.int .i8 (IntKind.i8.wrap (k+((i*3+1:Nat):Int)))/\celR k (i*3+2)=.int .i16 (IntKind.i16.wrap (k+((i*3+2:Nat):Int))):=by unfold celR;rw[show (i*3) % 3=0 by omega,show (i*3+1) % 3=1 by omega,show (i*3+2) % 3=2 by omega];exact⟨rfl,rfl,rfl⟩
theorem mkR_num{n:Nat}{k:Int}{i:Nat}(h:i*3+2<n):num (mkR n k) (i*3)=IntKind.i8.wrap (k+((i*3:Nat):Int))/\num (mkR n k) (i*3+1)=IntKind.i8.wrap (k+((i*3+1:Nat):Int))/\num (mkR n k) (i*3+2)=IntKind.i16.wrap (k+((i*3+2:Nat):Int)):=by obtain⟨c0,c1,c2⟩:=Ypa k i;unfold num;rw[Yf4 (show i*3<n by omega),Yf4 (show i*3+1<n by omega),Yf4 h,c0,c1,c2];exact⟨rfl,rfl,rfl⟩
def Zds(a1:Int)(n_a0:Nat)(a0:Array Value):St:=(⟨.a (.l 0)::.a (.i .i64 a1)::.a (.u)::.a (.u)::.a (.i .i64 0)::.a (.i .i64 0)::us 31 ([]),[.sl .lent n_a0 a0 48],[]⟩:St)
def Zeu(n_a0:Nat):Int×Int×Array Value->LS
 |(y0_1,y0_5,r0_0)=>([.a (.i .i64 y0_1),.a (.i .i64 y0_5)],[.sl .lent n_a0 r0_0 48])
def Zi1(n_a0:Nat):Int×Int×Array Value->Exit×LS
 |t=>((.exit 0),(Zeu n_a0) t)
def Zb5(P:Program)(a1:Int)(n_a0:Nat)(a0:Array Value):Int×Int×Array Value->Option (Stp (Int×Int×Array Value) (Int×Int×Array Value))
 |(y0_1,y0_5,r0_0)=>bif decide (y0_5<(n_a0:Int)) then (bif (decide (0<=y0_5)&&decide (y0_5<(n_a0:Int))) then (bif (decide (0<=y0_5)&&decide (y0_5<(n_a0:Int))) then (bif (decide (0<=y0_5)&&decide (y0_5<(n_a0:Int))) then (some (.more ((i64.wrap ((i64.wrap ((i64.wrap (y0_1+(1:Int)))+(1:Int)))+(1:Int))),(i64.wrap (y0_5+(1:Int))),(((r0_0.setIfInBounds (((y0_5).toNat*3)+0) (.int .i8 (IntKind.i8.wrap y0_1))).setIfInBounds (((y0_5).toNat*3)+1) (.int .i8 (IntKind.i8.wrap (i64.wrap (y0_1+(1:Int)))))).setIfInBounds (((y0_5).toNat*3)+2) (.int .i16 (IntKind.i16.wrap (i64.wrap ((i64.wrap (y0_1+(1:Int)))+(1:Int))))))))) else (none)) else (none)) else (none)) else (some (.done (y0_1,y0_5,r0_0)))
noncomputable abbrev cKCfH18:=codeOf f18
theorem Ztx(N:Nat)(a1:Int)(n_a0:Nat)(a0:Array Value):∀t:Int×Int×Array Value,Ual PZ (mkΓ []) N (cAt cKCfH18 [1,0,1,0,0]) (pAt (Uaa cKCfH18 [([1,5],[0])]).1 [1,0,1,0]) [1,5] [0] (Zds a1 n_a0 a0) ((Zeu n_a0) t)=mapS (Zeu n_a0) (Zi1 n_a0) (Zb5 PZ a1 n_a0 a0 t):=by
 rintro⟨y0_1,y0_5,r0_0⟩
 conv=>rhs;simp only[Zb5,Zax,Zay,Zaw,Zaz,Zeu,Zi1]
 kernel_rfl
def Zfn(P:Program)(N:Nat)(a1:Int)(n_a0:Nat)(a0:Array Value)(z0_1:Int)(z0_5:Int)(q0_0:Array Value):Option (SV×Eff×Bool):=bif (Nat.blt 0 n_a0) then (some (.a (.i .i64 z0_1),.set 0 (.sl .lent n_a0 q0_0 48),true)) else (none)
theorem Zol(N:Nat)(a1:Int)(n_a0:Nat)(a0:Array Value)(z0_1:Int)(z0_5:Int)(q0_0:Array Value):(Uad 0 (kSeq (veC PZ (mkΓ []) N (cAt cKCfH18 [1,1]) (pAt (Uaa cKCfH18 [([1,5],[0])]).1 [1,1]) (SV×Eff×Bool)) (finK PZ [.sl .lent n_a0 a0 48] [.tmp 4]))) (.exit 0) (left (writes (cAt cKCfH18 [1,0,1,0,0])) [1,5] [0] (Zds a1 n_a0 a0) ([.a (.i .i64 z0_1),.a (.i .i64 z0_5)],[.sl .lent n_a0 q0_0 48]))=Zfn PZ N a1 n_a0 a0 z0_1 z0_5 q0_0:=by kernel_rfl
theorem Zuj(N:Nat)(a1:Int)(n_a0:Nat)(a0:Array Value):Uah (Uab (Ual PZ (mkΓ []) N (cAt cKCfH18 [1,0,1,0,0]) (pAt (Uaa cKCfH18 [([1,5],[0])]).1 [1,0,1,0]) [1,5] [0] (Zds a1 n_a0 a0)) N ([.a (.i .i64 a1),.a (.i .i64 0)],[.sl .lent n_a0 a0 48])) (λe s=>(Uad 0 (kSeq (veC PZ (mkΓ []) N (cAt cKCfH18 [1,1]) (pAt (Uaa cKCfH18 [([1,5],[0])]).1 [1,1]) (SV×Eff×Bool)) (finK PZ [.sl .lent n_a0 a0 48] [.tmp 4]))) e (left (writes (cAt cKCfH18 [1,0,1,0,0])) [1,5] [0] (Zds a1 n_a0 a0) s))=Uao (Uab (Zb5 PZ a1 n_a0 a0) N (a1,(0:Int),a0)) (λx=>Zfn PZ N a1 n_a0 a0 x.1 x.2.1 x.2.2):=by refine Za2 (Zeu n_a0) (Zi1 n_a0) _ _ (Ztx N a1 n_a0 a0) N (a1,(0:Int),a0) _ _ ?_;intro x;exact Zol N a1 n_a0 a0 x.1 x.2.1 x.2.2
theorem Zsq(N:Nat)(a1:Int)(n_a0:Nat)(a0:Array Value):ansV PZ (mkΓ []) N f18 [([1,5],[0])] [.l 0,.i .i64 a1] [.sl .lent n_a0 a0 48]=(Uao (Uab (Zb5 PZ a1 n_a0 a0) N (a1,(0:Int),a0)) (λx=>Zfn PZ N a1 n_a0 a0 x.1 x.2.1 x.2.2)):=by
 conv=>rhs;simp only[<- Zuj N a1 n_a0 a0]
 kernel_rfl
theorem Zqf(a1:Int)(n_a0:Nat)(a0:Array Value)(h_a1:i64.min<=a1/\a1<=i64.max)(h_a0:a0.size=n_a0*(lay PZ 48).length/\(∀k,k<n_a0->WT PZ 48 (a0.extract (k*(lay PZ 48).length) (k*(lay PZ 48).length+(lay PZ 48).length)))/\n_a0<=9223372036854775807)(hc0:(Nat.beq n_a0 0)=false)(hg:(((Nat.ble n_a0 2000000)&&(decide (0<=a1)&&decide (a1<=1000000))))=true):ansV PZ (mkΓ []) 18446744073709551616 f18 [([1,5],[0])] [.l 0,.i .i64 a1] [.sl .lent n_a0 a0 48]=some (.a (.i .i64 (a1+((n_a0*3:Nat):Int))),.set 0 (.sl .lent n_a0 (mkR (n_a0*3) a1) 48),true):=by
 rw[Q7,Q7]at hg;have hn:n_a0<=2000000:=Nat.le_of_ble_eq_true hg.1;have hk0:0<=a1/\a1<=1000000:=⟨of_decide_eq_true hg.2.1,of_decide_eq_true hg.2.2⟩;have hm:(lay PZ 48).length=3:=by kernel_rfl
 obtain⟨s1,-,-⟩:=h_a0;rw[hm]at s1;have hs:(mkR (n_a0*3) a1).size=a0.size:=by rw[Yl2,s1]
 have hpos:Nat.blt 0 n_a0=true:=by
  have:n_a0≠0:=λh=>by rw[h]at hc0;cases hc0
  simp[Nat.blt];omega
 have h:=Ze0 (g:=Zb5 PZ a1 n_a0 a0) (λi=>(a1+((i*3:Nat):Int),(i:Int),upto (mkR (n_a0*3) a1) a0 (i*3))) (m:=n_a0) (x:=(a1+((n_a0*3:Nat):Int),(n_a0:Int),upto (mkR (n_a0*3) a1) a0 (n_a0*3))) (N:=18446744073709551616) (λi hi=>by
  have h1:decide ((i:Int)<(n_a0:Int))=true:=Q3 (by omega);have h2:decide (0<=(i:Int))=true:=Q3 (by omega);have h3:i64.wrap (a1+((i*3:Nat):Int)+1)=a1+((i*3+1:Nat):Int):=by rw[IntWalk.i64_in _ (by omega)];omega
  have h4:i64.wrap (a1+((i*3+1:Nat):Int)+1)=a1+((i*3+2:Nat):Int):=by rw[IntWalk.i64_in _ (by omega)];omega
  have h9:i64.wrap (a1+((i*3+2:Nat):Int)+1)=a1+(((i+1)*3:Nat):Int):=by rw[IntWalk.i64_in _ (by omega)];omega
  have h5:i64.wrap ((i:Int)+1)=((i+1:Nat):Int):=by rw[IntWalk.i64_in _ (by omega)];omega
  obtain⟨c0,c1,c2⟩:=Ypa a1 i;have h6:(upto (mkR (n_a0*3) a1) a0 (i*3)).setIfInBounds (i*3+0) (.int .i8 (IntKind.i8.wrap (a1+((i*3:Nat):Int))))=upto (mkR (n_a0*3) a1) a0 (i*3+1):=Zqt hs (by rw[Yf4 (by omega),c0]);have h7:(upto (mkR (n_a0*3) a1) a0 (i*3+1)).setIfInBounds (i*3+1) (.int .i8 (IntKind.i8.wrap (a1+((i*3+1:Nat):Int))))=upto (mkR (n_a0*3) a1) a0 (i*3+2):=Zqt hs (by rw[Yf4 (by omega),c1]);have h8:(upto (mkR (n_a0*3) a1) a0 (i*3+2)).setIfInBounds (i*3+2) (.int .i16 (IntKind.i16.wrap (a1+((i*3+2:Nat):Int))))=upto (mkR (n_a0*3) a1) a0 ((i+1)*3):=by rw[show (i+1)*3=i*3+2+1 by omega];exact Zqt hs (by rw[Yf4 (by omega),c2])
  simp only[Zb5,h1,h2,h3,h4,h9,h5,h6,h7,h8,Q9,Bool.and_self,Q1]) (by
  have h1:decide ((n_a0:Int)<(n_a0:Int))=false:=Q4 (by omega);simp only[Zb5,h1,Q2]) (by omega)
 refine(Zsq 18446744073709551616 a1 n_a0 a0).trans ?_;have hz:upto (mkR (n_a0*3) a1) a0 0=a0:=Zrp hs;have hl:upto (mkR (n_a0*3) a1) a0 (n_a0*3)=mkR (n_a0*3) a1:=Zwo hs (Yl2 _ _);have h':Uab (Zb5 PZ a1 n_a0 a0) 18446744073709551616 (a1,(0:Int),a0)=some (a1+((n_a0*3:Nat):Int),(n_a0:Int),mkR (n_a0*3) a1):=by
  have h2:=h;simp only[Nat.zero_mul,hz,hl]at h2;have e:a1+((0:Nat):Int)=a1:=by omega
  rw[e]at h2;exact h2
 rw[h'];simp only[Uao,Zfn,hpos,Q1]
theorem Zqh(a1:Int)(n_a0:Nat)(a0:Array Value)(h_a1:i64.min<=a1/\a1<=i64.max)(h_a0:a0.size=n_a0*(lay PZ 48).length/\(∀k,k<n_a0->WT PZ 48 (a0.extract (k*(lay PZ 48).length) (k*(lay PZ 48).length+(lay PZ 48).length)))/\n_a0<=9223372036854775807)(hc0:(Nat.beq n_a0 0)=true)(hg:(true)=true):ansV PZ (mkΓ []) 1000 f18 [([1,5],[])] [.l 0,.i .i64 a1] [.sl .lent n_a0 a0 48]=some (.a (.i .i64 a1),.none,true):=by obtain rfl:n_a0=0:=Nat.eq_of_beq_eq_true hc0;kernel_rfl
def Zht:SCon:=λargs h=>match args,h with|[.l 0,.i .i64 a1],[.sl .lent n_a0 a0 48]=>.two (Nat.beq n_a0 0) (.one (some (.a (.i .i64 a1),.none,true))) (.one (some (.a (.i .i64 (a1+((n_a0*3:Nat):Int))),.set 0 (.sl .lent n_a0 (mkR (n_a0*3) a1) 48),((Nat.ble n_a0 2000000)&&(decide (0<=a1)&&decide (a1<=1000000))))))|_,_=>.one none
theorem Zkp:EntX PZ 18:=Zak (fn:=f18)
theorem Zl7:Uac mn PZ 18 (λargs h=>Uag (Zht args h)):=by
 intro ρ h w args vals r e hn hr hA hH;dsimp only at hr;unfold Zht at hr;split at hr
 ·rename_i a1 n_a0 a0;simp only[Uag]at hr;cases hc0:(Nat.beq n_a0 0)
  ·rw[hc0]at hr;simp only[Uag,Q1,Q2]at hr;obtain⟨rfl,rfl,hg2⟩:=BQi hr;exact((ansY (N:=18446744073709551616) mKn f18 [([1,5],[0])])) ρ _ w _ vals _ _ hn ((Zqf a1 n_a0 a0 (hA.rng 1 rfl) (hH.slw 0 rfl) hc0 hg2)) hA hH
  ·rw[hc0]at hr;simp only[Uag,Q1,Q2]at hr;obtain⟨rfl,rfl,hg2⟩:=BQi hr;exact((ansY (N:=1000) mKn f18 [([1,5],[])])) ρ _ w _ vals _ _ hn ((Zqh a1 n_a0 a0 (hA.rng 1 rfl) (hH.slw 0 rfl) hc0 hg2)) hA hH
 ·simp only[Uag]at hr;cases hr
def Zcw(a1:Int)(b_a0:Option (Option Addr))(n_a0:Nat)(a0:Array Value):St:=(⟨.a (.l 0)::.a (.i .i64 a1)::.a (.u)::.a (.u)::.a (.i .i64 0)::.a (.i .i64 0)::us 37 ([]),[.sl (.came b_a0) n_a0 a0 48],[]⟩:St)
def Zdr:Int×Int×Int->LS
 |(y0_1,y0_4,y0_5)=>([.a (.i .i64 y0_1),.a (.i .i64 y0_4),.a (.i .i64 y0_5)],[])
def Zjd:(Stp (Int×Int×Int) (Int×Int×Int))->Exit×LS
 |.more t=>(.ret,Zdr t)
 |.done t=>((.exit 0),Zdr t)
def Zb7(P:Program)(a1:Int)(b_a0:Option (Option Addr))(n_a0:Nat)(a0:Array Value):Int×Int×Int->Option (Stp (Int×Int×Int) (Stp (Int×Int×Int) (Int×Int×Int)))
  |(y0_1,y0_4,y0_5)=>bif decide (y0_5<(n_a0:Int)) then (bif (decide (0<=y0_5)&&decide (y0_5<(n_a0:Int))) then (bif ((num a0 (((y0_5).toNat*3)+0)) != (IntKind.i8.wrap y0_1)) then (some (.done (.more (y0_1,(-1:Int),y0_5)))) else (bif (decide (0<=y0_5)&&decide (y0_5<(n_a0:Int))) then (bif ((num a0 (((y0_5).toNat*3)+1)) != (IntKind.i8.wrap (i64.wrap (y0_1+(1:Int))))) then (some (.done (.more ((i64.wrap (y0_1+(1:Int))),(-1:Int),y0_5)))) else (bif (decide (0<=y0_5)&&decide (y0_5<(n_a0:Int))) then (bif ((num a0 (((y0_5).toNat*3)+2)) != (IntKind.i16.wrap (i64.wrap ((i64.wrap (y0_1+(1:Int)))+(1:Int))))) then (some (.done (.more ((i64.wrap ((i64.wrap (y0_1+(1:Int)))+(1:Int))),(-1:Int),y0_5)))) else (some (.more ((i64.wrap ((i64.wrap ((i64.wrap (y0_1+(1:Int)))+(1:Int)))+(1:Int))),y0_4,(i64.wrap (y0_5+(1:Int))))))) else (none))) else (none))) else (none)) else (some (.done (.done (y0_1,y0_4,y0_5))))
noncomputable abbrev cKCfH19:=codeOf f19
theorem Ztt(N:Nat)(a1:Int)(b_a0:Option (Option Addr))(n_a0:Nat)(a0:Array Value):∀t:Int×Int×Int,Ual PZ (mkΓ []) N (cAt cKCfH19 [1,0,1,0,0]) (pAt (Uaa cKCfH19 [([1,4,5],[])]).1 [1,0,1,0]) [1,4,5] [] (Zcw a1 b_a0 n_a0 a0) (Zdr t)=mapS Zdr Zjd (Zb7 PZ a1 b_a0 n_a0 a0 t):=by
  rintro⟨y0_1,y0_4,y0_5⟩
  conv=>rhs;simp only[Zb7,Zax,Zay,Zaw,Zaz,Zdr,Zjd]
  kernel_rfl
def Zh0(P:Program)(N:Nat)(a1:Int)(b_a0:Option (Option Addr))(n_a0:Nat)(a0:Array Value)(z0_1:Int)(z0_4:Int)(z0_5:Int):Option (SV×Eff×Bool):=some (.a (.i .i64 z0_4),.none,true)
theorem Zo3(N:Nat)(a1:Int)(b_a0:Option (Option Addr))(n_a0:Nat)(a0:Array Value)(z0_1:Int)(z0_4:Int)(z0_5:Int):(Uad 0 (kSeq (veC PZ (mkΓ []) N (cAt cKCfH19 [1,1]) (pAt (Uaa cKCfH19 [([1,4,5],[])]).1 [1,1]) (SV×Eff×Bool)) (finK PZ [.sl (.came b_a0) n_a0 a0 48] [.tmp 4]))) .ret (left (writes (cAt cKCfH19 [1,0,1,0,0])) [1,4,5] [] (Zcw a1 b_a0 n_a0 a0) ([.a (.i .i64 z0_1),.a (.i .i64 z0_4),.a (.i .i64 z0_5)],[]))=Zh0 PZ N a1 b_a0 n_a0 a0 z0_1 z0_4 z0_5:=by kernel_rfl
def Zh1(P:Program)(N:Nat)(a1:Int)(b_a0:Option (Option Addr))(n_a0:Nat)(a0:Array Value)(z0_1:Int)(z0_4:Int)(z0_5:Int):Option (SV×Eff×Bool):=some (.a (.i .i64 z0_1),.none,true)
theorem Zok(N:Nat)(a1:Int)(b_a0:Option (Option Addr))(n_a0:Nat)(a0:Array Value)(z0_1:Int)(z0_4:Int)(z0_5:Int):(Uad 0 (kSeq (veC PZ (mkΓ []) N (cAt cKCfH19 [1,1]) (pAt (Uaa cKCfH19 [([1,4,5],[])]).1 [1,1]) (SV×Eff×Bool)) (finK PZ [.sl (.came b_a0) n_a0 a0 48] [.tmp 4]))) (.exit 0) (left (writes (cAt cKCfH19 [1,0,1,0,0])) [1,4,5] [] (Zcw a1 b_a0 n_a0 a0) ([.a (.i .i64 z0_1),.a (.i .i64 z0_4),.a (.i .i64 z0_5)],[]))=Zh1 PZ N a1 b_a0 n_a0 a0 z0_1 z0_4 z0_5:=by kernel_rfl
theorem Zum(N:Nat)(a1:Int)(b_a0:Option (Option Addr))(n_a0:Nat)(a0:Array Value):Uah (Uab (Ual PZ (mkΓ []) N (cAt cKCfH19 [1,0,1,0,0]) (pAt (Uaa cKCfH19 [([1,4,5],[])]).1 [1,0,1,0]) [1,4,5] [] (Zcw a1 b_a0 n_a0 a0)) N ([.a (.i .i64 a1),.a (.i .i64 0),.a (.i .i64 0)],[])) (λe s=>(Uad 0 (kSeq (veC PZ (mkΓ []) N (cAt cKCfH19 [1,1]) (pAt (Uaa cKCfH19 [([1,4,5],[])]).1 [1,1]) (SV×Eff×Bool)) (finK PZ [.sl (.came b_a0) n_a0 a0 48] [.tmp 4]))) e (left (writes (cAt cKCfH19 [1,0,1,0,0])) [1,4,5] [] (Zcw a1 b_a0 n_a0 a0) s))=Uao (Uab (Zb7 PZ a1 b_a0 n_a0 a0) N (a1,(0:Int),(0:Int))) (st2 (λx=>Zh0 PZ N a1 b_a0 n_a0 a0 x.1 x.2.1 x.2.2) (λx=>Zh1 PZ N a1 b_a0 n_a0 a0 x.1 x.2.1 x.2.2)):=by refine Za2 Zdr Zjd _ _ (Ztt N a1 b_a0 n_a0 a0) N (a1,(0:Int),(0:Int)) _ _ ?_;intro x;cases x with|more x=>exact Zo3 N a1 b_a0 n_a0 a0 x.1 x.2.1 x.2.2|done x=>exact Zok N a1 b_a0 n_a0 a0 x.1 x.2.1 x.2.2
theorem Zsz(N:Nat)(a1:Int)(b_a0:Option (Option Addr))(n_a0:Nat)(a0:Array Value):ansV PZ (mkΓ []) N f19 [([1,4,5],[])] [.l 0,.i .i64 a1] [.sl (.came b_a0) n_a0 a0 48]=(Uao (Uab (Zb7 PZ a1 b_a0 n_a0 a0) N (a1,(0:Int),(0:Int))) (st2 (λx=>Zh0 PZ N a1 b_a0 n_a0 a0 x.1 x.2.1 x.2.2) (λx=>Zh1 PZ N a1 b_a0 n_a0 a0 x.1 x.2.1 x.2.2))):=by
 conv=>rhs;simp only[<- Zum N a1 b_a0 n_a0 a0]
 kernel_rfl
theorem Zre(a1:Int)(b_a0:Option (Option Addr))(n_a0:Nat)(a0:Array Value)(h_a1:i64.min<=a1/\a1<=i64.max)(h_a0:a0.size=n_a0*(lay PZ 48).length/\(∀k,k<n_a0->WT PZ 48 (a0.extract (k*(lay PZ 48).length) (k*(lay PZ 48).length+(lay PZ 48).length)))/\n_a0<=9223372036854775807)(hg:(((Nat.ble n_a0 2000000)&&((decide (0<=a1)&&decide (a1<=1000000))&&Ua2 a0 (mkR (n_a0*3) a1))))=true):ansV PZ (mkΓ []) 18446744073709551616 f19 [([1,4,5],[])] [.l 0,.i .i64 a1] [.sl (.came b_a0) n_a0 a0 48]=some (.a (.i .i64 (a1+((n_a0*3:Nat):Int))),.none,true):=by
 rw[Q7,Q7,Q7]at hg;have hn:n_a0<=2000000:=Nat.le_of_ble_eq_true hg.1;have hk0:0<=a1/\a1<=1000000:=⟨of_decide_eq_true hg.2.1.1,of_decide_eq_true hg.2.1.2⟩;have hA:=Zl6.1 hg.2.2;have h:=Ze0 (g:=Zb7 PZ a1 b_a0 n_a0 a0) (λi=>(a1+((i*3:Nat):Int),(0:Int),(i:Int))) (m:=n_a0) (x:=.done (a1+((n_a0*3:Nat):Int),(0:Int),(n_a0:Int))) (N:=18446744073709551616) (λi hi=>by
  have h1:decide ((i:Int)<(n_a0:Int))=true:=Q3 (by omega);have h2:decide (0<=(i:Int))=true:=Q3 (by omega);have h3:i64.wrap (a1+((i*3:Nat):Int)+1)=a1+((i*3+1:Nat):Int):=by rw[IntWalk.i64_in _ (by omega)];omega
  have h4:i64.wrap (a1+((i*3+1:Nat):Int)+1)=a1+((i*3+2:Nat):Int):=by rw[IntWalk.i64_in _ (by omega)];omega
  have h9:i64.wrap (a1+((i*3+2:Nat):Int)+1)=a1+(((i+1)*3:Nat):Int):=by rw[IntWalk.i64_in _ (by omega)];omega
  have h5:i64.wrap ((i:Int)+1)=((i+1:Nat):Int):=by rw[IntWalk.i64_in _ (by omega)];omega
  obtain⟨m0,m1,m2⟩:=mkR_num (n:=n_a0*3) (k:=a1) (i:=i) (by omega);have h6:(num a0 (i*3) != IntKind.i8.wrap (a1+((i*3:Nat):Int)))=false:=by rw[hA,m0];exact bne_self_eq_false _
  have h7:(num a0 (i*3+1) != IntKind.i8.wrap (a1+((i*3+1:Nat):Int)))=false:=by rw[hA,m1];exact bne_self_eq_false _
  have h8:(num a0 (i*3+2) != IntKind.i16.wrap (a1+((i*3+2:Nat):Int)))=false:=by rw[hA,m2];exact bne_self_eq_false _
  simp only[Zb7,h1,h2,h3,h4,h9,h5,h6,h7,h8,Nat.add_zero,Q9,Bool.and_self,Q1,Q2]) (by
  have h1:decide ((n_a0:Int)<(n_a0:Int))=false:=Q4 (by omega);simp only[Zb7,h1,Q2]) (by omega)
 refine(Zsz 18446744073709551616 a1 b_a0 n_a0 a0).trans ?_;have h':Uab (Zb7 PZ a1 b_a0 n_a0 a0) 18446744073709551616 (a1,(0:Int),(0:Int))=some (.done (a1+((n_a0*3:Nat):Int),(0:Int),(n_a0:Int))):=by
  have h2:=h;have e:a1+((0*3:Nat):Int)=a1:=by omega
  simp only[e]at h2;exact h2
 rw[h'];rfl
def Zf7:Con:=λargs h=>match args,h with|[.l 0,.i .i64 a1],[.sl (.came b_a0) n_a0 a0 48]=>some (.a (.i .i64 (a1+((n_a0*3:Nat):Int))),.none,((Nat.ble n_a0 2000000)&&((decide (0<=a1)&&decide (a1<=1000000))&&Ua2 a0 (mkR (n_a0*3) a1))))|_,_=>none
theorem Zp5:EntX PZ 19:=Zak (fn:=f19)
theorem Zt2:Uac mn PZ 19 Zf7:=(ansY (N:=18446744073709551616) mKn f19 [([1,4,5],[])]).of (by
 intro ρ h w args vals r e hA hH hr;unfold Zf7 at hr;split at hr
 ·rename_i a1 b_a0 n_a0 a0;obtain⟨rfl,rfl,hg2⟩:=BQi hr;exact Zre a1 b_a0 n_a0 a0 (hA.rng 1 rfl) (hH.slw 0 rfl) hg2
 ·cases hr)
end
end Go.Proofs.YtgllknjdblkhnaaGreatDoor
