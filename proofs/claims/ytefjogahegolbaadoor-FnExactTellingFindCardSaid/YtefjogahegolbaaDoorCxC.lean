/- What a valid sea is, in company. -/
import Derived.Test.YtefjogahegolbaaDoorProg
import Derived.Test.YtefjogahegolbaaDoorCxB
set_option linter.unusedVariables false
set_option linter.unusedSimpArgs false
open _root_.List renaming range->jA,all_eq_true->jC
open _root_.Bool renaming and_self->jB,not_false->jD
namespace Go.Proofs.YtefjogahegolbaaDoor
open Tryd (f41 f52 f64 f73 f77)
open Go.ChangeShapes Go.WideShapes Go.ChangeAt Go.RowKit Ve Vc
open Tryd (prog)
open IntKind (i64)
set_option maxRecDepth 100000
noncomputable section
variable {mn:Md}
def sumW(a:Array Value):Nat->Int
 |0=>0
 |k+1=>i64.wrap (sumW a k+i64.wrap (num a (k*1)))
theorem Yhy(t:Int):Zcv t=Zaa t 0 1:=by
 unfold Zcv Zaa
 by_cases h0:t=0
 ·subst h0;rfl
 ·by_cases h1:t=1
  ·subst h1;rfl
  ·rw[show (t==0)=false from beq_eq_false_iff_ne.2 h0,show (t==1)=false from beq_eq_false_iff_ne.2 h1]
   by_cases h2:t>=0
   ·rw[Q3 h2,Q4 (show ¬t<=1 by omega)];rfl
   ·rw[Q4 h2];rfl
def Zc1(a0:Array Value):St:=(⟨.a (.g a0 31)::.a (.w 0)::.a (.b false)::.a (.i .i64 0)::.a (.u)::.a (.u)::.a (.g a0 31)::.a (.i .i64 0)::us 9 ([]),[.row a0 31,.no],[]⟩:St)
def Zdz:Int×Int->LS
 |(y0_3,y0_7)=>([.a (.i .i64 y0_3),.a (.i .i64 y0_7)],[])
def Zh1:Int×Int->Exit×LS
 |t=>((.exit 0),Zdz t)
def Zbx(P:Program)(a0:Array Value):Int×Int->Option (Stp (Int×Int) (Int×Int))
 |(y0_3,y0_7)=>bif decide (y0_7<(5:Int)) then (bif (decide (0<=y0_7)&&decide (y0_7<5)) then (some (.more ((i64.wrap (y0_3+(i64.wrap (num a0 ((y0_7).toNat*1))))),(i64.wrap (y0_7+(1:Int)))))) else (none)) else (some (.done (y0_3,y0_7)))
noncomputable abbrev cKCxC77:=codeOf f77
theorem Zrr(N:Nat)(a0:Array Value):∀t:Int×Int,Ual prog (mkΓ []) N (cAt cKCxC77 [1,1,0,1,0,0]) (pAt (Uaa cKCxC77 [([3,7],[])]).1 [1,1,0,1,0]) [3,7] [] (Zc1 a0) (Zdz t)=mapS Zdz Zh1 (Zbx prog a0 t):=by
 rintro⟨y0_3,y0_7⟩
 conv=>rhs;simp only[Zbx,Zax,Zav,Zaw,Zay,Zdz,Zh1]
 kernel_rfl
def Zgv(P:Program)(N:Nat)(a0:Array Value)(z0_3:Int)(z0_7:Int):Option (SV×Eff×Bool):=some (.a (.b ((z0_3==(12:Int)))),.none,true)
theorem Zm3(N:Nat)(a0:Array Value)(z0_3:Int)(z0_7:Int):(Uab 0 (kSeq (veC prog (mkΓ []) N (cAt cKCxC77 [1,1,1]) (pAt (Uaa cKCxC77 [([3,7],[])]).1 [1,1,1]) (SV×Eff×Bool)) (finK prog [] [.tmp 2]))) (.exit 0) (left (writes (cAt cKCxC77 [1,1,0,1,0,0])) [3,7] [] (Zc1 a0) ([.a (.i .i64 z0_3),.a (.i .i64 z0_7)],[]))=Zgv prog N a0 z0_3 z0_7:=by kernel_rfl
theorem Zrm(N:Nat)(a0:Array Value):Uah (Uac (Ual prog (mkΓ []) N (cAt cKCxC77 [1,1,0,1,0,0]) (pAt (Uaa cKCxC77 [([3,7],[])]).1 [1,1,0,1,0]) [3,7] [] (Zc1 a0)) N ([.a (.i .i64 0),.a (.i .i64 0)],[])) (λe s=>(Uab 0 (kSeq (veC prog (mkΓ []) N (cAt cKCxC77 [1,1,1]) (pAt (Uaa cKCxC77 [([3,7],[])]).1 [1,1,1]) (SV×Eff×Bool)) (finK prog [] [.tmp 2]))) e (left (writes (cAt cKCxC77 [1,1,0,1,0,0])) [3,7] [] (Zc1 a0) s))=Uan (Uac (Zbx prog a0) N ((0:Int),(0:Int))) (λx=>Zgv prog N a0 x.1 x.2):=by refine Za5 Zdz Zh1 _ _ (Zrr N a0) N ((0:Int),(0:Int)) _ _ ?_;intro x;exact Zm3 N a0 x.1 x.2
theorem Zqm(N:Nat)(a0:Array Value):ansV prog (mkΓ []) N f77 [([3,7],[])] [.g a0 31] []=(Uan (Uac (Zbx prog a0) N ((0:Int),(0:Int))) (λx=>Zgv prog N a0 x.1 x.2)):=by
 conv=>rhs;simp only[<- Zrm N a0]
 kernel_rfl
theorem Zow(a0:Array Value)(h_a0:WT prog 31 a0)(hg:(true)=true):ansV prog (mkΓ []) 1000 f77 [([3,7],[])] [.g a0 31] []=some (.a (.b ((sumW a0 5==(12:Int)))),.none,true):=by
 have h:=Zdb (g:=Zbx prog a0) (λk=>(sumW a0 k,(k:Int))) (m:=5) (x:=(sumW a0 5,((5:Nat):Int))) (N:=1000) (λk hk=>by
  have h1:decide ((k:Int)<5)=true:=Q3 (by omega);have h0:decide (0<=(k:Int))=true:=Q3 (by omega);have h3:i64.wrap ((k:Int)+1)=((k+1:Nat):Int):=by rw[IntWalk.i64_in _ (by omega)];omega
  have h4:((k:Int)).toNat=k:=Q9 k;simp only[Zbx,h1,h0,jB,h4,Q1,h3,sumW]) (by
  have h1:decide (((5:Nat):Int)<5)=false:=by decide
  simp only[Zbx,h1,Q2]) (by omega)
 refine(Zqm 1000 a0).trans ?_;have h':Uac (Zbx prog a0) 1000 ((0:Int),(0:Int))=some (sumW a0 5,((5:Nat):Int)):=h;rw[h'];rfl
def Zhb:Con:=λargs h=>match args,h with|[.g a0 31],[]=>some (.a (.b ((sumW a0 5==(12:Int)))),.none,true)|_,_=>none
theorem Znx:EntX prog 77:=Zam (fn:=f77)
theorem Zry:Uad mn prog 77 Zhb:=(ansY (N:=1000) mKn f77 [([3,7],[])]).of (by
 intro ρ h w args vals r e hA hH hr;unfold Zhb at hr;split at hr
 ·rename_i a0;obtain⟨rfl,rfl,hg2⟩:=BQi hr;exact Zow a0 (hA.wt 0 rfl) hg2
 ·cases hr)
def Zds(a0:Array Value):St:=(⟨.a (.g a0 31)::.a (.w 0)::.a (.b false)::.a (.i .i64 0)::.a (.i .i64 0)::us 12 ([]),[.row a0 31,.no],[]⟩:St)
def Zfa:Int×Int->LS
 |(y0_3,y0_4)=>([.a (.i .i64 y0_3),.a (.i .i64 y0_4)],[])
def Zjr:Int×Int->Exit×LS
 |t=>((.exit 0),Zfa t)
def Zb9(P:Program)(a0:Array Value):Int×Int->Option (Stp (Int×Int) (Int×Int))
 |(y0_3,y0_4)=>bif decide (y0_4<(5:Int)) then (bif (decide (0<=y0_4)&&decide (y0_4<5)) then (some (.more ((i64.wrap (y0_3+(i64.wrap (num a0 ((y0_4).toNat*1))))),(i64.wrap (y0_4+(1:Int)))))) else (none)) else (some (.done (y0_3,y0_4)))
noncomputable abbrev cKCxC64:=codeOf f64
theorem Zu6(N:Nat)(a0:Array Value):∀t:Int×Int,Ual prog (mkΓ []) N (cAt cKCxC64 [1,1,0,1,0,0]) (pAt (Uaa cKCxC64 [([3,4],[])]).1 [1,1,0,1,0]) [3,4] [] (Zds a0) (Zfa t)=mapS Zfa Zjr (Zb9 prog a0 t):=by
 rintro⟨y0_3,y0_4⟩
 conv=>rhs;simp only[Zb9,Zax,Zav,Zaw,Zay,Zfa,Zjr]
 kernel_rfl
def Zh2(P:Program)(N:Nat)(a0:Array Value)(z0_3:Int)(z0_4:Int):Option (SV×Eff×Bool):=some (.a (.b ((z0_3==(12:Int)))),.none,true)
theorem Zok(N:Nat)(a0:Array Value)(z0_3:Int)(z0_4:Int):(Uab 0 (kSeq (veC prog (mkΓ []) N (cAt cKCxC64 [1,1,1]) (pAt (Uaa cKCxC64 [([3,4],[])]).1 [1,1,1]) (SV×Eff×Bool)) (finK prog [] [.tmp 2]))) (.exit 0) (left (writes (cAt cKCxC64 [1,1,0,1,0,0])) [3,4] [] (Zds a0) ([.a (.i .i64 z0_3),.a (.i .i64 z0_4)],[]))=Zh2 prog N a0 z0_3 z0_4:=by kernel_rfl
theorem Zt2(N:Nat)(a0:Array Value):Uah (Uac (Ual prog (mkΓ []) N (cAt cKCxC64 [1,1,0,1,0,0]) (pAt (Uaa cKCxC64 [([3,4],[])]).1 [1,1,0,1,0]) [3,4] [] (Zds a0)) N ([.a (.i .i64 0),.a (.i .i64 0)],[])) (λe s=>(Uab 0 (kSeq (veC prog (mkΓ []) N (cAt cKCxC64 [1,1,1]) (pAt (Uaa cKCxC64 [([3,4],[])]).1 [1,1,1]) (SV×Eff×Bool)) (finK prog [] [.tmp 2]))) e (left (writes (cAt cKCxC64 [1,1,0,1,0,0])) [3,4] [] (Zds a0) s))=Uan (Uac (Zb9 prog a0) N ((0:Int),(0:Int))) (λx=>Zh2 prog N a0 x.1 x.2):=by refine Za5 Zfa Zjr _ _ (Zu6 N a0) N ((0:Int),(0:Int)) _ _ ?_;intro x;exact Zok N a0 x.1 x.2
theorem Ztf(N:Nat)(a0:Array Value):ansV prog (mkΓ []) N f64 [([3,4],[])] [.g a0 31] []=(Uan (Uac (Zb9 prog a0) N ((0:Int),(0:Int))) (λx=>Zh2 prog N a0 x.1 x.2)):=by
 conv=>rhs;simp only[<- Zt2 N a0]
 kernel_rfl
theorem Zrw(a0:Array Value)(h_a0:WT prog 31 a0)(hg:(true)=true):ansV prog (mkΓ []) 1000 f64 [([3,4],[])] [.g a0 31] []=some (.a (.b ((sumW a0 5==(12:Int)))),.none,true):=by
 have h:=Zdb (g:=Zb9 prog a0) (λk=>(sumW a0 k,(k:Int))) (m:=5) (x:=(sumW a0 5,((5:Nat):Int))) (N:=1000) (λk hk=>by
  have h1:decide ((k:Int)<5)=true:=Q3 (by omega);have h0:decide (0<=(k:Int))=true:=Q3 (by omega);have h3:i64.wrap ((k:Int)+1)=((k+1:Nat):Int):=by rw[IntWalk.i64_in _ (by omega)];omega
  have h4:((k:Int)).toNat=k:=Q9 k;simp only[Zb9,h1,h0,jB,h4,Q1,h3,sumW]) (by
  have h1:decide (((5:Nat):Int)<5)=false:=by decide
  simp only[Zb9,h1,Q2]) (by omega)
 refine(Ztf 1000 a0).trans ?_;have h':Uac (Zb9 prog a0) 1000 ((0:Int),(0:Int))=some (sumW a0 5,((5:Nat):Int)):=h;rw[h'];rfl
def Ziv:Con:=λargs h=>match args,h with|[.g a0 31],[]=>some (.a (.b ((sumW a0 5==(12:Int)))),.none,true)|_,_=>none
theorem Zpy:EntX prog 64:=Zam (fn:=f64)
theorem Zuq:Uad mn prog 64 Ziv:=(ansY (N:=1000) mKn f64 [([3,4],[])]).of (by
 intro ρ h w args vals r e hA hH hr;unfold Ziv at hr;split at hr
 ·rename_i a0;obtain⟨rfl,rfl,hg2⟩:=BQi hr;exact Zrw a0 (hA.wt 0 rfl) hg2
 ·cases hr)
def Znn:Cons:=(mkΓ [(34,con Zgh),(35,con Zev),(77,con Zhb)])
theorem Zsy(N:Nat)(a0:Array Value)(a1:Int)(a2:Array Value):ansV prog Znn N f73 [] [.g a0 35,.i .i64 a1,.g a2 31] []=(bif (Zas a0 a1) then (bif decide (0<=a1) then (bif (Zae a0 a1) then (some (.a (.b ((sumW a2 5==(12:Int)))),.none,true)) else (some (.a (.b ((Ube a2 (#[.int .u8 0,.int .u8 0,.int .u8 0,.int .u8 0,.int .u8 0]:Array Value)))),.none,true))) else (none)) else (some (.a (.b ((Ube a2 (#[.int .u8 0,.int .u8 0,.int .u8 0,.int .u8 0,.int .u8 0]:Array Value)))),.none,true))):=by kernel_rfl
def Zbz(a0:Array Value)(a1:Int)(a2:Array Value):Bool:=(bif (Zas a0 a1) then (bif (Zae a0 a1) then (sumW a2 5==(12:Int)) else (Ube a2 (#[.int .u8 0,.int .u8 0,.int .u8 0,.int .u8 0,.int .u8 0]:Array Value))) else (Ube a2 (#[.int .u8 0,.int .u8 0,.int .u8 0,.int .u8 0,.int .u8 0]:Array Value)))
theorem Zrt(a0:Array Value)(a1:Int)(a2:Array Value)(h_a0:WT prog 35 a0)(h_a1:i64.min<=a1/\a1<=i64.max)(h_a2:WT prog 31 a2)(hg:((bif (Zas a0 a1) then decide (0<=a1) else true))=true):ansV prog Znn 1000 f73 [] [.g a0 35,.i .i64 a1,.g a2 31] []=some (.a (.b ((Zbz a0 a1 a2))),.none,true):=by
 refine(Zsy 1000 a0 a1 a2).trans ?_;unfold Zbz;revert hg;generalize ((Zas a0 a1))=b2;intro hg;cases b2
 ·skip
  first|rfl|exact(nomatch (hg:false=true))
 ·skip
  revert hg;generalize (decide (0<=a1))=b4;intro hg;cases b4
  ·skip
   first|exact(nomatch (hg:false=true))|rfl
  ·skip
   revert hg;generalize ((Zae a0 a1))=b6;intro hg;cases b6
   ·skip
    first|rfl|exact(nomatch (hg:false=true))
   ·skip
    first|rfl|exact(nomatch (hg:false=true))
def Zii:Con:=λargs h=>match args,h with|[.g a0 35,.i .i64 a1,.g a2 31],[]=>some (.a (.b ((Zbz a0 a1 a2))),.none,(bif (Zas a0 a1) then decide (0<=a1) else true))|_,_=>none
theorem Zqc:EntX prog 73:=Zam (fn:=f73)
theorem Zty:Uad mn prog 73 Zii:=(ansY (N:=1000) (mKc (Zah Zfr) Zdu (mKc (Zah Zi9) Zgy (mKc (Zah Zry) Znx mKn))) f73 []).of (by
 intro ρ h w args vals r e hA hH hr;unfold Zii at hr;split at hr
 ·rename_i a0 a1 a2;obtain⟨rfl,rfl,hg2⟩:=BQi hr;exact Zrt a0 a1 a2 (hA.wt 0 rfl) (hA.rng 1 rfl) (hA.wt 2 rfl) hg2
 ·cases hr)
def chR(S:Array Value)(t k:Nat):Array Value:=S.extract (3+t*180+k*5) (3+t*180+k*5+5)
def fitS(S:Array Value)(t k:Nat):Bool:=bif inC (num S 0) (num S 1) k && !(bitI (num S 2) k) then (sumW (chR S t k) 5==(12:Int)) else Ube (chR S t k) (#[.int .u8 0,.int .u8 0,.int .u8 0,.int .u8 0,.int .u8 0]:Array Value)
def okD(S:Array Value):Bool:=decide (1<=num S 0)&&decide (num S 0<=6)&&(decide (1<=num S 1)&&decide (num S 1<=6))
def okS(S:Array Value):Bool:=okD S&&((Ubc (num S 2) (Ua8 (num S 0) (num S 1) 36)==0)&&(jA 36).all λk=>fitS S 0 k&&fitS S 1 k)
theorem Yea(n:Nat)(p:Nat->Bool):((jA n).find? (λk=> !(p k))).isNone=(jA n).all p:=by rw[Bool.eq_iff_iff,Option.isNone_iff_eq_none,List.find?_eq_none,jC];simp
theorem all_two(n:Nat)(p q:Nat->Bool):(jA n).all (λk=>p k&&q k)=((jA n).all p&&(jA n).all q):=by rw[Bool.eq_iff_iff,Q7,jC,jC,jC];simp only[Q7];exact⟨λh=>⟨λx hx=>(h x hx).1,λx hx=>(h x hx).2⟩,λh x hx=>⟨h.1 x hx,h.2 x hx⟩⟩
theorem Ylt{S:Array Value}(h:WT prog 35 S){k:Nat}(hk:k<36):Zas S (k:Int)=inC (num S 0) (num S 1) k:=by rw[Yef,Ygw h hk]
theorem Zz0{S:Array Value}(h:WT prog 35 S){k:Nat}(hk:k<36)(t:Nat):Zbz S (k:Int) (chR S t k)=fitS S t k:=by unfold Zbz fitS;rw[Ylt h hk];unfold Zae;rw[Zq6 hk];cases inC (num S 0) (num S 1) k<;>cases bitI (num S 2) k<;>rfl
theorem Ybw{S:Array Value}(h:WT prog 35 S){k:Nat}(hk:k<36):Zbu (k:Int) S=true/\Zal (k:Int) S=(inC (num S 0) (num S 1) k && !(bitI (num S 2) k)):=by
 have hu:decide (0<=IntKind.u64.wrap (k:Int))=true:=Q3 (Zip .u64 _).1;unfold Zbu Zal;rw[Ygw h hk,Yln h hk];constructor
 ·cases inC (num S 0) (num S 1) k<;>simp[hu]
 ·cases inC (num S 0) (num S 1) k<;>simp
def Zcy:Cons:=(mkΓ [(72,con Zj1),(73,con Zii)])
def Zdy(a0:Array Value):St:=(⟨.a (.g a0 35)::.a (.w 0)::.a (.b false)::.a (.u)::.a (.p 0 (0) 22)::.a (.i .i8 (num a0 0))::.a (.b (decide ((num a0 0)<(1:Int))))::.a (.b false)::.a (.p 0 (0) 22)::.a (.i .i8 (num a0 0))::.a (.b (decide ((num a0 0) > (6:Int))))::.a (.b (decide ((num a0 0) > (6:Int))))::.a (.b false)::.a (.p 0 (1) 22)::.a (.i .i8 (num a0 1))::.a (.b (decide ((num a0 1)<(1:Int))))::.a (.b (decide ((num a0 1)<(1:Int))))::.a (.b false)::.a (.p 0 (1) 22)::.a (.i .i8 (num a0 1))::.a (.b (decide ((num a0 1) > (6:Int))))::.a (.b (decide ((num a0 1) > (6:Int))))::.a (.p 0 (2) 23)::.a (.i .u64 (num a0 2))::.a (.g a0 35)::.a (.i .u64 (Ua8 (num a0 0) (num a0 1) 36))::.a (.i .u64 (IntKind.u64.wrap (BitVec.ofInt IntKind.u64.bits (num a0 2) &&& ~~~(BitVec.ofInt IntKind.u64.bits (Ua8 (num a0 0) (num a0 1) 36))).toNat))::.a (.b (((IntKind.u64.wrap (BitVec.ofInt IntKind.u64.bits (num a0 2) &&& ~~~(BitVec.ofInt IntKind.u64.bits (Ua8 (num a0 0) (num a0 1) 36))).toNat) != (0:Int))))::.a (.i .i64 0)::us 23 ([]),[.row a0 35,.no,.no,.no,.no,.no,.no,.no],[]⟩:St)
def Zez:Bool×Int->LS
 |(y0_2,y0_28)=>([.a (.b y0_2),.a (.i .i64 y0_28)],[])
def Zla:(Stp (Bool×Int) (Bool×Int))->Exit×LS
 |.more t=>(.ret,Zez t)
 |.done t=>((.exit 0),Zez t)
def Zb5(P:Program)(a0:Array Value):Bool×Int->Option (Stp (Bool×Int) (Stp (Bool×Int) (Bool×Int)))
  |(y0_2,y0_28)=>bif decide (y0_28<(36:Int)) then (bif (decide (0<=y0_28)&&decide (y0_28<36)) then (bif (bif (Zas a0 y0_28) then decide (0<=y0_28) else true) then (bif (!((Zbz a0 y0_28 (a0.extract (3+((y0_28).toNat*5)) ((3+((y0_28).toNat*5))+5))))) then (some (.done (.more (false,y0_28)))) else (bif (decide (0<=y0_28)&&decide (y0_28<36)) then (bif (bif (Zas a0 y0_28) then decide (0<=y0_28) else true) then (bif (!((Zbz a0 y0_28 (a0.extract (183+((y0_28).toNat*5)) ((183+((y0_28).toNat*5))+5))))) then (some (.done (.more (false,y0_28)))) else (some (.more (y0_2,(i64.wrap (y0_28+(1:Int))))))) else (none)) else (none))) else (none)) else (none)) else (some (.done (.done (y0_2,y0_28))))
noncomputable abbrev cKCxC52:=codeOf f52
theorem Zyb(N:Nat)(a0:Array Value):∀t:Bool×Int,Ual prog Zcy N (cAt cKCxC52 [1,1,1,0,1,0,0]) (pAt (Uaa cKCxC52 [([2,28],[])]).1 [1,1,1,0,1,0]) [2,28] [] (Zdy a0) (Zez t)=mapS Zez Zla (Zb5 prog a0 t):=by
  rintro⟨y0_2,y0_28⟩
  conv=>rhs;simp only[Zb5,Zax,Zav,Zaw,Zay,Zez,Zla]
  kernel_rfl
def Zjn(P:Program)(N:Nat)(a0:Array Value)(z0_2:Bool)(z0_28:Int):Option (SV×Eff×Bool):=some (.a (.b z0_2),.none,true)
theorem Zpi(N:Nat)(a0:Array Value)(z0_2:Bool)(z0_28:Int):(Uab 0 (kSeq (veC prog Zcy N (cAt cKCxC52 [1,1,1,1]) (pAt (Uaa cKCxC52 [([2,28],[])]).1 [1,1,1,1]) (SV×Eff×Bool)) (finK prog [] [.tmp 2]))) .ret (left (writes (cAt cKCxC52 [1,1,1,0,1,0,0])) [2,28] [] (Zdy a0) ([.a (.b z0_2),.a (.i .i64 z0_28)],[]))=Zjn prog N a0 z0_2 z0_28:=by kernel_rfl
def Zja(P:Program)(N:Nat)(a0:Array Value)(z0_2:Bool)(z0_28:Int):Option (SV×Eff×Bool):=some (.a (.b true),.none,true)
theorem Zpt(N:Nat)(a0:Array Value)(z0_2:Bool)(z0_28:Int):(Uab 0 (kSeq (veC prog Zcy N (cAt cKCxC52 [1,1,1,1]) (pAt (Uaa cKCxC52 [([2,28],[])]).1 [1,1,1,1]) (SV×Eff×Bool)) (finK prog [] [.tmp 2]))) (.exit 0) (left (writes (cAt cKCxC52 [1,1,1,0,1,0,0])) [2,28] [] (Zdy a0) ([.a (.b z0_2),.a (.i .i64 z0_28)],[]))=Zja prog N a0 z0_2 z0_28:=by kernel_rfl
theorem Zzd(N:Nat)(a0:Array Value):Uah (Uac (Ual prog Zcy N (cAt cKCxC52 [1,1,1,0,1,0,0]) (pAt (Uaa cKCxC52 [([2,28],[])]).1 [1,1,1,0,1,0]) [2,28] [] (Zdy a0)) N ([.a (.b false),.a (.i .i64 0)],[])) (λe s=>(Uab 0 (kSeq (veC prog Zcy N (cAt cKCxC52 [1,1,1,1]) (pAt (Uaa cKCxC52 [([2,28],[])]).1 [1,1,1,1]) (SV×Eff×Bool)) (finK prog [] [.tmp 2]))) e (left (writes (cAt cKCxC52 [1,1,1,0,1,0,0])) [2,28] [] (Zdy a0) s))=Uan (Uac (Zb5 prog a0) N (false,(0:Int))) (st2 (λx=>Zjn prog N a0 x.1 x.2) (λx=>Zja prog N a0 x.1 x.2)):=by refine Za5 Zez Zla _ _ (Zyb N a0) N (false,(0:Int)) _ _ ?_;intro x;cases x with|more x=>exact Zpi N a0 x.1 x.2|done x=>exact Zpt N a0 x.1 x.2
theorem Zxc(N:Nat)(a0:Array Value):ansV prog Zcy N f52 [([2,28],[])] [.g a0 35] []=(bif decide ((num a0 0)<(1:Int)) then (some (.a (.b false),.none,true)) else (bif decide ((num a0 0) > (6:Int)) then (some (.a (.b false),.none,true)) else (bif decide ((num a0 1)<(1:Int)) then (some (.a (.b false),.none,true)) else (bif decide ((num a0 1) > (6:Int)) then (some (.a (.b false),.none,true)) else (bif (decide (0<=num a0 0)&&decide (num a0 0<=6)&&(decide (0<=num a0 1)&&decide (num a0 1<=6))) then (bif ((IntKind.u64.wrap (BitVec.ofInt IntKind.u64.bits (num a0 2) &&& ~~~(BitVec.ofInt IntKind.u64.bits (Ua8 (num a0 0) (num a0 1) 36))).toNat) != (0:Int)) then (some (.a (.b false),.none,true)) else (Uan (Uac (Zb5 prog a0) N (false,(0:Int))) (st2 (λx=>Zjn prog N a0 x.1 x.2) (λx=>Zja prog N a0 x.1 x.2)))) else (none)))))):=by
  conv=>rhs;simp only[<- Zzd N a0]
  kernel_rfl
theorem Zvv(a0:Array Value)(h_a0:WT prog 35 a0)(hg:(true)=true):ansV prog Zcy 1000 f52 [([2,28],[])] [.g a0 35] []=some (.a (.b ((okS a0))),.none,true):=by
 refine(Zxc 1000 a0).trans ?_;have h:=Ych (g:=Zb5 prog a0) (λk=>(false,(k:Int))) (λk=> !(fitS a0 0 k&&fitS a0 1 k)) 36 (N:=1000) (by omega) (xd:=.done (false,((36:Nat):Int))) (λk=>.more (false,(k:Int))) (λk hk hp=>by
  have h1:decide ((k:Int)<36)=true:=Q3 (by omega);have h0:decide (0<=(k:Int))=true:=Q3 (by omega);have h3:i64.wrap ((k:Int)+1)=((k+1:Nat):Int):=by rw[IntWalk.i64_in _ (by omega)];omega
  have f0:=Zz0 h_a0 hk 0;have f1:=Zz0 h_a0 hk 1;unfold chR at f0 f1;rw[show 3+0*180+k*5=3+k*5 by omega]at f0;rw[show 3+1*180+k*5=183+k*5 by omega]at f1;have hg:(bif Zas a0 (k:Int) then true else true)=true:=by cases Zas a0 (k:Int)<;>rfl
  simp only[Bool.not_eq_false',Q7]at hp;simp only[Zb5,h1,h0,h3,jB,Q1,Q9,hg,f0,f1,hp.1,hp.2,Bool.not_true,Q2]) (λk hk hp=>by
  have h1:decide ((k:Int)<36)=true:=Q3 (by omega);have h0:decide (0<=(k:Int))=true:=Q3 (by omega);have f0:=Zz0 h_a0 hk 0;have f1:=Zz0 h_a0 hk 1;unfold chR at f0 f1;rw[show 3+0*180+k*5=3+k*5 by omega]at f0;rw[show 3+1*180+k*5=183+k*5 by omega]at f1;have hg:(bif Zas a0 (k:Int) then true else true)=true:=by cases Zas a0 (k:Int)<;>rfl
  cases e0:fitS a0 0 k with
  |false=>simp only[Zb5,h1,h0,jB,Q1,Q9,hg,f0,e0,jD]
  |true=>
   rw[e0]at hp;have e1:fitS a0 1 k=false:=by simpa using hp
   simp only[Zb5,h1,h0,jB,Q1,Q9,hg,f0,f1,e0,e1,jD,Bool.not_true,Q2]) (by
  have h1:decide (((36:Nat):Int)<36)=false:=by decide
  simp only[Zb5,h1,Q2])
 have h':Uac (Zb5 prog a0) 1000 (false,(0:Int))=some (match (jA 36).find? (λk=> !(fitS a0 0 k&&fitS a0 1 k)) with|some k=>.more (false,(k:Int))|none=>.done (false,((36:Nat):Int))):=h;have hf:=Yea 36 (λk=>fitS a0 0 k&&fitS a0 1 k);unfold okS okD
 by_cases d1:1<=num a0 0
 ·rw [Q3 d1,Q4 (show ¬ num a0 0<1 by omega)]
  by_cases d2:num a0 0<=6
  ·rw [Q3 d2,Q4 (show ¬ num a0 0 > 6 by omega)]
   by_cases d3:1<=num a0 1
   ·rw[Q3 d3,Q4 (show ¬num a0 1<1 by omega)]
    by_cases d4:num a0 1<=6
    ·rw[Q3 d4,Q4 (show ¬num a0 1 > 6 by omega),Q3 (show 0<=num a0 0 by omega),Q3 (show 0<=num a0 1 by omega)];simp only[jB,Q1,Q2,Bool.true_and,h'];rw[show IntKind.u64.wrap (BitVec.ofInt IntKind.u64.bits (num a0 2) &&& ~~~(BitVec.ofInt IntKind.u64.bits (Ua8 (num a0 0) (num a0 1) 36))).toNat=Ubc (num a0 2) (Ua8 (num a0 0) (num a0 1) 36) from rfl];cases hb:(Ubc (num a0 2) (Ua8 (num a0 0) (num a0 1) 36)==0) with|false=>rw[show (Ubc (num a0 2) (Ua8 (num a0 0) (num a0 1) 36) != 0)=true by simp[bne,hb]];rfl|true=>rw[show (Ubc (num a0 2) (Ua8 (num a0 0) (num a0 1) 36) != 0)=false by simp[bne,hb],<- hf];cases (jA 36).find? (λk=> !(fitS a0 0 k&&fitS a0 1 k))<;>rfl
    ·rw[Q4 d4,Q3 (show num a0 1 > 6 by omega)];rfl
   ·rw[Q4 d3,Q3 (show num a0 1<1 by omega)];rfl
  ·rw[Q4 d2,Q3 (show num a0 0 > 6 by omega)];rfl
 ·rw[Q4 d1,Q3 (show num a0 0<1 by omega)];rfl
def Zhl:Con:=λargs h=>match args,h with|[.g a0 35],[]=>some (.a (.b ((okS a0))),.none,true)|_,_=>none
theorem Zeg:EntX prog 52:=Zam (fn:=f52)
theorem Zf9:Uad mn prog 52 Zhl:=(ansY (N:=1000) (mKc (Zah Zzb) Zs3 (mKc (Zah Zty) Zqc mKn)) f52 [([2,28],[])]).of (by
 intro ρ h w args vals r e hA hH hr;unfold Zhl at hr;split at hr
 ·rename_i a0;obtain⟨rfl,rfl,hg2⟩:=BQi hr;exact Zvv a0 (hA.wt 0 rfl) hg2
 ·cases hr)
def Zbv:Cons:=(mkΓ [(44,con Zcb),(62,con Zjy),(63,con Zjo),(64,con Ziv)])
def Zfw(a0:Array Value)(y0_2:Bool)(y0_3:Int):St:=(⟨.a (.w 0)::.a (.u)::.a (.b y0_2)::.a (.i .i64 y0_3)::.a (.i .i64 0)::.a (.x)::.a (.w 0)::.a (.w 0)::.a (.p 0 (0) 22)::.a (.i .i8 (num a0 0))::.a (.i .i64 (i64.wrap (num a0 0)))::.a (.b ((Zaa (i64.wrap (num a0 0)) (1:Int) (6:Int))))::.a (.b ((!((Zaa (i64.wrap (num a0 0)) (1:Int) (6:Int))))))::.a (.b false)::.a (.w 0)::.a (.w 0)::.a (.p 0 (1) 22)::.a (.i .i8 (num a0 1))::.a (.i .i64 (i64.wrap (num a0 1)))::.a (.b ((Zaa (i64.wrap (num a0 1)) (1:Int) (6:Int))))::.a (.b ((!((Zaa (i64.wrap (num a0 1)) (1:Int) (6:Int))))))::.a (.b ((!((Zaa (i64.wrap (num a0 1)) (1:Int) (6:Int))))))::.a (.b false)::.a (.w 0)::.a (.w 0)::.a (.p 0 (2) 23)::.a (.i .u64 (num a0 2))::.a (.w 0)::.a (.i .u64 (Ua8 (num a0 0) (num a0 1) 36))::.a (.i .u64 (IntKind.u64.wrap (BitVec.ofInt IntKind.u64.bits (num a0 2) &&& ~~~(BitVec.ofInt IntKind.u64.bits (Ua8 (num a0 0) (num a0 1) 36))).toNat))::.a (.b (((IntKind.u64.wrap (BitVec.ofInt IntKind.u64.bits (num a0 2) &&& ~~~(BitVec.ofInt IntKind.u64.bits (Ua8 (num a0 0) (num a0 1) 36))).toNat) != (0:Int))))::.a (.b (((IntKind.u64.wrap (BitVec.ofInt IntKind.u64.bits (num a0 2) &&& ~~~(BitVec.ofInt IntKind.u64.bits (Ua8 (num a0 0) (num a0 1) 36))).toNat) != (0:Int))))::.a (.i .i64 y0_3)::.a (.b (decide (y0_3<(2:Int))))::xs 33 ([]),[.row a0 35,.no,.no,.no,.no,.no,.no,.no,.no,.no,.no,.no,.no,.no,.no,.no,.no,.no,.no,.no,.no,.no,.no,.no,.no,.no,.no],[]⟩:St)
def Ze7:Bool×Int->LS
 |(y1_2,y1_4)=>([.a (.b y1_2),.a (.i .i64 y1_4)],[])
def Zjj:(Stp (Bool×Int) (Bool×Int))->Exit×LS
 |.more t=>(.ret,Ze7 t)
 |.done t=>((.exit 2),Ze7 t)
def Zcp(P:Program)(a0:Array Value)(y0_2:Bool)(y0_3:Int):Bool×Int->Option (Stp (Bool×Int) (Stp (Bool×Int) (Bool×Int)))
  |(y1_2,y1_4)=>bif decide (y1_4<(36:Int)) then (bif (decide (0<=y0_3)&&decide (y0_3<2)) then (bif (decide (0<=y1_4)&&decide (y1_4<36)) then (bif (Zbu y1_4 a0) then (bif (Zal y1_4 a0) then (bif (!((sumW (a0.extract ((3+((y0_3).toNat*180))+((y1_4).toNat*5)) (((3+((y0_3).toNat*180))+((y1_4).toNat*5))+5)) 5==(12:Int)))) then (some (.done (.more (false,y1_4)))) else (bif (Zbu y1_4 a0) then (bif (!((Zal y1_4 a0))) then (bif (!(Ube (a0.extract ((3+((y0_3).toNat*180))+((y1_4).toNat*5)) (((3+((y0_3).toNat*180))+((y1_4).toNat*5))+5)) (#[.int .u8 0,.int .u8 0,.int .u8 0,.int .u8 0,.int .u8 0]:Array Value))) then (some (.done (.more (false,y1_4)))) else (some (.more (y1_2,(i64.wrap (y1_4+(1:Int))))))) else (some (.more (y1_2,(i64.wrap (y1_4+(1:Int))))))) else (none))) else (bif (Zbu y1_4 a0) then (bif (!((Zal y1_4 a0))) then (bif (!(Ube (a0.extract ((3+((y0_3).toNat*180))+((y1_4).toNat*5)) (((3+((y0_3).toNat*180))+((y1_4).toNat*5))+5)) (#[.int .u8 0,.int .u8 0,.int .u8 0,.int .u8 0,.int .u8 0]:Array Value))) then (some (.done (.more (false,y1_4)))) else (some (.more (y1_2,(i64.wrap (y1_4+(1:Int))))))) else (some (.more (y1_2,(i64.wrap (y1_4+(1:Int))))))) else (none))) else (none)) else (none)) else (none)) else (some (.done (.done (y1_2,y1_4))))
noncomputable abbrev cKCxC41:=codeOf f41
theorem Zn4(N:Nat)(a0:Array Value)(y0_2:Bool)(y0_3:Int):∀t:Bool×Int,Ual prog Zbv N (cAt cKCxC41 [1,1,0,1,0,0,1,0,0,1,0,0]) (pAt (Uaa cKCxC41 [([2,3],[]),([2,4],[])]).1 [1,1,0,1,0,1,0,1,0]) [2,4] [] (Zfw a0 y0_2 y0_3) (Ze7 t)=mapS Ze7 Zjj (Zcp prog a0 y0_2 y0_3 t):=by
  rintro⟨y1_2,y1_4⟩
  conv=>rhs;simp only[Zcp,Zax,Zav,Zaw,Zay,Ze7,Zjj]
  kernel_rfl
def Zf0(a0:Array Value):St:=(⟨.a (.w 0)::.a (.u)::.a (.b false)::.a (.i .i64 0)::.a (.u)::.a (.u)::.a (.w 0)::.a (.w 0)::.a (.p 0 (0) 22)::.a (.i .i8 (num a0 0))::.a (.i .i64 (i64.wrap (num a0 0)))::.a (.b ((Zaa (i64.wrap (num a0 0)) (1:Int) (6:Int))))::.a (.b ((!((Zaa (i64.wrap (num a0 0)) (1:Int) (6:Int))))))::.a (.b false)::.a (.w 0)::.a (.w 0)::.a (.p 0 (1) 22)::.a (.i .i8 (num a0 1))::.a (.i .i64 (i64.wrap (num a0 1)))::.a (.b ((Zaa (i64.wrap (num a0 1)) (1:Int) (6:Int))))::.a (.b ((!((Zaa (i64.wrap (num a0 1)) (1:Int) (6:Int))))))::.a (.b ((!((Zaa (i64.wrap (num a0 1)) (1:Int) (6:Int))))))::.a (.b false)::.a (.w 0)::.a (.w 0)::.a (.p 0 (2) 23)::.a (.i .u64 (num a0 2))::.a (.w 0)::.a (.i .u64 (Ua8 (num a0 0) (num a0 1) 36))::.a (.i .u64 (IntKind.u64.wrap (BitVec.ofInt IntKind.u64.bits (num a0 2) &&& ~~~(BitVec.ofInt IntKind.u64.bits (Ua8 (num a0 0) (num a0 1) 36))).toNat))::.a (.b (((IntKind.u64.wrap (BitVec.ofInt IntKind.u64.bits (num a0 2) &&& ~~~(BitVec.ofInt IntKind.u64.bits (Ua8 (num a0 0) (num a0 1) 36))).toNat) != (0:Int))))::.a (.b (((IntKind.u64.wrap (BitVec.ofInt IntKind.u64.bits (num a0 2) &&& ~~~(BitVec.ofInt IntKind.u64.bits (Ua8 (num a0 0) (num a0 1) 36))).toNat) != (0:Int))))::us 35 ([]),[.row a0 35,.no,.no,.no,.no,.no,.no,.no,.no,.no,.no,.no,.no,.no,.no,.no,.no,.no,.no,.no,.no,.no,.no,.no,.no,.no,.no],[]⟩:St)
def Zcf:Bool×Int->LS
 |(y0_2,y0_3)=>([.a (.b y0_2),.a (.i .i64 y0_3)],[])
def Zd4:(Stp (Bool×Int) (Bool×Int))->Exit×LS
 |.more t=>(.ret,Zcf t)
 |.done t=>((.exit 0),Zcf t)
def Zg2(P:Program)(N:Nat)(a0:Array Value)(y0_2:Bool)(y0_3:Int)(z1_2:Bool)(z1_4:Int):Option (Stp (Bool×Int) (Stp (Bool×Int) (Bool×Int))):=some (.done (.more (z1_2,y0_3)))
theorem Ztk(N:Nat)(a0:Array Value)(y0_2:Bool)(y0_3:Int)(z1_2:Bool)(z1_4:Int):(Uab 2 (Uab 1 (kSeq (veC prog Zbv N (cAt cKCxC41 [1,1,0,1,0,0,1,1]) (pAt (Uaa cKCxC41 [([2,3],[]),([2,4],[])]).1 [1,1,0,1,0,1,1]) (Stp LS (Exit×LS))) (Ub9 27 [2,3] [])))) .ret (left (writes (cAt cKCxC41 [1,1,0,1,0,0,1,0,0,1,0,0])) [2,4] [] (Zfw a0 y0_2 y0_3) ([.a (.b z1_2),.a (.i .i64 z1_4)],[]))=mapS Zcf Zd4 (Zg2 prog N a0 y0_2 y0_3 z1_2 z1_4):=by
 conv=>rhs;simp only[Zg2,Zax,Zav,Zaw,Zay,Zcf,Zd4]
 kernel_rfl
def Zg6(P:Program)(N:Nat)(a0:Array Value)(y0_2:Bool)(y0_3:Int)(z1_2:Bool)(z1_4:Int):Option (Stp (Bool×Int) (Stp (Bool×Int) (Bool×Int))):=some (.more (z1_2,(i64.wrap (y0_3+(1:Int)))))
theorem Zuk(N:Nat)(a0:Array Value)(y0_2:Bool)(y0_3:Int)(z1_2:Bool)(z1_4:Int):(Uab 2 (Uab 1 (kSeq (veC prog Zbv N (cAt cKCxC41 [1,1,0,1,0,0,1,1]) (pAt (Uaa cKCxC41 [([2,3],[]),([2,4],[])]).1 [1,1,0,1,0,1,1]) (Stp LS (Exit×LS))) (Ub9 27 [2,3] [])))) (.exit 2) (left (writes (cAt cKCxC41 [1,1,0,1,0,0,1,0,0,1,0,0])) [2,4] [] (Zfw a0 y0_2 y0_3) ([.a (.b z1_2),.a (.i .i64 z1_4)],[]))=mapS Zcf Zd4 (Zg6 prog N a0 y0_2 y0_3 z1_2 z1_4):=by
 conv=>rhs;simp only[Zg6,Zax,Zav,Zaw,Zay,Zcf,Zd4]
 kernel_rfl
theorem Ye5(N:Nat)(a0:Array Value)(y0_2:Bool)(y0_3:Int):Uah (Uac (Ual prog Zbv N (cAt cKCxC41 [1,1,0,1,0,0,1,0,0,1,0,0]) (pAt (Uaa cKCxC41 [([2,3],[]),([2,4],[])]).1 [1,1,0,1,0,1,0,1,0]) [2,4] [] (Zfw a0 y0_2 y0_3)) N ([.a (.b y0_2),.a (.i .i64 0)],[])) (λe s=>(Uab 2 (Uab 1 (kSeq (veC prog Zbv N (cAt cKCxC41 [1,1,0,1,0,0,1,1]) (pAt (Uaa cKCxC41 [([2,3],[]),([2,4],[])]).1 [1,1,0,1,0,1,1]) (Stp LS (Exit×LS))) (Ub9 27 [2,3] [])))) e (left (writes (cAt cKCxC41 [1,1,0,1,0,0,1,0,0,1,0,0])) [2,4] [] (Zfw a0 y0_2 y0_3) s))=mapS Zcf Zd4 (Uan (Uac (Zcp prog a0 y0_2 y0_3) N (y0_2,(0:Int))) (st2 (λx=>Zg2 prog N a0 y0_2 y0_3 x.1 x.2) (λx=>Zg6 prog N a0 y0_2 y0_3 x.1 x.2))):=by
 rw[Zxl Zcf Zd4]
 first
 |(have h:=Za5 (α:=Stp LS (Exit×LS)) Ze7 Zjj _ _ (Zn4 N a0 y0_2 y0_3) N (y0_2,(0:Int));refine h _ _ ?_)
 |(have h:=Za5 (α:=Stp BS (Exit×BS)) Ze7 Zjj _ _ (Zn4 N a0 y0_2 y0_3) N (y0_2,(0:Int));refine h _ _ ?_)
 |(have h:=Za5 (α:=Stp LS ((Exit×LS)⊕(SV×Eff×Bool))) Ze7 Zjj _ _ (Zn4 N a0 y0_2 y0_3) N (y0_2,(0:Int));refine h _ _ ?_)
 intro x;cases x with|more x=>exact Ztk N a0 y0_2 y0_3 x.1 x.2|done x=>exact Zuk N a0 y0_2 y0_3 x.1 x.2
def Zd6(P:Program)(N:Nat)(a0:Array Value):Bool×Int->Option (Stp (Bool×Int) (Stp (Bool×Int) (Bool×Int)))
 |(y0_2,y0_3)=>bif decide (y0_3<(2:Int)) then (Uan (Uac (Zcp P a0 y0_2 y0_3) N (y0_2,(0:Int))) (st2 (λx=>Zg2 P N a0 y0_2 y0_3 x.1 x.2) (λx=>Zg6 P N a0 y0_2 y0_3 x.1 x.2))) else (some (.done (.done (y0_2,y0_3))))
theorem Yek(N:Nat)(a0:Array Value):∀t:Bool×Int,Ual prog Zbv N (cAt cKCxC41 [1,1,0,1,0,0]) (pAt (Uaa cKCxC41 [([2,3],[]),([2,4],[])]).1 [1,1,0,1,0]) [2,3] [] (Zf0 a0) (Zcf t)=mapS Zcf Zd4 (Zd6 prog N a0 t):=by
 rintro⟨y0_2,y0_3⟩
 conv=>rhs;simp only[<- Ye5 N a0 y0_2 y0_3,Zd6,Zax,Zav,Zaw,Zay,Zcf,Zd4]
 kernel_rfl
def Zl6(P:Program)(N:Nat)(a0:Array Value)(z0_2:Bool)(z0_3:Int):Option (SV×Eff×Bool):=some (.a (.b z0_2),.none,true)
theorem Zvd(N:Nat)(a0:Array Value)(z0_2:Bool)(z0_3:Int):(Uab 0 (kSeq (veC prog Zbv N (cAt cKCxC41 [1,1,1]) (pAt (Uaa cKCxC41 [([2,3],[]),([2,4],[])]).1 [1,1,1]) (SV×Eff×Bool)) (finK prog [.row a0 35] [.tmp 2]))) .ret (left (writes (cAt cKCxC41 [1,1,0,1,0,0])) [2,3] [] (Zf0 a0) ([.a (.b z0_2),.a (.i .i64 z0_3)],[]))=Zl6 prog N a0 z0_2 z0_3:=by kernel_rfl
def Zl0(P:Program)(N:Nat)(a0:Array Value)(z0_2:Bool)(z0_3:Int):Option (SV×Eff×Bool):=some (.a (.b true),.none,true)
theorem Zvq(N:Nat)(a0:Array Value)(z0_2:Bool)(z0_3:Int):(Uab 0 (kSeq (veC prog Zbv N (cAt cKCxC41 [1,1,1]) (pAt (Uaa cKCxC41 [([2,3],[]),([2,4],[])]).1 [1,1,1]) (SV×Eff×Bool)) (finK prog [.row a0 35] [.tmp 2]))) (.exit 0) (left (writes (cAt cKCxC41 [1,1,0,1,0,0])) [2,3] [] (Zf0 a0) ([.a (.b z0_2),.a (.i .i64 z0_3)],[]))=Zl0 prog N a0 z0_2 z0_3:=by kernel_rfl
theorem Yeq(N:Nat)(a0:Array Value):Uah (Uac (Ual prog Zbv N (cAt cKCxC41 [1,1,0,1,0,0]) (pAt (Uaa cKCxC41 [([2,3],[]),([2,4],[])]).1 [1,1,0,1,0]) [2,3] [] (Zf0 a0)) N ([.a (.b false),.a (.i .i64 0)],[])) (λe s=>(Uab 0 (kSeq (veC prog Zbv N (cAt cKCxC41 [1,1,1]) (pAt (Uaa cKCxC41 [([2,3],[]),([2,4],[])]).1 [1,1,1]) (SV×Eff×Bool)) (finK prog [.row a0 35] [.tmp 2]))) e (left (writes (cAt cKCxC41 [1,1,0,1,0,0])) [2,3] [] (Zf0 a0) s))=Uan (Uac (Zd6 prog N a0) N (false,(0:Int))) (st2 (λx=>Zl6 prog N a0 x.1 x.2) (λx=>Zl0 prog N a0 x.1 x.2)):=by refine Za5 Zcf Zd4 _ _ (Yek N a0) N (false,(0:Int)) _ _ ?_;intro x;cases x with|more x=>exact Zvd N a0 x.1 x.2|done x=>exact Zvq N a0 x.1 x.2
theorem Yci(N:Nat)(a0:Array Value):ansV prog Zbv N f41 [([2,3],[]),([2,4],[])] [.w 0] [.row a0 35]=(bif (!((Zaa (i64.wrap (num a0 0)) (1:Int) (6:Int)))) then (some (.a (.b false),.none,true)) else (bif (!((Zaa (i64.wrap (num a0 1)) (1:Int) (6:Int)))) then (some (.a (.b false),.none,true)) else (bif ((IntKind.u64.wrap (BitVec.ofInt IntKind.u64.bits (num a0 2) &&& ~~~(BitVec.ofInt IntKind.u64.bits (Ua8 (num a0 0) (num a0 1) 36))).toNat) != (0:Int)) then (some (.a (.b false),.none,true)) else (Uan (Uac (Zd6 prog N a0) N (false,(0:Int))) (st2 (λx=>Zl6 prog N a0 x.1 x.2) (λx=>Zl0 prog N a0 x.1 x.2)))))):=by
 conv=>rhs;simp only[<- Yeq N a0]
 kernel_rfl
theorem Yiu{S:Array Value}(h:WT prog 35 S){t:Nat}(ht:t<2)(b:Bool):Uac (Zcp prog S b (t:Int)) 1000 (b,(0:Int))=some (match (jA 36).find? (λk=> !(fitS S t k)) with|some k=>.more (false,(k:Int))|none=>.done (b,((36:Nat):Int))):=by
 have htt:decide (0<=(t:Int))=true:=Q3 (by omega);have ht2:decide ((t:Int)<2)=true:=Q3 (by omega);exact Ych (g:=Zcp prog S b (t:Int)) (λk=>(b,(k:Int))) (λk=> !(fitS S t k)) 36 (N:=1000) (by omega) (xd:=.done (b,((36:Nat):Int))) (λk=>.more (false,(k:Int))) (λk hk hp=>by
  have h1:decide ((k:Int)<36)=true:=Q3 (by omega);have h0:decide (0<=(k:Int))=true:=Q3 (by omega);have h3:i64.wrap ((k:Int)+1)=((k+1:Nat):Int):=by rw[IntWalk.i64_in _ (by omega)];omega
  obtain⟨w1,w2⟩:=Ybw h hk;rw[Bool.not_eq_false']at hp;unfold fitS chR at hp;rw[<- w2]at hp;cases hw:Zal (k:Int) S with
  |false=>rw[hw]at hp;simp only[Q2]at hp;simp only[Zcp,h1,h0,h3,htt,ht2,w1,hw,jB,jD,Q1,Q2,Q9,hp,Bool.not_true]
  |true=>rw[hw]at hp;simp only[Q1]at hp;simp only[Zcp,h1,h0,h3,htt,ht2,w1,hw,jB,Bool.not_true,Q1,Q2,Q9,hp]) (λk hk hp=>by
  have h1:decide ((k:Int)<36)=true:=Q3 (by omega);have h0:decide (0<=(k:Int))=true:=Q3 (by omega);obtain⟨w1,w2⟩:=Ybw h hk;rw[Bool.not_eq_true']at hp;unfold fitS chR at hp;rw[<- w2]at hp;cases hw:Zal (k:Int) S with
  |false=>rw[hw]at hp;simp only[Q2]at hp;simp only[Zcp,h1,h0,htt,ht2,w1,hw,jB,jD,Q1,Q2,Q9,hp]
  |true=>rw[hw]at hp;simp only[Q1]at hp;simp only[Zcp,h1,h0,htt,ht2,w1,hw,jB,Bool.not_true,jD,Q1,Q2,Q9,hp]) (by
  have h1:decide (((36:Nat):Int)<36)=false:=by decide
  simp only[Zcp,h1,Q2])
theorem Ybl(a0:Array Value)(h_a0:WT prog 35 a0)(hg:(true)=true):ansV prog Zbv 1000 f41 [([2,3],[]),([2,4],[])] [.w 0] [.row a0 35]=some (.a (.b ((okS a0))),.none,true):=by
 refine(Yci 1000 a0).trans ?_;obtain⟨s0,b0,b1⟩:=h_a0.int (o:=0) (k:=.i8) (by kernel_rfl);obtain⟨s1,b2,b3⟩:=h_a0.int (o:=1) (k:=.i8) (by kernel_rfl);have e1:IntKind.i8.min=-128:=rfl;have e2:IntKind.i8.max=127:=rfl;have h:=Ych (g:=Zd6 prog 1000 a0) (λt=>(false,(t:Int))) (λt=>((jA 36).find? (λk=> !(fitS a0 t k))).isSome) 2 (N:=1000) (by omega) (xd:=.done (false,((2:Nat):Int))) (λt=>.more (false,(t:Int))) (λt ht hp=>by
  have h1:decide ((t:Int)<2)=true:=Q3 (by omega);have h3:i64.wrap ((t:Int)+1)=((t+1:Nat):Int):=by rw[IntWalk.i64_in _ (by omega)];omega
  have hn:(jA 36).find? (λk=> !(fitS a0 t k))=none:=by simpa using hp
  have hi:=Yiu h_a0 ht false;rw[hn]at hi;simp only[Zd6,h1,Q1,hi,Uan,st2,Zg6,h3]) (λt ht hp=>by
  have h1:decide ((t:Int)<2)=true:=Q3 (by omega);obtain⟨k,hn⟩:=Option.isSome_iff_exists.1 hp;have hi:=Yiu h_a0 ht false;rw[hn]at hi;simp only[Zd6,h1,Q1,hi,Uan,st2,Zg2]) (by
  have h1:decide (((2:Nat):Int)<2)=false:=by decide
  simp only[Zd6,h1,Q2])
 have h':Uac (Zd6 prog 1000 a0) 1000 (false,(0:Int))=some (match (jA 2).find? (λt=>((jA 36).find? (λk=> !(fitS a0 t k))).isSome) with|some t=>.more (false,(t:Int))|none=>.done (false,((2:Nat):Int))):=h;have i0:Zaa (i64.wrap (num a0 0)) 1 6=(decide (1<=num a0 0)&&decide (num a0 0<=6)):=by rw[IntWalk.i64_in _ (by omega)];unfold Zaa;cases h1:decide (num a0 0>=1)<;>simp_all
 have i1:Zaa (i64.wrap (num a0 1)) 1 6=(decide (1<=num a0 1)&&decide (num a0 1<=6)):=by rw[IntWalk.i64_in _ (by omega)];unfold Zaa;cases h1:decide (num a0 1>=1)<;>simp_all
 unfold okS okD;rw[i0,i1,h',all_two,<- Yea,<- Yea,show IntKind.u64.wrap (BitVec.ofInt IntKind.u64.bits (num a0 2) &&& ~~~(BitVec.ofInt IntKind.u64.bits (Ua8 (num a0 0) (num a0 1) 36))).toNat=Ubc (num a0 2) (Ua8 (num a0 0) (num a0 1) 36) from rfl,show (jA 2)=[0,1] from rfl];cases decide (1<=num a0 0)&&decide (num a0 0<=6)
 ·rfl
 cases decide (1<=num a0 1)&&decide (num a0 1<=6)
 ·rfl
 cases hb:(Ubc (num a0 2) (Ua8 (num a0 0) (num a0 1) 36)==0) with|false=>rw[show (Ubc (num a0 2) (Ua8 (num a0 0) (num a0 1) 36) != 0)=true by simp[bne,hb]];rfl|true=>rw[show (Ubc (num a0 2) (Ua8 (num a0 0) (num a0 1) 36) != 0)=false by simp[bne,hb]];simp only[List.find?];generalize (jA 36).find? (λk=> !(fitS a0 0 k))=f0;generalize (jA 36).find? (λk=> !(fitS a0 1 k))=f1;cases f0<;>cases f1<;>rfl
def Zh7:Con:=λargs h=>match args,h with|[.w 0],[.row a0 35]=>some (.a (.b ((okS a0))),.none,true)|_,_=>none
theorem Zk9:EntX prog 41:=Zam (fn:=f41)
theorem Zoj:Uad mn prog 41 Zh7:=(ansY (N:=1000) (mKc (Zah Zjh) Zgb (mKc (Zah Zy8) Zsv (mKc (Zah Zr2) Znf (mKc (Zah Zuq) Zpy mKn)))) f41 [([2,3],[]),([2,4],[])]).of (by
 intro ρ h w args vals r e hA hH hr;unfold Zh7 at hr;split at hr
 ·rename_i a0;obtain⟨rfl,rfl,hg2⟩:=BQi hr;exact Ybl a0 (hH.wt 0 rfl) hg2
 ·cases hr)
theorem Zq1{S:Array Value}(h:okS S=true):1<=num S 0/\num S 0<=6/\1<=num S 1/\num S 1<=6:=by unfold okS okD at h;simp only[Q7,decide_eq_true_eq]at h;exact⟨h.1.1.1,h.1.1.2,h.1.2.1,h.1.2.2⟩
theorem Zzs{S:Array Value}(h:okS S=true):(decide (0<=num S 0)&&decide (num S 0<=6)&&(decide (0<=num S 1)&&decide (num S 1<=6)))=true:=by obtain⟨h1,h2,h3,h4⟩:=Zq1 h;rw[Q3 (show 0<=num S 0 by omega),Q3 h2,Q3 (show 0<=num S 1 by omega),Q3 h4];rfl
theorem okS_fit{S:Array Value}(h:okS S=true){t k:Nat}(ht:t<2)(hk:k<36):fitS S t k=true:=by
 unfold okS at h;simp only[Q7]at h;have:=jC.1 h.2.2 k (List.mem_range.2 hk);rw[Q7]at this
 match t,ht with|0,_=>exact this.1|1,_=>exact this.2
theorem okS_land{S:Array Value}(h:okS S=true){k:Nat}(hk:k<64)(hb:bitI (num S 2) k=true):k<36/\inC (num S 0) (num S 1) k=true:=by
 unfold okS at h;simp only[Q7]at h;have:=Yh6.1 h.2.1 k hk hb;rw[Yi5 _ _ 36 (Nat.le_refl _)]at this
 simpa using this
theorem Yfu{S:Array Value}(h:WT prog 35 S):S.size=363:=by rw[h.layLen,Yii];simp
theorem num_sub{S:Array Value}{o n j:Nat}(hj:j<n):num (S.extract o (o+n)) j=num S (o+j):=by
 unfold num;rw[Array.getElem?_extract]
 by_cases h:o+j<S.size
 ·rw[if_pos (by omega)]
 ·rw[if_neg (by omega),Array.getElem?_eq_none (by omega)]
theorem sea_u8{S:Array Value}(h:WT prog 35 S){i:Nat}(hi:i<360):S[3+i]?=some (.int .u8 (num S (3+i)))/\0<=num S (3+i)/\num S (3+i)<=255:=h.int (k:=.u8) (by rw[Yii,show 3+i=i+3 by omega];show (List.replicate 360 4)[i]?=some 4;rw[List.getElem?_replicate,if_pos hi])
end
end Go.Proofs.YtefjogahegolbaaDoor
