/- What a valid sea is, in company. -/
import Derived.Test.YtgllknjdblkhnaaGreatDoorProg
import Derived.Test.YtgllknjdblkhnaaGreatDoorCxB
set_option linter.unusedVariables false
set_option linter.unusedSimpArgs false
open _root_.List renaming range->jA,all_eq_true->jC
open _root_.Bool renaming and_self->jB,not_false->jD
namespace Go.Proofs.YtgllknjdblkhnaaGreatDoor
open Tryz (f23 f35 f43 f57 f64)
open Go.ChangeShapes Go.WideShapes Go.ChangeAt Go.RowKit Ve Vc
open Tryz renaming prog -> PZ
open IntKind (i64)
set_option maxRecDepth 100000
noncomputable section
variable {mn:Md}
def sumW(a:Array Value):Nat->Int
 |0=>0
 |k+1=>i64.wrap (sumW a k+i64.wrap (num a (k*1)))
theorem tide_eq(t:Int):Zdj t=Zaa t 0 1:=by
 unfold Zdj Zaa
 by_cases h0:t=0
 ·subst h0;rfl
 ·by_cases h1:t=1
  ·subst h1;rfl
  ·rw[show (t==0)=false from beq_eq_false_iff_ne.2 h0,show (t==1)=false from beq_eq_false_iff_ne.2 h1]
   by_cases h2:t>=0
   ·rw[Q3 h2,Q4 (show ¬t<=1 by omega)];rfl
   ·rw[Q4 h2];rfl
def Zdv(a0:Array Value):St:=(⟨.a (.g a0 34)::.a (.w 0)::.a (.b false)::.a (.i .i64 0)::.a (.u)::.a (.u)::.a (.g a0 34)::.a (.i .i64 0)::us 9 ([]),[.row a0 34,.no],[]⟩:St)
def Zew:Int×Int->LS
 |(y0_3,y0_7)=>([.a (.i .i64 y0_3),.a (.i .i64 y0_7)],[])
def Zjc:Int×Int->Exit×LS
 |t=>((.exit 0),Zew t)
def Zb9(P:Program)(a0:Array Value):Int×Int->Option (Stp (Int×Int) (Int×Int))
 |(y0_3,y0_7)=>bif decide (y0_7<(5:Int)) then (bif (decide (0<=y0_7)&&decide (y0_7<5)) then (some (.more ((i64.wrap (y0_3+(i64.wrap (num a0 ((y0_7).toNat*1))))),(i64.wrap (y0_7+(1:Int)))))) else (none)) else (some (.done (y0_3,y0_7)))
noncomputable abbrev cKCxC64:=codeOf f64
def Uec:=(Uaa cKCxC64 [([3,7],[])]).1
theorem Ztv(N:Nat)(a0:Array Value):∀t:Int×Int,Ual PZ (mkΓ []) N (cAt cKCxC64 [1,1,0,1,0,0]) (pAt Uec [1,1,0,1,0]) [3,7] [] (Zdv a0) (Zew t)=mapS Zew Zjc (Zb9 PZ a0 t):=by
 rintro⟨y0_3,y0_7⟩
 conv=>rhs;simp only[Zb9,Zax,Zay,Zaw,Zaz,Zew,Zjc]
 kernel_rfl
def Zhu(P:Program)(N:Nat)(a0:Array Value)(z0_3:Int)(z0_7:Int):Option (SV×Eff×Bool):=some (.a (.b ((z0_3==(12:Int)))),.none,true)
def Ufw(N:Nat):=(Uad 0 (kSeq (veC PZ (mkΓ []) N (cAt cKCxC64 [1,1,1]) (pAt Uec [1,1,1]) (SV×Eff×Bool)) (finK PZ [] [.tmp 2])))
theorem Zox(N:Nat)(a0:Array Value)(z0_3:Int)(z0_7:Int):(Ufw N) (.exit 0) (left (writes (cAt cKCxC64 [1,1,0,1,0,0])) [3,7] [] (Zdv a0) ([.a (.i .i64 z0_3),.a (.i .i64 z0_7)],[]))=Zhu PZ N a0 z0_3 z0_7:=by kernel_rfl
theorem Zup(N:Nat)(a0:Array Value):Uah (Uab (Ual PZ (mkΓ []) N (cAt cKCxC64 [1,1,0,1,0,0]) (pAt Uec [1,1,0,1,0]) [3,7] [] (Zdv a0)) N ([.a (.i .i64 0),.a (.i .i64 0)],[])) (λe s=>(Ufw N) e (left (writes (cAt cKCxC64 [1,1,0,1,0,0])) [3,7] [] (Zdv a0) s))=Uao (Uab (Zb9 PZ a0) N ((0:Int),(0:Int))) (λx=>Zhu PZ N a0 x.1 x.2):=by refine Za2 Zew Zjc _ _ (Ztv N a0) N ((0:Int),(0:Int)) _ _ ?_;intro x;exact Zox N a0 x.1 x.2
theorem Zr3(N:Nat)(a0:Array Value):ansV PZ (mkΓ []) N f64 [([3,7],[])] [.g a0 34] []=(Uao (Uab (Zb9 PZ a0) N ((0:Int),(0:Int))) (λx=>Zhu PZ N a0 x.1 x.2)):=by
 conv=>rhs;simp only[<- Zup N a0]
 kernel_rfl
theorem Zrc(a0:Array Value)(h_a0:WT PZ 34 a0)(hg:(true)=true):ansV PZ (mkΓ []) 1000 f64 [([3,7],[])] [.g a0 34] []=some (.a (.b ((sumW a0 5==(12:Int)))),.none,true):=by
 have h:=Ze0 (g:=Zb9 PZ a0) (λk=>(sumW a0 k,(k:Int))) (m:=5) (x:=(sumW a0 5,((5:Nat):Int))) (N:=1000) (λk hk=>by
  have h1:decide ((k:Int)<5)=true:=Q3 (by omega);have h0:decide (0<=(k:Int))=true:=Q3 (by omega);have h3:i64.wrap ((k:Int)+1)=((k+1:Nat):Int):=by rw[IntWalk.i64_in _ (by omega)];omega
  have h4:((k:Int)).toNat=k:=Q9 k;simp only[Zb9,h1,h0,jB,h4,Q1,h3,sumW]) (by
  have h1:decide (((5:Nat):Int)<5)=false:=by decide
  simp only[Zb9,h1,Q2]) (by omega)
 refine(Zr3 1000 a0).trans ?_;have h':Uab (Zb9 PZ a0) 1000 ((0:Int),(0:Int))=some (sumW a0 5,((5:Nat):Int)):=h;rw[h'];rfl
def Zie:Con:=λargs h=>match args,h with|[.g a0 34],[]=>some (.a (.b ((sumW a0 5==(12:Int)))),.none,true)|_,_=>none
theorem Zp9:EntX PZ 64:=Zak (fn:=f64)
theorem Zuk:Uac mn PZ 64 Zie:=(ansY (N:=1000) mKn f64 [([3,7],[])]).of (by
 intro ρ h w args vals r e hA hH hr;unfold Zie at hr;split at hr
 ·rename_i a0;obtain⟨rfl,rfl,hg2⟩:=BQi hr;exact Zrc a0 (hA.wt 0 rfl) hg2
 ·cases hr)
def Zem(a0:Array Value):St:=(⟨.a (.g a0 34)::.a (.w 0)::.a (.b false)::.a (.i .i64 0)::.a (.i .i64 0)::us 12 ([]),[.row a0 34,.no],[]⟩:St)
def Zf9:Int×Int->LS
 |(y0_3,y0_4)=>([.a (.i .i64 y0_3),.a (.i .i64 y0_4)],[])
def Zkz:Int×Int->Exit×LS
 |t=>((.exit 0),Zf9 t)
def Zcx(P:Program)(a0:Array Value):Int×Int->Option (Stp (Int×Int) (Int×Int))
 |(y0_3,y0_4)=>bif decide (y0_4<(5:Int)) then (bif (decide (0<=y0_4)&&decide (y0_4<5)) then (some (.more ((i64.wrap (y0_3+(i64.wrap (num a0 ((y0_4).toNat*1))))),(i64.wrap (y0_4+(1:Int)))))) else (none)) else (some (.done (y0_3,y0_4)))
noncomputable abbrev cKCxC57:=codeOf f57
def Ues:=(Uaa cKCxC57 [([3,4],[])]).1
theorem Zy1(N:Nat)(a0:Array Value):∀t:Int×Int,Ual PZ (mkΓ []) N (cAt cKCxC57 [1,1,0,1,0,0]) (pAt Ues [1,1,0,1,0]) [3,4] [] (Zem a0) (Zf9 t)=mapS Zf9 Zkz (Zcx PZ a0 t):=by
 rintro⟨y0_3,y0_4⟩
 conv=>rhs;simp only[Zcx,Zax,Zay,Zaw,Zaz,Zf9,Zkz]
 kernel_rfl
def Ziz(P:Program)(N:Nat)(a0:Array Value)(z0_3:Int)(z0_4:Int):Option (SV×Eff×Bool):=some (.a (.b ((z0_3==(12:Int)))),.none,true)
def Ufp(N:Nat):=(Uad 0 (kSeq (veC PZ (mkΓ []) N (cAt cKCxC57 [1,1,1]) (pAt Ues [1,1,1]) (SV×Eff×Bool)) (finK PZ [] [.tmp 2])))
theorem Zqx(N:Nat)(a0:Array Value)(z0_3:Int)(z0_4:Int):(Ufp N) (.exit 0) (left (writes (cAt cKCxC57 [1,1,0,1,0,0])) [3,4] [] (Zem a0) ([.a (.i .i64 z0_3),.a (.i .i64 z0_4)],[]))=Ziz PZ N a0 z0_3 z0_4:=by kernel_rfl
theorem Zx2(N:Nat)(a0:Array Value):Uah (Uab (Ual PZ (mkΓ []) N (cAt cKCxC57 [1,1,0,1,0,0]) (pAt Ues [1,1,0,1,0]) [3,4] [] (Zem a0)) N ([.a (.i .i64 0),.a (.i .i64 0)],[])) (λe s=>(Ufp N) e (left (writes (cAt cKCxC57 [1,1,0,1,0,0])) [3,4] [] (Zem a0) s))=Uao (Uab (Zcx PZ a0) N ((0:Int),(0:Int))) (λx=>Ziz PZ N a0 x.1 x.2):=by refine Za2 Zf9 Zkz _ _ (Zy1 N a0) N ((0:Int),(0:Int)) _ _ ?_;intro x;exact Zqx N a0 x.1 x.2
theorem Zwe(N:Nat)(a0:Array Value):ansV PZ (mkΓ []) N f57 [([3,4],[])] [.g a0 34] []=(Uao (Uab (Zcx PZ a0) N ((0:Int),(0:Int))) (λx=>Ziz PZ N a0 x.1 x.2)):=by
 conv=>rhs;simp only[<- Zx2 N a0]
 kernel_rfl
theorem Zty(a0:Array Value)(h_a0:WT PZ 34 a0)(hg:(true)=true):ansV PZ (mkΓ []) 1000 f57 [([3,4],[])] [.g a0 34] []=some (.a (.b ((sumW a0 5==(12:Int)))),.none,true):=by
 have h:=Ze0 (g:=Zcx PZ a0) (λk=>(sumW a0 k,(k:Int))) (m:=5) (x:=(sumW a0 5,((5:Nat):Int))) (N:=1000) (λk hk=>by
  have h1:decide ((k:Int)<5)=true:=Q3 (by omega);have h0:decide (0<=(k:Int))=true:=Q3 (by omega);have h3:i64.wrap ((k:Int)+1)=((k+1:Nat):Int):=by rw[IntWalk.i64_in _ (by omega)];omega
  have h4:((k:Int)).toNat=k:=Q9 k;simp only[Zcx,h1,h0,jB,h4,Q1,h3,sumW]) (by
  have h1:decide (((5:Nat):Int)<5)=false:=by decide
  simp only[Zcx,h1,Q2]) (by omega)
 refine(Zwe 1000 a0).trans ?_;have h':Uab (Zcx PZ a0) 1000 ((0:Int),(0:Int))=some (sumW a0 5,((5:Nat):Int)):=h;rw[h'];rfl
def Zjw:Con:=λargs h=>match args,h with|[.g a0 34],[]=>some (.a (.b ((sumW a0 5==(12:Int)))),.none,true)|_,_=>none
theorem Zsx:EntX PZ 57:=Zak (fn:=f57)
theorem Zy6:Uac mn PZ 57 Zjw:=(ansY (N:=1000) mKn f57 [([3,4],[])]).of (by
 intro ρ h w args vals r e hA hH hr;unfold Zjw at hr;split at hr
 ·rename_i a0;obtain⟨rfl,rfl,hg2⟩:=BQi hr;exact Zty a0 (hA.wt 0 rfl) hg2
 ·cases hr)
def Zpd:Cons:=(mkΓ [(62,con Zmr),(63,con Zmj),(64,con Zie)])
theorem Zvj(N:Nat)(a0:Array Value)(a1:Int)(a2:Array Value):ansV PZ Zpd N f43 [] [.g a0 38,.i .i64 a1,.g a2 34] []=(bif (Zav a0 a1) then (bif decide (0<=a1) then (bif (Zff a0 a1) then (some (.a (.b ((sumW a2 5==(12:Int)))),.none,true)) else (some (.a (.b ((Ua2 a2 (#[.int .u8 0,.int .u8 0,.int .u8 0,.int .u8 0,.int .u8 0]:Array Value)))),.none,true))) else (none)) else (some (.a (.b ((Ua2 a2 (#[.int .u8 0,.int .u8 0,.int .u8 0,.int .u8 0,.int .u8 0]:Array Value)))),.none,true))):=by kernel_rfl
def Zcc(a0:Array Value)(a1:Int)(a2:Array Value):Bool:=(bif (Zav a0 a1) then (bif (Zff a0 a1) then (sumW a2 5==(12:Int)) else (Ua2 a2 (#[.int .u8 0,.int .u8 0,.int .u8 0,.int .u8 0,.int .u8 0]:Array Value))) else (Ua2 a2 (#[.int .u8 0,.int .u8 0,.int .u8 0,.int .u8 0,.int .u8 0]:Array Value)))
theorem Zt3(a0:Array Value)(a1:Int)(a2:Array Value)(h_a0:WT PZ 38 a0)(h_a1:i64.min<=a1/\a1<=i64.max)(h_a2:WT PZ 34 a2)(hg:((bif (Zav a0 a1) then decide (0<=a1) else true))=true):ansV PZ Zpd 1000 f43 [] [.g a0 38,.i .i64 a1,.g a2 34] []=some (.a (.b ((Zcc a0 a1 a2))),.none,true):=by
 refine(Zvj 1000 a0 a1 a2).trans ?_;unfold Zcc;revert hg;generalize ((Zav a0 a1))=b2;intro hg;cases b2
 ·skip
  first|rfl|exact(nomatch (hg:false=true))
 ·skip
  revert hg;generalize (decide (0<=a1))=b4;intro hg;cases b4
  ·skip
   first|exact(nomatch (hg:false=true))|rfl
  ·skip
   revert hg;generalize ((Zff a0 a1))=b6;intro hg;cases b6
   ·skip
    first|rfl|exact(nomatch (hg:false=true))
   ·skip
    first|rfl|exact(nomatch (hg:false=true))
def Zjv:Con:=λargs h=>match args,h with|[.g a0 38,.i .i64 a1,.g a2 34],[]=>some (.a (.b ((Zcc a0 a1 a2))),.none,(bif (Zav a0 a1) then decide (0<=a1) else true))|_,_=>none
theorem Zs0:EntX PZ 43:=Zak (fn:=f43)
theorem Zyc:Uac mn PZ 43 Zjv:=(ansY (N:=1000) (mKc (Zag Yeu) Zxi (mKc (Zag Ycy) Zw1 (mKc (Zag Zuk) Zp9 mKn))) f43 []).of (by
 intro ρ h w args vals r e hA hH hr;unfold Zjv at hr;split at hr
 ·rename_i a0 a1 a2;obtain⟨rfl,rfl,hg2⟩:=BQi hr;exact Zt3 a0 a1 a2 (hA.wt 0 rfl) (hA.rng 1 rfl) (hA.wt 2 rfl) hg2
 ·cases hr)
def chR(S:Array Value)(t k:Nat):Array Value:=S.extract (3+t*180+k*5) (3+t*180+k*5+5)
def fitS(S:Array Value)(t k:Nat):Bool:=bif inC (num S 0) (num S 1) k && !(bitI (num S 2) k) then (sumW (chR S t k) 5==(12:Int)) else Ua2 (chR S t k) (#[.int .u8 0,.int .u8 0,.int .u8 0,.int .u8 0,.int .u8 0]:Array Value)
def okD(S:Array Value):Bool:=decide (1<=num S 0)&&decide (num S 0<=6)&&(decide (1<=num S 1)&&decide (num S 1<=6))
def okS(S:Array Value):Bool:=okD S&&((Ubc (num S 2) (Ua0 (num S 0) (num S 1) 36)==0)&&(jA 36).all λk=>fitS S 0 k&&fitS S 1 k)
theorem Ygt(n:Nat)(p:Nat->Bool):((jA n).find? (λk=> !(p k))).isNone=(jA n).all p:=by rw[Bool.eq_iff_iff,Option.isNone_iff_eq_none,List.find?_eq_none,jC];simp
theorem all_two(n:Nat)(p q:Nat->Bool):(jA n).all (λk=>p k&&q k)=((jA n).all p&&(jA n).all q):=by rw[Bool.eq_iff_iff,Q7,jC,jC,jC];simp only[Q7];exact⟨λh=>⟨λx hx=>(h x hx).1,λx hx=>(h x hx).2⟩,λh x hx=>⟨h.1 x hx,h.2 x hx⟩⟩
theorem Yoi{S:Array Value}(h:WT PZ 38 S){k:Nat}(hk:k<36):Zav S (k:Int)=inC (num S 0) (num S 1) k:=by rw[cell_is,Yfs h hk]
theorem Ycl{S:Array Value}(h:WT PZ 38 S){k:Nat}(hk:k<36)(t:Nat):Zcc S (k:Int) (chR S t k)=fitS S t k:=by unfold Zcc fitS;rw[Yoi h hk];unfold Zff;rw[Yf3 hk];cases inC (num S 0) (num S 1) k<;>cases bitI (num S 2) k<;>rfl
theorem Zuy{S:Array Value}(h:WT PZ 38 S){k:Nat}(hk:k<36):Zbg (k:Int) S=true/\Zae (k:Int) S=(inC (num S 0) (num S 1) k && !(bitI (num S 2) k)):=by
 have hu:decide (0<=IntKind.u64.wrap (k:Int))=true:=Q3 (Zhx .u64 _).1;unfold Zbg Zae;rw[Yfs h hk,Yk8 h hk];constructor
 ·cases inC (num S 0) (num S 1) k<;>simp[hu]
 ·cases inC (num S 0) (num S 1) k<;>simp
def Zgw:Cons:=(mkΓ [(42,con Zd5),(43,con Zjv)])
def Zer(a0:Array Value):St:=(⟨.a (.g a0 38)::.a (.w 0)::.a (.b false)::.a (.u)::.a (.p 0 (0) 22)::.a (.i .i8 (num a0 0))::.a (.b (decide ((num a0 0)<(1:Int))))::.a (.b false)::.a (.p 0 (0) 22)::.a (.i .i8 (num a0 0))::.a (.b (decide ((num a0 0) > (6:Int))))::.a (.b (decide ((num a0 0) > (6:Int))))::.a (.b false)::.a (.p 0 (1) 22)::.a (.i .i8 (num a0 1))::.a (.b (decide ((num a0 1)<(1:Int))))::.a (.b (decide ((num a0 1)<(1:Int))))::.a (.b false)::.a (.p 0 (1) 22)::.a (.i .i8 (num a0 1))::.a (.b (decide ((num a0 1) > (6:Int))))::.a (.b (decide ((num a0 1) > (6:Int))))::.a (.p 0 (2) 23)::.a (.i .u64 (num a0 2))::.a (.g a0 38)::.a (.i .u64 (Ua0 (num a0 0) (num a0 1) 36))::.a (.i .u64 (IntKind.u64.wrap (BitVec.ofInt IntKind.u64.bits (num a0 2) &&& ~~~(BitVec.ofInt IntKind.u64.bits (Ua0 (num a0 0) (num a0 1) 36))).toNat))::.a (.b (((IntKind.u64.wrap (BitVec.ofInt IntKind.u64.bits (num a0 2) &&& ~~~(BitVec.ofInt IntKind.u64.bits (Ua0 (num a0 0) (num a0 1) 36))).toNat) != (0:Int))))::.a (.i .i64 0)::us 23 ([]),[.row a0 38,.no,.no,.no,.no,.no,.no,.no],[]⟩:St)
def Zfw:Bool×Int->LS
 |(y0_2,y0_28)=>([.a (.b y0_2),.a (.i .i64 y0_28)],[])
def Zmm:(Stp (Bool×Int) (Bool×Int))->Exit×LS
 |.more t=>(.ret,Zfw t)
 |.done t=>((.exit 0),Zfw t)
def Zck(P:Program)(a0:Array Value):Bool×Int->Option (Stp (Bool×Int) (Stp (Bool×Int) (Bool×Int)))
  |(y0_2,y0_28)=>bif decide (y0_28<(36:Int)) then (bif (decide (0<=y0_28)&&decide (y0_28<36)) then (bif (bif (Zav a0 y0_28) then decide (0<=y0_28) else true) then (bif (!((Zcc a0 y0_28 (a0.extract (3+((y0_28).toNat*5)) ((3+((y0_28).toNat*5))+5))))) then (some (.done (.more (false,y0_28)))) else (bif (decide (0<=y0_28)&&decide (y0_28<36)) then (bif (bif (Zav a0 y0_28) then decide (0<=y0_28) else true) then (bif (!((Zcc a0 y0_28 (a0.extract (183+((y0_28).toNat*5)) ((183+((y0_28).toNat*5))+5))))) then (some (.done (.more (false,y0_28)))) else (some (.more (y0_2,(i64.wrap (y0_28+(1:Int))))))) else (none)) else (none))) else (none)) else (none)) else (some (.done (.done (y0_2,y0_28))))
noncomputable abbrev cKCxC23:=codeOf f23
def Uew:=(Uaa cKCxC23 [([2,28],[])]).1
theorem Yb8(N:Nat)(a0:Array Value):∀t:Bool×Int,Ual PZ Zgw N (cAt cKCxC23 [1,1,1,0,1,0,0]) (pAt Uew [1,1,1,0,1,0]) [2,28] [] (Zer a0) (Zfw t)=mapS Zfw Zmm (Zck PZ a0 t):=by
  rintro⟨y0_2,y0_28⟩
  conv=>rhs;simp only[Zck,Zax,Zay,Zaw,Zaz,Zfw,Zmm]
  kernel_rfl
def Zkw(P:Program)(N:Nat)(a0:Array Value)(z0_2:Bool)(z0_28:Int):Option (SV×Eff×Bool):=some (.a (.b z0_2),.none,true)
def Uel(N:Nat):=(Uad 0 (kSeq (veC PZ Zgw N (cAt cKCxC23 [1,1,1,1]) (pAt Uew [1,1,1,1]) (SV×Eff×Bool)) (finK PZ [] [.tmp 2])))
theorem Zrn(N:Nat)(a0:Array Value)(z0_2:Bool)(z0_28:Int):(Uel N) .ret (left (writes (cAt cKCxC23 [1,1,1,0,1,0,0])) [2,28] [] (Zer a0) ([.a (.b z0_2),.a (.i .i64 z0_28)],[]))=Zkw PZ N a0 z0_2 z0_28:=by kernel_rfl
def Zks(P:Program)(N:Nat)(a0:Array Value)(z0_2:Bool)(z0_28:Int):Option (SV×Eff×Bool):=some (.a (.b true),.none,true)
theorem Zrw(N:Nat)(a0:Array Value)(z0_2:Bool)(z0_28:Int):(Uel N) (.exit 0) (left (writes (cAt cKCxC23 [1,1,1,0,1,0,0])) [2,28] [] (Zer a0) ([.a (.b z0_2),.a (.i .i64 z0_28)],[]))=Zks PZ N a0 z0_2 z0_28:=by kernel_rfl
theorem Ybi(N:Nat)(a0:Array Value):Uah (Uab (Ual PZ Zgw N (cAt cKCxC23 [1,1,1,0,1,0,0]) (pAt Uew [1,1,1,0,1,0]) [2,28] [] (Zer a0)) N ([.a (.b false),.a (.i .i64 0)],[])) (λe s=>(Uel N) e (left (writes (cAt cKCxC23 [1,1,1,0,1,0,0])) [2,28] [] (Zer a0) s))=Uao (Uab (Zck PZ a0) N (false,(0:Int))) (st2 (λx=>Zkw PZ N a0 x.1 x.2) (λx=>Zks PZ N a0 x.1 x.2)):=by refine Za2 Zfw Zmm _ _ (Yb8 N a0) N (false,(0:Int)) _ _ ?_;intro x;cases x with|more x=>exact Zrn N a0 x.1 x.2|done x=>exact Zrw N a0 x.1 x.2
theorem Yac(N:Nat)(a0:Array Value):ansV PZ Zgw N f23 [([2,28],[])] [.g a0 38] []=(bif decide ((num a0 0)<(1:Int)) then (some (.a (.b false),.none,true)) else (bif decide ((num a0 0) > (6:Int)) then (some (.a (.b false),.none,true)) else (bif decide ((num a0 1)<(1:Int)) then (some (.a (.b false),.none,true)) else (bif decide ((num a0 1) > (6:Int)) then (some (.a (.b false),.none,true)) else (bif (decide (0<=num a0 0)&&decide (num a0 0<=6)&&(decide (0<=num a0 1)&&decide (num a0 1<=6))) then (bif ((IntKind.u64.wrap (BitVec.ofInt IntKind.u64.bits (num a0 2) &&& ~~~(BitVec.ofInt IntKind.u64.bits (Ua0 (num a0 0) (num a0 1) 36))).toNat) != (0:Int)) then (some (.a (.b false),.none,true)) else (Uao (Uab (Zck PZ a0) N (false,(0:Int))) (st2 (λx=>Zkw PZ N a0 x.1 x.2) (λx=>Zks PZ N a0 x.1 x.2)))) else (none)))))):=by
  conv=>rhs;simp only[<- Ybi N a0]
  kernel_rfl
theorem Zx7(a0:Array Value)(h_a0:WT PZ 38 a0)(hg:(true)=true):ansV PZ Zgw 1000 f23 [([2,28],[])] [.g a0 38] []=some (.a (.b ((okS a0))),.none,true):=by
 refine(Yac 1000 a0).trans ?_;have h:=Zxd (g:=Zck PZ a0) (λk=>(false,(k:Int))) (λk=> !(fitS a0 0 k&&fitS a0 1 k)) 36 (N:=1000) (by omega) (xd:=.done (false,((36:Nat):Int))) (λk=>.more (false,(k:Int))) (λk hk hp=>by
  have h1:decide ((k:Int)<36)=true:=Q3 (by omega);have h0:decide (0<=(k:Int))=true:=Q3 (by omega);have h3:i64.wrap ((k:Int)+1)=((k+1:Nat):Int):=by rw[IntWalk.i64_in _ (by omega)];omega
  have f0:=Ycl h_a0 hk 0;have f1:=Ycl h_a0 hk 1;unfold chR at f0 f1;rw[show 3+0*180+k*5=3+k*5 by omega]at f0;rw[show 3+1*180+k*5=183+k*5 by omega]at f1;have hg:(bif Zav a0 (k:Int) then true else true)=true:=by cases Zav a0 (k:Int)<;>rfl
  simp only[Bool.not_eq_false',Q7]at hp;simp only[Zck,h1,h0,h3,jB,Q1,Q9,hg,f0,f1,hp.1,hp.2,Bool.not_true,Q2]) (λk hk hp=>by
  have h1:decide ((k:Int)<36)=true:=Q3 (by omega);have h0:decide (0<=(k:Int))=true:=Q3 (by omega);have f0:=Ycl h_a0 hk 0;have f1:=Ycl h_a0 hk 1;unfold chR at f0 f1;rw[show 3+0*180+k*5=3+k*5 by omega]at f0;rw[show 3+1*180+k*5=183+k*5 by omega]at f1;have hg:(bif Zav a0 (k:Int) then true else true)=true:=by cases Zav a0 (k:Int)<;>rfl
  cases e0:fitS a0 0 k with
  |false=>simp only[Zck,h1,h0,jB,Q1,Q9,hg,f0,e0,jD]
  |true=>
   rw[e0]at hp;have e1:fitS a0 1 k=false:=by simpa using hp
   simp only[Zck,h1,h0,jB,Q1,Q9,hg,f0,f1,e0,e1,jD,Bool.not_true,Q2]) (by
  have h1:decide (((36:Nat):Int)<36)=false:=by decide
  simp only[Zck,h1,Q2])
 have h':Uab (Zck PZ a0) 1000 (false,(0:Int))=some (match (jA 36).find? (λk=> !(fitS a0 0 k&&fitS a0 1 k)) with|some k=>.more (false,(k:Int))|none=>.done (false,((36:Nat):Int))):=h;have hf:=Ygt 36 (λk=>fitS a0 0 k&&fitS a0 1 k);unfold okS okD
 by_cases d1:1<=num a0 0
 ·rw [Q3 d1,Q4 (show ¬ num a0 0<1 by omega)]
  by_cases d2:num a0 0<=6
  ·rw [Q3 d2,Q4 (show ¬ num a0 0 > 6 by omega)]
   by_cases d3:1<=num a0 1
   ·rw[Q3 d3,Q4 (show ¬num a0 1<1 by omega)]
    by_cases d4:num a0 1<=6
    ·rw[Q3 d4,Q4 (show ¬num a0 1 > 6 by omega),Q3 (show 0<=num a0 0 by omega),Q3 (show 0<=num a0 1 by omega)];simp only[jB,Q1,Q2,Bool.true_and,h'];rw[show IntKind.u64.wrap (BitVec.ofInt IntKind.u64.bits (num a0 2) &&& ~~~(BitVec.ofInt IntKind.u64.bits (Ua0 (num a0 0) (num a0 1) 36))).toNat=Ubc (num a0 2) (Ua0 (num a0 0) (num a0 1) 36) from rfl];cases hb:(Ubc (num a0 2) (Ua0 (num a0 0) (num a0 1) 36)==0) with|false=>rw[show (Ubc (num a0 2) (Ua0 (num a0 0) (num a0 1) 36) != 0)=true by simp[bne,hb]];rfl|true=>rw[show (Ubc (num a0 2) (Ua0 (num a0 0) (num a0 1) 36) != 0)=false by simp[bne,hb],<- hf];cases (jA 36).find? (λk=> !(fitS a0 0 k&&fitS a0 1 k))<;>rfl
    ·rw[Q4 d4,Q3 (show num a0 1 > 6 by omega)];rfl
   ·rw[Q4 d3,Q3 (show num a0 1<1 by omega)];rfl
  ·rw[Q4 d2,Q3 (show num a0 0 > 6 by omega)];rfl
 ·rw[Q4 d1,Q3 (show num a0 0<1 by omega)];rfl
def Zlz:Con:=λargs h=>match args,h with|[.g a0 38],[]=>some (.a (.b ((okS a0))),.none,true)|_,_=>none
theorem Zkc:EntX PZ 23:=Zak (fn:=f23)
theorem Zmi:Uac mn PZ 23 Zlz:=(ansY (N:=1000) (mKc (Zag Zmf) Zjs (mKc (Zag Zyc) Zs0 mKn)) f23 [([2,28],[])]).of (by
 intro ρ h w args vals r e hA hH hr;unfold Zlz at hr;split at hr
 ·rename_i a0;obtain⟨rfl,rfl,hg2⟩:=BQi hr;exact Zx7 a0 (hA.wt 0 rfl) hg2
 ·cases hr)
def Ze4:Cons:=(mkΓ [(37,con Zdh),(38,con Zio),(39,con Zii),(57,con Zjw)])
def Zhd(a0:Array Value)(y0_2:Bool)(y0_3:Int):St:=(⟨.a (.w 0)::.a (.u)::.a (.b y0_2)::.a (.i .i64 y0_3)::.a (.i .i64 0)::.a (.x)::.a (.w 0)::.a (.w 0)::.a (.p 0 (0) 22)::.a (.i .i8 (num a0 0))::.a (.i .i64 (i64.wrap (num a0 0)))::.a (.b ((Zaa (i64.wrap (num a0 0)) (1:Int) (6:Int))))::.a (.b ((!((Zaa (i64.wrap (num a0 0)) (1:Int) (6:Int))))))::.a (.b false)::.a (.w 0)::.a (.w 0)::.a (.p 0 (1) 22)::.a (.i .i8 (num a0 1))::.a (.i .i64 (i64.wrap (num a0 1)))::.a (.b ((Zaa (i64.wrap (num a0 1)) (1:Int) (6:Int))))::.a (.b ((!((Zaa (i64.wrap (num a0 1)) (1:Int) (6:Int))))))::.a (.b ((!((Zaa (i64.wrap (num a0 1)) (1:Int) (6:Int))))))::.a (.b false)::.a (.w 0)::.a (.w 0)::.a (.p 0 (2) 23)::.a (.i .u64 (num a0 2))::.a (.w 0)::.a (.i .u64 (Ua0 (num a0 0) (num a0 1) 36))::.a (.i .u64 (IntKind.u64.wrap (BitVec.ofInt IntKind.u64.bits (num a0 2) &&& ~~~(BitVec.ofInt IntKind.u64.bits (Ua0 (num a0 0) (num a0 1) 36))).toNat))::.a (.b (((IntKind.u64.wrap (BitVec.ofInt IntKind.u64.bits (num a0 2) &&& ~~~(BitVec.ofInt IntKind.u64.bits (Ua0 (num a0 0) (num a0 1) 36))).toNat) != (0:Int))))::.a (.b (((IntKind.u64.wrap (BitVec.ofInt IntKind.u64.bits (num a0 2) &&& ~~~(BitVec.ofInt IntKind.u64.bits (Ua0 (num a0 0) (num a0 1) 36))).toNat) != (0:Int))))::.a (.i .i64 y0_3)::.a (.b (decide (y0_3<(2:Int))))::xs 33 ([]),[.row a0 38,.no,.no,.no,.no,.no,.no,.no,.no,.no,.no,.no,.no,.no,.no,.no,.no,.no,.no,.no,.no,.no,.no,.no,.no,.no,.no],[]⟩:St)
def Zf2:Bool×Int->LS
 |(y1_2,y1_4)=>([.a (.b y1_2),.a (.i .i64 y1_4)],[])
def Zld:(Stp (Bool×Int) (Bool×Int))->Exit×LS
 |.more t=>(.ret,Zf2 t)
 |.done t=>((.exit 2),Zf2 t)
def Zdn(P:Program)(a0:Array Value)(y0_2:Bool)(y0_3:Int):Bool×Int->Option (Stp (Bool×Int) (Stp (Bool×Int) (Bool×Int)))
  |(y1_2,y1_4)=>bif decide (y1_4<(36:Int)) then (bif (decide (0<=y0_3)&&decide (y0_3<2)) then (bif (decide (0<=y1_4)&&decide (y1_4<36)) then (bif (Zbg y1_4 a0) then (bif (Zae y1_4 a0) then (bif (!((sumW (a0.extract ((3+((y0_3).toNat*180))+((y1_4).toNat*5)) (((3+((y0_3).toNat*180))+((y1_4).toNat*5))+5)) 5==(12:Int)))) then (some (.done (.more (false,y1_4)))) else (bif (Zbg y1_4 a0) then (bif (!((Zae y1_4 a0))) then (bif (!(Ua2 (a0.extract ((3+((y0_3).toNat*180))+((y1_4).toNat*5)) (((3+((y0_3).toNat*180))+((y1_4).toNat*5))+5)) (#[.int .u8 0,.int .u8 0,.int .u8 0,.int .u8 0,.int .u8 0]:Array Value))) then (some (.done (.more (false,y1_4)))) else (some (.more (y1_2,(i64.wrap (y1_4+(1:Int))))))) else (some (.more (y1_2,(i64.wrap (y1_4+(1:Int))))))) else (none))) else (bif (Zbg y1_4 a0) then (bif (!((Zae y1_4 a0))) then (bif (!(Ua2 (a0.extract ((3+((y0_3).toNat*180))+((y1_4).toNat*5)) (((3+((y0_3).toNat*180))+((y1_4).toNat*5))+5)) (#[.int .u8 0,.int .u8 0,.int .u8 0,.int .u8 0,.int .u8 0]:Array Value))) then (some (.done (.more (false,y1_4)))) else (some (.more (y1_2,(i64.wrap (y1_4+(1:Int))))))) else (some (.more (y1_2,(i64.wrap (y1_4+(1:Int))))))) else (none))) else (none)) else (none)) else (none)) else (some (.done (.done (y1_2,y1_4))))
noncomputable abbrev cKCxC35:=codeOf f35
def Ub6:=(Uaa cKCxC35 [([2,3],[]),([2,4],[])]).1
theorem Zqv(N:Nat)(a0:Array Value)(y0_2:Bool)(y0_3:Int):∀t:Bool×Int,Ual PZ Ze4 N (cAt cKCxC35 [1,1,0,1,0,0,1,0,0,1,0,0]) (pAt Ub6 [1,1,0,1,0,1,0,1,0]) [2,4] [] (Zhd a0 y0_2 y0_3) (Zf2 t)=mapS Zf2 Zld (Zdn PZ a0 y0_2 y0_3 t):=by
  rintro⟨y1_2,y1_4⟩
  conv=>rhs;simp only[Zdn,Zax,Zay,Zaw,Zaz,Zf2,Zld]
  kernel_rfl
def Zg8(a0:Array Value):St:=(⟨.a (.w 0)::.a (.u)::.a (.b false)::.a (.i .i64 0)::.a (.u)::.a (.u)::.a (.w 0)::.a (.w 0)::.a (.p 0 (0) 22)::.a (.i .i8 (num a0 0))::.a (.i .i64 (i64.wrap (num a0 0)))::.a (.b ((Zaa (i64.wrap (num a0 0)) (1:Int) (6:Int))))::.a (.b ((!((Zaa (i64.wrap (num a0 0)) (1:Int) (6:Int))))))::.a (.b false)::.a (.w 0)::.a (.w 0)::.a (.p 0 (1) 22)::.a (.i .i8 (num a0 1))::.a (.i .i64 (i64.wrap (num a0 1)))::.a (.b ((Zaa (i64.wrap (num a0 1)) (1:Int) (6:Int))))::.a (.b ((!((Zaa (i64.wrap (num a0 1)) (1:Int) (6:Int))))))::.a (.b ((!((Zaa (i64.wrap (num a0 1)) (1:Int) (6:Int))))))::.a (.b false)::.a (.w 0)::.a (.w 0)::.a (.p 0 (2) 23)::.a (.i .u64 (num a0 2))::.a (.w 0)::.a (.i .u64 (Ua0 (num a0 0) (num a0 1) 36))::.a (.i .u64 (IntKind.u64.wrap (BitVec.ofInt IntKind.u64.bits (num a0 2) &&& ~~~(BitVec.ofInt IntKind.u64.bits (Ua0 (num a0 0) (num a0 1) 36))).toNat))::.a (.b (((IntKind.u64.wrap (BitVec.ofInt IntKind.u64.bits (num a0 2) &&& ~~~(BitVec.ofInt IntKind.u64.bits (Ua0 (num a0 0) (num a0 1) 36))).toNat) != (0:Int))))::.a (.b (((IntKind.u64.wrap (BitVec.ofInt IntKind.u64.bits (num a0 2) &&& ~~~(BitVec.ofInt IntKind.u64.bits (Ua0 (num a0 0) (num a0 1) 36))).toNat) != (0:Int))))::us 35 ([]),[.row a0 38,.no,.no,.no,.no,.no,.no,.no,.no,.no,.no,.no,.no,.no,.no,.no,.no,.no,.no,.no,.no,.no,.no,.no,.no,.no,.no],[]⟩:St)
def Zc4:Bool×Int->LS
 |(y0_2,y0_3)=>([.a (.b y0_2),.a (.i .i64 y0_3)],[])
def Ze1:(Stp (Bool×Int) (Bool×Int))->Exit×LS
 |.more t=>(.ret,Zc4 t)
 |.done t=>((.exit 0),Zc4 t)
def Zib(P:Program)(N:Nat)(a0:Array Value)(y0_2:Bool)(y0_3:Int)(z1_2:Bool)(z1_4:Int):Option (Stp (Bool×Int) (Stp (Bool×Int) (Bool×Int))):=some (.done (.more (z1_2,y0_3)))
def Uej(N:Nat):=(Uad 2 (Uad 1 (kSeq (veC PZ Ze4 N (cAt cKCxC35 [1,1,0,1,0,0,1,1]) (pAt Ub6 [1,1,0,1,0,1,1]) (Stp LS (Exit×LS))) (Uc6 27 [2,3] []))))
theorem Zyy(N:Nat)(a0:Array Value)(y0_2:Bool)(y0_3:Int)(z1_2:Bool)(z1_4:Int):(Uej N) .ret (left (writes (cAt cKCxC35 [1,1,0,1,0,0,1,0,0,1,0,0])) [2,4] [] (Zhd a0 y0_2 y0_3) ([.a (.b z1_2),.a (.i .i64 z1_4)],[]))=mapS Zc4 Ze1 (Zib PZ N a0 y0_2 y0_3 z1_2 z1_4):=by
 conv=>rhs;simp only[Zib,Zax,Zay,Zaw,Zaz,Zc4,Ze1]
 kernel_rfl
def Zh6(P:Program)(N:Nat)(a0:Array Value)(y0_2:Bool)(y0_3:Int)(z1_2:Bool)(z1_4:Int):Option (Stp (Bool×Int) (Stp (Bool×Int) (Bool×Int))):=some (.more (z1_2,(i64.wrap (y0_3+(1:Int)))))
theorem Zys(N:Nat)(a0:Array Value)(y0_2:Bool)(y0_3:Int)(z1_2:Bool)(z1_4:Int):(Uej N) (.exit 2) (left (writes (cAt cKCxC35 [1,1,0,1,0,0,1,0,0,1,0,0])) [2,4] [] (Zhd a0 y0_2 y0_3) ([.a (.b z1_2),.a (.i .i64 z1_4)],[]))=mapS Zc4 Ze1 (Zh6 PZ N a0 y0_2 y0_3 z1_2 z1_4):=by
 conv=>rhs;simp only[Zh6,Zax,Zay,Zaw,Zaz,Zc4,Ze1]
 kernel_rfl
theorem Yhb(N:Nat)(a0:Array Value)(y0_2:Bool)(y0_3:Int):Uah (Uab (Ual PZ Ze4 N (cAt cKCxC35 [1,1,0,1,0,0,1,0,0,1,0,0]) (pAt Ub6 [1,1,0,1,0,1,0,1,0]) [2,4] [] (Zhd a0 y0_2 y0_3)) N ([.a (.b y0_2),.a (.i .i64 0)],[])) (λe s=>(Uej N) e (left (writes (cAt cKCxC35 [1,1,0,1,0,0,1,0,0,1,0,0])) [2,4] [] (Zhd a0 y0_2 y0_3) s))=mapS Zc4 Ze1 (Uao (Uab (Zdn PZ a0 y0_2 y0_3) N (y0_2,(0:Int))) (st2 (λx=>Zib PZ N a0 y0_2 y0_3 x.1 x.2) (λx=>Zh6 PZ N a0 y0_2 y0_3 x.1 x.2))):=by
 rw[Zpq Zc4 Ze1]
 first
 |(have h:=Za2 (α:=Stp LS (Exit×LS)) Zf2 Zld _ _ (Zqv N a0 y0_2 y0_3) N (y0_2,(0:Int));refine h _ _ ?_)
 |(have h:=Za2 (α:=Stp BS (Exit×BS)) Zf2 Zld _ _ (Zqv N a0 y0_2 y0_3) N (y0_2,(0:Int));refine h _ _ ?_)
 |(have h:=Za2 (α:=Stp LS ((Exit×LS)⊕(SV×Eff×Bool))) Zf2 Zld _ _ (Zqv N a0 y0_2 y0_3) N (y0_2,(0:Int));refine h _ _ ?_)
 intro x;cases x with|more x=>exact Zyy N a0 y0_2 y0_3 x.1 x.2|done x=>exact Zys N a0 y0_2 y0_3 x.1 x.2
def Zez(P:Program)(N:Nat)(a0:Array Value):Bool×Int->Option (Stp (Bool×Int) (Stp (Bool×Int) (Bool×Int)))
 |(y0_2,y0_3)=>bif decide (y0_3<(2:Int)) then (Uao (Uab (Zdn P a0 y0_2 y0_3) N (y0_2,(0:Int))) (st2 (λx=>Zib P N a0 y0_2 y0_3 x.1 x.2) (λx=>Zh6 P N a0 y0_2 y0_3 x.1 x.2))) else (some (.done (.done (y0_2,y0_3))))
theorem Yhg(N:Nat)(a0:Array Value):∀t:Bool×Int,Ual PZ Ze4 N (cAt cKCxC35 [1,1,0,1,0,0]) (pAt Ub6 [1,1,0,1,0]) [2,3] [] (Zg8 a0) (Zc4 t)=mapS Zc4 Ze1 (Zez PZ N a0 t):=by
 rintro⟨y0_2,y0_3⟩
 conv=>rhs;simp only[<- Yhb N a0 y0_2 y0_3,Zez,Zax,Zay,Zaw,Zaz,Zc4,Ze1]
 kernel_rfl
def Znz(P:Program)(N:Nat)(a0:Array Value)(z0_2:Bool)(z0_3:Int):Option (SV×Eff×Bool):=some (.a (.b z0_2),.none,true)
def Uem(N:Nat)(a0:Array Value):=(Uad 0 (kSeq (veC PZ Ze4 N (cAt cKCxC35 [1,1,1]) (pAt Ub6 [1,1,1]) (SV×Eff×Bool)) (finK PZ [.row a0 38] [.tmp 2])))
theorem Zxo(N:Nat)(a0:Array Value)(z0_2:Bool)(z0_3:Int):(Uem N a0) .ret (left (writes (cAt cKCxC35 [1,1,0,1,0,0])) [2,3] [] (Zg8 a0) ([.a (.b z0_2),.a (.i .i64 z0_3)],[]))=Znz PZ N a0 z0_2 z0_3:=by kernel_rfl
def Znp(P:Program)(N:Nat)(a0:Array Value)(z0_2:Bool)(z0_3:Int):Option (SV×Eff×Bool):=some (.a (.b true),.none,true)
theorem Zxy(N:Nat)(a0:Array Value)(z0_2:Bool)(z0_3:Int):(Uem N a0) (.exit 0) (left (writes (cAt cKCxC35 [1,1,0,1,0,0])) [2,3] [] (Zg8 a0) ([.a (.b z0_2),.a (.i .i64 z0_3)],[]))=Znp PZ N a0 z0_2 z0_3:=by kernel_rfl
theorem Yg2(N:Nat)(a0:Array Value):Uah (Uab (Ual PZ Ze4 N (cAt cKCxC35 [1,1,0,1,0,0]) (pAt Ub6 [1,1,0,1,0]) [2,3] [] (Zg8 a0)) N ([.a (.b false),.a (.i .i64 0)],[])) (λe s=>(Uem N a0) e (left (writes (cAt cKCxC35 [1,1,0,1,0,0])) [2,3] [] (Zg8 a0) s))=Uao (Uab (Zez PZ N a0) N (false,(0:Int))) (st2 (λx=>Znz PZ N a0 x.1 x.2) (λx=>Znp PZ N a0 x.1 x.2)):=by refine Za2 Zc4 Ze1 _ _ (Yhg N a0) N (false,(0:Int)) _ _ ?_;intro x;cases x with|more x=>exact Zxo N a0 x.1 x.2|done x=>exact Zxy N a0 x.1 x.2
theorem Yff(N:Nat)(a0:Array Value):ansV PZ Ze4 N f35 [([2,3],[]),([2,4],[])] [.w 0] [.row a0 38]=(bif (!((Zaa (i64.wrap (num a0 0)) (1:Int) (6:Int)))) then (some (.a (.b false),.none,true)) else (bif (!((Zaa (i64.wrap (num a0 1)) (1:Int) (6:Int)))) then (some (.a (.b false),.none,true)) else (bif ((IntKind.u64.wrap (BitVec.ofInt IntKind.u64.bits (num a0 2) &&& ~~~(BitVec.ofInt IntKind.u64.bits (Ua0 (num a0 0) (num a0 1) 36))).toNat) != (0:Int)) then (some (.a (.b false),.none,true)) else (Uao (Uab (Zez PZ N a0) N (false,(0:Int))) (st2 (λx=>Znz PZ N a0 x.1 x.2) (λx=>Znp PZ N a0 x.1 x.2)))))):=by
 conv=>rhs;simp only[<- Yg2 N a0]
 kernel_rfl
theorem Yls{S:Array Value}(h:WT PZ 38 S){t:Nat}(ht:t<2)(b:Bool):Uab (Zdn PZ S b (t:Int)) 1000 (b,(0:Int))=some (match (jA 36).find? (λk=> !(fitS S t k)) with|some k=>.more (false,(k:Int))|none=>.done (b,((36:Nat):Int))):=by
 have htt:decide (0<=(t:Int))=true:=Q3 (by omega);have ht2:decide ((t:Int)<2)=true:=Q3 (by omega);exact Zxd (g:=Zdn PZ S b (t:Int)) (λk=>(b,(k:Int))) (λk=> !(fitS S t k)) 36 (N:=1000) (by omega) (xd:=.done (b,((36:Nat):Int))) (λk=>.more (false,(k:Int))) (λk hk hp=>by
  have h1:decide ((k:Int)<36)=true:=Q3 (by omega);have h0:decide (0<=(k:Int))=true:=Q3 (by omega);have h3:i64.wrap ((k:Int)+1)=((k+1:Nat):Int):=by rw[IntWalk.i64_in _ (by omega)];omega
  obtain⟨w1,w2⟩:=Zuy h hk;rw[Bool.not_eq_false']at hp;unfold fitS chR at hp;rw[<- w2]at hp;cases hw:Zae (k:Int) S with
  |false=>rw[hw]at hp;simp only[Q2]at hp;simp only[Zdn,h1,h0,h3,htt,ht2,w1,hw,jB,jD,Q1,Q2,Q9,hp,Bool.not_true]
  |true=>rw[hw]at hp;simp only[Q1]at hp;simp only[Zdn,h1,h0,h3,htt,ht2,w1,hw,jB,Bool.not_true,Q1,Q2,Q9,hp]) (λk hk hp=>by
  have h1:decide ((k:Int)<36)=true:=Q3 (by omega);have h0:decide (0<=(k:Int))=true:=Q3 (by omega);obtain⟨w1,w2⟩:=Zuy h hk;rw[Bool.not_eq_true']at hp;unfold fitS chR at hp;rw[<- w2]at hp;cases hw:Zae (k:Int) S with
  |false=>rw[hw]at hp;simp only[Q2]at hp;simp only[Zdn,h1,h0,htt,ht2,w1,hw,jB,jD,Q1,Q2,Q9,hp]
  |true=>rw[hw]at hp;simp only[Q1]at hp;simp only[Zdn,h1,h0,htt,ht2,w1,hw,jB,Bool.not_true,jD,Q1,Q2,Q9,hp]) (by
  have h1:decide (((36:Nat):Int)<36)=false:=by decide
  simp only[Zdn,h1,Q2])
theorem Ydq(a0:Array Value)(h_a0:WT PZ 38 a0)(hg:(true)=true):ansV PZ Ze4 1000 f35 [([2,3],[]),([2,4],[])] [.w 0] [.row a0 38]=some (.a (.b ((okS a0))),.none,true):=by
 refine(Yff 1000 a0).trans ?_;obtain⟨s0,b0,b1⟩:=h_a0.int (o:=0) (k:=.i8) (by kernel_rfl);obtain⟨s1,b2,b3⟩:=h_a0.int (o:=1) (k:=.i8) (by kernel_rfl);have e1:IntKind.i8.min=-128:=rfl;have e2:IntKind.i8.max=127:=rfl;have h:=Zxd (g:=Zez PZ 1000 a0) (λt=>(false,(t:Int))) (λt=>((jA 36).find? (λk=> !(fitS a0 t k))).isSome) 2 (N:=1000) (by omega) (xd:=.done (false,((2:Nat):Int))) (λt=>.more (false,(t:Int))) (λt ht hp=>by
  have h1:decide ((t:Int)<2)=true:=Q3 (by omega);have h3:i64.wrap ((t:Int)+1)=((t+1:Nat):Int):=by rw[IntWalk.i64_in _ (by omega)];omega
  have hn:(jA 36).find? (λk=> !(fitS a0 t k))=none:=by simpa using hp
  have hi:=Yls h_a0 ht false;rw[hn]at hi;simp only[Zez,h1,Q1,hi,Uao,st2,Zh6,h3]) (λt ht hp=>by
  have h1:decide ((t:Int)<2)=true:=Q3 (by omega);obtain⟨k,hn⟩:=Option.isSome_iff_exists.1 hp;have hi:=Yls h_a0 ht false;rw[hn]at hi;simp only[Zez,h1,Q1,hi,Uao,st2,Zib]) (by
  have h1:decide (((2:Nat):Int)<2)=false:=by decide
  simp only[Zez,h1,Q2])
 have h':Uab (Zez PZ 1000 a0) 1000 (false,(0:Int))=some (match (jA 2).find? (λt=>((jA 36).find? (λk=> !(fitS a0 t k))).isSome) with|some t=>.more (false,(t:Int))|none=>.done (false,((2:Nat):Int))):=h;have i0:Zaa (i64.wrap (num a0 0)) 1 6=(decide (1<=num a0 0)&&decide (num a0 0<=6)):=by rw[IntWalk.i64_in _ (by omega)];unfold Zaa;cases h1:decide (num a0 0>=1)<;>simp_all
 have i1:Zaa (i64.wrap (num a0 1)) 1 6=(decide (1<=num a0 1)&&decide (num a0 1<=6)):=by rw[IntWalk.i64_in _ (by omega)];unfold Zaa;cases h1:decide (num a0 1>=1)<;>simp_all
 unfold okS okD;rw[i0,i1,h',all_two,<- Ygt,<- Ygt,show IntKind.u64.wrap (BitVec.ofInt IntKind.u64.bits (num a0 2) &&& ~~~(BitVec.ofInt IntKind.u64.bits (Ua0 (num a0 0) (num a0 1) 36))).toNat=Ubc (num a0 2) (Ua0 (num a0 0) (num a0 1) 36) from rfl,show (jA 2)=[0,1] from rfl];cases decide (1<=num a0 0)&&decide (num a0 0<=6)
 ·rfl
 cases decide (1<=num a0 1)&&decide (num a0 1<=6)
 ·rfl
 cases hb:(Ubc (num a0 2) (Ua0 (num a0 0) (num a0 1) 36)==0) with|false=>rw[show (Ubc (num a0 2) (Ua0 (num a0 0) (num a0 1) 36) != 0)=true by simp[bne,hb]];rfl|true=>rw[show (Ubc (num a0 2) (Ua0 (num a0 0) (num a0 1) 36) != 0)=false by simp[bne,hb]];simp only[List.find?];generalize (jA 36).find? (λk=> !(fitS a0 0 k))=f0;generalize (jA 36).find? (λk=> !(fitS a0 1 k))=f1;cases f0<;>cases f1<;>rfl
def Zoq:Con:=λargs h=>match args,h with|[.w 0],[.row a0 38]=>some (.a (.b ((okS a0))),.none,true)|_,_=>none
theorem Ybn:EntX PZ 35:=Zak (fn:=f35)
theorem Yg1:Uac mn PZ 35 Zoq:=(ansY (N:=1000) (mKc (Zag Zk4) Zhl (mKc (Zag Zq3) Znh (mKc (Zag Zo0) Zl2 (mKc (Zag Zy6) Zsx mKn)))) f35 [([2,3],[]),([2,4],[])]).of (by
 intro ρ h w args vals r e hA hH hr;unfold Zoq at hr;split at hr
 ·rename_i a0;obtain⟨rfl,rfl,hg2⟩:=BQi hr;exact Ydq a0 (hH.wt 0 rfl) hg2
 ·cases hr)
theorem Zqr{S:Array Value}(h:okS S=true):1<=num S 0/\num S 0<=6/\1<=num S 1/\num S 1<=6:=by unfold okS okD at h;simp only[Q7,decide_eq_true_eq]at h;exact⟨h.1.1.1,h.1.1.2,h.1.2.1,h.1.2.2⟩
theorem Ztg{S:Array Value}(h:okS S=true):(decide (0<=num S 0)&&decide (num S 0<=6)&&(decide (0<=num S 1)&&decide (num S 1<=6)))=true:=by obtain⟨h1,h2,h3,h4⟩:=Zqr h;rw[Q3 (show 0<=num S 0 by omega),Q3 h2,Q3 (show 0<=num S 1 by omega),Q3 h4];rfl
theorem okS_fit{S:Array Value}(h:okS S=true){t k:Nat}(ht:t<2)(hk:k<36):fitS S t k=true:=by
 unfold okS at h;simp only[Q7]at h;have:=jC.1 h.2.2 k (List.mem_range.2 hk);rw[Q7]at this
 match t,ht with|0,_=>exact this.1|1,_=>exact this.2
theorem Zxp{S:Array Value}(h:WT PZ 38 S):S.size=363:=by rw[h.layLen,Yg6];simp
theorem num_sub{S:Array Value}{o n j:Nat}(hj:j<n):num (S.extract o (o+n)) j=num S (o+j):=by
 unfold num;rw[Array.getElem?_extract]
 by_cases h:o+j<S.size
 ·rw[if_pos (by omega)]
 ·rw[if_neg (by omega),Array.getElem?_eq_none (by omega)]
theorem sea_u8{S:Array Value}(h:WT PZ 38 S){i:Nat}(hi:i<360):S[3+i]?=some (.int .u8 (num S (3+i)))/\0<=num S (3+i)/\num S (3+i)<=255:=h.int (k:=.u8) (by rw[Yg6,show 3+i=i+3 by omega];show (List.replicate 360 4)[i]?=some 4;rw[List.getElem?_replicate,if_pos hi])
end
end Go.Proofs.YtgllknjdblkhnaaGreatDoor
