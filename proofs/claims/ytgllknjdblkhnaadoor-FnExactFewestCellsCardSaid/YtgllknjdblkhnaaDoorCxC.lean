/- What a valid sea is, in company. -/
import Derived.Test.YtgllknjdblkhnaaDoorProg
import Derived.Test.YtgllknjdblkhnaaDoorCxB
set_option linter.unusedVariables false
set_option linter.unusedSimpArgs false
open _root_.List renaming range->jA,all_eq_true->jC
open _root_.Bool renaming and_self->jB,not_false->jD
namespace Go.Proofs.YtgllknjdblkhnaaDoor
open Tryd (f31 f38 f55 f61 f81)
open Go.ChangeShapes Go.WideShapes Go.ChangeAt Go.RowKit Ve Vc
open Tryd (prog)
open IntKind (i64)
set_option maxRecDepth 100000
noncomputable section
variable {mn:Md}
def sumW(a:Array Value):Nat->Int
 |0=>0
 |k+1=>i64.wrap (sumW a k+i64.wrap (num a (k*1)))
theorem tide_eq(t:Int):Zdb t=Zaa t 0 1:=by
 unfold Zdb Zaa
 by_cases h0:t=0
 ·subst h0;rfl
 ·by_cases h1:t=1
  ·subst h1;rfl
  ·rw[show (t==0)=false from beq_eq_false_iff_ne.2 h0,show (t==1)=false from beq_eq_false_iff_ne.2 h1]
   by_cases h2:t>=0
   ·rw[Q3 h2,Q4 (show ¬t<=1 by omega)];rfl
   ·rw[Q4 h2];rfl
def Zdk(a0:Array Value):St:=(⟨.a (.g a0 31)::.a (.w 0)::.a (.b false)::.a (.i .i64 0)::.a (.u)::.a (.u)::.a (.g a0 31)::.a (.i .i64 0)::us 9 ([]),[.row a0 31,.no],[]⟩:St)
def Zei:Int×Int->LS
 |(y0_3,y0_7)=>([.a (.i .i64 y0_3),.a (.i .i64 y0_7)],[])
def Zhy:Int×Int->Exit×LS
 |t=>((.exit 0),Zei t)
def Zb0(P:Program)(a0:Array Value):Int×Int->Option (Stp (Int×Int) (Int×Int))
 |(y0_3,y0_7)=>bif decide (y0_7<(5:Int)) then (bif (decide (0<=y0_7)&&decide (y0_7<5)) then (some (.more ((i64.wrap (y0_3+(i64.wrap (num a0 ((y0_7).toNat*1))))),(i64.wrap (y0_7+(1:Int)))))) else (none)) else (some (.done (y0_3,y0_7)))
noncomputable abbrev cKCxC81:=codeOf f81
theorem Zrk(N:Nat)(a0:Array Value):∀t:Int×Int,Uao prog (mkΓ []) N (cAt cKCxC81 [1,1,0,1,0,0]) (pAt (Uaa cKCxC81 [([3,7],[])]).1 [1,1,0,1,0]) [3,7] [] (Zdk a0) (Zei t)=mapS Zei Zhy (Zb0 prog a0 t):=by
 rintro⟨y0_3,y0_7⟩
 conv=>rhs;simp only[Zb0,Za3,Za8,Za6,Za7,Zei,Zhy]
 kernel_rfl
def Zgx(P:Program)(N:Nat)(a0:Array Value)(z0_3:Int)(z0_7:Int):Option (SV×Eff×Bool):=some (.a (.b ((z0_3==(12:Int)))),.none,true)
theorem Zm5(N:Nat)(a0:Array Value)(z0_3:Int)(z0_7:Int):(Uac 0 (kSeq (veC prog (mkΓ []) N (cAt cKCxC81 [1,1,1]) (pAt (Uaa cKCxC81 [([3,7],[])]).1 [1,1,1]) (SV×Eff×Bool)) (finK prog [] [.tmp 2]))) (.exit 0) (left (writes (cAt cKCxC81 [1,1,0,1,0,0])) [3,7] [] (Zdk a0) ([.a (.i .i64 z0_3),.a (.i .i64 z0_7)],[]))=Zgx prog N a0 z0_3 z0_7:=by kernel_rfl
theorem Zsa(N:Nat)(a0:Array Value):Uaj (Uab (Uao prog (mkΓ []) N (cAt cKCxC81 [1,1,0,1,0,0]) (pAt (Uaa cKCxC81 [([3,7],[])]).1 [1,1,0,1,0]) [3,7] [] (Zdk a0)) N ([.a (.i .i64 0),.a (.i .i64 0)],[])) (λe s=>(Uac 0 (kSeq (veC prog (mkΓ []) N (cAt cKCxC81 [1,1,1]) (pAt (Uaa cKCxC81 [([3,7],[])]).1 [1,1,1]) (SV×Eff×Bool)) (finK prog [] [.tmp 2]))) e (left (writes (cAt cKCxC81 [1,1,0,1,0,0])) [3,7] [] (Zdk a0) s))=Uas (Uab (Zb0 prog a0) N ((0:Int),(0:Int))) (λx=>Zgx prog N a0 x.1 x.2):=by refine Zbe Zei Zhy _ _ (Zrk N a0) N ((0:Int),(0:Int)) _ _ ?_;intro x;exact Zm5 N a0 x.1 x.2
theorem Zpo(N:Nat)(a0:Array Value):ansV prog (mkΓ []) N f81 [([3,7],[])] [.g a0 31] []=(Uas (Uab (Zb0 prog a0) N ((0:Int),(0:Int))) (λx=>Zgx prog N a0 x.1 x.2)):=by
 conv=>rhs;simp only[<- Zsa N a0]
 kernel_rfl
theorem Zo4(a0:Array Value)(h_a0:WT prog 31 a0)(hg:(true)=true):ansV prog (mkΓ []) 1000 f81 [([3,7],[])] [.g a0 31] []=some (.a (.b ((sumW a0 5==(12:Int)))),.none,true):=by
 have h:=Zhn (g:=Zb0 prog a0) (λk=>(sumW a0 k,(k:Int))) (m:=5) (x:=(sumW a0 5,((5:Nat):Int))) (N:=1000) (λk hk=>by
  have h1:decide ((k:Int)<5)=true:=Q3 (by omega);have h0:decide (0<=(k:Int))=true:=Q3 (by omega);have h3:i64.wrap ((k:Int)+1)=((k+1:Nat):Int):=by rw[IntWalk.i64_in _ (by omega)];omega
  have h4:((k:Int)).toNat=k:=Q9 k;simp only[Zb0,h1,h0,jB,h4,Q1,h3,sumW]) (by
  have h1:decide (((5:Nat):Int)<5)=false:=by decide
  simp only[Zb0,h1,Q2]) (by omega)
 refine(Zpo 1000 a0).trans ?_;have h':Uab (Zb0 prog a0) 1000 ((0:Int),(0:Int))=some (sumW a0 5,((5:Nat):Int)):=h;rw[h'];rfl
def Zhj:Con:=λargs h=>match args,h with|[.g a0 31],[]=>some (.a (.b ((sumW a0 5==(12:Int)))),.none,true)|_,_=>none
theorem Zoi:EntX prog 81:=Zao (fn:=f81)
theorem Zr9:Uad mn prog 81 Zhj:=(ansY (N:=1000) mKn f81 [([3,7],[])]).of (by
 intro ρ h w args vals r e hA hH hr;unfold Zhj at hr;split at hr
 ·rename_i a0;obtain⟨rfl,rfl,hg2⟩:=BQi hr;exact Zo4 a0 (hA.wt 0 rfl) hg2
 ·cases hr)
def Zd1(a0:Array Value):St:=(⟨.a (.g a0 31)::.a (.w 0)::.a (.b false)::.a (.i .i64 0)::.a (.i .i64 0)::us 12 ([]),[.row a0 31,.no],[]⟩:St)
def Zfe:Int×Int->LS
 |(y0_3,y0_4)=>([.a (.i .i64 y0_3),.a (.i .i64 y0_4)],[])
def Zjd:Int×Int->Exit×LS
 |t=>((.exit 0),Zfe t)
def Zcp(P:Program)(a0:Array Value):Int×Int->Option (Stp (Int×Int) (Int×Int))
 |(y0_3,y0_4)=>bif decide (y0_4<(5:Int)) then (bif (decide (0<=y0_4)&&decide (y0_4<5)) then (some (.more ((i64.wrap (y0_3+(i64.wrap (num a0 ((y0_4).toNat*1))))),(i64.wrap (y0_4+(1:Int)))))) else (none)) else (some (.done (y0_3,y0_4)))
noncomputable abbrev cKCxC55:=codeOf f55
theorem Zv6(N:Nat)(a0:Array Value):∀t:Int×Int,Uao prog (mkΓ []) N (cAt cKCxC55 [1,1,0,1,0,0]) (pAt (Uaa cKCxC55 [([3,4],[])]).1 [1,1,0,1,0]) [3,4] [] (Zd1 a0) (Zfe t)=mapS Zfe Zjd (Zcp prog a0 t):=by
 rintro⟨y0_3,y0_4⟩
 conv=>rhs;simp only[Zcp,Za3,Za8,Za6,Za7,Zfe,Zjd]
 kernel_rfl
def Zh4(P:Program)(N:Nat)(a0:Array Value)(z0_3:Int)(z0_4:Int):Option (SV×Eff×Bool):=some (.a (.b ((z0_3==(12:Int)))),.none,true)
theorem Zoa(N:Nat)(a0:Array Value)(z0_3:Int)(z0_4:Int):(Uac 0 (kSeq (veC prog (mkΓ []) N (cAt cKCxC55 [1,1,1]) (pAt (Uaa cKCxC55 [([3,4],[])]).1 [1,1,1]) (SV×Eff×Bool)) (finK prog [] [.tmp 2]))) (.exit 0) (left (writes (cAt cKCxC55 [1,1,0,1,0,0])) [3,4] [] (Zd1 a0) ([.a (.i .i64 z0_3),.a (.i .i64 z0_4)],[]))=Zh4 prog N a0 z0_3 z0_4:=by kernel_rfl
theorem Zvt(N:Nat)(a0:Array Value):Uaj (Uab (Uao prog (mkΓ []) N (cAt cKCxC55 [1,1,0,1,0,0]) (pAt (Uaa cKCxC55 [([3,4],[])]).1 [1,1,0,1,0]) [3,4] [] (Zd1 a0)) N ([.a (.i .i64 0),.a (.i .i64 0)],[])) (λe s=>(Uac 0 (kSeq (veC prog (mkΓ []) N (cAt cKCxC55 [1,1,1]) (pAt (Uaa cKCxC55 [([3,4],[])]).1 [1,1,1]) (SV×Eff×Bool)) (finK prog [] [.tmp 2]))) e (left (writes (cAt cKCxC55 [1,1,0,1,0,0])) [3,4] [] (Zd1 a0) s))=Uas (Uab (Zcp prog a0) N ((0:Int),(0:Int))) (λx=>Zh4 prog N a0 x.1 x.2):=by refine Zbe Zfe Zjd _ _ (Zv6 N a0) N ((0:Int),(0:Int)) _ _ ?_;intro x;exact Zoa N a0 x.1 x.2
theorem Ztt(N:Nat)(a0:Array Value):ansV prog (mkΓ []) N f55 [([3,4],[])] [.g a0 31] []=(Uas (Uab (Zcp prog a0) N ((0:Int),(0:Int))) (λx=>Zh4 prog N a0 x.1 x.2)):=by
 conv=>rhs;simp only[<- Zvt N a0]
 kernel_rfl
theorem Zrt(a0:Array Value)(h_a0:WT prog 31 a0)(hg:(true)=true):ansV prog (mkΓ []) 1000 f55 [([3,4],[])] [.g a0 31] []=some (.a (.b ((sumW a0 5==(12:Int)))),.none,true):=by
 have h:=Zhn (g:=Zcp prog a0) (λk=>(sumW a0 k,(k:Int))) (m:=5) (x:=(sumW a0 5,((5:Nat):Int))) (N:=1000) (λk hk=>by
  have h1:decide ((k:Int)<5)=true:=Q3 (by omega);have h0:decide (0<=(k:Int))=true:=Q3 (by omega);have h3:i64.wrap ((k:Int)+1)=((k+1:Nat):Int):=by rw[IntWalk.i64_in _ (by omega)];omega
  have h4:((k:Int)).toNat=k:=Q9 k;simp only[Zcp,h1,h0,jB,h4,Q1,h3,sumW]) (by
  have h1:decide (((5:Nat):Int)<5)=false:=by decide
  simp only[Zcp,h1,Q2]) (by omega)
 refine(Ztt 1000 a0).trans ?_;have h':Uab (Zcp prog a0) 1000 ((0:Int),(0:Int))=some (sumW a0 5,((5:Nat):Int)):=h;rw[h'];rfl
def Ziy:Con:=λargs h=>match args,h with|[.g a0 31],[]=>some (.a (.b ((sumW a0 5==(12:Int)))),.none,true)|_,_=>none
theorem Zqk:EntX prog 55:=Zao (fn:=f55)
theorem Zui:Uad mn prog 55 Ziy:=(ansY (N:=1000) mKn f55 [([3,4],[])]).of (by
 intro ρ h w args vals r e hA hH hr;unfold Ziy at hr;split at hr
 ·rename_i a0;obtain⟨rfl,rfl,hg2⟩:=BQi hr;exact Zrt a0 (hA.wt 0 rfl) hg2
 ·cases hr)
def Zm9:Cons:=(mkΓ [(79,con Zky),(80,con Zk2),(81,con Zhj)])
theorem Zsr(N:Nat)(a0:Array Value)(a1:Int)(a2:Array Value):ansV prog Zm9 N f61 [] [.g a0 35,.i .i64 a1,.g a2 31] []=(bif (Zau a0 a1) then (bif decide (0<=a1) then (bif (Ze1 a0 a1) then (some (.a (.b ((sumW a2 5==(12:Int)))),.none,true)) else (some (.a (.b ((Ucs a2 (#[.int .u8 0,.int .u8 0,.int .u8 0,.int .u8 0,.int .u8 0]:Array Value)))),.none,true))) else (none)) else (some (.a (.b ((Ucs a2 (#[.int .u8 0,.int .u8 0,.int .u8 0,.int .u8 0,.int .u8 0]:Array Value)))),.none,true))):=by kernel_rfl
def Zb5(a0:Array Value)(a1:Int)(a2:Array Value):Bool:=(bif (Zau a0 a1) then (bif (Ze1 a0 a1) then (sumW a2 5==(12:Int)) else (Ucs a2 (#[.int .u8 0,.int .u8 0,.int .u8 0,.int .u8 0,.int .u8 0]:Array Value))) else (Ucs a2 (#[.int .u8 0,.int .u8 0,.int .u8 0,.int .u8 0,.int .u8 0]:Array Value)))
theorem Zrm(a0:Array Value)(a1:Int)(a2:Array Value)(h_a0:WT prog 35 a0)(h_a1:i64.min<=a1/\a1<=i64.max)(h_a2:WT prog 31 a2)(hg:((bif (Zau a0 a1) then decide (0<=a1) else true))=true):ansV prog Zm9 1000 f61 [] [.g a0 35,.i .i64 a1,.g a2 31] []=some (.a (.b ((Zb5 a0 a1 a2))),.none,true):=by
 refine(Zsr 1000 a0 a1 a2).trans ?_;unfold Zb5;revert hg;generalize ((Zau a0 a1))=b2;intro hg;cases b2
 ·skip
  first|rfl|exact(nomatch (hg:false=true))
 ·skip
  revert hg;generalize (decide (0<=a1))=b4;intro hg;cases b4
  ·skip
   first|exact(nomatch (hg:false=true))|rfl
  ·skip
   revert hg;generalize ((Ze1 a0 a1))=b6;intro hg;cases b6
   ·skip
    first|rfl|exact(nomatch (hg:false=true))
   ·skip
    first|rfl|exact(nomatch (hg:false=true))
def Zi8:Con:=λargs h=>match args,h with|[.g a0 35,.i .i64 a1,.g a2 31],[]=>some (.a (.b ((Zb5 a0 a1 a2))),.none,(bif (Zau a0 a1) then decide (0<=a1) else true))|_,_=>none
theorem Zp6:EntX prog 61:=Zao (fn:=f61)
theorem Zu8:Uad mn prog 61 Zi8:=(ansY (N:=1000) (mKc (Zai Yar) Zvz (mKc (Zai Ybn) Zun (mKc (Zai Zr9) Zoi mKn))) f61 []).of (by
 intro ρ h w args vals r e hA hH hr;unfold Zi8 at hr;split at hr
 ·rename_i a0 a1 a2;obtain⟨rfl,rfl,hg2⟩:=BQi hr;exact Zrm a0 a1 a2 (hA.wt 0 rfl) (hA.rng 1 rfl) (hA.wt 2 rfl) hg2
 ·cases hr)
def chR(S:Array Value)(t k:Nat):Array Value:=S.extract (3+t*180+k*5) (3+t*180+k*5+5)
def fitS(S:Array Value)(t k:Nat):Bool:=bif inC (num S 0) (num S 1) k && !(bitI (num S 2) k) then (sumW (chR S t k) 5==(12:Int)) else Ucs (chR S t k) (#[.int .u8 0,.int .u8 0,.int .u8 0,.int .u8 0,.int .u8 0]:Array Value)
def okD(S:Array Value):Bool:=decide (1<=num S 0)&&decide (num S 0<=6)&&(decide (1<=num S 1)&&decide (num S 1<=6))
def okS(S:Array Value):Bool:=okD S&&((Ua9 (num S 2) (Ua0 (num S 0) (num S 1) 36)==0)&&(jA 36).all λk=>fitS S 0 k&&fitS S 1 k)
theorem Yd0(n:Nat)(p:Nat->Bool):((jA n).find? (λk=> !(p k))).isNone=(jA n).all p:=by rw[Bool.eq_iff_iff,Option.isNone_iff_eq_none,List.find?_eq_none,jC];simp
theorem all_two(n:Nat)(p q:Nat->Bool):(jA n).all (λk=>p k&&q k)=((jA n).all p&&(jA n).all q):=by rw[Bool.eq_iff_iff,Q7,jC,jC,jC];simp only[Q7];exact⟨λh=>⟨λx hx=>(h x hx).1,λx hx=>(h x hx).2⟩,λh x hx=>⟨h.1 x hx,h.2 x hx⟩⟩
theorem Ylf{S:Array Value}(h:WT prog 35 S){k:Nat}(hk:k<36):Zau S (k:Int)=inC (num S 0) (num S 1) k:=by rw[cell_is,Ycm h hk]
theorem Zy7{S:Array Value}(h:WT prog 35 S){k:Nat}(hk:k<36)(t:Nat):Zb5 S (k:Int) (chR S t k)=fitS S t k:=by unfold Zb5 fitS;rw[Ylf h hk];unfold Ze1;rw[Yb8 hk];cases inC (num S 0) (num S 1) k<;>cases bitI (num S 2) k<;>rfl
theorem Zsd{S:Array Value}(h:WT prog 35 S){k:Nat}(hk:k<36):Zbd (k:Int) S=true/\Zae (k:Int) S=(inC (num S 0) (num S 1) k && !(bitI (num S 2) k)):=by
 have hu:decide (0<=IntKind.u64.wrap (k:Int))=true:=Q3 (Zg5 .u64 _).1;unfold Zbd Zae;rw[Ycm h hk,Yhy h hk];constructor
 ·cases inC (num S 0) (num S 1) k<;>simp[hu]
 ·cases inC (num S 0) (num S 1) k<;>simp
def Zda:Cons:=(mkΓ [(60,con Zds),(61,con Zi8)])
def Zed(a0:Array Value):St:=(⟨.a (.g a0 35)::.a (.w 0)::.a (.b false)::.a (.u)::.a (.p 0 (0) 22)::.a (.i .i8 (num a0 0))::.a (.b (decide ((num a0 0)<(1:Int))))::.a (.b false)::.a (.p 0 (0) 22)::.a (.i .i8 (num a0 0))::.a (.b (decide ((num a0 0) > (6:Int))))::.a (.b (decide ((num a0 0) > (6:Int))))::.a (.b false)::.a (.p 0 (1) 22)::.a (.i .i8 (num a0 1))::.a (.b (decide ((num a0 1)<(1:Int))))::.a (.b (decide ((num a0 1)<(1:Int))))::.a (.b false)::.a (.p 0 (1) 22)::.a (.i .i8 (num a0 1))::.a (.b (decide ((num a0 1) > (6:Int))))::.a (.b (decide ((num a0 1) > (6:Int))))::.a (.p 0 (2) 23)::.a (.i .u64 (num a0 2))::.a (.g a0 35)::.a (.i .u64 (Ua0 (num a0 0) (num a0 1) 36))::.a (.i .u64 (IntKind.u64.wrap (BitVec.ofInt IntKind.u64.bits (num a0 2) &&& ~~~(BitVec.ofInt IntKind.u64.bits (Ua0 (num a0 0) (num a0 1) 36))).toNat))::.a (.b (((IntKind.u64.wrap (BitVec.ofInt IntKind.u64.bits (num a0 2) &&& ~~~(BitVec.ofInt IntKind.u64.bits (Ua0 (num a0 0) (num a0 1) 36))).toNat) != (0:Int))))::.a (.i .i64 0)::us 23 ([]),[.row a0 35,.no,.no,.no,.no,.no,.no,.no],[]⟩:St)
def Zfa:Bool×Int->LS
 |(y0_2,y0_28)=>([.a (.b y0_2),.a (.i .i64 y0_28)],[])
def Zla:(Stp (Bool×Int) (Bool×Int))->Exit×LS
 |.more t=>(.ret,Zfa t)
 |.done t=>((.exit 0),Zfa t)
def Zce(P:Program)(a0:Array Value):Bool×Int->Option (Stp (Bool×Int) (Stp (Bool×Int) (Bool×Int)))
  |(y0_2,y0_28)=>bif decide (y0_28<(36:Int)) then (bif (decide (0<=y0_28)&&decide (y0_28<36)) then (bif (bif (Zau a0 y0_28) then decide (0<=y0_28) else true) then (bif (!((Zb5 a0 y0_28 (a0.extract (3+((y0_28).toNat*5)) ((3+((y0_28).toNat*5))+5))))) then (some (.done (.more (false,y0_28)))) else (bif (decide (0<=y0_28)&&decide (y0_28<36)) then (bif (bif (Zau a0 y0_28) then decide (0<=y0_28) else true) then (bif (!((Zb5 a0 y0_28 (a0.extract (183+((y0_28).toNat*5)) ((183+((y0_28).toNat*5))+5))))) then (some (.done (.more (false,y0_28)))) else (some (.more (y0_2,(i64.wrap (y0_28+(1:Int))))))) else (none)) else (none))) else (none)) else (none)) else (some (.done (.done (y0_2,y0_28))))
noncomputable abbrev cKCxC38:=codeOf f38
theorem Zya(N:Nat)(a0:Array Value):∀t:Bool×Int,Uao prog Zda N (cAt cKCxC38 [1,1,1,0,1,0,0]) (pAt (Uaa cKCxC38 [([2,28],[])]).1 [1,1,1,0,1,0]) [2,28] [] (Zed a0) (Zfa t)=mapS Zfa Zla (Zce prog a0 t):=by
  rintro⟨y0_2,y0_28⟩
  conv=>rhs;simp only[Zce,Za3,Za8,Za6,Za7,Zfa,Zla]
  kernel_rfl
def Zjs(P:Program)(N:Nat)(a0:Array Value)(z0_2:Bool)(z0_28:Int):Option (SV×Eff×Bool):=some (.a (.b z0_2),.none,true)
theorem Zqt(N:Nat)(a0:Array Value)(z0_2:Bool)(z0_28:Int):(Uac 0 (kSeq (veC prog Zda N (cAt cKCxC38 [1,1,1,1]) (pAt (Uaa cKCxC38 [([2,28],[])]).1 [1,1,1,1]) (SV×Eff×Bool)) (finK prog [] [.tmp 2]))) .ret (left (writes (cAt cKCxC38 [1,1,1,0,1,0,0])) [2,28] [] (Zed a0) ([.a (.b z0_2),.a (.i .i64 z0_28)],[]))=Zjs prog N a0 z0_2 z0_28:=by kernel_rfl
def Zj3(P:Program)(N:Nat)(a0:Array Value)(z0_2:Bool)(z0_28:Int):Option (SV×Eff×Bool):=some (.a (.b true),.none,true)
theorem Zpi(N:Nat)(a0:Array Value)(z0_2:Bool)(z0_28:Int):(Uac 0 (kSeq (veC prog Zda N (cAt cKCxC38 [1,1,1,1]) (pAt (Uaa cKCxC38 [([2,28],[])]).1 [1,1,1,1]) (SV×Eff×Bool)) (finK prog [] [.tmp 2]))) (.exit 0) (left (writes (cAt cKCxC38 [1,1,1,0,1,0,0])) [2,28] [] (Zed a0) ([.a (.b z0_2),.a (.i .i64 z0_28)],[]))=Zj3 prog N a0 z0_2 z0_28:=by kernel_rfl
theorem Zx8(N:Nat)(a0:Array Value):Uaj (Uab (Uao prog Zda N (cAt cKCxC38 [1,1,1,0,1,0,0]) (pAt (Uaa cKCxC38 [([2,28],[])]).1 [1,1,1,0,1,0]) [2,28] [] (Zed a0)) N ([.a (.b false),.a (.i .i64 0)],[])) (λe s=>(Uac 0 (kSeq (veC prog Zda N (cAt cKCxC38 [1,1,1,1]) (pAt (Uaa cKCxC38 [([2,28],[])]).1 [1,1,1,1]) (SV×Eff×Bool)) (finK prog [] [.tmp 2]))) e (left (writes (cAt cKCxC38 [1,1,1,0,1,0,0])) [2,28] [] (Zed a0) s))=Uas (Uab (Zce prog a0) N (false,(0:Int))) (st2 (λx=>Zjs prog N a0 x.1 x.2) (λx=>Zj3 prog N a0 x.1 x.2)):=by refine Zbe Zfa Zla _ _ (Zya N a0) N (false,(0:Int)) _ _ ?_;intro x;cases x with|more x=>exact Zqt N a0 x.1 x.2|done x=>exact Zpi N a0 x.1 x.2
theorem Zwi(N:Nat)(a0:Array Value):ansV prog Zda N f38 [([2,28],[])] [.g a0 35] []=(bif decide ((num a0 0)<(1:Int)) then (some (.a (.b false),.none,true)) else (bif decide ((num a0 0) > (6:Int)) then (some (.a (.b false),.none,true)) else (bif decide ((num a0 1)<(1:Int)) then (some (.a (.b false),.none,true)) else (bif decide ((num a0 1) > (6:Int)) then (some (.a (.b false),.none,true)) else (bif (decide (0<=num a0 0)&&decide (num a0 0<=6)&&(decide (0<=num a0 1)&&decide (num a0 1<=6))) then (bif ((IntKind.u64.wrap (BitVec.ofInt IntKind.u64.bits (num a0 2) &&& ~~~(BitVec.ofInt IntKind.u64.bits (Ua0 (num a0 0) (num a0 1) 36))).toNat) != (0:Int)) then (some (.a (.b false),.none,true)) else (Uas (Uab (Zce prog a0) N (false,(0:Int))) (st2 (λx=>Zjs prog N a0 x.1 x.2) (λx=>Zj3 prog N a0 x.1 x.2)))) else (none)))))):=by
  conv=>rhs;simp only[<- Zx8 N a0]
  kernel_rfl
theorem Zuq(a0:Array Value)(h_a0:WT prog 35 a0)(hg:(true)=true):ansV prog Zda 1000 f38 [([2,28],[])] [.g a0 35] []=some (.a (.b ((okS a0))),.none,true):=by
 refine(Zwi 1000 a0).trans ?_;have h:=Zu4 (g:=Zce prog a0) (λk=>(false,(k:Int))) (λk=> !(fitS a0 0 k&&fitS a0 1 k)) 36 (N:=1000) (by omega) (xd:=.done (false,((36:Nat):Int))) (λk=>.more (false,(k:Int))) (λk hk hp=>by
  have h1:decide ((k:Int)<36)=true:=Q3 (by omega);have h0:decide (0<=(k:Int))=true:=Q3 (by omega);have h3:i64.wrap ((k:Int)+1)=((k+1:Nat):Int):=by rw[IntWalk.i64_in _ (by omega)];omega
  have f0:=Zy7 h_a0 hk 0;have f1:=Zy7 h_a0 hk 1;unfold chR at f0 f1;rw[show 3+0*180+k*5=3+k*5 by omega]at f0;rw[show 3+1*180+k*5=183+k*5 by omega]at f1;have hg:(bif Zau a0 (k:Int) then true else true)=true:=by cases Zau a0 (k:Int)<;>rfl
  simp only[Bool.not_eq_false',Q7]at hp;simp only[Zce,h1,h0,h3,jB,Q1,Q9,hg,f0,f1,hp.1,hp.2,Bool.not_true,Q2]) (λk hk hp=>by
  have h1:decide ((k:Int)<36)=true:=Q3 (by omega);have h0:decide (0<=(k:Int))=true:=Q3 (by omega);have f0:=Zy7 h_a0 hk 0;have f1:=Zy7 h_a0 hk 1;unfold chR at f0 f1;rw[show 3+0*180+k*5=3+k*5 by omega]at f0;rw[show 3+1*180+k*5=183+k*5 by omega]at f1;have hg:(bif Zau a0 (k:Int) then true else true)=true:=by cases Zau a0 (k:Int)<;>rfl
  cases e0:fitS a0 0 k with
  |false=>simp only[Zce,h1,h0,jB,Q1,Q9,hg,f0,e0,jD]
  |true=>
   rw[e0]at hp;have e1:fitS a0 1 k=false:=by simpa using hp
   simp only[Zce,h1,h0,jB,Q1,Q9,hg,f0,f1,e0,e1,jD,Bool.not_true,Q2]) (by
  have h1:decide (((36:Nat):Int)<36)=false:=by decide
  simp only[Zce,h1,Q2])
 have h':Uab (Zce prog a0) 1000 (false,(0:Int))=some (match (jA 36).find? (λk=> !(fitS a0 0 k&&fitS a0 1 k)) with|some k=>.more (false,(k:Int))|none=>.done (false,((36:Nat):Int))):=h;have hf:=Yd0 36 (λk=>fitS a0 0 k&&fitS a0 1 k);unfold okS okD
 by_cases d1:1<=num a0 0
 ·rw [Q3 d1,Q4 (show ¬ num a0 0<1 by omega)]
  by_cases d2:num a0 0<=6
  ·rw [Q3 d2,Q4 (show ¬ num a0 0 > 6 by omega)]
   by_cases d3:1<=num a0 1
   ·rw[Q3 d3,Q4 (show ¬num a0 1<1 by omega)]
    by_cases d4:num a0 1<=6
    ·rw[Q3 d4,Q4 (show ¬num a0 1 > 6 by omega),Q3 (show 0<=num a0 0 by omega),Q3 (show 0<=num a0 1 by omega)];simp only[jB,Q1,Q2,Bool.true_and,h'];rw[show IntKind.u64.wrap (BitVec.ofInt IntKind.u64.bits (num a0 2) &&& ~~~(BitVec.ofInt IntKind.u64.bits (Ua0 (num a0 0) (num a0 1) 36))).toNat=Ua9 (num a0 2) (Ua0 (num a0 0) (num a0 1) 36) from rfl];cases hb:(Ua9 (num a0 2) (Ua0 (num a0 0) (num a0 1) 36)==0) with|false=>rw[show (Ua9 (num a0 2) (Ua0 (num a0 0) (num a0 1) 36) != 0)=true by simp[bne,hb]];rfl|true=>rw[show (Ua9 (num a0 2) (Ua0 (num a0 0) (num a0 1) 36) != 0)=false by simp[bne,hb],<- hf];cases (jA 36).find? (λk=> !(fitS a0 0 k&&fitS a0 1 k))<;>rfl
    ·rw[Q4 d4,Q3 (show num a0 1 > 6 by omega)];rfl
   ·rw[Q4 d3,Q3 (show num a0 1<1 by omega)];rfl
  ·rw[Q4 d2,Q3 (show num a0 0 > 6 by omega)];rfl
 ·rw[Q4 d1,Q3 (show num a0 0<1 by omega)];rfl
def Zj8:Con:=λargs h=>match args,h with|[.g a0 35],[]=>some (.a (.b ((okS a0))),.none,true)|_,_=>none
theorem Zi6:EntX prog 38:=Zao (fn:=f38)
theorem Zk6:Uad mn prog 38 Zj8:=(ansY (N:=1000) (mKc (Zai Zkz) Zi5 (mKc (Zai Zu8) Zp6 mKn)) f38 [([2,28],[])]).of (by
 intro ρ h w args vals r e hA hH hr;unfold Zj8 at hr;split at hr
 ·rename_i a0;obtain⟨rfl,rfl,hg2⟩:=BQi hr;exact Zuq a0 (hA.wt 0 rfl) hg2
 ·cases hr)
def Zb1:Cons:=(mkΓ [(33,con Zc7),(34,con Zhu),(35,con Zha),(55,con Ziy)])
def Zf5(a0:Array Value)(y0_2:Bool)(y0_3:Int):St:=(⟨.a (.w 0)::.a (.u)::.a (.b y0_2)::.a (.i .i64 y0_3)::.a (.i .i64 0)::.a (.x)::.a (.w 0)::.a (.w 0)::.a (.p 0 (0) 22)::.a (.i .i8 (num a0 0))::.a (.i .i64 (i64.wrap (num a0 0)))::.a (.b ((Zaa (i64.wrap (num a0 0)) (1:Int) (6:Int))))::.a (.b ((!((Zaa (i64.wrap (num a0 0)) (1:Int) (6:Int))))))::.a (.b false)::.a (.w 0)::.a (.w 0)::.a (.p 0 (1) 22)::.a (.i .i8 (num a0 1))::.a (.i .i64 (i64.wrap (num a0 1)))::.a (.b ((Zaa (i64.wrap (num a0 1)) (1:Int) (6:Int))))::.a (.b ((!((Zaa (i64.wrap (num a0 1)) (1:Int) (6:Int))))))::.a (.b ((!((Zaa (i64.wrap (num a0 1)) (1:Int) (6:Int))))))::.a (.b false)::.a (.w 0)::.a (.w 0)::.a (.p 0 (2) 23)::.a (.i .u64 (num a0 2))::.a (.w 0)::.a (.i .u64 (Ua0 (num a0 0) (num a0 1) 36))::.a (.i .u64 (IntKind.u64.wrap (BitVec.ofInt IntKind.u64.bits (num a0 2) &&& ~~~(BitVec.ofInt IntKind.u64.bits (Ua0 (num a0 0) (num a0 1) 36))).toNat))::.a (.b (((IntKind.u64.wrap (BitVec.ofInt IntKind.u64.bits (num a0 2) &&& ~~~(BitVec.ofInt IntKind.u64.bits (Ua0 (num a0 0) (num a0 1) 36))).toNat) != (0:Int))))::.a (.b (((IntKind.u64.wrap (BitVec.ofInt IntKind.u64.bits (num a0 2) &&& ~~~(BitVec.ofInt IntKind.u64.bits (Ua0 (num a0 0) (num a0 1) 36))).toNat) != (0:Int))))::.a (.i .i64 y0_3)::.a (.b (decide (y0_3<(2:Int))))::xs 33 ([]),[.row a0 35,.no,.no,.no,.no,.no,.no,.no,.no,.no,.no,.no,.no,.no,.no,.no,.no,.no,.no,.no,.no,.no,.no,.no,.no,.no,.no],[]⟩:St)
def Zfh:Bool×Int->LS
 |(y1_2,y1_4)=>([.a (.b y1_2),.a (.i .i64 y1_4)],[])
def Zjf:(Stp (Bool×Int) (Bool×Int))->Exit×LS
 |.more t=>(.ret,Zfh t)
 |.done t=>((.exit 2),Zfh t)
def Zdf(P:Program)(a0:Array Value)(y0_2:Bool)(y0_3:Int):Bool×Int->Option (Stp (Bool×Int) (Stp (Bool×Int) (Bool×Int)))
  |(y1_2,y1_4)=>bif decide (y1_4<(36:Int)) then (bif (decide (0<=y0_3)&&decide (y0_3<2)) then (bif (decide (0<=y1_4)&&decide (y1_4<36)) then (bif (Zbd y1_4 a0) then (bif (Zae y1_4 a0) then (bif (!((sumW (a0.extract ((3+((y0_3).toNat*180))+((y1_4).toNat*5)) (((3+((y0_3).toNat*180))+((y1_4).toNat*5))+5)) 5==(12:Int)))) then (some (.done (.more (false,y1_4)))) else (bif (Zbd y1_4 a0) then (bif (!((Zae y1_4 a0))) then (bif (!(Ucs (a0.extract ((3+((y0_3).toNat*180))+((y1_4).toNat*5)) (((3+((y0_3).toNat*180))+((y1_4).toNat*5))+5)) (#[.int .u8 0,.int .u8 0,.int .u8 0,.int .u8 0,.int .u8 0]:Array Value))) then (some (.done (.more (false,y1_4)))) else (some (.more (y1_2,(i64.wrap (y1_4+(1:Int))))))) else (some (.more (y1_2,(i64.wrap (y1_4+(1:Int))))))) else (none))) else (bif (Zbd y1_4 a0) then (bif (!((Zae y1_4 a0))) then (bif (!(Ucs (a0.extract ((3+((y0_3).toNat*180))+((y1_4).toNat*5)) (((3+((y0_3).toNat*180))+((y1_4).toNat*5))+5)) (#[.int .u8 0,.int .u8 0,.int .u8 0,.int .u8 0,.int .u8 0]:Array Value))) then (some (.done (.more (false,y1_4)))) else (some (.more (y1_2,(i64.wrap (y1_4+(1:Int))))))) else (some (.more (y1_2,(i64.wrap (y1_4+(1:Int))))))) else (none))) else (none)) else (none)) else (none)) else (some (.done (.done (y1_2,y1_4))))
noncomputable abbrev cKCxC31:=codeOf f31
theorem Zn1(N:Nat)(a0:Array Value)(y0_2:Bool)(y0_3:Int):∀t:Bool×Int,Uao prog Zb1 N (cAt cKCxC31 [1,1,0,1,0,0,1,0,0,1,0,0]) (pAt (Uaa cKCxC31 [([2,3],[]),([2,4],[])]).1 [1,1,0,1,0,1,0,1,0]) [2,4] [] (Zf5 a0 y0_2 y0_3) (Zfh t)=mapS Zfh Zjf (Zdf prog a0 y0_2 y0_3 t):=by
  rintro⟨y1_2,y1_4⟩
  conv=>rhs;simp only[Zdf,Za3,Za8,Za6,Za7,Zfh,Zjf]
  kernel_rfl
def Zgb(a0:Array Value):St:=(⟨.a (.w 0)::.a (.u)::.a (.b false)::.a (.i .i64 0)::.a (.u)::.a (.u)::.a (.w 0)::.a (.w 0)::.a (.p 0 (0) 22)::.a (.i .i8 (num a0 0))::.a (.i .i64 (i64.wrap (num a0 0)))::.a (.b ((Zaa (i64.wrap (num a0 0)) (1:Int) (6:Int))))::.a (.b ((!((Zaa (i64.wrap (num a0 0)) (1:Int) (6:Int))))))::.a (.b false)::.a (.w 0)::.a (.w 0)::.a (.p 0 (1) 22)::.a (.i .i8 (num a0 1))::.a (.i .i64 (i64.wrap (num a0 1)))::.a (.b ((Zaa (i64.wrap (num a0 1)) (1:Int) (6:Int))))::.a (.b ((!((Zaa (i64.wrap (num a0 1)) (1:Int) (6:Int))))))::.a (.b ((!((Zaa (i64.wrap (num a0 1)) (1:Int) (6:Int))))))::.a (.b false)::.a (.w 0)::.a (.w 0)::.a (.p 0 (2) 23)::.a (.i .u64 (num a0 2))::.a (.w 0)::.a (.i .u64 (Ua0 (num a0 0) (num a0 1) 36))::.a (.i .u64 (IntKind.u64.wrap (BitVec.ofInt IntKind.u64.bits (num a0 2) &&& ~~~(BitVec.ofInt IntKind.u64.bits (Ua0 (num a0 0) (num a0 1) 36))).toNat))::.a (.b (((IntKind.u64.wrap (BitVec.ofInt IntKind.u64.bits (num a0 2) &&& ~~~(BitVec.ofInt IntKind.u64.bits (Ua0 (num a0 0) (num a0 1) 36))).toNat) != (0:Int))))::.a (.b (((IntKind.u64.wrap (BitVec.ofInt IntKind.u64.bits (num a0 2) &&& ~~~(BitVec.ofInt IntKind.u64.bits (Ua0 (num a0 0) (num a0 1) 36))).toNat) != (0:Int))))::us 35 ([]),[.row a0 35,.no,.no,.no,.no,.no,.no,.no,.no,.no,.no,.no,.no,.no,.no,.no,.no,.no,.no,.no,.no,.no,.no,.no,.no,.no,.no],[]⟩:St)
def Zcw:Bool×Int->LS
 |(y0_2,y0_3)=>([.a (.b y0_2),.a (.i .i64 y0_3)],[])
def Zek:(Stp (Bool×Int) (Bool×Int))->Exit×LS
 |.more t=>(.ret,Zcw t)
 |.done t=>((.exit 0),Zcw t)
def Zhc(P:Program)(N:Nat)(a0:Array Value)(y0_2:Bool)(y0_3:Int)(z1_2:Bool)(z1_4:Int):Option (Stp (Bool×Int) (Stp (Bool×Int) (Bool×Int))):=some (.done (.more (z1_2,y0_3)))
theorem Zt0(N:Nat)(a0:Array Value)(y0_2:Bool)(y0_3:Int)(z1_2:Bool)(z1_4:Int):(Uac 2 (Uac 1 (kSeq (veC prog Zb1 N (cAt cKCxC31 [1,1,0,1,0,0,1,1]) (pAt (Uaa cKCxC31 [([2,3],[]),([2,4],[])]).1 [1,1,0,1,0,1,1]) (Stp LS (Exit×LS))) (Ucd 27 [2,3] [])))) .ret (left (writes (cAt cKCxC31 [1,1,0,1,0,0,1,0,0,1,0,0])) [2,4] [] (Zf5 a0 y0_2 y0_3) ([.a (.b z1_2),.a (.i .i64 z1_4)],[]))=mapS Zcw Zek (Zhc prog N a0 y0_2 y0_3 z1_2 z1_4):=by
 conv=>rhs;simp only[Zhc,Za3,Za8,Za6,Za7,Zcw,Zek]
 kernel_rfl
def Zg4(P:Program)(N:Nat)(a0:Array Value)(y0_2:Bool)(y0_3:Int)(z1_2:Bool)(z1_4:Int):Option (Stp (Bool×Int) (Stp (Bool×Int) (Bool×Int))):=some (.more (z1_2,(i64.wrap (y0_3+(1:Int)))))
theorem Zuo(N:Nat)(a0:Array Value)(y0_2:Bool)(y0_3:Int)(z1_2:Bool)(z1_4:Int):(Uac 2 (Uac 1 (kSeq (veC prog Zb1 N (cAt cKCxC31 [1,1,0,1,0,0,1,1]) (pAt (Uaa cKCxC31 [([2,3],[]),([2,4],[])]).1 [1,1,0,1,0,1,1]) (Stp LS (Exit×LS))) (Ucd 27 [2,3] [])))) (.exit 2) (left (writes (cAt cKCxC31 [1,1,0,1,0,0,1,0,0,1,0,0])) [2,4] [] (Zf5 a0 y0_2 y0_3) ([.a (.b z1_2),.a (.i .i64 z1_4)],[]))=mapS Zcw Zek (Zg4 prog N a0 y0_2 y0_3 z1_2 z1_4):=by
 conv=>rhs;simp only[Zg4,Za3,Za8,Za6,Za7,Zcw,Zek]
 kernel_rfl
theorem Ydu(N:Nat)(a0:Array Value)(y0_2:Bool)(y0_3:Int):Uaj (Uab (Uao prog Zb1 N (cAt cKCxC31 [1,1,0,1,0,0,1,0,0,1,0,0]) (pAt (Uaa cKCxC31 [([2,3],[]),([2,4],[])]).1 [1,1,0,1,0,1,0,1,0]) [2,4] [] (Zf5 a0 y0_2 y0_3)) N ([.a (.b y0_2),.a (.i .i64 0)],[])) (λe s=>(Uac 2 (Uac 1 (kSeq (veC prog Zb1 N (cAt cKCxC31 [1,1,0,1,0,0,1,1]) (pAt (Uaa cKCxC31 [([2,3],[]),([2,4],[])]).1 [1,1,0,1,0,1,1]) (Stp LS (Exit×LS))) (Ucd 27 [2,3] [])))) e (left (writes (cAt cKCxC31 [1,1,0,1,0,0,1,0,0,1,0,0])) [2,4] [] (Zf5 a0 y0_2 y0_3) s))=mapS Zcw Zek (Uas (Uab (Zdf prog a0 y0_2 y0_3) N (y0_2,(0:Int))) (st2 (λx=>Zhc prog N a0 y0_2 y0_3 x.1 x.2) (λx=>Zg4 prog N a0 y0_2 y0_3 x.1 x.2))):=by
 rw[Zqx Zcw Zek]
 first
 |(have h:=Zbe (α:=Stp LS (Exit×LS)) Zfh Zjf _ _ (Zn1 N a0 y0_2 y0_3) N (y0_2,(0:Int));refine h _ _ ?_)
 |(have h:=Zbe (α:=Stp BS (Exit×BS)) Zfh Zjf _ _ (Zn1 N a0 y0_2 y0_3) N (y0_2,(0:Int));refine h _ _ ?_)
 |(have h:=Zbe (α:=Stp LS ((Exit×LS)⊕(SV×Eff×Bool))) Zfh Zjf _ _ (Zn1 N a0 y0_2 y0_3) N (y0_2,(0:Int));refine h _ _ ?_)
 intro x;cases x with|more x=>exact Zt0 N a0 y0_2 y0_3 x.1 x.2|done x=>exact Zuo N a0 y0_2 y0_3 x.1 x.2
def Zej(P:Program)(N:Nat)(a0:Array Value):Bool×Int->Option (Stp (Bool×Int) (Stp (Bool×Int) (Bool×Int)))
 |(y0_2,y0_3)=>bif decide (y0_3<(2:Int)) then (Uas (Uab (Zdf P a0 y0_2 y0_3) N (y0_2,(0:Int))) (st2 (λx=>Zhc P N a0 y0_2 y0_3 x.1 x.2) (λx=>Zg4 P N a0 y0_2 y0_3 x.1 x.2))) else (some (.done (.done (y0_2,y0_3))))
theorem Ydw(N:Nat)(a0:Array Value):∀t:Bool×Int,Uao prog Zb1 N (cAt cKCxC31 [1,1,0,1,0,0]) (pAt (Uaa cKCxC31 [([2,3],[]),([2,4],[])]).1 [1,1,0,1,0]) [2,3] [] (Zgb a0) (Zcw t)=mapS Zcw Zek (Zej prog N a0 t):=by
 rintro⟨y0_2,y0_3⟩
 conv=>rhs;simp only[<- Ydu N a0 y0_2 y0_3,Zej,Za3,Za8,Za6,Za7,Zcw,Zek]
 kernel_rfl
def Zl7(P:Program)(N:Nat)(a0:Array Value)(z0_2:Bool)(z0_3:Int):Option (SV×Eff×Bool):=some (.a (.b z0_2),.none,true)
theorem Zvp(N:Nat)(a0:Array Value)(z0_2:Bool)(z0_3:Int):(Uac 0 (kSeq (veC prog Zb1 N (cAt cKCxC31 [1,1,1]) (pAt (Uaa cKCxC31 [([2,3],[]),([2,4],[])]).1 [1,1,1]) (SV×Eff×Bool)) (finK prog [.row a0 35] [.tmp 2]))) .ret (left (writes (cAt cKCxC31 [1,1,0,1,0,0])) [2,3] [] (Zgb a0) ([.a (.b z0_2),.a (.i .i64 z0_3)],[]))=Zl7 prog N a0 z0_2 z0_3:=by kernel_rfl
def Zlt(P:Program)(N:Nat)(a0:Array Value)(z0_2:Bool)(z0_3:Int):Option (SV×Eff×Bool):=some (.a (.b true),.none,true)
theorem Zuj(N:Nat)(a0:Array Value)(z0_2:Bool)(z0_3:Int):(Uac 0 (kSeq (veC prog Zb1 N (cAt cKCxC31 [1,1,1]) (pAt (Uaa cKCxC31 [([2,3],[]),([2,4],[])]).1 [1,1,1]) (SV×Eff×Bool)) (finK prog [.row a0 35] [.tmp 2]))) (.exit 0) (left (writes (cAt cKCxC31 [1,1,0,1,0,0])) [2,3] [] (Zgb a0) ([.a (.b z0_2),.a (.i .i64 z0_3)],[]))=Zlt prog N a0 z0_2 z0_3:=by kernel_rfl
theorem Yds(N:Nat)(a0:Array Value):Uaj (Uab (Uao prog Zb1 N (cAt cKCxC31 [1,1,0,1,0,0]) (pAt (Uaa cKCxC31 [([2,3],[]),([2,4],[])]).1 [1,1,0,1,0]) [2,3] [] (Zgb a0)) N ([.a (.b false),.a (.i .i64 0)],[])) (λe s=>(Uac 0 (kSeq (veC prog Zb1 N (cAt cKCxC31 [1,1,1]) (pAt (Uaa cKCxC31 [([2,3],[]),([2,4],[])]).1 [1,1,1]) (SV×Eff×Bool)) (finK prog [.row a0 35] [.tmp 2]))) e (left (writes (cAt cKCxC31 [1,1,0,1,0,0])) [2,3] [] (Zgb a0) s))=Uas (Uab (Zej prog N a0) N (false,(0:Int))) (st2 (λx=>Zl7 prog N a0 x.1 x.2) (λx=>Zlt prog N a0 x.1 x.2)):=by refine Zbe Zcw Zek _ _ (Ydw N a0) N (false,(0:Int)) _ _ ?_;intro x;cases x with|more x=>exact Zvp N a0 x.1 x.2|done x=>exact Zuj N a0 x.1 x.2
theorem Ybt(N:Nat)(a0:Array Value):ansV prog Zb1 N f31 [([2,3],[]),([2,4],[])] [.w 0] [.row a0 35]=(bif (!((Zaa (i64.wrap (num a0 0)) (1:Int) (6:Int)))) then (some (.a (.b false),.none,true)) else (bif (!((Zaa (i64.wrap (num a0 1)) (1:Int) (6:Int)))) then (some (.a (.b false),.none,true)) else (bif ((IntKind.u64.wrap (BitVec.ofInt IntKind.u64.bits (num a0 2) &&& ~~~(BitVec.ofInt IntKind.u64.bits (Ua0 (num a0 0) (num a0 1) 36))).toNat) != (0:Int)) then (some (.a (.b false),.none,true)) else (Uas (Uab (Zej prog N a0) N (false,(0:Int))) (st2 (λx=>Zl7 prog N a0 x.1 x.2) (λx=>Zlt prog N a0 x.1 x.2)))))):=by
 conv=>rhs;simp only[<- Yds N a0]
 kernel_rfl
theorem Yh6{S:Array Value}(h:WT prog 35 S){t:Nat}(ht:t<2)(b:Bool):Uab (Zdf prog S b (t:Int)) 1000 (b,(0:Int))=some (match (jA 36).find? (λk=> !(fitS S t k)) with|some k=>.more (false,(k:Int))|none=>.done (b,((36:Nat):Int))):=by
 have htt:decide (0<=(t:Int))=true:=Q3 (by omega);have ht2:decide ((t:Int)<2)=true:=Q3 (by omega);exact Zu4 (g:=Zdf prog S b (t:Int)) (λk=>(b,(k:Int))) (λk=> !(fitS S t k)) 36 (N:=1000) (by omega) (xd:=.done (b,((36:Nat):Int))) (λk=>.more (false,(k:Int))) (λk hk hp=>by
  have h1:decide ((k:Int)<36)=true:=Q3 (by omega);have h0:decide (0<=(k:Int))=true:=Q3 (by omega);have h3:i64.wrap ((k:Int)+1)=((k+1:Nat):Int):=by rw[IntWalk.i64_in _ (by omega)];omega
  obtain⟨w1,w2⟩:=Zsd h hk;rw[Bool.not_eq_false']at hp;unfold fitS chR at hp;rw[<- w2]at hp;cases hw:Zae (k:Int) S with
  |false=>rw[hw]at hp;simp only[Q2]at hp;simp only[Zdf,h1,h0,h3,htt,ht2,w1,hw,jB,jD,Q1,Q2,Q9,hp,Bool.not_true]
  |true=>rw[hw]at hp;simp only[Q1]at hp;simp only[Zdf,h1,h0,h3,htt,ht2,w1,hw,jB,Bool.not_true,Q1,Q2,Q9,hp]) (λk hk hp=>by
  have h1:decide ((k:Int)<36)=true:=Q3 (by omega);have h0:decide (0<=(k:Int))=true:=Q3 (by omega);obtain⟨w1,w2⟩:=Zsd h hk;rw[Bool.not_eq_true']at hp;unfold fitS chR at hp;rw[<- w2]at hp;cases hw:Zae (k:Int) S with
  |false=>rw[hw]at hp;simp only[Q2]at hp;simp only[Zdf,h1,h0,htt,ht2,w1,hw,jB,jD,Q1,Q2,Q9,hp]
  |true=>rw[hw]at hp;simp only[Q1]at hp;simp only[Zdf,h1,h0,htt,ht2,w1,hw,jB,Bool.not_true,jD,Q1,Q2,Q9,hp]) (by
  have h1:decide (((36:Nat):Int)<36)=false:=by decide
  simp only[Zdf,h1,Q2])
theorem Yan(a0:Array Value)(h_a0:WT prog 35 a0)(hg:(true)=true):ansV prog Zb1 1000 f31 [([2,3],[]),([2,4],[])] [.w 0] [.row a0 35]=some (.a (.b ((okS a0))),.none,true):=by
 refine(Ybt 1000 a0).trans ?_;obtain⟨s0,b0,b1⟩:=h_a0.int (o:=0) (k:=.i8) (by kernel_rfl);obtain⟨s1,b2,b3⟩:=h_a0.int (o:=1) (k:=.i8) (by kernel_rfl);have e1:IntKind.i8.min=-128:=rfl;have e2:IntKind.i8.max=127:=rfl;have h:=Zu4 (g:=Zej prog 1000 a0) (λt=>(false,(t:Int))) (λt=>((jA 36).find? (λk=> !(fitS a0 t k))).isSome) 2 (N:=1000) (by omega) (xd:=.done (false,((2:Nat):Int))) (λt=>.more (false,(t:Int))) (λt ht hp=>by
  have h1:decide ((t:Int)<2)=true:=Q3 (by omega);have h3:i64.wrap ((t:Int)+1)=((t+1:Nat):Int):=by rw[IntWalk.i64_in _ (by omega)];omega
  have hn:(jA 36).find? (λk=> !(fitS a0 t k))=none:=by simpa using hp
  have hi:=Yh6 h_a0 ht false;rw[hn]at hi;simp only[Zej,h1,Q1,hi,Uas,st2,Zg4,h3]) (λt ht hp=>by
  have h1:decide ((t:Int)<2)=true:=Q3 (by omega);obtain⟨k,hn⟩:=Option.isSome_iff_exists.1 hp;have hi:=Yh6 h_a0 ht false;rw[hn]at hi;simp only[Zej,h1,Q1,hi,Uas,st2,Zhc]) (by
  have h1:decide (((2:Nat):Int)<2)=false:=by decide
  simp only[Zej,h1,Q2])
 have h':Uab (Zej prog 1000 a0) 1000 (false,(0:Int))=some (match (jA 2).find? (λt=>((jA 36).find? (λk=> !(fitS a0 t k))).isSome) with|some t=>.more (false,(t:Int))|none=>.done (false,((2:Nat):Int))):=h;have i0:Zaa (i64.wrap (num a0 0)) 1 6=(decide (1<=num a0 0)&&decide (num a0 0<=6)):=by rw[IntWalk.i64_in _ (by omega)];unfold Zaa;cases h1:decide (num a0 0>=1)<;>simp_all
 have i1:Zaa (i64.wrap (num a0 1)) 1 6=(decide (1<=num a0 1)&&decide (num a0 1<=6)):=by rw[IntWalk.i64_in _ (by omega)];unfold Zaa;cases h1:decide (num a0 1>=1)<;>simp_all
 unfold okS okD;rw[i0,i1,h',all_two,<- Yd0,<- Yd0,show IntKind.u64.wrap (BitVec.ofInt IntKind.u64.bits (num a0 2) &&& ~~~(BitVec.ofInt IntKind.u64.bits (Ua0 (num a0 0) (num a0 1) 36))).toNat=Ua9 (num a0 2) (Ua0 (num a0 0) (num a0 1) 36) from rfl,show (jA 2)=[0,1] from rfl];cases decide (1<=num a0 0)&&decide (num a0 0<=6)
 ·rfl
 cases decide (1<=num a0 1)&&decide (num a0 1<=6)
 ·rfl
 cases hb:(Ua9 (num a0 2) (Ua0 (num a0 0) (num a0 1) 36)==0) with|false=>rw[show (Ua9 (num a0 2) (Ua0 (num a0 0) (num a0 1) 36) != 0)=true by simp[bne,hb]];rfl|true=>rw[show (Ua9 (num a0 2) (Ua0 (num a0 0) (num a0 1) 36) != 0)=false by simp[bne,hb]];simp only[List.find?];generalize (jA 36).find? (λk=> !(fitS a0 0 k))=f0;generalize (jA 36).find? (λk=> !(fitS a0 1 k))=f1;cases f0<;>cases f1<;>rfl
def Zm7:Con:=λargs h=>match args,h with|[.w 0],[.row a0 35]=>some (.a (.b ((okS a0))),.none,true)|_,_=>none
theorem Zyc:EntX prog 31:=Zao (fn:=f31)
theorem Yd5:Uad mn prog 31 Zm7:=(ansY (N:=1000) (mKc (Zai Zjh) Zgm (mKc (Zai Zor) Zl1 (mKc (Zai Zm2) Zkh (mKc (Zai Zui) Zqk mKn)))) f31 [([2,3],[]),([2,4],[])]).of (by
 intro ρ h w args vals r e hA hH hr;unfold Zm7 at hr;split at hr
 ·rename_i a0;obtain⟨rfl,rfl,hg2⟩:=BQi hr;exact Yan a0 (hH.wt 0 rfl) hg2
 ·cases hr)
theorem Zn8{S:Array Value}(h:okS S=true):1<=num S 0/\num S 0<=6/\1<=num S 1/\num S 1<=6:=by unfold okS okD at h;simp only[Q7,decide_eq_true_eq]at h;exact⟨h.1.1.1,h.1.1.2,h.1.2.1,h.1.2.2⟩
theorem Zrb{S:Array Value}(h:okS S=true):(decide (0<=num S 0)&&decide (num S 0<=6)&&(decide (0<=num S 1)&&decide (num S 1<=6)))=true:=by obtain⟨h1,h2,h3,h4⟩:=Zn8 h;rw[Q3 (show 0<=num S 0 by omega),Q3 h2,Q3 (show 0<=num S 1 by omega),Q3 h4];rfl
theorem okS_fit{S:Array Value}(h:okS S=true){t k:Nat}(ht:t<2)(hk:k<36):fitS S t k=true:=by
 unfold okS at h;simp only[Q7]at h;have:=jC.1 h.2.2 k (List.mem_range.2 hk);rw[Q7]at this
 match t,ht with|0,_=>exact this.1|1,_=>exact this.2
theorem Zzv{S:Array Value}(h:WT prog 35 S):S.size=363:=by rw[h.layLen,Ydb];simp
theorem num_sub{S:Array Value}{o n j:Nat}(hj:j<n):num (S.extract o (o+n)) j=num S (o+j):=by
 unfold num;rw[Array.getElem?_extract]
 by_cases h:o+j<S.size
 ·rw[if_pos (by omega)]
 ·rw[if_neg (by omega),Array.getElem?_eq_none (by omega)]
theorem sea_u8{S:Array Value}(h:WT prog 35 S){i:Nat}(hi:i<360):S[3+i]?=some (.int .u8 (num S (3+i)))/\0<=num S (3+i)/\num S (3+i)<=255:=h.int (k:=.u8) (by rw[Ydb,show 3+i=i+3 by omega];show (List.replicate 360 4)[i]?=some 4;rw[List.getElem?_replicate,if_pos hi])
end
end Go.Proofs.YtgllknjdblkhnaaDoor
