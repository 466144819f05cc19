/- What a valid sea is, in company. -/
import Derived.Test.YtdfefaanfiheoaaGreatDoorProg
import Derived.Test.YtdfefaanfiheoaaGreatDoorCxB
set_option linter.unusedVariables false
set_option linter.unusedSimpArgs false
open _root_.List renaming range->jA,all_eq_true->jC
open _root_.Bool renaming and_self->jB,not_false->jD
namespace Go.Proofs.YtdfefaanfiheoaaGreatDoor
open Tryz (f51 f71 f80 f99 f112)
open Go.ChangeShapes Go.WideShapes Go.ChangeAt Go.RowKit Ve Vc
open Tryz renaming prog -> PZ
open IntKind (i64)
set_option maxRecDepth 100000
noncomputable section
variable {mn:Md}
def sumW(a:Array Value):Nat->Int
 |0=>0
 |k+1=>i64.wrap (sumW a k+i64.wrap (num a (k*1)))
theorem Yol(t:Int):Zc6 t=Zaa t 0 1:=by
 unfold Zc6 Zaa
 by_cases h0:t=0
 ·subst h0;rfl
 ·by_cases h1:t=1
  ·subst h1;rfl
  ·rw[show (t==0)=false from beq_eq_false_iff_ne.2 h0,show (t==1)=false from beq_eq_false_iff_ne.2 h1]
   by_cases h2:t>=0
   ·rw[Q3 h2,Q4 (show ¬t<=1 by omega)];rfl
   ·rw[Q4 h2];rfl
def Zdh(a0:Array Value):St:=(⟨.a (.g a0 33)::.a (.w 0)::.a (.b false)::.a (.i .i64 0)::.a (.u)::.a (.u)::.a (.g a0 33)::.a (.i .i64 0)::us 9 ([]),[.row a0 33,.no],[]⟩:St)
def Zem:Int×Int->LS
 |(y0_3,y0_7)=>([.a (.i .i64 y0_3),.a (.i .i64 y0_7)],[])
def Zjo:Int×Int->Exit×LS
 |t=>((.exit 0),Zem t)
def Zbz(P:Program)(a0:Array Value):Int×Int->Option (Stp (Int×Int) (Int×Int))
 |(y0_3,y0_7)=>bif decide (y0_7<(5:Int)) then (bif (decide (0<=y0_7)&&decide (y0_7<5)) then (some (.more ((i64.wrap (y0_3+(i64.wrap (num a0 ((y0_7).toNat*1))))),(i64.wrap (y0_7+(1:Int)))))) else (none)) else (some (.done (y0_3,y0_7)))
noncomputable abbrev cKCxC112:=codeOf f112
def Uf1:=(Uaa cKCxC112 [([3,7],[])]).1
theorem Zu4(N:Nat)(a0:Array Value):∀t:Int×Int,Uah PZ (mkΓ []) N (cAt cKCxC112 [1,1,0,1,0,0]) (pAt Uf1 [1,1,0,1,0]) [3,7] [] (Zdh a0) (Zem t)=mapS Zem Zjo (Zbz PZ a0 t):=by
 rintro⟨y0_3,y0_7⟩
 conv=>rhs;simp only[Zbz,Zao,Zam,Zan,Zap,Zem,Zjo]
 kernel_rfl
def Zh5(P:Program)(N:Nat)(a0:Array Value)(z0_3:Int)(z0_7:Int):Option (SV×Eff×Bool):=some (.a (.b ((z0_3==(12:Int)))),.none,true)
def Ufb(N:Nat):=(Uad 0 (kSeq (veC PZ (mkΓ []) N (cAt cKCxC112 [1,1,1]) (pAt Uf1 [1,1,1]) (SV×Eff×Bool)) (finK PZ [] [.tmp 2])))
theorem Zqa(N:Nat)(a0:Array Value)(z0_3:Int)(z0_7:Int):(Ufb N) (.exit 0) (left (writes (cAt cKCxC112 [1,1,0,1,0,0])) [3,7] [] (Zdh a0) ([.a (.i .i64 z0_3),.a (.i .i64 z0_7)],[]))=Zh5 PZ N a0 z0_3 z0_7:=by kernel_rfl
theorem Zvt(N:Nat)(a0:Array Value):Uag (Uab (Uah PZ (mkΓ []) N (cAt cKCxC112 [1,1,0,1,0,0]) (pAt Uf1 [1,1,0,1,0]) [3,7] [] (Zdh a0)) N ([.a (.i .i64 0),.a (.i .i64 0)],[])) (λe s=>(Ufb N) e (left (writes (cAt cKCxC112 [1,1,0,1,0,0])) [3,7] [] (Zdh a0) s))=Uai (Uab (Zbz PZ a0) N ((0:Int),(0:Int))) (λx=>Zh5 PZ N a0 x.1 x.2):=by refine Zar Zem Zjo _ _ (Zu4 N a0) N ((0:Int),(0:Int)) _ _ ?_;intro x;exact Zqa N a0 x.1 x.2
theorem Zsn(N:Nat)(a0:Array Value):ansV PZ (mkΓ []) N f112 [([3,7],[])] [.g a0 33] []=(Uai (Uab (Zbz PZ a0) N ((0:Int),(0:Int))) (λx=>Zh5 PZ N a0 x.1 x.2)):=by
 conv=>rhs;simp only[<- Zvt N a0]
 kernel_rfl
theorem Zr1(a0:Array Value)(h_a0:WT PZ 33 a0)(hg:(true)=true):ansV PZ (mkΓ []) 1000 f112 [([3,7],[])] [.g a0 33] []=some (.a (.b ((sumW a0 5==(12:Int)))),.none,true):=by
 have h:=Zcr (g:=Zbz PZ a0) (λk=>(sumW a0 k,(k:Int))) (m:=5) (x:=(sumW a0 5,((5:Nat):Int))) (N:=1000) (λk hk=>by
  have h1:decide ((k:Int)<5)=true:=Q3 (by omega);have h0:decide (0<=(k:Int))=true:=Q3 (by omega);have h3:i64.wrap ((k:Int)+1)=((k+1:Nat):Int):=by rw[IntWalk.i64_in _ (by omega)];omega
  have h4:((k:Int)).toNat=k:=Q9 k;simp only[Zbz,h1,h0,jB,h4,Q1,h3,sumW]) (by
  have h1:decide (((5:Nat):Int)<5)=false:=by decide
  simp only[Zbz,h1,Q2]) (by omega)
 refine(Zsn 1000 a0).trans ?_;have h':Uab (Zbz PZ a0) 1000 ((0:Int),(0:Int))=some (sumW a0 5,((5:Nat):Int)):=h;rw[h'];rfl
def Zio:Con:=λargs h=>match args,h with|[.g a0 33],[]=>some (.a (.b ((sumW a0 5==(12:Int)))),.none,true)|_,_=>none
theorem Zq7:EntX PZ 112:=Zaj (fn:=f112)
theorem Zvs:Uac mn PZ 112 Zio:=(ansY (N:=1000) mKn f112 [([3,7],[])]).of (by
 intro ρ h w args vals r e hA hH hr;unfold Zio at hr;split at hr
 ·rename_i a0;obtain⟨rfl,rfl,hg2⟩:=BQi hr;exact Zr1 a0 (hA.wt 0 rfl) hg2
 ·cases hr)
def Zeb(a0:Array Value):St:=(⟨.a (.g a0 33)::.a (.w 0)::.a (.b false)::.a (.i .i64 0)::.a (.i .i64 0)::us 12 ([]),[.row a0 33,.no],[]⟩:St)
def Zgc:Int×Int->LS
 |(y0_3,y0_4)=>([.a (.i .i64 y0_3),.a (.i .i64 y0_4)],[])
def Zlb:Int×Int->Exit×LS
 |t=>((.exit 0),Zgc t)
def Zcg(P:Program)(a0:Array Value):Int×Int->Option (Stp (Int×Int) (Int×Int))
 |(y0_3,y0_4)=>bif decide (y0_4<(5:Int)) then (bif (decide (0<=y0_4)&&decide (y0_4<5)) then (some (.more ((i64.wrap (y0_3+(i64.wrap (num a0 ((y0_4).toNat*1))))),(i64.wrap (y0_4+(1:Int)))))) else (none)) else (some (.done (y0_3,y0_4)))
noncomputable abbrev cKCxC71:=codeOf f71
def Uf4:=(Uaa cKCxC71 [([3,4],[])]).1
theorem Yaw(N:Nat)(a0:Array Value):∀t:Int×Int,Uah PZ (mkΓ []) N (cAt cKCxC71 [1,1,0,1,0,0]) (pAt Uf4 [1,1,0,1,0]) [3,4] [] (Zeb a0) (Zgc t)=mapS Zgc Zlb (Zcg PZ a0 t):=by
 rintro⟨y0_3,y0_4⟩
 conv=>rhs;simp only[Zcg,Zao,Zam,Zan,Zap,Zgc,Zlb]
 kernel_rfl
def Zjs(P:Program)(N:Nat)(a0:Array Value)(z0_3:Int)(z0_4:Int):Option (SV×Eff×Bool):=some (.a (.b ((z0_3==(12:Int)))),.none,true)
def Ufg(N:Nat):=(Uad 0 (kSeq (veC PZ (mkΓ []) N (cAt cKCxC71 [1,1,1]) (pAt Uf4 [1,1,1]) (SV×Eff×Bool)) (finK PZ [] [.tmp 2])))
theorem Zrq(N:Nat)(a0:Array Value)(z0_3:Int)(z0_4:Int):(Ufg N) (.exit 0) (left (writes (cAt cKCxC71 [1,1,0,1,0,0])) [3,4] [] (Zeb a0) ([.a (.i .i64 z0_3),.a (.i .i64 z0_4)],[]))=Zjs PZ N a0 z0_3 z0_4:=by kernel_rfl
theorem Zyp(N:Nat)(a0:Array Value):Uag (Uab (Uah PZ (mkΓ []) N (cAt cKCxC71 [1,1,0,1,0,0]) (pAt Uf4 [1,1,0,1,0]) [3,4] [] (Zeb a0)) N ([.a (.i .i64 0),.a (.i .i64 0)],[])) (λe s=>(Ufg N) e (left (writes (cAt cKCxC71 [1,1,0,1,0,0])) [3,4] [] (Zeb a0) s))=Uai (Uab (Zcg PZ a0) N ((0:Int),(0:Int))) (λx=>Zjs PZ N a0 x.1 x.2):=by refine Zar Zgc Zlb _ _ (Yaw N a0) N ((0:Int),(0:Int)) _ _ ?_;intro x;exact Zrq N a0 x.1 x.2
theorem Zxl(N:Nat)(a0:Array Value):ansV PZ (mkΓ []) N f71 [([3,4],[])] [.g a0 33] []=(Uai (Uab (Zcg PZ a0) N ((0:Int),(0:Int))) (λx=>Zjs PZ N a0 x.1 x.2)):=by
 conv=>rhs;simp only[<- Zyp N a0]
 kernel_rfl
theorem Zv1(a0:Array Value)(h_a0:WT PZ 33 a0)(hg:(true)=true):ansV PZ (mkΓ []) 1000 f71 [([3,4],[])] [.g a0 33] []=some (.a (.b ((sumW a0 5==(12:Int)))),.none,true):=by
 have h:=Zcr (g:=Zcg PZ a0) (λk=>(sumW a0 k,(k:Int))) (m:=5) (x:=(sumW a0 5,((5:Nat):Int))) (N:=1000) (λk hk=>by
  have h1:decide ((k:Int)<5)=true:=Q3 (by omega);have h0:decide (0<=(k:Int))=true:=Q3 (by omega);have h3:i64.wrap ((k:Int)+1)=((k+1:Nat):Int):=by rw[IntWalk.i64_in _ (by omega)];omega
  have h4:((k:Int)).toNat=k:=Q9 k;simp only[Zcg,h1,h0,jB,h4,Q1,h3,sumW]) (by
  have h1:decide (((5:Nat):Int)<5)=false:=by decide
  simp only[Zcg,h1,Q2]) (by omega)
 refine(Zxl 1000 a0).trans ?_;have h':Uab (Zcg PZ a0) 1000 ((0:Int),(0:Int))=some (sumW a0 5,((5:Nat):Int)):=h;rw[h'];rfl
def Zj7:Con:=λargs h=>match args,h with|[.g a0 33],[]=>some (.a (.b ((sumW a0 5==(12:Int)))),.none,true)|_,_=>none
theorem Ztc:EntX PZ 71:=Zaj (fn:=f71)
theorem Zxv:Uac mn PZ 71 Zj7:=(ansY (N:=1000) mKn f71 [([3,4],[])]).of (by
 intro ρ h w args vals r e hA hH hr;unfold Zj7 at hr;split at hr
 ·rename_i a0;obtain⟨rfl,rfl,hg2⟩:=BQi hr;exact Zv1 a0 (hA.wt 0 rfl) hg2
 ·cases hr)
def Zqz:Cons:=(mkΓ [(81,con Zhv),(94,con Zfr),(112,con Zio)])
theorem Zxq(N:Nat)(a0:Array Value)(a1:Int)(a2:Array Value):ansV PZ Zqz N f99 [] [.g a0 37,.i .i64 a1,.g a2 33] []=(bif (Zau a0 a1) then (bif decide (0<=a1) then (bif (Zac a0 a1) then (some (.a (.b ((sumW a2 5==(12:Int)))),.none,true)) else (some (.a (.b ((Uap a2 (#[.int .u8 0,.int .u8 0,.int .u8 0,.int .u8 0,.int .u8 0]:Array Value)))),.none,true))) else (none)) else (some (.a (.b ((Uap a2 (#[.int .u8 0,.int .u8 0,.int .u8 0,.int .u8 0,.int .u8 0]:Array Value)))),.none,true))):=by kernel_rfl
def Zb0(a0:Array Value)(a1:Int)(a2:Array Value):Bool:=(bif (Zau a0 a1) then (bif (Zac a0 a1) then (sumW a2 5==(12:Int)) else (Uap a2 (#[.int .u8 0,.int .u8 0,.int .u8 0,.int .u8 0,.int .u8 0]:Array Value))) else (Uap a2 (#[.int .u8 0,.int .u8 0,.int .u8 0,.int .u8 0,.int .u8 0]:Array Value)))
theorem Zu3(a0:Array Value)(a1:Int)(a2:Array Value)(h_a0:WT PZ 37 a0)(h_a1:i64.min<=a1/\a1<=i64.max)(h_a2:WT PZ 33 a2)(hg:((bif (Zau a0 a1) then decide (0<=a1) else true))=true):ansV PZ Zqz 1000 f99 [] [.g a0 37,.i .i64 a1,.g a2 33] []=some (.a (.b ((Zb0 a0 a1 a2))),.none,true):=by
 refine(Zxq 1000 a0 a1 a2).trans ?_;unfold Zb0;revert hg;generalize ((Zau a0 a1))=b2;intro hg;cases b2
 ·skip
  first|rfl|exact(nomatch (hg:false=true))
 ·skip
  revert hg;generalize (decide (0<=a1))=b4;intro hg;cases b4
  ·skip
   first|exact(nomatch (hg:false=true))|rfl
  ·skip
   revert hg;generalize ((Zac a0 a1))=b6;intro hg;cases b6
   ·skip
    first|rfl|exact(nomatch (hg:false=true))
   ·skip
    first|rfl|exact(nomatch (hg:false=true))
def Zkd:Con:=λargs h=>match args,h with|[.g a0 37,.i .i64 a1,.g a2 33],[]=>some (.a (.b ((Zb0 a0 a1 a2))),.none,(bif (Zau a0 a1) then decide (0<=a1) else true))|_,_=>none
theorem Zs6:EntX PZ 99:=Zaj (fn:=f99)
theorem Zy8:Uac mn PZ 99 Zkd:=(ansY (N:=1000) (mKc (Zae Zgz) Zd7 (mKc (Zae Zlf) Zie (mKc (Zae Zvs) Zq7 mKn))) f99 []).of (by
 intro ρ h w args vals r e hA hH hr;unfold Zkd at hr;split at hr
 ·rename_i a0 a1 a2;obtain⟨rfl,rfl,hg2⟩:=BQi hr;exact Zu3 a0 a1 a2 (hA.wt 0 rfl) (hA.rng 1 rfl) (hA.wt 2 rfl) hg2
 ·cases hr)
def chR(S:Array Value)(t k:Nat):Array Value:=S.extract (3+t*180+k*5) (3+t*180+k*5+5)
def fitS(S:Array Value)(t k:Nat):Bool:=bif inC (num S 0) (num S 1) k && !(bitI (num S 2) k) then (sumW (chR S t k) 5==(12:Int)) else Uap (chR S t k) (#[.int .u8 0,.int .u8 0,.int .u8 0,.int .u8 0,.int .u8 0]:Array Value)
def okD(S:Array Value):Bool:=decide (1<=num S 0)&&decide (num S 0<=6)&&(decide (1<=num S 1)&&decide (num S 1<=6))
def okS(S:Array Value):Bool:=okD S&&((Ube (num S 2) (Ua7 (num S 0) (num S 1) 36)==0)&&(jA 36).all λk=>fitS S 0 k&&fitS S 1 k)
theorem Ykj(n:Nat)(p:Nat->Bool):((jA n).find? (λk=> !(p k))).isNone=(jA n).all p:=by rw[Bool.eq_iff_iff,Option.isNone_iff_eq_none,List.find?_eq_none,jC];simp
theorem all_two(n:Nat)(p q:Nat->Bool):(jA n).all (λk=>p k&&q k)=((jA n).all p&&(jA n).all q):=by rw[Bool.eq_iff_iff,Q7,jC,jC,jC];simp only[Q7];exact⟨λh=>⟨λx hx=>(h x hx).1,λx hx=>(h x hx).2⟩,λh x hx=>⟨h.1 x hx,h.2 x hx⟩⟩
theorem Ys1{S:Array Value}(h:WT PZ 37 S){k:Nat}(hk:k<36):Zau S (k:Int)=inC (num S 0) (num S 1) k:=by rw[Zs8,Ymw h hk]
theorem Yfm{S:Array Value}(h:WT PZ 37 S){k:Nat}(hk:k<36)(t:Nat):Zb0 S (k:Int) (chR S t k)=fitS S t k:=by unfold Zb0 fitS;rw[Ys1 h hk];unfold Zac;rw[Zqm hk];cases inC (num S 0) (num S 1) k<;>cases bitI (num S 2) k<;>rfl
theorem Yhp{S:Array Value}(h:WT PZ 37 S){k:Nat}(hk:k<36):Zbw (k:Int) S=true/\Zal (k:Int) S=(inC (num S 0) (num S 1) k && !(bitI (num S 2) k)):=by
 have hu:decide (0<=IntKind.u64.wrap (k:Int))=true:=Q3 (Zgw .u64 _).1;unfold Zbw Zal;rw[Ymw h hk,Ysx h hk];constructor
 ·cases inC (num S 0) (num S 1) k<;>simp[hu]
 ·cases inC (num S 0) (num S 1) k<;>simp
def Zgy:Cons:=(mkΓ [(98,con Zl5),(99,con Zkd)])
def Zee(a0:Array Value):St:=(⟨.a (.g a0 37)::.a (.w 0)::.a (.b false)::.a (.u)::.a (.p 0 (0) 22)::.a (.i .i8 (num a0 0))::.a (.b (decide ((num a0 0)<(1:Int))))::.a (.b false)::.a (.p 0 (0) 22)::.a (.i .i8 (num a0 0))::.a (.b (decide ((num a0 0) > (6:Int))))::.a (.b (decide ((num a0 0) > (6:Int))))::.a (.b false)::.a (.p 0 (1) 22)::.a (.i .i8 (num a0 1))::.a (.b (decide ((num a0 1)<(1:Int))))::.a (.b (decide ((num a0 1)<(1:Int))))::.a (.b false)::.a (.p 0 (1) 22)::.a (.i .i8 (num a0 1))::.a (.b (decide ((num a0 1) > (6:Int))))::.a (.b (decide ((num a0 1) > (6:Int))))::.a (.p 0 (2) 23)::.a (.i .u64 (num a0 2))::.a (.g a0 37)::.a (.i .u64 (Ua7 (num a0 0) (num a0 1) 36))::.a (.i .u64 (IntKind.u64.wrap (BitVec.ofInt IntKind.u64.bits (num a0 2) &&& ~~~(BitVec.ofInt IntKind.u64.bits (Ua7 (num a0 0) (num a0 1) 36))).toNat))::.a (.b (((IntKind.u64.wrap (BitVec.ofInt IntKind.u64.bits (num a0 2) &&& ~~~(BitVec.ofInt IntKind.u64.bits (Ua7 (num a0 0) (num a0 1) 36))).toNat) != (0:Int))))::.a (.i .i64 0)::us 23 ([]),[.row a0 37,.no,.no,.no,.no,.no,.no,.no],[]⟩:St)
def Zfn:Bool×Int->LS
 |(y0_2,y0_28)=>([.a (.b y0_2),.a (.i .i64 y0_28)],[])
def Zm7:(Stp (Bool×Int) (Bool×Int))->Exit×LS
 |.more t=>(.ret,Zfn t)
 |.done t=>((.exit 0),Zfn t)
def Zb7(P:Program)(a0:Array Value):Bool×Int->Option (Stp (Bool×Int) (Stp (Bool×Int) (Bool×Int)))
  |(y0_2,y0_28)=>bif decide (y0_28<(36:Int)) then (bif (decide (0<=y0_28)&&decide (y0_28<36)) then (bif (bif (Zau a0 y0_28) then decide (0<=y0_28) else true) then (bif (!((Zb0 a0 y0_28 (a0.extract (3+((y0_28).toNat*5)) ((3+((y0_28).toNat*5))+5))))) then (some (.done (.more (false,y0_28)))) else (bif (decide (0<=y0_28)&&decide (y0_28<36)) then (bif (bif (Zau a0 y0_28) then decide (0<=y0_28) else true) then (bif (!((Zb0 a0 y0_28 (a0.extract (183+((y0_28).toNat*5)) ((183+((y0_28).toNat*5))+5))))) then (some (.done (.more (false,y0_28)))) else (some (.more (y0_2,(i64.wrap (y0_28+(1:Int))))))) else (none)) else (none))) else (none)) else (none)) else (some (.done (.done (y0_2,y0_28))))
noncomputable abbrev cKCxC80:=codeOf f80
def Ufx:=(Uaa cKCxC80 [([2,28],[])]).1
theorem Ye0(N:Nat)(a0:Array Value):∀t:Bool×Int,Uah PZ Zgy N (cAt cKCxC80 [1,1,1,0,1,0,0]) (pAt Ufx [1,1,1,0,1,0]) [2,28] [] (Zee a0) (Zfn t)=mapS Zfn Zm7 (Zb7 PZ a0 t):=by
  rintro⟨y0_2,y0_28⟩
  conv=>rhs;simp only[Zb7,Zao,Zam,Zan,Zap,Zfn,Zm7]
  kernel_rfl
def Zkw(P:Program)(N:Nat)(a0:Array Value)(z0_2:Bool)(z0_28:Int):Option (SV×Eff×Bool):=some (.a (.b z0_2),.none,true)
def Uec(N:Nat):=(Uad 0 (kSeq (veC PZ Zgy N (cAt cKCxC80 [1,1,1,1]) (pAt Ufx [1,1,1,1]) (SV×Eff×Bool)) (finK PZ [] [.tmp 2])))
theorem Ztd(N:Nat)(a0:Array Value)(z0_2:Bool)(z0_28:Int):(Uec N) .ret (left (writes (cAt cKCxC80 [1,1,1,0,1,0,0])) [2,28] [] (Zee a0) ([.a (.b z0_2),.a (.i .i64 z0_28)],[]))=Zkw PZ N a0 z0_2 z0_28:=by kernel_rfl
def Zkz(P:Program)(N:Nat)(a0:Array Value)(z0_2:Bool)(z0_28:Int):Option (SV×Eff×Bool):=some (.a (.b true),.none,true)
theorem Zsh(N:Nat)(a0:Array Value)(z0_2:Bool)(z0_28:Int):(Uec N) (.exit 0) (left (writes (cAt cKCxC80 [1,1,1,0,1,0,0])) [2,28] [] (Zee a0) ([.a (.b z0_2),.a (.i .i64 z0_28)],[]))=Zkz PZ N a0 z0_2 z0_28:=by kernel_rfl
theorem Yes(N:Nat)(a0:Array Value):Uag (Uab (Uah PZ Zgy N (cAt cKCxC80 [1,1,1,0,1,0,0]) (pAt Ufx [1,1,1,0,1,0]) [2,28] [] (Zee a0)) N ([.a (.b false),.a (.i .i64 0)],[])) (λe s=>(Uec N) e (left (writes (cAt cKCxC80 [1,1,1,0,1,0,0])) [2,28] [] (Zee a0) s))=Uai (Uab (Zb7 PZ a0) N (false,(0:Int))) (st2 (λx=>Zkw PZ N a0 x.1 x.2) (λx=>Zkz PZ N a0 x.1 x.2)):=by refine Zar Zfn Zm7 _ _ (Ye0 N a0) N (false,(0:Int)) _ _ ?_;intro x;cases x with|more x=>exact Ztd N a0 x.1 x.2|done x=>exact Zsh N a0 x.1 x.2
theorem Ycl(N:Nat)(a0:Array Value):ansV PZ Zgy N f80 [([2,28],[])] [.g a0 37] []=(bif decide ((num a0 0)<(1:Int)) then (some (.a (.b false),.none,true)) else (bif decide ((num a0 0) > (6:Int)) then (some (.a (.b false),.none,true)) else (bif decide ((num a0 1)<(1:Int)) then (some (.a (.b false),.none,true)) else (bif decide ((num a0 1) > (6:Int)) then (some (.a (.b false),.none,true)) else (bif (decide (0<=num a0 0)&&decide (num a0 0<=6)&&(decide (0<=num a0 1)&&decide (num a0 1<=6))) then (bif ((IntKind.u64.wrap (BitVec.ofInt IntKind.u64.bits (num a0 2) &&& ~~~(BitVec.ofInt IntKind.u64.bits (Ua7 (num a0 0) (num a0 1) 36))).toNat) != (0:Int)) then (some (.a (.b false),.none,true)) else (Uai (Uab (Zb7 PZ a0) N (false,(0:Int))) (st2 (λx=>Zkw PZ N a0 x.1 x.2) (λx=>Zkz PZ N a0 x.1 x.2)))) else (none)))))):=by
  conv=>rhs;simp only[<- Yes N a0]
  kernel_rfl
theorem Zyb(a0:Array Value)(h_a0:WT PZ 37 a0)(hg:(true)=true):ansV PZ Zgy 1000 f80 [([2,28],[])] [.g a0 37] []=some (.a (.b ((okS a0))),.none,true):=by
 refine(Ycl 1000 a0).trans ?_;have h:=Zor (g:=Zb7 PZ a0) (λk=>(false,(k:Int))) (λk=> !(fitS a0 0 k&&fitS a0 1 k)) 36 (N:=1000) (by omega) (xd:=.done (false,((36:Nat):Int))) (λk=>.more (false,(k:Int))) (λk hk hp=>by
  have h1:decide ((k:Int)<36)=true:=Q3 (by omega);have h0:decide (0<=(k:Int))=true:=Q3 (by omega);have h3:i64.wrap ((k:Int)+1)=((k+1:Nat):Int):=by rw[IntWalk.i64_in _ (by omega)];omega
  have f0:=Yfm h_a0 hk 0;have f1:=Yfm h_a0 hk 1;unfold chR at f0 f1;rw[show 3+0*180+k*5=3+k*5 by omega]at f0;rw[show 3+1*180+k*5=183+k*5 by omega]at f1;have hg:(bif Zau a0 (k:Int) then true else true)=true:=by cases Zau a0 (k:Int)<;>rfl
  simp only[Bool.not_eq_false',Q7]at hp;simp only[Zb7,h1,h0,h3,jB,Q1,Q9,hg,f0,f1,hp.1,hp.2,Bool.not_true,Q2]) (λk hk hp=>by
  have h1:decide ((k:Int)<36)=true:=Q3 (by omega);have h0:decide (0<=(k:Int))=true:=Q3 (by omega);have f0:=Yfm h_a0 hk 0;have f1:=Yfm h_a0 hk 1;unfold chR at f0 f1;rw[show 3+0*180+k*5=3+k*5 by omega]at f0;rw[show 3+1*180+k*5=183+k*5 by omega]at f1;have hg:(bif Zau a0 (k:Int) then true else true)=true:=by cases Zau a0 (k:Int)<;>rfl
  cases e0:fitS a0 0 k with
  |false=>simp only[Zb7,h1,h0,jB,Q1,Q9,hg,f0,e0,jD]
  |true=>
   rw[e0]at hp;have e1:fitS a0 1 k=false:=by simpa using hp
   simp only[Zb7,h1,h0,jB,Q1,Q9,hg,f0,f1,e0,e1,jD,Bool.not_true,Q2]) (by
  have h1:decide (((36:Nat):Int)<36)=false:=by decide
  simp only[Zb7,h1,Q2])
 have h':Uab (Zb7 PZ a0) 1000 (false,(0:Int))=some (match (jA 36).find? (λk=> !(fitS a0 0 k&&fitS a0 1 k)) with|some k=>.more (false,(k:Int))|none=>.done (false,((36:Nat):Int))):=h;have hf:=Ykj 36 (λk=>fitS a0 0 k&&fitS a0 1 k);unfold okS okD
 by_cases d1:1<=num a0 0
 ·rw [Q3 d1,Q4 (show ¬ num a0 0<1 by omega)]
  by_cases d2:num a0 0<=6
  ·rw [Q3 d2,Q4 (show ¬ num a0 0 > 6 by omega)]
   by_cases d3:1<=num a0 1
   ·rw[Q3 d3,Q4 (show ¬num a0 1<1 by omega)]
    by_cases d4:num a0 1<=6
    ·rw[Q3 d4,Q4 (show ¬num a0 1 > 6 by omega),Q3 (show 0<=num a0 0 by omega),Q3 (show 0<=num a0 1 by omega)];simp only[jB,Q1,Q2,Bool.true_and,h'];rw[show IntKind.u64.wrap (BitVec.ofInt IntKind.u64.bits (num a0 2) &&& ~~~(BitVec.ofInt IntKind.u64.bits (Ua7 (num a0 0) (num a0 1) 36))).toNat=Ube (num a0 2) (Ua7 (num a0 0) (num a0 1) 36) from rfl];cases hb:(Ube (num a0 2) (Ua7 (num a0 0) (num a0 1) 36)==0) with|false=>rw[show (Ube (num a0 2) (Ua7 (num a0 0) (num a0 1) 36) != 0)=true by simp[bne,hb]];rfl|true=>rw[show (Ube (num a0 2) (Ua7 (num a0 0) (num a0 1) 36) != 0)=false by simp[bne,hb],<- hf];cases (jA 36).find? (λk=> !(fitS a0 0 k&&fitS a0 1 k))<;>rfl
    ·rw[Q4 d4,Q3 (show num a0 1 > 6 by omega)];rfl
   ·rw[Q4 d3,Q3 (show num a0 1<1 by omega)];rfl
  ·rw[Q4 d2,Q3 (show num a0 0 > 6 by omega)];rfl
 ·rw[Q4 d1,Q3 (show num a0 0<1 by omega)];rfl
def Zi4:Con:=λargs h=>match args,h with|[.g a0 37],[]=>some (.a (.b ((okS a0))),.none,true)|_,_=>none
theorem Zfe:EntX PZ 80:=Zaj (fn:=f80)
theorem Zhn:Uac mn PZ 80 Zi4:=(ansY (N:=1000) (mKc (Zae Ydw) Zw2 (mKc (Zae Zy8) Zs6 mKn)) f80 [([2,28],[])]).of (by
 intro ρ h w args vals r e hA hH hr;unfold Zi4 at hr;split at hr
 ·rename_i a0;obtain⟨rfl,rfl,hg2⟩:=BQi hr;exact Zyb a0 (hA.wt 0 rfl) hg2
 ·cases hr)
def Ze3:Cons:=(mkΓ [(47,con Zci),(69,con Zma),(70,con Zk5),(71,con Zj7)])
def Zhf(a0:Array Value)(y0_2:Bool)(y0_3:Int):St:=(⟨.a (.w 0)::.a (.u)::.a (.b y0_2)::.a (.i .i64 y0_3)::.a (.i .i64 0)::.a (.x)::.a (.w 0)::.a (.w 0)::.a (.p 0 (0) 22)::.a (.i .i8 (num a0 0))::.a (.i .i64 (i64.wrap (num a0 0)))::.a (.b ((Zaa (i64.wrap (num a0 0)) (1:Int) (6:Int))))::.a (.b ((!((Zaa (i64.wrap (num a0 0)) (1:Int) (6:Int))))))::.a (.b false)::.a (.w 0)::.a (.w 0)::.a (.p 0 (1) 22)::.a (.i .i8 (num a0 1))::.a (.i .i64 (i64.wrap (num a0 1)))::.a (.b ((Zaa (i64.wrap (num a0 1)) (1:Int) (6:Int))))::.a (.b ((!((Zaa (i64.wrap (num a0 1)) (1:Int) (6:Int))))))::.a (.b ((!((Zaa (i64.wrap (num a0 1)) (1:Int) (6:Int))))))::.a (.b false)::.a (.w 0)::.a (.w 0)::.a (.p 0 (2) 23)::.a (.i .u64 (num a0 2))::.a (.w 0)::.a (.i .u64 (Ua7 (num a0 0) (num a0 1) 36))::.a (.i .u64 (IntKind.u64.wrap (BitVec.ofInt IntKind.u64.bits (num a0 2) &&& ~~~(BitVec.ofInt IntKind.u64.bits (Ua7 (num a0 0) (num a0 1) 36))).toNat))::.a (.b (((IntKind.u64.wrap (BitVec.ofInt IntKind.u64.bits (num a0 2) &&& ~~~(BitVec.ofInt IntKind.u64.bits (Ua7 (num a0 0) (num a0 1) 36))).toNat) != (0:Int))))::.a (.b (((IntKind.u64.wrap (BitVec.ofInt IntKind.u64.bits (num a0 2) &&& ~~~(BitVec.ofInt IntKind.u64.bits (Ua7 (num a0 0) (num a0 1) 36))).toNat) != (0:Int))))::.a (.i .i64 y0_3)::.a (.b (decide (y0_3<(2:Int))))::xs 33 ([]),[.row a0 37,.no,.no,.no,.no,.no,.no,.no,.no,.no,.no,.no,.no,.no,.no,.no,.no,.no,.no,.no,.no,.no,.no,.no,.no,.no,.no],[]⟩:St)
def Zgb:Bool×Int->LS
 |(y1_2,y1_4)=>([.a (.b y1_2),.a (.i .i64 y1_4)],[])
def Zkv:(Stp (Bool×Int) (Bool×Int))->Exit×LS
 |.more t=>(.ret,Zgb t)
 |.done t=>((.exit 2),Zgb t)
def Zc2(P:Program)(a0:Array Value)(y0_2:Bool)(y0_3:Int):Bool×Int->Option (Stp (Bool×Int) (Stp (Bool×Int) (Bool×Int)))
  |(y1_2,y1_4)=>bif decide (y1_4<(36:Int)) then (bif (decide (0<=y0_3)&&decide (y0_3<2)) then (bif (decide (0<=y1_4)&&decide (y1_4<36)) then (bif (Zbw y1_4 a0) then (bif (Zal y1_4 a0) then (bif (!((sumW (a0.extract ((3+((y0_3).toNat*180))+((y1_4).toNat*5)) (((3+((y0_3).toNat*180))+((y1_4).toNat*5))+5)) 5==(12:Int)))) then (some (.done (.more (false,y1_4)))) else (bif (Zbw y1_4 a0) then (bif (!((Zal y1_4 a0))) then (bif (!(Uap (a0.extract ((3+((y0_3).toNat*180))+((y1_4).toNat*5)) (((3+((y0_3).toNat*180))+((y1_4).toNat*5))+5)) (#[.int .u8 0,.int .u8 0,.int .u8 0,.int .u8 0,.int .u8 0]:Array Value))) then (some (.done (.more (false,y1_4)))) else (some (.more (y1_2,(i64.wrap (y1_4+(1:Int))))))) else (some (.more (y1_2,(i64.wrap (y1_4+(1:Int))))))) else (none))) else (bif (Zbw y1_4 a0) then (bif (!((Zal y1_4 a0))) then (bif (!(Uap (a0.extract ((3+((y0_3).toNat*180))+((y1_4).toNat*5)) (((3+((y0_3).toNat*180))+((y1_4).toNat*5))+5)) (#[.int .u8 0,.int .u8 0,.int .u8 0,.int .u8 0,.int .u8 0]:Array Value))) then (some (.done (.more (false,y1_4)))) else (some (.more (y1_2,(i64.wrap (y1_4+(1:Int))))))) else (some (.more (y1_2,(i64.wrap (y1_4+(1:Int))))))) else (none))) else (none)) else (none)) else (none)) else (some (.done (.done (y1_2,y1_4))))
noncomputable abbrev cKCxC51:=codeOf f51
def Uc2:=(Uaa cKCxC51 [([2,3],[]),([2,4],[])]).1
theorem Zrn(N:Nat)(a0:Array Value)(y0_2:Bool)(y0_3:Int):∀t:Bool×Int,Uah PZ Ze3 N (cAt cKCxC51 [1,1,0,1,0,0,1,0,0,1,0,0]) (pAt Uc2 [1,1,0,1,0,1,0,1,0]) [2,4] [] (Zhf a0 y0_2 y0_3) (Zgb t)=mapS Zgb Zkv (Zc2 PZ a0 y0_2 y0_3 t):=by
  rintro⟨y1_2,y1_4⟩
  conv=>rhs;simp only[Zc2,Zao,Zam,Zan,Zap,Zgb,Zkv]
  kernel_rfl
def Zhg(a0:Array Value):St:=(⟨.a (.w 0)::.a (.u)::.a (.b false)::.a (.i .i64 0)::.a (.u)::.a (.u)::.a (.w 0)::.a (.w 0)::.a (.p 0 (0) 22)::.a (.i .i8 (num a0 0))::.a (.i .i64 (i64.wrap (num a0 0)))::.a (.b ((Zaa (i64.wrap (num a0 0)) (1:Int) (6:Int))))::.a (.b ((!((Zaa (i64.wrap (num a0 0)) (1:Int) (6:Int))))))::.a (.b false)::.a (.w 0)::.a (.w 0)::.a (.p 0 (1) 22)::.a (.i .i8 (num a0 1))::.a (.i .i64 (i64.wrap (num a0 1)))::.a (.b ((Zaa (i64.wrap (num a0 1)) (1:Int) (6:Int))))::.a (.b ((!((Zaa (i64.wrap (num a0 1)) (1:Int) (6:Int))))))::.a (.b ((!((Zaa (i64.wrap (num a0 1)) (1:Int) (6:Int))))))::.a (.b false)::.a (.w 0)::.a (.w 0)::.a (.p 0 (2) 23)::.a (.i .u64 (num a0 2))::.a (.w 0)::.a (.i .u64 (Ua7 (num a0 0) (num a0 1) 36))::.a (.i .u64 (IntKind.u64.wrap (BitVec.ofInt IntKind.u64.bits (num a0 2) &&& ~~~(BitVec.ofInt IntKind.u64.bits (Ua7 (num a0 0) (num a0 1) 36))).toNat))::.a (.b (((IntKind.u64.wrap (BitVec.ofInt IntKind.u64.bits (num a0 2) &&& ~~~(BitVec.ofInt IntKind.u64.bits (Ua7 (num a0 0) (num a0 1) 36))).toNat) != (0:Int))))::.a (.b (((IntKind.u64.wrap (BitVec.ofInt IntKind.u64.bits (num a0 2) &&& ~~~(BitVec.ofInt IntKind.u64.bits (Ua7 (num a0 0) (num a0 1) 36))).toNat) != (0:Int))))::us 35 ([]),[.row a0 37,.no,.no,.no,.no,.no,.no,.no,.no,.no,.no,.no,.no,.no,.no,.no,.no,.no,.no,.no,.no,.no,.no,.no,.no,.no,.no],[]⟩:St)
def Zcl:Bool×Int->LS
 |(y0_2,y0_3)=>([.a (.b y0_2),.a (.i .i64 y0_3)],[])
def Zer:(Stp (Bool×Int) (Bool×Int))->Exit×LS
 |.more t=>(.ret,Zcl t)
 |.done t=>((.exit 0),Zcl t)
def Zit(P:Program)(N:Nat)(a0:Array Value)(y0_2:Bool)(y0_3:Int)(z1_2:Bool)(z1_4:Int):Option (Stp (Bool×Int) (Stp (Bool×Int) (Bool×Int))):=some (.done (.more (z1_2,y0_3)))
def Uf3(N:Nat):=(Uad 2 (Uad 1 (kSeq (veC PZ Ze3 N (cAt cKCxC51 [1,1,0,1,0,0,1,1]) (pAt Uc2 [1,1,0,1,0,1,1]) (Stp LS (Exit×LS))) (Uez 27 [2,3] []))))
theorem Zzt(N:Nat)(a0:Array Value)(y0_2:Bool)(y0_3:Int)(z1_2:Bool)(z1_4:Int):(Uf3 N) .ret (left (writes (cAt cKCxC51 [1,1,0,1,0,0,1,0,0,1,0,0])) [2,4] [] (Zhf a0 y0_2 y0_3) ([.a (.b z1_2),.a (.i .i64 z1_4)],[]))=mapS Zcl Zer (Zit PZ N a0 y0_2 y0_3 z1_2 z1_4):=by
 conv=>rhs;simp only[Zit,Zao,Zam,Zan,Zap,Zcl,Zer]
 kernel_rfl
def Zig(P:Program)(N:Nat)(a0:Array Value)(y0_2:Bool)(y0_3:Int)(z1_2:Bool)(z1_4:Int):Option (Stp (Bool×Int) (Stp (Bool×Int) (Bool×Int))):=some (.more (z1_2,(i64.wrap (y0_3+(1:Int)))))
theorem Zzw(N:Nat)(a0:Array Value)(y0_2:Bool)(y0_3:Int)(z1_2:Bool)(z1_4:Int):(Uf3 N) (.exit 2) (left (writes (cAt cKCxC51 [1,1,0,1,0,0,1,0,0,1,0,0])) [2,4] [] (Zhf a0 y0_2 y0_3) ([.a (.b z1_2),.a (.i .i64 z1_4)],[]))=mapS Zcl Zer (Zig PZ N a0 y0_2 y0_3 z1_2 z1_4):=by
 conv=>rhs;simp only[Zig,Zao,Zam,Zan,Zap,Zcl,Zer]
 kernel_rfl
theorem Yk0(N:Nat)(a0:Array Value)(y0_2:Bool)(y0_3:Int):Uag (Uab (Uah PZ Ze3 N (cAt cKCxC51 [1,1,0,1,0,0,1,0,0,1,0,0]) (pAt Uc2 [1,1,0,1,0,1,0,1,0]) [2,4] [] (Zhf a0 y0_2 y0_3)) N ([.a (.b y0_2),.a (.i .i64 0)],[])) (λe s=>(Uf3 N) e (left (writes (cAt cKCxC51 [1,1,0,1,0,0,1,0,0,1,0,0])) [2,4] [] (Zhf a0 y0_2 y0_3) s))=mapS Zcl Zer (Uai (Uab (Zc2 PZ a0 y0_2 y0_3) N (y0_2,(0:Int))) (st2 (λx=>Zit PZ N a0 y0_2 y0_3 x.1 x.2) (λx=>Zig PZ N a0 y0_2 y0_3 x.1 x.2))):=by
 rw[Zum Zcl Zer]
 first
 |(have h:=Zar (α:=Stp LS (Exit×LS)) Zgb Zkv _ _ (Zrn N a0 y0_2 y0_3) N (y0_2,(0:Int));refine h _ _ ?_)
 |(have h:=Zar (α:=Stp BS (Exit×BS)) Zgb Zkv _ _ (Zrn N a0 y0_2 y0_3) N (y0_2,(0:Int));refine h _ _ ?_)
 |(have h:=Zar (α:=Stp LS ((Exit×LS)⊕(SV×Eff×Bool))) Zgb Zkv _ _ (Zrn N a0 y0_2 y0_3) N (y0_2,(0:Int));refine h _ _ ?_)
 intro x;cases x with|more x=>exact Zzt N a0 y0_2 y0_3 x.1 x.2|done x=>exact Zzw N a0 y0_2 y0_3 x.1 x.2
def Zep(P:Program)(N:Nat)(a0:Array Value):Bool×Int->Option (Stp (Bool×Int) (Stp (Bool×Int) (Bool×Int)))
 |(y0_2,y0_3)=>bif decide (y0_3<(2:Int)) then (Uai (Uab (Zc2 P a0 y0_2 y0_3) N (y0_2,(0:Int))) (st2 (λx=>Zit P N a0 y0_2 y0_3 x.1 x.2) (λx=>Zig P N a0 y0_2 y0_3 x.1 x.2))) else (some (.done (.done (y0_2,y0_3))))
theorem Ykt(N:Nat)(a0:Array Value):∀t:Bool×Int,Uah PZ Ze3 N (cAt cKCxC51 [1,1,0,1,0,0]) (pAt Uc2 [1,1,0,1,0]) [2,3] [] (Zhg a0) (Zcl t)=mapS Zcl Zer (Zep PZ N a0 t):=by
 rintro⟨y0_2,y0_3⟩
 conv=>rhs;simp only[<- Yk0 N a0 y0_2 y0_3,Zep,Zao,Zam,Zan,Zap,Zcl,Zer]
 kernel_rfl
def Zpa(P:Program)(N:Nat)(a0:Array Value)(z0_2:Bool)(z0_3:Int):Option (SV×Eff×Bool):=some (.a (.b z0_2),.none,true)
def Uf5(N:Nat)(a0:Array Value):=(Uad 0 (kSeq (veC PZ Ze3 N (cAt cKCxC51 [1,1,1]) (pAt Uc2 [1,1,1]) (SV×Eff×Bool)) (finK PZ [.row a0 37] [.tmp 2])))
theorem Zx6(N:Nat)(a0:Array Value)(z0_2:Bool)(z0_3:Int):(Uf5 N a0) .ret (left (writes (cAt cKCxC51 [1,1,0,1,0,0])) [2,3] [] (Zhg a0) ([.a (.b z0_2),.a (.i .i64 z0_3)],[]))=Zpa PZ N a0 z0_2 z0_3:=by kernel_rfl
def Zog(P:Program)(N:Nat)(a0:Array Value)(z0_2:Bool)(z0_3:Int):Option (SV×Eff×Bool):=some (.a (.b true),.none,true)
theorem Yaa(N:Nat)(a0:Array Value)(z0_2:Bool)(z0_3:Int):(Uf5 N a0) (.exit 0) (left (writes (cAt cKCxC51 [1,1,0,1,0,0])) [2,3] [] (Zhg a0) ([.a (.b z0_2),.a (.i .i64 z0_3)],[]))=Zog PZ N a0 z0_2 z0_3:=by kernel_rfl
theorem Yl4(N:Nat)(a0:Array Value):Uag (Uab (Uah PZ Ze3 N (cAt cKCxC51 [1,1,0,1,0,0]) (pAt Uc2 [1,1,0,1,0]) [2,3] [] (Zhg a0)) N ([.a (.b false),.a (.i .i64 0)],[])) (λe s=>(Uf5 N a0) e (left (writes (cAt cKCxC51 [1,1,0,1,0,0])) [2,3] [] (Zhg a0) s))=Uai (Uab (Zep PZ N a0) N (false,(0:Int))) (st2 (λx=>Zpa PZ N a0 x.1 x.2) (λx=>Zog PZ N a0 x.1 x.2)):=by refine Zar Zcl Zer _ _ (Ykt N a0) N (false,(0:Int)) _ _ ?_;intro x;cases x with|more x=>exact Zx6 N a0 x.1 x.2|done x=>exact Yaa N a0 x.1 x.2
theorem Yi1(N:Nat)(a0:Array Value):ansV PZ Ze3 N f51 [([2,3],[]),([2,4],[])] [.w 0] [.row a0 37]=(bif (!((Zaa (i64.wrap (num a0 0)) (1:Int) (6:Int)))) then (some (.a (.b false),.none,true)) else (bif (!((Zaa (i64.wrap (num a0 1)) (1:Int) (6:Int)))) then (some (.a (.b false),.none,true)) else (bif ((IntKind.u64.wrap (BitVec.ofInt IntKind.u64.bits (num a0 2) &&& ~~~(BitVec.ofInt IntKind.u64.bits (Ua7 (num a0 0) (num a0 1) 36))).toNat) != (0:Int)) then (some (.a (.b false),.none,true)) else (Uai (Uab (Zep PZ N a0) N (false,(0:Int))) (st2 (λx=>Zpa PZ N a0 x.1 x.2) (λx=>Zog PZ N a0 x.1 x.2)))))):=by
 conv=>rhs;simp only[<- Yl4 N a0]
 kernel_rfl
theorem Yqf{S:Array Value}(h:WT PZ 37 S){t:Nat}(ht:t<2)(b:Bool):Uab (Zc2 PZ S b (t:Int)) 1000 (b,(0:Int))=some (match (jA 36).find? (λk=> !(fitS S t k)) with|some k=>.more (false,(k:Int))|none=>.done (b,((36:Nat):Int))):=by
 have htt:decide (0<=(t:Int))=true:=Q3 (by omega);have ht2:decide ((t:Int)<2)=true:=Q3 (by omega);exact Zor (g:=Zc2 PZ S b (t:Int)) (λk=>(b,(k:Int))) (λk=> !(fitS S t k)) 36 (N:=1000) (by omega) (xd:=.done (b,((36:Nat):Int))) (λk=>.more (false,(k:Int))) (λk hk hp=>by
  have h1:decide ((k:Int)<36)=true:=Q3 (by omega);have h0:decide (0<=(k:Int))=true:=Q3 (by omega);have h3:i64.wrap ((k:Int)+1)=((k+1:Nat):Int):=by rw[IntWalk.i64_in _ (by omega)];omega
  obtain⟨w1,w2⟩:=Yhp h hk;rw[Bool.not_eq_false']at hp;unfold fitS chR at hp;rw[<- w2]at hp;cases hw:Zal (k:Int) S with
  |false=>rw[hw]at hp;simp only[Q2]at hp;simp only[Zc2,h1,h0,h3,htt,ht2,w1,hw,jB,jD,Q1,Q2,Q9,hp,Bool.not_true]
  |true=>rw[hw]at hp;simp only[Q1]at hp;simp only[Zc2,h1,h0,h3,htt,ht2,w1,hw,jB,Bool.not_true,Q1,Q2,Q9,hp]) (λk hk hp=>by
  have h1:decide ((k:Int)<36)=true:=Q3 (by omega);have h0:decide (0<=(k:Int))=true:=Q3 (by omega);obtain⟨w1,w2⟩:=Yhp h hk;rw[Bool.not_eq_true']at hp;unfold fitS chR at hp;rw[<- w2]at hp;cases hw:Zal (k:Int) S with
  |false=>rw[hw]at hp;simp only[Q2]at hp;simp only[Zc2,h1,h0,htt,ht2,w1,hw,jB,jD,Q1,Q2,Q9,hp]
  |true=>rw[hw]at hp;simp only[Q1]at hp;simp only[Zc2,h1,h0,htt,ht2,w1,hw,jB,Bool.not_true,jD,Q1,Q2,Q9,hp]) (by
  have h1:decide (((36:Nat):Int)<36)=false:=by decide
  simp only[Zc2,h1,Q2])
theorem Yhy(a0:Array Value)(h_a0:WT PZ 37 a0)(hg:(true)=true):ansV PZ Ze3 1000 f51 [([2,3],[]),([2,4],[])] [.w 0] [.row a0 37]=some (.a (.b ((okS a0))),.none,true):=by
 refine(Yi1 1000 a0).trans ?_;obtain⟨s0,b0,b1⟩:=h_a0.int (o:=0) (k:=.i8) (by kernel_rfl);obtain⟨s1,b2,b3⟩:=h_a0.int (o:=1) (k:=.i8) (by kernel_rfl);have e1:IntKind.i8.min=-128:=rfl;have e2:IntKind.i8.max=127:=rfl;have h:=Zor (g:=Zep PZ 1000 a0) (λt=>(false,(t:Int))) (λt=>((jA 36).find? (λk=> !(fitS a0 t k))).isSome) 2 (N:=1000) (by omega) (xd:=.done (false,((2:Nat):Int))) (λt=>.more (false,(t:Int))) (λt ht hp=>by
  have h1:decide ((t:Int)<2)=true:=Q3 (by omega);have h3:i64.wrap ((t:Int)+1)=((t+1:Nat):Int):=by rw[IntWalk.i64_in _ (by omega)];omega
  have hn:(jA 36).find? (λk=> !(fitS a0 t k))=none:=by simpa using hp
  have hi:=Yqf h_a0 ht false;rw[hn]at hi;simp only[Zep,h1,Q1,hi,Uai,st2,Zig,h3]) (λt ht hp=>by
  have h1:decide ((t:Int)<2)=true:=Q3 (by omega);obtain⟨k,hn⟩:=Option.isSome_iff_exists.1 hp;have hi:=Yqf h_a0 ht false;rw[hn]at hi;simp only[Zep,h1,Q1,hi,Uai,st2,Zit]) (by
  have h1:decide (((2:Nat):Int)<2)=false:=by decide
  simp only[Zep,h1,Q2])
 have h':Uab (Zep PZ 1000 a0) 1000 (false,(0:Int))=some (match (jA 2).find? (λt=>((jA 36).find? (λk=> !(fitS a0 t k))).isSome) with|some t=>.more (false,(t:Int))|none=>.done (false,((2:Nat):Int))):=h;have i0:Zaa (i64.wrap (num a0 0)) 1 6=(decide (1<=num a0 0)&&decide (num a0 0<=6)):=by rw[IntWalk.i64_in _ (by omega)];unfold Zaa;cases h1:decide (num a0 0>=1)<;>simp_all
 have i1:Zaa (i64.wrap (num a0 1)) 1 6=(decide (1<=num a0 1)&&decide (num a0 1<=6)):=by rw[IntWalk.i64_in _ (by omega)];unfold Zaa;cases h1:decide (num a0 1>=1)<;>simp_all
 unfold okS okD;rw[i0,i1,h',all_two,<- Ykj,<- Ykj,show IntKind.u64.wrap (BitVec.ofInt IntKind.u64.bits (num a0 2) &&& ~~~(BitVec.ofInt IntKind.u64.bits (Ua7 (num a0 0) (num a0 1) 36))).toNat=Ube (num a0 2) (Ua7 (num a0 0) (num a0 1) 36) from rfl,show (jA 2)=[0,1] from rfl];cases decide (1<=num a0 0)&&decide (num a0 0<=6)
 ·rfl
 cases decide (1<=num a0 1)&&decide (num a0 1<=6)
 ·rfl
 cases hb:(Ube (num a0 2) (Ua7 (num a0 0) (num a0 1) 36)==0) with|false=>rw[show (Ube (num a0 2) (Ua7 (num a0 0) (num a0 1) 36) != 0)=true by simp[bne,hb]];rfl|true=>rw[show (Ube (num a0 2) (Ua7 (num a0 0) (num a0 1) 36) != 0)=false by simp[bne,hb]];simp only[List.find?];generalize (jA 36).find? (λk=> !(fitS a0 0 k))=f0;generalize (jA 36).find? (λk=> !(fitS a0 1 k))=f1;cases f0<;>cases f1<;>rfl
def Zj0:Con:=λargs h=>match args,h with|[.w 0],[.row a0 37]=>some (.a (.b ((okS a0))),.none,true)|_,_=>none
theorem Zna:EntX PZ 51:=Zaj (fn:=f51)
theorem Zru:Uac mn PZ 51 Zj0:=(ansY (N:=1000) (mKc (Zae Zkr) Zhu (mKc (Zae Ye1) Zxj (mKc (Zae Zwe) Zql (mKc (Zae Zxv) Ztc mKn)))) f51 [([2,3],[]),([2,4],[])]).of (by
 intro ρ h w args vals r e hA hH hr;unfold Zj0 at hr;split at hr
 ·rename_i a0;obtain⟨rfl,rfl,hg2⟩:=BQi hr;exact Yhy a0 (hH.wt 0 rfl) hg2
 ·cases hr)
theorem Zut{S:Array Value}(h:okS S=true):1<=num S 0/\num S 0<=6/\1<=num S 1/\num S 1<=6:=by unfold okS okD at h;simp only[Q7,decide_eq_true_eq]at h;exact⟨h.1.1.1,h.1.1.2,h.1.2.1,h.1.2.2⟩
theorem Yly{S:Array Value}(h:okS S=true):(decide (0<=num S 0)&&decide (num S 0<=6)&&(decide (0<=num S 1)&&decide (num S 1<=6)))=true:=by obtain⟨h1,h2,h3,h4⟩:=Zut h;rw[Q3 (show 0<=num S 0 by omega),Q3 h2,Q3 (show 0<=num S 1 by omega),Q3 h4];rfl
theorem okS_fit{S:Array Value}(h:okS S=true){t k:Nat}(ht:t<2)(hk:k<36):fitS S t k=true:=by
 unfold okS at h;simp only[Q7]at h;have:=jC.1 h.2.2 k (List.mem_range.2 hk);rw[Q7]at this
 match t,ht with|0,_=>exact this.1|1,_=>exact this.2
theorem okS_land{S:Array Value}(h:okS S=true){k:Nat}(hk:k<64)(hb:bitI (num S 2) k=true):k<36/\inC (num S 0) (num S 1) k=true:=by
 unfold okS at h;simp only[Q7]at h;have:=Yop.1 h.2.1 k hk hb;rw[Yp5 _ _ 36 (Nat.le_refl _)]at this
 simpa using this
theorem Ymq{S:Array Value}(h:WT PZ 37 S):S.size=363:=by rw[h.layLen,Yo7];simp
theorem num_sub{S:Array Value}{o n j:Nat}(hj:j<n):num (S.extract o (o+n)) j=num S (o+j):=by
 unfold num;rw[Array.getElem?_extract]
 by_cases h:o+j<S.size
 ·rw[if_pos (by omega)]
 ·rw[if_neg (by omega),Array.getElem?_eq_none (by omega)]
theorem sea_u8{S:Array Value}(h:WT PZ 37 S){i:Nat}(hi:i<360):S[3+i]?=some (.int .u8 (num S (3+i)))/\0<=num S (3+i)/\num S (3+i)<=255:=h.int (k:=.u8) (by rw[Yo7,show 3+i=i+3 by omega];show (List.replicate 360 4)[i]?=some 4;rw[List.getElem?_replicate,if_pos hi])
end
end Go.Proofs.YtdfefaanfiheoaaGreatDoor
