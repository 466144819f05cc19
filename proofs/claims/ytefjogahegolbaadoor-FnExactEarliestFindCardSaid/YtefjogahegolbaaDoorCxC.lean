/- What a valid sea is, in company. -/
import Derived.Test.YtefjogahegolbaaDoorProg
import Derived.Test.YtefjogahegolbaaDoorCxB
set_option linter.unusedVariables false
set_option linter.unusedSimpArgs false
open _root_.List renaming range->jA
open _root_.Bool renaming and_self->jB,not_false->jC
namespace Go.Proofs.YtefjogahegolbaaDoor
open Tryd (f41 f52 f64 f73 f77)
open Go.ChangeShapes Go.WideShapes Go.ChangeAt Go.RowKit Ve Vc
open Tryd (prog)
open IntKind (i64)
set_option maxRecDepth 100000
noncomputable section
variable {mn:Md}
def sumW(a:Array Value):Nat->Int
 |0=>0
 |k+1=>i64.wrap (sumW a k+i64.wrap (num a (k*1)))
theorem Yf0(t:Int):Zcl t=Zaa t 0 1:=by
 unfold Zcl Zaa
 by_cases h0:t=0
 ·subst h0;rfl
 ·by_cases h1:t=1
  ·subst h1;rfl
  ·rw[show (t==0)=false from beq_eq_false_iff_ne.2 h0,show (t==1)=false from beq_eq_false_iff_ne.2 h1]
   by_cases h2:t>=0
   ·rw[Q3 h2,Q4 (show ¬t<=1 by omega)];rfl
   ·rw[Q4 h2];rfl
def Zcy(a0:Array Value):St:=(⟨.a (.g a0 31)::.a (.w 0)::.a (.b false)::.a (.i .i64 0)::.a (.u)::.a (.u)::.a (.g a0 31)::.a (.i .i64 0)::us 9 ([]),[.row a0 31,.no],[]⟩:St)
def Zdq:Int×Int->LS
 |(y0_3,y0_7)=>([.a (.i .i64 y0_3),.a (.i .i64 y0_7)],[])
def Zg9:Int×Int->Exit×LS
 |t=>((.exit 0),Zdq t)
def Zbt(P:Program)(a0:Array Value):Int×Int->Option (Stp (Int×Int) (Int×Int))
 |(y0_3,y0_7)=>bif decide (y0_7<(5:Int)) then (bif (decide (0<=y0_7)&&decide (y0_7<5)) then (some (.more ((i64.wrap (y0_3+(i64.wrap (num a0 ((y0_7).toNat*1))))),(i64.wrap (y0_7+(1:Int)))))) else (none)) else (some (.done (y0_3,y0_7)))
noncomputable abbrev cKCxC77:=codeOf f77
theorem Zqi(N:Nat)(a0:Array Value):∀t:Int×Int,Uaw prog (mkΓ []) N (cAt cKCxC77 [1,1,0,1,0,0]) (pAt (Uaa cKCxC77 [([3,7],[])]).1 [1,1,0,1,0]) [3,7] [] (Zcy a0) (Zdq t)=mapS Zdq Zg9 (Zbt prog a0 t):=by
 rintro⟨y0_3,y0_7⟩
 conv=>rhs;simp only[Zbt,Zbg,Zbe,Zbd,Zbh,Zdq,Zg9]
 kernel_rfl
def Zga(P:Program)(N:Nat)(a0:Array Value)(z0_3:Int)(z0_7:Int):Option (SV×Eff×Bool):=some (.a (.b ((z0_3==(12:Int)))),.none,true)
theorem Zlw(N:Nat)(a0:Array Value)(z0_3:Int)(z0_7:Int):(Uac 0 (kSeq (veC prog (mkΓ []) N (cAt cKCxC77 [1,1,1]) (pAt (Uaa cKCxC77 [([3,7],[])]).1 [1,1,1]) (SV×Eff×Bool)) (finK prog [] [.tmp 2]))) (.exit 0) (left (writes (cAt cKCxC77 [1,1,0,1,0,0])) [3,7] [] (Zcy a0) ([.a (.i .i64 z0_3),.a (.i .i64 z0_7)],[]))=Zga prog N a0 z0_3 z0_7:=by kernel_rfl
theorem Zqm(N:Nat)(a0:Array Value):Ual (Uab (Uaw prog (mkΓ []) N (cAt cKCxC77 [1,1,0,1,0,0]) (pAt (Uaa cKCxC77 [([3,7],[])]).1 [1,1,0,1,0]) [3,7] [] (Zcy a0)) N ([.a (.i .i64 0),.a (.i .i64 0)],[])) (λe s=>(Uac 0 (kSeq (veC prog (mkΓ []) N (cAt cKCxC77 [1,1,1]) (pAt (Uaa cKCxC77 [([3,7],[])]).1 [1,1,1]) (SV×Eff×Bool)) (finK prog [] [.tmp 2]))) e (left (writes (cAt cKCxC77 [1,1,0,1,0,0])) [3,7] [] (Zcy a0) s))=Uay (Uab (Zbt prog a0) N ((0:Int),(0:Int))) (λx=>Zga prog N a0 x.1 x.2):=by refine Zbw Zdq Zg9 _ _ (Zqi N a0) N ((0:Int),(0:Int)) _ _ ?_;intro x;exact Zlw N a0 x.1 x.2
theorem Zog(N:Nat)(a0:Array Value):ansV prog (mkΓ []) N f77 [([3,7],[])] [.g a0 31] []=(Uay (Uab (Zbt prog a0) N ((0:Int),(0:Int))) (λx=>Zga prog N a0 x.1 x.2)):=by
 conv=>rhs;simp only[<- Zqm N a0]
 kernel_rfl
theorem Znt(a0:Array Value)(h_a0:WT prog 31 a0)(hg:(true)=true):ansV prog (mkΓ []) 1000 f77 [([3,7],[])] [.g a0 31] []=some (.a (.b ((sumW a0 5==(12:Int)))),.none,true):=by
 have h:=Ziq (g:=Zbt prog a0) (λk=>(sumW a0 k,(k:Int))) (m:=5) (x:=(sumW a0 5,((5:Nat):Int))) (N:=1000) (λk hk=>by
  have h1:decide ((k:Int)<5)=true:=Q3 (by omega);have h0:decide (0<=(k:Int))=true:=Q3 (by omega);have h3:i64.wrap ((k:Int)+1)=((k+1:Nat):Int):=by rw[IntWalk.i64_in _ (by omega)];omega
  have h4:((k:Int)).toNat=k:=Q9 k;simp only[Zbt,h1,h0,jB,h4,Q1,h3,sumW]) (by
  have h1:decide (((5:Nat):Int)<5)=false:=by decide
  simp only[Zbt,h1,Q2]) (by omega)
 refine(Zog 1000 a0).trans ?_;have h':Uab (Zbt prog a0) 1000 ((0:Int),(0:Int))=some (sumW a0 5,((5:Nat):Int)):=h;rw[h'];rfl
def Zgi:Con:=λargs h=>match args,h with|[.g a0 31],[]=>some (.a (.b ((sumW a0 5==(12:Int)))),.none,true)|_,_=>none
theorem Zm0:EntX prog 77:=Zal (fn:=f77)
theorem Zqh:Uad mn prog 77 Zgi:=(ansY (N:=1000) mKn f77 [([3,7],[])]).of (by
 intro ρ h w args vals r e hA hH hr;unfold Zgi at hr;split at hr
 ·rename_i a0;obtain⟨rfl,rfl,hg2⟩:=BQi hr;exact Znt a0 (hA.wt 0 rfl) hg2
 ·cases hr)
def Zdj(a0:Array Value):St:=(⟨.a (.g a0 31)::.a (.w 0)::.a (.b false)::.a (.i .i64 0)::.a (.i .i64 0)::us 12 ([]),[.row a0 31,.no],[]⟩:St)
def Zek:Int×Int->LS
 |(y0_3,y0_4)=>([.a (.i .i64 y0_3),.a (.i .i64 y0_4)],[])
def Zic:Int×Int->Exit×LS
 |t=>((.exit 0),Zek t)
def Zb5(P:Program)(a0:Array Value):Int×Int->Option (Stp (Int×Int) (Int×Int))
 |(y0_3,y0_4)=>bif decide (y0_4<(5:Int)) then (bif (decide (0<=y0_4)&&decide (y0_4<5)) then (some (.more ((i64.wrap (y0_3+(i64.wrap (num a0 ((y0_4).toNat*1))))),(i64.wrap (y0_4+(1:Int)))))) else (none)) else (some (.done (y0_3,y0_4)))
noncomputable abbrev cKCxC64:=codeOf f64
theorem Zsz(N:Nat)(a0:Array Value):∀t:Int×Int,Uaw prog (mkΓ []) N (cAt cKCxC64 [1,1,0,1,0,0]) (pAt (Uaa cKCxC64 [([3,4],[])]).1 [1,1,0,1,0]) [3,4] [] (Zdj a0) (Zek t)=mapS Zek Zic (Zb5 prog a0 t):=by
 rintro⟨y0_3,y0_4⟩
 conv=>rhs;simp only[Zb5,Zbg,Zbe,Zbd,Zbh,Zek,Zic]
 kernel_rfl
def Zha(P:Program)(N:Nat)(a0:Array Value)(z0_3:Int)(z0_4:Int):Option (SV×Eff×Bool):=some (.a (.b ((z0_3==(12:Int)))),.none,true)
theorem Zmm(N:Nat)(a0:Array Value)(z0_3:Int)(z0_4:Int):(Uac 0 (kSeq (veC prog (mkΓ []) N (cAt cKCxC64 [1,1,1]) (pAt (Uaa cKCxC64 [([3,4],[])]).1 [1,1,1]) (SV×Eff×Bool)) (finK prog [] [.tmp 2]))) (.exit 0) (left (writes (cAt cKCxC64 [1,1,0,1,0,0])) [3,4] [] (Zdj a0) ([.a (.i .i64 z0_3),.a (.i .i64 z0_4)],[]))=Zha prog N a0 z0_3 z0_4:=by kernel_rfl
theorem Ztw(N:Nat)(a0:Array Value):Ual (Uab (Uaw prog (mkΓ []) N (cAt cKCxC64 [1,1,0,1,0,0]) (pAt (Uaa cKCxC64 [([3,4],[])]).1 [1,1,0,1,0]) [3,4] [] (Zdj a0)) N ([.a (.i .i64 0),.a (.i .i64 0)],[])) (λe s=>(Uac 0 (kSeq (veC prog (mkΓ []) N (cAt cKCxC64 [1,1,1]) (pAt (Uaa cKCxC64 [([3,4],[])]).1 [1,1,1]) (SV×Eff×Bool)) (finK prog [] [.tmp 2]))) e (left (writes (cAt cKCxC64 [1,1,0,1,0,0])) [3,4] [] (Zdj a0) s))=Uay (Uab (Zb5 prog a0) N ((0:Int),(0:Int))) (λx=>Zha prog N a0 x.1 x.2):=by refine Zbw Zek Zic _ _ (Zsz N a0) N ((0:Int),(0:Int)) _ _ ?_;intro x;exact Zmm N a0 x.1 x.2
theorem Zrq(N:Nat)(a0:Array Value):ansV prog (mkΓ []) N f64 [([3,4],[])] [.g a0 31] []=(Uay (Uab (Zb5 prog a0) N ((0:Int),(0:Int))) (λx=>Zha prog N a0 x.1 x.2)):=by
 conv=>rhs;simp only[<- Ztw N a0]
 kernel_rfl
theorem Zqo(a0:Array Value)(h_a0:WT prog 31 a0)(hg:(true)=true):ansV prog (mkΓ []) 1000 f64 [([3,4],[])] [.g a0 31] []=some (.a (.b ((sumW a0 5==(12:Int)))),.none,true):=by
 have h:=Ziq (g:=Zb5 prog a0) (λk=>(sumW a0 k,(k:Int))) (m:=5) (x:=(sumW a0 5,((5:Nat):Int))) (N:=1000) (λk hk=>by
  have h1:decide ((k:Int)<5)=true:=Q3 (by omega);have h0:decide (0<=(k:Int))=true:=Q3 (by omega);have h3:i64.wrap ((k:Int)+1)=((k+1:Nat):Int):=by rw[IntWalk.i64_in _ (by omega)];omega
  have h4:((k:Int)).toNat=k:=Q9 k;simp only[Zb5,h1,h0,jB,h4,Q1,h3,sumW]) (by
  have h1:decide (((5:Nat):Int)<5)=false:=by decide
  simp only[Zb5,h1,Q2]) (by omega)
 refine(Zrq 1000 a0).trans ?_;have h':Uab (Zb5 prog a0) 1000 ((0:Int),(0:Int))=some (sumW a0 5,((5:Nat):Int)):=h;rw[h'];rfl
def Zhw:Con:=λargs h=>match args,h with|[.g a0 31],[]=>some (.a (.b ((sumW a0 5==(12:Int)))),.none,true)|_,_=>none
theorem Zop:EntX prog 64:=Zal (fn:=f64)
theorem Zt5:Uad mn prog 64 Zhw:=(ansY (N:=1000) mKn f64 [([3,4],[])]).of (by
 intro ρ h w args vals r e hA hH hr;unfold Zhw at hr;split at hr
 ·rename_i a0;obtain⟨rfl,rfl,hg2⟩:=BQi hr;exact Zqo a0 (hA.wt 0 rfl) hg2
 ·cases hr)
def Zmb:Cons:=(mkΓ [(34,con Zc3),(35,con Zce),(77,con Zgi)])
theorem Zrn(N:Nat)(a0:Array Value)(a1:Int)(a2:Array Value):ansV prog Zmb N f73 [] [.g a0 35,.i .i64 a1,.g a2 31] []=(bif (Zak a0 a1) then (bif decide (0<=a1) then (bif (Zaf a0 a1) then (some (.a (.b ((sumW a2 5==(12:Int)))),.none,true)) else (some (.a (.b ((Ubg a2 (#[.int .u8 0,.int .u8 0,.int .u8 0,.int .u8 0,.int .u8 0]:Array Value)))),.none,true))) else (none)) else (some (.a (.b ((Ubg a2 (#[.int .u8 0,.int .u8 0,.int .u8 0,.int .u8 0,.int .u8 0]:Array Value)))),.none,true))):=by kernel_rfl
def Zbx(a0:Array Value)(a1:Int)(a2:Array Value):Bool:=(bif (Zak a0 a1) then (bif (Zaf a0 a1) then (sumW a2 5==(12:Int)) else (Ubg a2 (#[.int .u8 0,.int .u8 0,.int .u8 0,.int .u8 0,.int .u8 0]:Array Value))) else (Ubg a2 (#[.int .u8 0,.int .u8 0,.int .u8 0,.int .u8 0,.int .u8 0]:Array Value)))
theorem Zp5(a0:Array Value)(a1:Int)(a2:Array Value)(h_a0:WT prog 35 a0)(h_a1:i64.min<=a1/\a1<=i64.max)(h_a2:WT prog 31 a2)(hg:((bif (Zak a0 a1) then decide (0<=a1) else true))=true):ansV prog Zmb 1000 f73 [] [.g a0 35,.i .i64 a1,.g a2 31] []=some (.a (.b ((Zbx a0 a1 a2))),.none,true):=by
 refine(Zrn 1000 a0 a1 a2).trans ?_;unfold Zbx;revert hg;generalize ((Zak a0 a1))=b2;intro hg;cases b2
 ·skip
  first|rfl|exact(nomatch (hg:false=true))
 ·skip
  revert hg;generalize (decide (0<=a1))=b4;intro hg;cases b4
  ·skip
   first|exact(nomatch (hg:false=true))|rfl
  ·skip
   revert hg;generalize ((Zaf a0 a1))=b6;intro hg;cases b6
   ·skip
    first|rfl|exact(nomatch (hg:false=true))
   ·skip
    first|rfl|exact(nomatch (hg:false=true))
def Zhz:Con:=λargs h=>match args,h with|[.g a0 35,.i .i64 a1,.g a2 31],[]=>some (.a (.b ((Zbx a0 a1 a2))),.none,(bif (Zak a0 a1) then decide (0<=a1) else true))|_,_=>none
theorem Zo7:EntX prog 73:=Zal (fn:=f73)
theorem Zt9:Uad mn prog 73 Zhz:=(ansY (N:=1000) (mKc (Zah Zca) Zbm (mKc (Zah Zdg) Zb6 (mKc (Zah Zqh) Zm0 mKn))) f73 []).of (by
 intro ρ h w args vals r e hA hH hr;unfold Zhz at hr;split at hr
 ·rename_i a0 a1 a2;obtain⟨rfl,rfl,hg2⟩:=BQi hr;exact Zp5 a0 a1 a2 (hA.wt 0 rfl) (hA.rng 1 rfl) (hA.wt 2 rfl) hg2
 ·cases hr)
def chR(S:Array Value)(t k:Nat):Array Value:=S.extract (3+t*180+k*5) (3+t*180+k*5+5)
def fitS(S:Array Value)(t k:Nat):Bool:=bif inC (num S 0) (num S 1) k && !(bitI (num S 2) k) then (sumW (chR S t k) 5==(12:Int)) else Ubg (chR S t k) (#[.int .u8 0,.int .u8 0,.int .u8 0,.int .u8 0,.int .u8 0]:Array Value)
def okD(S:Array Value):Bool:=decide (1<=num S 0)&&decide (num S 0<=6)&&(decide (1<=num S 1)&&decide (num S 1<=6))
def okS(S:Array Value):Bool:=okD S&&((Ube (num S 2) (Ua8 (num S 0) (num S 1) 36)==0)&&(jA 36).all λk=>fitS S 0 k&&fitS S 1 k)
theorem Yb9(n:Nat)(p:Nat->Bool):((jA n).find? (λk=> !(p k))).isNone=(jA n).all p:=by rw[Bool.eq_iff_iff,Option.isNone_iff_eq_none,List.find?_eq_none,List.all_eq_true];simp
theorem all_two(n:Nat)(p q:Nat->Bool):(jA n).all (λk=>p k&&q k)=((jA n).all p&&(jA n).all q):=by rw[Bool.eq_iff_iff,Q7,List.all_eq_true,List.all_eq_true,List.all_eq_true];simp only[Q7];exact⟨λh=>⟨λx hx=>(h x hx).1,λx hx=>(h x hx).2⟩,λh x hx=>⟨h.1 x hx,h.2 x hx⟩⟩
theorem Ykm{S:Array Value}(h:WT prog 35 S){k:Nat}(hk:k<36):Zak S (k:Int)=inC (num S 0) (num S 1) k:=by rw[Zpg,Ye7 h hk]
theorem Zxr{S:Array Value}(h:WT prog 35 S){k:Nat}(hk:k<36)(t:Nat):Zbx S (k:Int) (chR S t k)=fitS S t k:=by unfold Zbx fitS;rw[Ykm h hk];unfold Zaf;rw[Zuv hk];cases inC (num S 0) (num S 1) k<;>cases bitI (num S 2) k<;>rfl
theorem Yea{S:Array Value}(h:WT prog 35 S){k:Nat}(hk:k<36):Zbr (k:Int) S=true/\Zam (k:Int) S=(inC (num S 0) (num S 1) k && !(bitI (num S 2) k)):=by
 have hu:decide (0<=IntKind.u64.wrap (k:Int))=true:=Q3 (Zhs .u64 _).1;unfold Zbr Zam;rw[Ye7 h hk,Yja h hk];constructor
 ·cases inC (num S 0) (num S 1) k<;>simp[hu]
 ·cases inC (num S 0) (num S 1) k<;>simp
def Zcr:Cons:=(mkΓ [(72,con Zi0),(73,con Zhz)])
def Zdl(a0:Array Value):St:=(⟨.a (.g a0 35)::.a (.w 0)::.a (.b false)::.a (.u)::.a (.p 0 (0) 22)::.a (.i .i8 (num a0 0))::.a (.b (decide ((num a0 0)<(1:Int))))::.a (.b false)::.a (.p 0 (0) 22)::.a (.i .i8 (num a0 0))::.a (.b (decide ((num a0 0) > (6:Int))))::.a (.b (decide ((num a0 0) > (6:Int))))::.a (.b false)::.a (.p 0 (1) 22)::.a (.i .i8 (num a0 1))::.a (.b (decide ((num a0 1)<(1:Int))))::.a (.b (decide ((num a0 1)<(1:Int))))::.a (.b false)::.a (.p 0 (1) 22)::.a (.i .i8 (num a0 1))::.a (.b (decide ((num a0 1) > (6:Int))))::.a (.b (decide ((num a0 1) > (6:Int))))::.a (.p 0 (2) 23)::.a (.i .u64 (num a0 2))::.a (.g a0 35)::.a (.i .u64 (Ua8 (num a0 0) (num a0 1) 36))::.a (.i .u64 (IntKind.u64.wrap (BitVec.ofInt IntKind.u64.bits (num a0 2) &&& ~~~(BitVec.ofInt IntKind.u64.bits (Ua8 (num a0 0) (num a0 1) 36))).toNat))::.a (.b (((IntKind.u64.wrap (BitVec.ofInt IntKind.u64.bits (num a0 2) &&& ~~~(BitVec.ofInt IntKind.u64.bits (Ua8 (num a0 0) (num a0 1) 36))).toNat) != (0:Int))))::.a (.i .i64 0)::us 23 ([]),[.row a0 35,.no,.no,.no,.no,.no,.no,.no],[]⟩:St)
def Zei:Bool×Int->LS
 |(y0_2,y0_28)=>([.a (.b y0_2),.a (.i .i64 y0_28)],[])
def Zjx:(Stp (Bool×Int) (Bool×Int))->Exit×LS
 |.more t=>(.ret,Zei t)
 |.done t=>((.exit 0),Zei t)
def Zb0(P:Program)(a0:Array Value):Bool×Int->Option (Stp (Bool×Int) (Stp (Bool×Int) (Bool×Int)))
  |(y0_2,y0_28)=>bif decide (y0_28<(36:Int)) then (bif (decide (0<=y0_28)&&decide (y0_28<36)) then (bif (bif (Zak a0 y0_28) then decide (0<=y0_28) else true) then (bif (!((Zbx a0 y0_28 (a0.extract (3+((y0_28).toNat*5)) ((3+((y0_28).toNat*5))+5))))) then (some (.done (.more (false,y0_28)))) else (bif (decide (0<=y0_28)&&decide (y0_28<36)) then (bif (bif (Zak a0 y0_28) then decide (0<=y0_28) else true) then (bif (!((Zbx a0 y0_28 (a0.extract (183+((y0_28).toNat*5)) ((183+((y0_28).toNat*5))+5))))) then (some (.done (.more (false,y0_28)))) else (some (.more (y0_2,(i64.wrap (y0_28+(1:Int))))))) else (none)) else (none))) else (none)) else (none)) else (some (.done (.done (y0_2,y0_28))))
noncomputable abbrev cKCxC52:=codeOf f52
theorem Zxd(N:Nat)(a0:Array Value):∀t:Bool×Int,Uaw prog Zcr N (cAt cKCxC52 [1,1,1,0,1,0,0]) (pAt (Uaa cKCxC52 [([2,28],[])]).1 [1,1,1,0,1,0]) [2,28] [] (Zdl a0) (Zei t)=mapS Zei Zjx (Zb0 prog a0 t):=by
  rintro⟨y0_2,y0_28⟩
  conv=>rhs;simp only[Zb0,Zbg,Zbe,Zbd,Zbh,Zei,Zjx]
  kernel_rfl
def Zid(P:Program)(N:Nat)(a0:Array Value)(z0_2:Bool)(z0_28:Int):Option (SV×Eff×Bool):=some (.a (.b z0_2),.none,true)
theorem Zn6(N:Nat)(a0:Array Value)(z0_2:Bool)(z0_28:Int):(Uac 0 (kSeq (veC prog Zcr N (cAt cKCxC52 [1,1,1,1]) (pAt (Uaa cKCxC52 [([2,28],[])]).1 [1,1,1,1]) (SV×Eff×Bool)) (finK prog [] [.tmp 2]))) .ret (left (writes (cAt cKCxC52 [1,1,1,0,1,0,0])) [2,28] [] (Zdl a0) ([.a (.b z0_2),.a (.i .i64 z0_28)],[]))=Zid prog N a0 z0_2 z0_28:=by kernel_rfl
def Zih(P:Program)(N:Nat)(a0:Array Value)(z0_2:Bool)(z0_28:Int):Option (SV×Eff×Bool):=some (.a (.b true),.none,true)
theorem Zoh(N:Nat)(a0:Array Value)(z0_2:Bool)(z0_28:Int):(Uac 0 (kSeq (veC prog Zcr N (cAt cKCxC52 [1,1,1,1]) (pAt (Uaa cKCxC52 [([2,28],[])]).1 [1,1,1,1]) (SV×Eff×Bool)) (finK prog [] [.tmp 2]))) (.exit 0) (left (writes (cAt cKCxC52 [1,1,1,0,1,0,0])) [2,28] [] (Zdl a0) ([.a (.b z0_2),.a (.i .i64 z0_28)],[]))=Zih prog N a0 z0_2 z0_28:=by kernel_rfl
theorem Zv9(N:Nat)(a0:Array Value):Ual (Uab (Uaw prog Zcr N (cAt cKCxC52 [1,1,1,0,1,0,0]) (pAt (Uaa cKCxC52 [([2,28],[])]).1 [1,1,1,0,1,0]) [2,28] [] (Zdl a0)) N ([.a (.b false),.a (.i .i64 0)],[])) (λe s=>(Uac 0 (kSeq (veC prog Zcr N (cAt cKCxC52 [1,1,1,1]) (pAt (Uaa cKCxC52 [([2,28],[])]).1 [1,1,1,1]) (SV×Eff×Bool)) (finK prog [] [.tmp 2]))) e (left (writes (cAt cKCxC52 [1,1,1,0,1,0,0])) [2,28] [] (Zdl a0) s))=Uay (Uab (Zb0 prog a0) N (false,(0:Int))) (st2 (λx=>Zid prog N a0 x.1 x.2) (λx=>Zih prog N a0 x.1 x.2)):=by refine Zbw Zei Zjx _ _ (Zxd N a0) N (false,(0:Int)) _ _ ?_;intro x;cases x with|more x=>exact Zn6 N a0 x.1 x.2|done x=>exact Zoh N a0 x.1 x.2
theorem Zvp(N:Nat)(a0:Array Value):ansV prog Zcr N f52 [([2,28],[])] [.g a0 35] []=(bif decide ((num a0 0)<(1:Int)) then (some (.a (.b false),.none,true)) else (bif decide ((num a0 0) > (6:Int)) then (some (.a (.b false),.none,true)) else (bif decide ((num a0 1)<(1:Int)) then (some (.a (.b false),.none,true)) else (bif decide ((num a0 1) > (6:Int)) then (some (.a (.b false),.none,true)) else (bif (decide (0<=num a0 0)&&decide (num a0 0<=6)&&(decide (0<=num a0 1)&&decide (num a0 1<=6))) then (bif ((IntKind.u64.wrap (BitVec.ofInt IntKind.u64.bits (num a0 2) &&& ~~~(BitVec.ofInt IntKind.u64.bits (Ua8 (num a0 0) (num a0 1) 36))).toNat) != (0:Int)) then (some (.a (.b false),.none,true)) else (Uay (Uab (Zb0 prog a0) N (false,(0:Int))) (st2 (λx=>Zid prog N a0 x.1 x.2) (λx=>Zih prog N a0 x.1 x.2)))) else (none)))))):=by
  conv=>rhs;simp only[<- Zv9 N a0]
  kernel_rfl
theorem Ztv(a0:Array Value)(h_a0:WT prog 35 a0)(hg:(true)=true):ansV prog Zcr 1000 f52 [([2,28],[])] [.g a0 35] []=some (.a (.b ((okS a0))),.none,true):=by
 refine(Zvp 1000 a0).trans ?_;have h:=Zsu (g:=Zb0 prog a0) (λk=>(false,(k:Int))) (λk=> !(fitS a0 0 k&&fitS a0 1 k)) 36 (N:=1000) (by omega) (xd:=.done (false,((36:Nat):Int))) (λk=>.more (false,(k:Int))) (λk hk hp=>by
  have h1:decide ((k:Int)<36)=true:=Q3 (by omega);have h0:decide (0<=(k:Int))=true:=Q3 (by omega);have h3:i64.wrap ((k:Int)+1)=((k+1:Nat):Int):=by rw[IntWalk.i64_in _ (by omega)];omega
  have f0:=Zxr h_a0 hk 0;have f1:=Zxr h_a0 hk 1;unfold chR at f0 f1;rw[show 3+0*180+k*5=3+k*5 by omega]at f0;rw[show 3+1*180+k*5=183+k*5 by omega]at f1;have hg:(bif Zak a0 (k:Int) then true else true)=true:=by cases Zak a0 (k:Int)<;>rfl
  simp only[Bool.not_eq_false',Q7]at hp;simp only[Zb0,h1,h0,h3,jB,Q1,Q9,hg,f0,f1,hp.1,hp.2,Bool.not_true,Q2]) (λk hk hp=>by
  have h1:decide ((k:Int)<36)=true:=Q3 (by omega);have h0:decide (0<=(k:Int))=true:=Q3 (by omega);have f0:=Zxr h_a0 hk 0;have f1:=Zxr h_a0 hk 1;unfold chR at f0 f1;rw[show 3+0*180+k*5=3+k*5 by omega]at f0;rw[show 3+1*180+k*5=183+k*5 by omega]at f1;have hg:(bif Zak a0 (k:Int) then true else true)=true:=by cases Zak a0 (k:Int)<;>rfl
  cases e0:fitS a0 0 k with
  |false=>simp only[Zb0,h1,h0,jB,Q1,Q9,hg,f0,e0,jC]
  |true=>
   rw[e0]at hp;have e1:fitS a0 1 k=false:=by simpa using hp
   simp only[Zb0,h1,h0,jB,Q1,Q9,hg,f0,f1,e0,e1,jC,Bool.not_true,Q2]) (by
  have h1:decide (((36:Nat):Int)<36)=false:=by decide
  simp only[Zb0,h1,Q2])
 have h':Uab (Zb0 prog a0) 1000 (false,(0:Int))=some (match (jA 36).find? (λk=> !(fitS a0 0 k&&fitS a0 1 k)) with|some k=>.more (false,(k:Int))|none=>.done (false,((36:Nat):Int))):=h;have hf:=Yb9 36 (λk=>fitS a0 0 k&&fitS a0 1 k);unfold okS okD
 by_cases d1:1<=num a0 0
 ·rw [Q3 d1,Q4 (show ¬ num a0 0<1 by omega)]
  by_cases d2:num a0 0<=6
  ·rw [Q3 d2,Q4 (show ¬ num a0 0 > 6 by omega)]
   by_cases d3:1<=num a0 1
   ·rw[Q3 d3,Q4 (show ¬num a0 1<1 by omega)]
    by_cases d4:num a0 1<=6
    ·rw[Q3 d4,Q4 (show ¬num a0 1 > 6 by omega),Q3 (show 0<=num a0 0 by omega),Q3 (show 0<=num a0 1 by omega)];simp only[jB,Q1,Q2,Bool.true_and,h'];rw[show IntKind.u64.wrap (BitVec.ofInt IntKind.u64.bits (num a0 2) &&& ~~~(BitVec.ofInt IntKind.u64.bits (Ua8 (num a0 0) (num a0 1) 36))).toNat=Ube (num a0 2) (Ua8 (num a0 0) (num a0 1) 36) from rfl];cases hb:(Ube (num a0 2) (Ua8 (num a0 0) (num a0 1) 36)==0) with|false=>rw[show (Ube (num a0 2) (Ua8 (num a0 0) (num a0 1) 36) != 0)=true by simp[bne,hb]];rfl|true=>rw[show (Ube (num a0 2) (Ua8 (num a0 0) (num a0 1) 36) != 0)=false by simp[bne,hb],<- hf];cases (jA 36).find? (λk=> !(fitS a0 0 k&&fitS a0 1 k))<;>rfl
    ·rw[Q4 d4,Q3 (show num a0 1 > 6 by omega)];rfl
   ·rw[Q4 d3,Q3 (show num a0 1<1 by omega)];rfl
  ·rw[Q4 d2,Q3 (show num a0 0 > 6 by omega)];rfl
 ·rw[Q4 d1,Q3 (show num a0 0<1 by omega)];rfl
def Zi2:Con:=λargs h=>match args,h with|[.g a0 35],[]=>some (.a (.b ((okS a0))),.none,true)|_,_=>none
theorem Zfj:EntX prog 52:=Zal (fn:=f52)
theorem Zhn:Uad mn prog 52 Zi2:=(ansY (N:=1000) (mKc (Zah Zwp) Zrk (mKc (Zah Zt9) Zo7 mKn)) f52 [([2,28],[])]).of (by
 intro ρ h w args vals r e hA hH hr;unfold Zi2 at hr;split at hr
 ·rename_i a0;obtain⟨rfl,rfl,hg2⟩:=BQi hr;exact Ztv a0 (hA.wt 0 rfl) hg2
 ·cases hr)
def Zbs:Cons:=(mkΓ [(44,con Zdf),(62,con Zi7),(63,con Zh6),(64,con Zhw)])
def Zfg(a0:Array Value)(y0_2:Bool)(y0_3:Int):St:=(⟨.a (.w 0)::.a (.u)::.a (.b y0_2)::.a (.i .i64 y0_3)::.a (.i .i64 0)::.a (.x)::.a (.w 0)::.a (.w 0)::.a (.p 0 (0) 22)::.a (.i .i8 (num a0 0))::.a (.i .i64 (i64.wrap (num a0 0)))::.a (.b ((Zaa (i64.wrap (num a0 0)) (1:Int) (6:Int))))::.a (.b ((!((Zaa (i64.wrap (num a0 0)) (1:Int) (6:Int))))))::.a (.b false)::.a (.w 0)::.a (.w 0)::.a (.p 0 (1) 22)::.a (.i .i8 (num a0 1))::.a (.i .i64 (i64.wrap (num a0 1)))::.a (.b ((Zaa (i64.wrap (num a0 1)) (1:Int) (6:Int))))::.a (.b ((!((Zaa (i64.wrap (num a0 1)) (1:Int) (6:Int))))))::.a (.b ((!((Zaa (i64.wrap (num a0 1)) (1:Int) (6:Int))))))::.a (.b false)::.a (.w 0)::.a (.w 0)::.a (.p 0 (2) 23)::.a (.i .u64 (num a0 2))::.a (.w 0)::.a (.i .u64 (Ua8 (num a0 0) (num a0 1) 36))::.a (.i .u64 (IntKind.u64.wrap (BitVec.ofInt IntKind.u64.bits (num a0 2) &&& ~~~(BitVec.ofInt IntKind.u64.bits (Ua8 (num a0 0) (num a0 1) 36))).toNat))::.a (.b (((IntKind.u64.wrap (BitVec.ofInt IntKind.u64.bits (num a0 2) &&& ~~~(BitVec.ofInt IntKind.u64.bits (Ua8 (num a0 0) (num a0 1) 36))).toNat) != (0:Int))))::.a (.b (((IntKind.u64.wrap (BitVec.ofInt IntKind.u64.bits (num a0 2) &&& ~~~(BitVec.ofInt IntKind.u64.bits (Ua8 (num a0 0) (num a0 1) 36))).toNat) != (0:Int))))::.a (.i .i64 y0_3)::.a (.b (decide (y0_3<(2:Int))))::xs 33 ([]),[.row a0 35,.no,.no,.no,.no,.no,.no,.no,.no,.no,.no,.no,.no,.no,.no,.no,.no,.no,.no,.no,.no,.no,.no,.no,.no,.no,.no],[]⟩:St)
def Zes:Bool×Int->LS
 |(y1_2,y1_4)=>([.a (.b y1_2),.a (.i .i64 y1_4)],[])
def Zh8:(Stp (Bool×Int) (Bool×Int))->Exit×LS
 |.more t=>(.ret,Zes t)
 |.done t=>((.exit 2),Zes t)
def Zcs(P:Program)(a0:Array Value)(y0_2:Bool)(y0_3:Int):Bool×Int->Option (Stp (Bool×Int) (Stp (Bool×Int) (Bool×Int)))
  |(y1_2,y1_4)=>bif decide (y1_4<(36:Int)) then (bif (decide (0<=y0_3)&&decide (y0_3<2)) then (bif (decide (0<=y1_4)&&decide (y1_4<36)) then (bif (Zbr y1_4 a0) then (bif (Zam y1_4 a0) then (bif (!((sumW (a0.extract ((3+((y0_3).toNat*180))+((y1_4).toNat*5)) (((3+((y0_3).toNat*180))+((y1_4).toNat*5))+5)) 5==(12:Int)))) then (some (.done (.more (false,y1_4)))) else (bif (Zbr y1_4 a0) then (bif (!((Zam y1_4 a0))) then (bif (!(Ubg (a0.extract ((3+((y0_3).toNat*180))+((y1_4).toNat*5)) (((3+((y0_3).toNat*180))+((y1_4).toNat*5))+5)) (#[.int .u8 0,.int .u8 0,.int .u8 0,.int .u8 0,.int .u8 0]:Array Value))) then (some (.done (.more (false,y1_4)))) else (some (.more (y1_2,(i64.wrap (y1_4+(1:Int))))))) else (some (.more (y1_2,(i64.wrap (y1_4+(1:Int))))))) else (none))) else (bif (Zbr y1_4 a0) then (bif (!((Zam y1_4 a0))) then (bif (!(Ubg (a0.extract ((3+((y0_3).toNat*180))+((y1_4).toNat*5)) (((3+((y0_3).toNat*180))+((y1_4).toNat*5))+5)) (#[.int .u8 0,.int .u8 0,.int .u8 0,.int .u8 0,.int .u8 0]:Array Value))) then (some (.done (.more (false,y1_4)))) else (some (.more (y1_2,(i64.wrap (y1_4+(1:Int))))))) else (some (.more (y1_2,(i64.wrap (y1_4+(1:Int))))))) else (none))) else (none)) else (none)) else (none)) else (some (.done (.done (y1_2,y1_4))))
noncomputable abbrev cKCxC41:=codeOf f41
theorem Zm7(N:Nat)(a0:Array Value)(y0_2:Bool)(y0_3:Int):∀t:Bool×Int,Uaw prog Zbs N (cAt cKCxC41 [1,1,0,1,0,0,1,0,0,1,0,0]) (pAt (Uaa cKCxC41 [([2,3],[]),([2,4],[])]).1 [1,1,0,1,0,1,0,1,0]) [2,4] [] (Zfg a0 y0_2 y0_3) (Zes t)=mapS Zes Zh8 (Zcs prog a0 y0_2 y0_3 t):=by
  rintro⟨y1_2,y1_4⟩
  conv=>rhs;simp only[Zcs,Zbg,Zbe,Zbd,Zbh,Zes,Zh8]
  kernel_rfl
def Zfk(a0:Array Value):St:=(⟨.a (.w 0)::.a (.u)::.a (.b false)::.a (.i .i64 0)::.a (.u)::.a (.u)::.a (.w 0)::.a (.w 0)::.a (.p 0 (0) 22)::.a (.i .i8 (num a0 0))::.a (.i .i64 (i64.wrap (num a0 0)))::.a (.b ((Zaa (i64.wrap (num a0 0)) (1:Int) (6:Int))))::.a (.b ((!((Zaa (i64.wrap (num a0 0)) (1:Int) (6:Int))))))::.a (.b false)::.a (.w 0)::.a (.w 0)::.a (.p 0 (1) 22)::.a (.i .i8 (num a0 1))::.a (.i .i64 (i64.wrap (num a0 1)))::.a (.b ((Zaa (i64.wrap (num a0 1)) (1:Int) (6:Int))))::.a (.b ((!((Zaa (i64.wrap (num a0 1)) (1:Int) (6:Int))))))::.a (.b ((!((Zaa (i64.wrap (num a0 1)) (1:Int) (6:Int))))))::.a (.b false)::.a (.w 0)::.a (.w 0)::.a (.p 0 (2) 23)::.a (.i .u64 (num a0 2))::.a (.w 0)::.a (.i .u64 (Ua8 (num a0 0) (num a0 1) 36))::.a (.i .u64 (IntKind.u64.wrap (BitVec.ofInt IntKind.u64.bits (num a0 2) &&& ~~~(BitVec.ofInt IntKind.u64.bits (Ua8 (num a0 0) (num a0 1) 36))).toNat))::.a (.b (((IntKind.u64.wrap (BitVec.ofInt IntKind.u64.bits (num a0 2) &&& ~~~(BitVec.ofInt IntKind.u64.bits (Ua8 (num a0 0) (num a0 1) 36))).toNat) != (0:Int))))::.a (.b (((IntKind.u64.wrap (BitVec.ofInt IntKind.u64.bits (num a0 2) &&& ~~~(BitVec.ofInt IntKind.u64.bits (Ua8 (num a0 0) (num a0 1) 36))).toNat) != (0:Int))))::us 35 ([]),[.row a0 35,.no,.no,.no,.no,.no,.no,.no,.no,.no,.no,.no,.no,.no,.no,.no,.no,.no,.no,.no,.no,.no,.no,.no,.no,.no,.no],[]⟩:St)
def Zcd:Bool×Int->LS
 |(y0_2,y0_3)=>([.a (.b y0_2),.a (.i .i64 y0_3)],[])
def Zdx:(Stp (Bool×Int) (Bool×Int))->Exit×LS
 |.more t=>(.ret,Zcd t)
 |.done t=>((.exit 0),Zcd t)
def Zgn(P:Program)(N:Nat)(a0:Array Value)(y0_2:Bool)(y0_3:Int)(z1_2:Bool)(z1_4:Int):Option (Stp (Bool×Int) (Stp (Bool×Int) (Bool×Int))):=some (.done (.more (z1_2,y0_3)))
theorem Zsw(N:Nat)(a0:Array Value)(y0_2:Bool)(y0_3:Int)(z1_2:Bool)(z1_4:Int):(Uac 2 (Uac 1 (kSeq (veC prog Zbs N (cAt cKCxC41 [1,1,0,1,0,0,1,1]) (pAt (Uaa cKCxC41 [([2,3],[]),([2,4],[])]).1 [1,1,0,1,0,1,1]) (Stp LS (Exit×LS))) (Uco 27 [2,3] [])))) .ret (left (writes (cAt cKCxC41 [1,1,0,1,0,0,1,0,0,1,0,0])) [2,4] [] (Zfg a0 y0_2 y0_3) ([.a (.b z1_2),.a (.i .i64 z1_4)],[]))=mapS Zcd Zdx (Zgn prog N a0 y0_2 y0_3 z1_2 z1_4):=by
 conv=>rhs;simp only[Zgn,Zbg,Zbe,Zbd,Zbh,Zcd,Zdx]
 kernel_rfl
def Zgj(P:Program)(N:Nat)(a0:Array Value)(y0_2:Bool)(y0_3:Int)(z1_2:Bool)(z1_4:Int):Option (Stp (Bool×Int) (Stp (Bool×Int) (Bool×Int))):=some (.more (z1_2,(i64.wrap (y0_3+(1:Int)))))
theorem Ztg(N:Nat)(a0:Array Value)(y0_2:Bool)(y0_3:Int)(z1_2:Bool)(z1_4:Int):(Uac 2 (Uac 1 (kSeq (veC prog Zbs N (cAt cKCxC41 [1,1,0,1,0,0,1,1]) (pAt (Uaa cKCxC41 [([2,3],[]),([2,4],[])]).1 [1,1,0,1,0,1,1]) (Stp LS (Exit×LS))) (Uco 27 [2,3] [])))) (.exit 2) (left (writes (cAt cKCxC41 [1,1,0,1,0,0,1,0,0,1,0,0])) [2,4] [] (Zfg a0 y0_2 y0_3) ([.a (.b z1_2),.a (.i .i64 z1_4)],[]))=mapS Zcd Zdx (Zgj prog N a0 y0_2 y0_3 z1_2 z1_4):=by
 conv=>rhs;simp only[Zgj,Zbg,Zbe,Zbd,Zbh,Zcd,Zdx]
 kernel_rfl
theorem Ycb(N:Nat)(a0:Array Value)(y0_2:Bool)(y0_3:Int):Ual (Uab (Uaw prog Zbs N (cAt cKCxC41 [1,1,0,1,0,0,1,0,0,1,0,0]) (pAt (Uaa cKCxC41 [([2,3],[]),([2,4],[])]).1 [1,1,0,1,0,1,0,1,0]) [2,4] [] (Zfg a0 y0_2 y0_3)) N ([.a (.b y0_2),.a (.i .i64 0)],[])) (λe s=>(Uac 2 (Uac 1 (kSeq (veC prog Zbs N (cAt cKCxC41 [1,1,0,1,0,0,1,1]) (pAt (Uaa cKCxC41 [([2,3],[]),([2,4],[])]).1 [1,1,0,1,0,1,1]) (Stp LS (Exit×LS))) (Uco 27 [2,3] [])))) e (left (writes (cAt cKCxC41 [1,1,0,1,0,0,1,0,0,1,0,0])) [2,4] [] (Zfg a0 y0_2 y0_3) s))=mapS Zcd Zdx (Uay (Uab (Zcs prog a0 y0_2 y0_3) N (y0_2,(0:Int))) (st2 (λx=>Zgn prog N a0 y0_2 y0_3 x.1 x.2) (λx=>Zgj prog N a0 y0_2 y0_3 x.1 x.2))):=by
 rw[Ybg Zcd Zdx]
 first
 |(have h:=Zbw (α:=Stp LS (Exit×LS)) Zes Zh8 _ _ (Zm7 N a0 y0_2 y0_3) N (y0_2,(0:Int));refine h _ _ ?_)
 |(have h:=Zbw (α:=Stp BS (Exit×BS)) Zes Zh8 _ _ (Zm7 N a0 y0_2 y0_3) N (y0_2,(0:Int));refine h _ _ ?_)
 |(have h:=Zbw (α:=Stp LS ((Exit×LS)⊕(SV×Eff×Bool))) Zes Zh8 _ _ (Zm7 N a0 y0_2 y0_3) N (y0_2,(0:Int));refine h _ _ ?_)
 intro x;cases x with|more x=>exact Zsw N a0 y0_2 y0_3 x.1 x.2|done x=>exact Ztg N a0 y0_2 y0_3 x.1 x.2
def Zdv(P:Program)(N:Nat)(a0:Array Value):Bool×Int->Option (Stp (Bool×Int) (Stp (Bool×Int) (Bool×Int)))
 |(y0_2,y0_3)=>bif decide (y0_3<(2:Int)) then (Uay (Uab (Zcs P a0 y0_2 y0_3) N (y0_2,(0:Int))) (st2 (λx=>Zgn P N a0 y0_2 y0_3 x.1 x.2) (λx=>Zgj P N a0 y0_2 y0_3 x.1 x.2))) else (some (.done (.done (y0_2,y0_3))))
theorem Ycw(N:Nat)(a0:Array Value):∀t:Bool×Int,Uaw prog Zbs N (cAt cKCxC41 [1,1,0,1,0,0]) (pAt (Uaa cKCxC41 [([2,3],[]),([2,4],[])]).1 [1,1,0,1,0]) [2,3] [] (Zfk a0) (Zcd t)=mapS Zcd Zdx (Zdv prog N a0 t):=by
 rintro⟨y0_2,y0_3⟩
 conv=>rhs;simp only[<- Ycb N a0 y0_2 y0_3,Zdv,Zbg,Zbe,Zbd,Zbh,Zcd,Zdx]
 kernel_rfl
def Zkz(P:Program)(N:Nat)(a0:Array Value)(z0_2:Bool)(z0_3:Int):Option (SV×Eff×Bool):=some (.a (.b z0_2),.none,true)
theorem Zsf(N:Nat)(a0:Array Value)(z0_2:Bool)(z0_3:Int):(Uac 0 (kSeq (veC prog Zbs N (cAt cKCxC41 [1,1,1]) (pAt (Uaa cKCxC41 [([2,3],[]),([2,4],[])]).1 [1,1,1]) (SV×Eff×Bool)) (finK prog [.row a0 35] [.tmp 2]))) .ret (left (writes (cAt cKCxC41 [1,1,0,1,0,0])) [2,3] [] (Zfk a0) ([.a (.b z0_2),.a (.i .i64 z0_3)],[]))=Zkz prog N a0 z0_2 z0_3:=by kernel_rfl
def Zku(P:Program)(N:Nat)(a0:Array Value)(z0_2:Bool)(z0_3:Int):Option (SV×Eff×Bool):=some (.a (.b true),.none,true)
theorem Ztm(N:Nat)(a0:Array Value)(z0_2:Bool)(z0_3:Int):(Uac 0 (kSeq (veC prog Zbs N (cAt cKCxC41 [1,1,1]) (pAt (Uaa cKCxC41 [([2,3],[]),([2,4],[])]).1 [1,1,1]) (SV×Eff×Bool)) (finK prog [.row a0 35] [.tmp 2]))) (.exit 0) (left (writes (cAt cKCxC41 [1,1,0,1,0,0])) [2,3] [] (Zfk a0) ([.a (.b z0_2),.a (.i .i64 z0_3)],[]))=Zku prog N a0 z0_2 z0_3:=by kernel_rfl
theorem Ycz(N:Nat)(a0:Array Value):Ual (Uab (Uaw prog Zbs N (cAt cKCxC41 [1,1,0,1,0,0]) (pAt (Uaa cKCxC41 [([2,3],[]),([2,4],[])]).1 [1,1,0,1,0]) [2,3] [] (Zfk a0)) N ([.a (.b false),.a (.i .i64 0)],[])) (λe s=>(Uac 0 (kSeq (veC prog Zbs N (cAt cKCxC41 [1,1,1]) (pAt (Uaa cKCxC41 [([2,3],[]),([2,4],[])]).1 [1,1,1]) (SV×Eff×Bool)) (finK prog [.row a0 35] [.tmp 2]))) e (left (writes (cAt cKCxC41 [1,1,0,1,0,0])) [2,3] [] (Zfk a0) s))=Uay (Uab (Zdv prog N a0) N (false,(0:Int))) (st2 (λx=>Zkz prog N a0 x.1 x.2) (λx=>Zku prog N a0 x.1 x.2)):=by refine Zbw Zcd Zdx _ _ (Ycw N a0) N (false,(0:Int)) _ _ ?_;intro x;cases x with|more x=>exact Zsf N a0 x.1 x.2|done x=>exact Ztm N a0 x.1 x.2
theorem Yah(N:Nat)(a0:Array Value):ansV prog Zbs N f41 [([2,3],[]),([2,4],[])] [.w 0] [.row a0 35]=(bif (!((Zaa (i64.wrap (num a0 0)) (1:Int) (6:Int)))) then (some (.a (.b false),.none,true)) else (bif (!((Zaa (i64.wrap (num a0 1)) (1:Int) (6:Int)))) then (some (.a (.b false),.none,true)) else (bif ((IntKind.u64.wrap (BitVec.ofInt IntKind.u64.bits (num a0 2) &&& ~~~(BitVec.ofInt IntKind.u64.bits (Ua8 (num a0 0) (num a0 1) 36))).toNat) != (0:Int)) then (some (.a (.b false),.none,true)) else (Uay (Uab (Zdv prog N a0) N (false,(0:Int))) (st2 (λx=>Zkz prog N a0 x.1 x.2) (λx=>Zku prog N a0 x.1 x.2)))))):=by
 conv=>rhs;simp only[<- Ycz N a0]
 kernel_rfl
theorem Yg9{S:Array Value}(h:WT prog 35 S){t:Nat}(ht:t<2)(b:Bool):Uab (Zcs prog S b (t:Int)) 1000 (b,(0:Int))=some (match (jA 36).find? (λk=> !(fitS S t k)) with|some k=>.more (false,(k:Int))|none=>.done (b,((36:Nat):Int))):=by
 have htt:decide (0<=(t:Int))=true:=Q3 (by omega);have ht2:decide ((t:Int)<2)=true:=Q3 (by omega);exact Zsu (g:=Zcs prog S b (t:Int)) (λk=>(b,(k:Int))) (λk=> !(fitS S t k)) 36 (N:=1000) (by omega) (xd:=.done (b,((36:Nat):Int))) (λk=>.more (false,(k:Int))) (λk hk hp=>by
  have h1:decide ((k:Int)<36)=true:=Q3 (by omega);have h0:decide (0<=(k:Int))=true:=Q3 (by omega);have h3:i64.wrap ((k:Int)+1)=((k+1:Nat):Int):=by rw[IntWalk.i64_in _ (by omega)];omega
  obtain⟨w1,w2⟩:=Yea h hk;rw[Bool.not_eq_false']at hp;unfold fitS chR at hp;rw[<- w2]at hp;cases hw:Zam (k:Int) S with
  |false=>rw[hw]at hp;simp only[Q2]at hp;simp only[Zcs,h1,h0,h3,htt,ht2,w1,hw,jB,jC,Q1,Q2,Q9,hp,Bool.not_true]
  |true=>rw[hw]at hp;simp only[Q1]at hp;simp only[Zcs,h1,h0,h3,htt,ht2,w1,hw,jB,Bool.not_true,Q1,Q2,Q9,hp]) (λk hk hp=>by
  have h1:decide ((k:Int)<36)=true:=Q3 (by omega);have h0:decide (0<=(k:Int))=true:=Q3 (by omega);obtain⟨w1,w2⟩:=Yea h hk;rw[Bool.not_eq_true']at hp;unfold fitS chR at hp;rw[<- w2]at hp;cases hw:Zam (k:Int) S with
  |false=>rw[hw]at hp;simp only[Q2]at hp;simp only[Zcs,h1,h0,htt,ht2,w1,hw,jB,jC,Q1,Q2,Q9,hp]
  |true=>rw[hw]at hp;simp only[Q1]at hp;simp only[Zcs,h1,h0,htt,ht2,w1,hw,jB,Bool.not_true,jC,Q1,Q2,Q9,hp]) (by
  have h1:decide (((36:Nat):Int)<36)=false:=by decide
  simp only[Zcs,h1,Q2])
theorem Zzw(a0:Array Value)(h_a0:WT prog 35 a0)(hg:(true)=true):ansV prog Zbs 1000 f41 [([2,3],[]),([2,4],[])] [.w 0] [.row a0 35]=some (.a (.b ((okS a0))),.none,true):=by
 refine(Yah 1000 a0).trans ?_;obtain⟨s0,b0,b1⟩:=h_a0.int (o:=0) (k:=.i8) (by kernel_rfl);obtain⟨s1,b2,b3⟩:=h_a0.int (o:=1) (k:=.i8) (by kernel_rfl);have e1:IntKind.i8.min=-128:=rfl;have e2:IntKind.i8.max=127:=rfl;have h:=Zsu (g:=Zdv prog 1000 a0) (λt=>(false,(t:Int))) (λt=>((jA 36).find? (λk=> !(fitS a0 t k))).isSome) 2 (N:=1000) (by omega) (xd:=.done (false,((2:Nat):Int))) (λt=>.more (false,(t:Int))) (λt ht hp=>by
  have h1:decide ((t:Int)<2)=true:=Q3 (by omega);have h3:i64.wrap ((t:Int)+1)=((t+1:Nat):Int):=by rw[IntWalk.i64_in _ (by omega)];omega
  have hn:(jA 36).find? (λk=> !(fitS a0 t k))=none:=by simpa using hp
  have hi:=Yg9 h_a0 ht false;rw[hn]at hi;simp only[Zdv,h1,Q1,hi,Uay,st2,Zgj,h3]) (λt ht hp=>by
  have h1:decide ((t:Int)<2)=true:=Q3 (by omega);obtain⟨k,hn⟩:=Option.isSome_iff_exists.1 hp;have hi:=Yg9 h_a0 ht false;rw[hn]at hi;simp only[Zdv,h1,Q1,hi,Uay,st2,Zgn]) (by
  have h1:decide (((2:Nat):Int)<2)=false:=by decide
  simp only[Zdv,h1,Q2])
 have h':Uab (Zdv prog 1000 a0) 1000 (false,(0:Int))=some (match (jA 2).find? (λt=>((jA 36).find? (λk=> !(fitS a0 t k))).isSome) with|some t=>.more (false,(t:Int))|none=>.done (false,((2:Nat):Int))):=h;have i0:Zaa (i64.wrap (num a0 0)) 1 6=(decide (1<=num a0 0)&&decide (num a0 0<=6)):=by rw[IntWalk.i64_in _ (by omega)];unfold Zaa;cases h1:decide (num a0 0>=1)<;>simp_all
 have i1:Zaa (i64.wrap (num a0 1)) 1 6=(decide (1<=num a0 1)&&decide (num a0 1<=6)):=by rw[IntWalk.i64_in _ (by omega)];unfold Zaa;cases h1:decide (num a0 1>=1)<;>simp_all
 unfold okS okD;rw[i0,i1,h',all_two,<- Yb9,<- Yb9,show IntKind.u64.wrap (BitVec.ofInt IntKind.u64.bits (num a0 2) &&& ~~~(BitVec.ofInt IntKind.u64.bits (Ua8 (num a0 0) (num a0 1) 36))).toNat=Ube (num a0 2) (Ua8 (num a0 0) (num a0 1) 36) from rfl,show (jA 2)=[0,1] from rfl];cases decide (1<=num a0 0)&&decide (num a0 0<=6)
 ·rfl
 cases decide (1<=num a0 1)&&decide (num a0 1<=6)
 ·rfl
 cases hb:(Ube (num a0 2) (Ua8 (num a0 0) (num a0 1) 36)==0) with|false=>rw[show (Ube (num a0 2) (Ua8 (num a0 0) (num a0 1) 36) != 0)=true by simp[bne,hb]];rfl|true=>rw[show (Ube (num a0 2) (Ua8 (num a0 0) (num a0 1) 36) != 0)=false by simp[bne,hb]];simp only[List.find?];generalize (jA 36).find? (λk=> !(fitS a0 0 k))=f0;generalize (jA 36).find? (λk=> !(fitS a0 1 k))=f1;cases f0<;>cases f1<;>rfl
def Zln:Con:=λargs h=>match args,h with|[.w 0],[.row a0 35]=>some (.a (.b ((okS a0))),.none,true)|_,_=>none
theorem Zwx:EntX prog 41:=Zal (fn:=f41)
theorem Yco:Uad mn prog 41 Zln:=(ansY (N:=1000) (mKc (Zah Zkd) Zhm (mKc (Zah Zwn) Zrt (mKc (Zah Zqy) Zl4 (mKc (Zah Zt5) Zop mKn)))) f41 [([2,3],[]),([2,4],[])]).of (by
 intro ρ h w args vals r e hA hH hr;unfold Zln at hr;split at hr
 ·rename_i a0;obtain⟨rfl,rfl,hg2⟩:=BQi hr;exact Zzw a0 (hH.wt 0 rfl) hg2
 ·cases hr)
theorem Ztn{S:Array Value}(h:okS S=true):1<=num S 0/\num S 0<=6/\1<=num S 1/\num S 1<=6:=by unfold okS okD at h;simp only[Q7,decide_eq_true_eq]at h;exact⟨h.1.1.1,h.1.1.2,h.1.2.1,h.1.2.2⟩
theorem Yhe{S:Array Value}(h:okS S=true):(decide (0<=num S 0)&&decide (num S 0<=6)&&(decide (0<=num S 1)&&decide (num S 1<=6)))=true:=by obtain⟨h1,h2,h3,h4⟩:=Ztn h;rw[Q3 (show 0<=num S 0 by omega),Q3 h2,Q3 (show 0<=num S 1 by omega),Q3 h4];rfl
theorem okS_land{S:Array Value}(h:okS S=true){k:Nat}(hk:k<64)(hb:bitI (num S 2) k=true):k<36/\inC (num S 0) (num S 1) k=true:=by
 unfold okS at h;simp only[Q7]at h;have:=Yfi.1 h.2.1 k hk hb;rw[Yhd _ _ 36 (Nat.le_refl _)]at this
 simpa using this
theorem Ydk{S:Array Value}(h:WT prog 35 S):S.size=363:=by rw[h.layLen,Ykt];simp
end
end Go.Proofs.YtefjogahegolbaaDoor
