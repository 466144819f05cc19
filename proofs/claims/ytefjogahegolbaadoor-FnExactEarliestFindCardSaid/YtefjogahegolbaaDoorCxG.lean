/- An hour as it is asked; what flows, what rests, and both together; in company. -/
import Derived.Test.YtefjogahegolbaaDoorProg
import Derived.Test.YtefjogahegolbaaDoorCxF
set_option linter.unusedVariables false
set_option linter.unusedSimpArgs false
open _root_.Bool renaming and_self->jA
namespace Go.Proofs.YtefjogahegolbaaDoor
open Tryd (f59 f60 f75 f81)
open Go.ChangeShapes Go.WideShapes Go.ChangeAt Go.RowKit Ve Vc
open Tryd (prog)
open IntKind (i64)
set_option maxRecDepth 100000
noncomputable section
variable {mn:Md}
def Zbk:Cons:=(mkΓ [(63,con Zh6),(84,con Zju)])
def Ze9(a0 a1:Array Value)(y0_7:Int)(r0_22:Array Value):St:=(⟨.a (.w 0)::.a (.w 1)::.a (.u)::.a (.u)::.a (.w 2)::.a (.w 22)::.a (.i .i8 (((IntKind.i8.wrap ((num a1 0)+(num a1 1)))).tmod (2:Int)))::.a (.i .i64 y0_7)::.a (.i .i64 0)::.a (.x)::.a (.x)::.a (.w 1)::.a (.w 1)::.a (.p 1 (0) 22)::.a (.i .i8 (num a1 0))::.a (.w 1)::.a (.w 1)::.a (.p 1 (1) 22)::.a (.i .i8 (num a1 1))::.a (.i .i8 (IntKind.i8.wrap ((num a1 1)+(1:Int))))::.a (.w 1)::.a (.w 1)::.a (.p 1 (2) 2)::.a (.i .i64 (num a1 2))::.a (.w 1)::.a (.w 1)::.a (.p 1 (39) 2)::.a (.i .i64 (num a1 39))::.a (.i .i64 (i64.wrap ((num a1 39)*(12:Int))))::.a (.g (((((zc prog 77).setIfInBounds 0 (.int .i8 (num a1 0))).setIfInBounds 1 (.int .i8 (IntKind.i8.wrap ((num a1 1)+(1:Int))))).setIfInBounds 2 (.int .i64 (num a1 2))).setIfInBounds 39 (.int .i64 (i64.wrap ((num a1 39)*(12:Int))))) 77)::.a (.w 1)::.a (.w 1)::.a (.p 1 (0) 22)::.a (.i .i8 (num a1 0))::.a (.w 1)::.a (.w 1)::.a (.p 1 (1) 22)::.a (.i .i8 (num a1 1))::.a (.i .i8 (IntKind.i8.wrap ((num a1 0)+(num a1 1))))::.a (.i .i8 (((IntKind.i8.wrap ((num a1 0)+(num a1 1)))).tmod (2:Int)))::.a (.i .i64 y0_7)::.a (.b (decide (y0_7<(36:Int))))::.a (.x)::.a (.x)::.a (.w 0)::.a (.i .i64 y0_7)::.a (.b ((Zam y0_7 a0)))::.a (.b ((!((Zam y0_7 a0)))))::xs 55 (.a (.u)::[]),[.row a0 35,.row a1 77,.row (zc prog 77) 77,.no,.no,.no,.no,.no,.no,.no,.no,.no,.no,.no,.no,.no,.no,.no,.no,.no,.no,.no,.row r0_22 77,.no,.no,.no,.no,.no,.no,.no,.no,.no,.no,.no,.no],[22]⟩:St)
def Zd6:Int×Array Value->LS
 |(y1_8,r1_22)=>([.a (.i .i64 y1_8)],[.row r1_22 77])
def Zgp:Int×Array Value->Exit×LS
 |t=>((.exit 2),Zd6 t)
def Zck(P:Program)(a0 a1:Array Value)(y0_7:Int)(r0_22:Array Value):Int×Array Value->Option (Stp (Int×Array Value) (Int×Array Value))
 |(y1_8,r1_22)=>bif decide (y1_8<(5:Int)) then (bif (decide (0<=y0_7)&&decide (y0_7<36)) then (bif (decide (0<=(((IntKind.i8.wrap ((num a1 0)+(num a1 1)))).tmod (2:Int)))&&decide ((((IntKind.i8.wrap ((num a1 0)+(num a1 1)))).tmod (2:Int))<2)) then (bif (decide (0<=y0_7)&&decide (y0_7<36)) then (bif (decide (0<=y1_8)&&decide (y1_8<5)) then (bif decide ((Zai y0_7 y1_8 a0)<(0:Int)) then (some (.more ((i64.wrap (y1_8+(1:Int))),(r1_22.setIfInBounds 39 (.int .i64 (i64.wrap ((num r1_22 39)+(i64.wrap ((num a1 (3+((y0_7).toNat*1)))*(i64.wrap (num a0 (((3+((((IntKind.i8.wrap ((num a1 0)+(num a1 1)))).tmod (2:Int)).toNat*180))+((y0_7).toNat*5))+((y1_8).toNat*1))))))))))))) else (bif (decide (0<=(Zai y0_7 y1_8 a0))&&decide ((Zai y0_7 y1_8 a0)<36)) then (bif (decide (0<=(Zai y0_7 y1_8 a0))&&decide ((Zai y0_7 y1_8 a0)<36)) then (some (.more ((i64.wrap (y1_8+(1:Int))),(r1_22.setIfInBounds (3+((Zai y0_7 y1_8 a0).toNat*1)) (.int .i64 (i64.wrap ((num r1_22 (3+((Zai y0_7 y1_8 a0).toNat*1)))+(i64.wrap ((num a1 (3+((y0_7).toNat*1)))*(i64.wrap (num a0 (((3+((((IntKind.i8.wrap ((num a1 0)+(num a1 1)))).tmod (2:Int)).toNat*180))+((y0_7).toNat*5))+((y1_8).toNat*1))))))))))))) else (none)) else (none))) else (none)) else (none)) else (none)) else (none)) else (some (.done (y1_8,r1_22)))
noncomputable abbrev cKCxG81:=codeOf f81
theorem Zk7(N:Nat)(a0 a1:Array Value)(y0_7:Int)(r0_22:Array Value):∀t:Int×Array Value,Uaw prog Zbk N (cAt cKCxG81 [1,1,1,0,1,0,0,1,0,0,1,1,0,0]) (pAt (Uaa cKCxG81 [([7],[22]),([8],[22])]).1 [1,1,1,0,1,0,1,0,1,1,0]) [8] [22] (Ze9 a0 a1 y0_7 r0_22) (Zd6 t)=mapS Zd6 Zgp (Zck prog a0 a1 y0_7 r0_22 t):=by
 rintro⟨y1_8,r1_22⟩
 conv=>rhs;simp only[Zck,Zbg,Zbe,Zbd,Zbh,Zd6,Zgp]
 kernel_rfl
def Ze5(a0 a1:Array Value):St:=(⟨.a (.w 0)::.a (.w 1)::.a (.u)::.a (.u)::.a (.w 2)::.a (.w 22)::.a (.i .i8 (((IntKind.i8.wrap ((num a1 0)+(num a1 1)))).tmod (2:Int)))::.a (.i .i64 0)::us 3 (.a (.w 1)::.a (.w 1)::.a (.p 1 (0) 22)::.a (.i .i8 (num a1 0))::.a (.w 1)::.a (.w 1)::.a (.p 1 (1) 22)::.a (.i .i8 (num a1 1))::.a (.i .i8 (IntKind.i8.wrap ((num a1 1)+(1:Int))))::.a (.w 1)::.a (.w 1)::.a (.p 1 (2) 2)::.a (.i .i64 (num a1 2))::.a (.w 1)::.a (.w 1)::.a (.p 1 (39) 2)::.a (.i .i64 (num a1 39))::.a (.i .i64 (i64.wrap ((num a1 39)*(12:Int))))::.a (.g (((((zc prog 77).setIfInBounds 0 (.int .i8 (num a1 0))).setIfInBounds 1 (.int .i8 (IntKind.i8.wrap ((num a1 1)+(1:Int))))).setIfInBounds 2 (.int .i64 (num a1 2))).setIfInBounds 39 (.int .i64 (i64.wrap ((num a1 39)*(12:Int))))) 77)::.a (.w 1)::.a (.w 1)::.a (.p 1 (0) 22)::.a (.i .i8 (num a1 0))::.a (.w 1)::.a (.w 1)::.a (.p 1 (1) 22)::.a (.i .i8 (num a1 1))::.a (.i .i8 (IntKind.i8.wrap ((num a1 0)+(num a1 1))))::.a (.i .i8 (((IntKind.i8.wrap ((num a1 0)+(num a1 1)))).tmod (2:Int)))::us 64 ([])),[.row a0 35,.row a1 77,.row (zc prog 77) 77,.no,.no,.no,.no,.no,.no,.no,.no,.no,.no,.no,.no,.no,.no,.no,.no,.no,.no,.no,.row (((((zc prog 77).setIfInBounds 0 (.int .i8 (num a1 0))).setIfInBounds 1 (.int .i8 (IntKind.i8.wrap ((num a1 1)+(1:Int))))).setIfInBounds 2 (.int .i64 (num a1 2))).setIfInBounds 39 (.int .i64 (i64.wrap ((num a1 39)*(12:Int))))) 77,.no,.no,.no,.no,.no,.no,.no,.no,.no,.no,.no,.no],[22]⟩:St)
def Zct:Int×Array Value->LS
 |(y0_7,r0_22)=>([.a (.i .i64 y0_7)],[.row r0_22 77])
def Zd7:Int×Array Value->Exit×LS
 |t=>((.exit 0),Zct t)
def Zfa(P:Program)(N:Nat)(a0 a1:Array Value)(y0_7:Int)(r0_22:Array Value)(z1_8:Int)(q1_22:Array Value):Option (Stp (Int×Array Value) (Int×Array Value)):=some (.more ((i64.wrap (y0_7+(1:Int))),q1_22))
theorem Zp6(N:Nat)(a0 a1:Array Value)(y0_7:Int)(r0_22:Array Value)(z1_8:Int)(q1_22:Array Value):(Uac 2 (Uac 1 (kSeq (veC prog Zbk N (cAt cKCxG81 [1,1,1,0,1,0,0,1,1]) (pAt (Uaa cKCxG81 [([7],[22]),([8],[22])]).1 [1,1,1,0,1,0,1,1]) (Stp LS (Exit×LS))) (Uco 35 [7] [22])))) (.exit 2) (left (writes (cAt cKCxG81 [1,1,1,0,1,0,0,1,0,0,1,1,0,0])) [8] [22] (Ze9 a0 a1 y0_7 r0_22) ([.a (.i .i64 z1_8)],[.row q1_22 77]))=mapS Zct Zd7 (Zfa prog N a0 a1 y0_7 r0_22 z1_8 q1_22):=by
 conv=>rhs;simp only[Zfa,Zbg,Zbe,Zbd,Zbh,Zct,Zd7]
 kernel_rfl
theorem Zyo(N:Nat)(a0 a1:Array Value)(y0_7:Int)(r0_22:Array Value):Ual (Uab (Uaw prog Zbk N (cAt cKCxG81 [1,1,1,0,1,0,0,1,0,0,1,1,0,0]) (pAt (Uaa cKCxG81 [([7],[22]),([8],[22])]).1 [1,1,1,0,1,0,1,0,1,1,0]) [8] [22] (Ze9 a0 a1 y0_7 r0_22)) N ([.a (.i .i64 0)],[.row r0_22 77])) (λe s=>(Uac 2 (Uac 1 (kSeq (veC prog Zbk N (cAt cKCxG81 [1,1,1,0,1,0,0,1,1]) (pAt (Uaa cKCxG81 [([7],[22]),([8],[22])]).1 [1,1,1,0,1,0,1,1]) (Stp LS (Exit×LS))) (Uco 35 [7] [22])))) e (left (writes (cAt cKCxG81 [1,1,1,0,1,0,0,1,0,0,1,1,0,0])) [8] [22] (Ze9 a0 a1 y0_7 r0_22) s))=mapS Zct Zd7 (Uay (Uab (Zck prog a0 a1 y0_7 r0_22) N ((0:Int),r0_22)) (λx=>Zfa prog N a0 a1 y0_7 r0_22 x.1 x.2)):=by
 rw[Ybg Zct Zd7]
 first
 |(have h:=Zbw (α:=Stp LS (Exit×LS)) Zd6 Zgp _ _ (Zk7 N a0 a1 y0_7 r0_22) N ((0:Int),r0_22);refine h _ _ ?_)
 |(have h:=Zbw (α:=Stp BS (Exit×BS)) Zd6 Zgp _ _ (Zk7 N a0 a1 y0_7 r0_22) N ((0:Int),r0_22);refine h _ _ ?_)
 |(have h:=Zbw (α:=Stp LS ((Exit×LS)⊕(SV×Eff×Bool))) Zd6 Zgp _ _ (Zk7 N a0 a1 y0_7 r0_22) N ((0:Int),r0_22);refine h _ _ ?_)
 intro x;exact Zp6 N a0 a1 y0_7 r0_22 x.1 x.2
def Zco(P:Program)(N:Nat)(a0 a1:Array Value):Int×Array Value->Option (Stp (Int×Array Value) (Int×Array Value))
 |(y0_7,r0_22)=>bif decide (y0_7<(36:Int)) then (bif (Zbr y0_7 a0) then (bif (!((Zam y0_7 a0))) then (bif (decide (0<=y0_7)&&decide (y0_7<36)) then (bif (decide (0<=y0_7)&&decide (y0_7<36)) then (bif (decide (0<=y0_7)&&decide (y0_7<36)) then (some (.more ((i64.wrap (y0_7+(1:Int))),(r0_22.setIfInBounds (3+((y0_7).toNat*1)) (.int .i64 (i64.wrap ((num r0_22 (3+((y0_7).toNat*1)))+(i64.wrap ((num a1 (3+((y0_7).toNat*1)))*(12:Int)))))))))) else (none)) else (none)) else (none)) else (Uay (Uab (Zck P a0 a1 y0_7 r0_22) N ((0:Int),r0_22)) (λx=>Zfa P N a0 a1 y0_7 r0_22 x.1 x.2))) else (none)) else (some (.done (y0_7,r0_22)))
theorem Zy3(N:Nat)(a0 a1:Array Value):∀t:Int×Array Value,Uaw prog Zbk N (cAt cKCxG81 [1,1,1,0,1,0,0]) (pAt (Uaa cKCxG81 [([7],[22]),([8],[22])]).1 [1,1,1,0,1,0]) [7] [22] (Ze5 a0 a1) (Zct t)=mapS Zct Zd7 (Zco prog N a0 a1 t):=by
 rintro⟨y0_7,r0_22⟩
 conv=>rhs;simp only[<- Zyo N a0 a1 y0_7 r0_22,Zco,Zbg,Zbe,Zbd,Zbh,Zct,Zd7]
 kernel_rfl
def Zi9(P:Program)(N:Nat)(a0 a1:Array Value)(z0_7:Int)(q0_22:Array Value):Option (SV×Eff×Bool):=some (.a (.g q0_22 77),.none,true)
theorem Zp9(N:Nat)(a0 a1:Array Value)(z0_7:Int)(q0_22:Array Value):(Uac 0 (kSeq (veC prog Zbk N (cAt cKCxG81 [1,1,1,1]) (pAt (Uaa cKCxG81 [([7],[22]),([8],[22])]).1 [1,1,1,1]) (SV×Eff×Bool)) (finK prog [.row a0 35,.row a1 77] [.cell 4 77]))) (.exit 0) (left (writes (cAt cKCxG81 [1,1,1,0,1,0,0])) [7] [22] (Ze5 a0 a1) ([.a (.i .i64 z0_7)],[.row q0_22 77]))=Zi9 prog N a0 a1 z0_7 q0_22:=by kernel_rfl
theorem Zzo(N:Nat)(a0 a1:Array Value):Ual (Uab (Uaw prog Zbk N (cAt cKCxG81 [1,1,1,0,1,0,0]) (pAt (Uaa cKCxG81 [([7],[22]),([8],[22])]).1 [1,1,1,0,1,0]) [7] [22] (Ze5 a0 a1)) N ([.a (.i .i64 0)],[.row (((((zc prog 77).setIfInBounds 0 (.int .i8 (num a1 0))).setIfInBounds 1 (.int .i8 (IntKind.i8.wrap ((num a1 1)+(1:Int))))).setIfInBounds 2 (.int .i64 (num a1 2))).setIfInBounds 39 (.int .i64 (i64.wrap ((num a1 39)*(12:Int))))) 77])) (λe s=>(Uac 0 (kSeq (veC prog Zbk N (cAt cKCxG81 [1,1,1,1]) (pAt (Uaa cKCxG81 [([7],[22]),([8],[22])]).1 [1,1,1,1]) (SV×Eff×Bool)) (finK prog [.row a0 35,.row a1 77] [.cell 4 77]))) e (left (writes (cAt cKCxG81 [1,1,1,0,1,0,0])) [7] [22] (Ze5 a0 a1) s))=Uay (Uab (Zco prog N a0 a1) N ((0:Int),(((((zc prog 77).setIfInBounds 0 (.int .i8 (num a1 0))).setIfInBounds 1 (.int .i8 (IntKind.i8.wrap ((num a1 1)+(1:Int))))).setIfInBounds 2 (.int .i64 (num a1 2))).setIfInBounds 39 (.int .i64 (i64.wrap ((num a1 39)*(12:Int))))))) (λx=>Zi9 prog N a0 a1 x.1 x.2):=by refine Zbw Zct Zd7 _ _ (Zy3 N a0 a1) N ((0:Int),(((((zc prog 77).setIfInBounds 0 (.int .i8 (num a1 0))).setIfInBounds 1 (.int .i8 (IntKind.i8.wrap ((num a1 1)+(1:Int))))).setIfInBounds 2 (.int .i64 (num a1 2))).setIfInBounds 39 (.int .i64 (i64.wrap ((num a1 39)*(12:Int)))))) _ _ ?_;intro x;exact Zp9 N a0 a1 x.1 x.2
theorem Zwk(N:Nat)(a0 a1:Array Value):ansV prog Zbk N f81 [([7],[22]),([8],[22])] [.w 0,.w 1] [.row a0 35,.row a1 77]=(Uay (Uab (Zco prog N a0 a1) N ((0:Int),(((((zc prog 77).setIfInBounds 0 (.int .i8 (num a1 0))).setIfInBounds 1 (.int .i8 (IntKind.i8.wrap ((num a1 1)+(1:Int))))).setIfInBounds 2 (.int .i64 (num a1 2))).setIfInBounds 39 (.int .i64 (i64.wrap ((num a1 39)*(12:Int))))))) (λx=>Zi9 prog N a0 a1 x.1 x.2)):=by
 conv=>rhs;simp only[<- Zzo N a0 a1]
 kernel_rfl
theorem dec2{a b:Int}(h1:0<=a)(h2:a<b):(decide (0<=a)&&decide (a<b))=true:=by rw[Q3 h1,Q3 h2];rfl
def adN(r:Array Value)(i:Nat)(m:Int):Array Value:=r.setIfInBounds i (.int .i64 (i64.wrap (num r i+m)))
def tdS(X:Array Value):Int:=(IntKind.i8.wrap (num X 0+num X 1)).tmod 2
def muF(S X:Array Value)(t:Int)(k w:Nat):Int:=i64.wrap (num X (3+k*1)*chW S t (k:Int) w)
def wayF(S X:Array Value)(t:Int)(k:Nat)(r:Array Value)(w:Nat):Array Value:=bif decide (Zai (k:Int) (w:Int) S<0) then adN r 39 (muF S X t k w) else adN r (3+(Zai (k:Int) (w:Int) S).toNat*1) (muF S X t k w)
def Ues(S X:Array Value)(t:Int)(r:Array Value)(k:Nat):Array Value:=bif Zam (k:Int) S then folds (wayF S X t k) r 5 else adN r (3+k*1) (i64.wrap (num X (3+k*1)*12))
def Ub4(P:Program)(X:Array Value):Array Value:=((((zc P 77).setIfInBounds 0 (.int .i8 (num X 0))).setIfInBounds 1 (.int .i8 (IntKind.i8.wrap (num X 1+1)))).setIfInBounds 2 (.int .i64 (num X 2))).setIfInBounds 39 (.int .i64 (i64.wrap (num X 39*12)))
def Ubz(P:Program)(S X:Array Value):Array Value:=folds (Ues S X (tdS X)) (Ub4 P X) 36
theorem Yh5{S:Array Value}(h0:1<=num S 0/\num S 0<=6/\1<=num S 1/\num S 1<=6){k:Nat}(hk:k<36)(hi:inC (num S 0) (num S 1) k=true){w:Nat}(hw:w<5)(hn:¬Zai (k:Int) (w:Int) S<0):0<=Zai (k:Int) (w:Int) S/\Zai (k:Int) (w:Int) S<36:=by
 rw[Zy7 h0 hk hi w hw]at hn|-
 exact Zxq h0 hk hi w hw (by omega)
theorem Zu2(a0 a1:Array Value)(h_a0:WT prog 35 a0)(h_a1:WT prog 77 a1)(hg:((okS a0&&(decide (0<=tdS a1)&&decide (tdS a1<2))))=true):ansV prog Zbk 1000 f81 [([7],[22]),([8],[22])] [.w 0,.w 1] [.row a0 35,.row a1 77]=some (.a (.g (Ubz prog a0 a1) 77),.none,true):=by
 rw[Q7]at hg;obtain⟨hok,ht⟩:=hg;have hdm:=Ztn hok;refine(Zwk 1000 a0 a1).trans ?_;have hT:(IntKind.i8.wrap (num a1 0+num a1 1)).tmod 2=tdS a1:=rfl;have h:=Zh4 (g:=Zco prog 1000 a0 a1) (λr k=>((k:Int),r)) (Ues a0 a1 (tdS a1)) (m:=36) (t:=Ub4 prog a1) (x:=((36:Int),Ubz prog a0 a1)) (N:=1000) (λk s hk _=>by
  have h1:decide ((k:Int)<36)=true:=Q3 (by omega);have h0:decide (0<=(k:Int))=true:=Q3 (by omega);have h3:i64.wrap ((k:Int)+1)=((k+1:Nat):Int):=by rw[w64 (by omega)];omega
  obtain⟨w1,w2⟩:=Yea h_a0 hk;unfold Ues;cases hw:Zam (k:Int) a0 with
  |false=>simp only[Zco,h1,h0,h3,w1,hw,Q9,jA,Bool.not_false,Q1,Q2];rfl
  | true=>
   rw[hw]at w2;have hi:inC (num a0 0) (num a0 1) k=true:=(Bool.and_eq_true_iff.1 w2.symm).1;have hin:=Zh4 (g:=Zck prog a0 a1 (k:Int) s) (λr w=>((w:Int),r)) (wayF a0 a1 (tdS a1) k) (m:=5) (t:=s) (x:=((5:Int),folds (wayF a0 a1 (tdS a1) k) s 5)) (N:=1000) (λw r hw5 _=>by
    have e1:decide ((w:Int)<5)=true:=Q3 (by omega);have e0:decide (0<=(w:Int))=true:=Q3 (by omega);have e3:i64.wrap ((w:Int)+1)=((w+1:Nat):Int):=by rw[w64 (by omega)];omega
    have e4:i64.wrap (num a1 (3+k*1)*i64.wrap (num a0 (3+(tdS a1).toNat*180+k*5+w*1)))=muF a0 a1 (tdS a1) k w:=by unfold muF chW;rw[Q9,Nat.mul_one w]
    unfold wayF
    by_cases hg:Zai (k:Int) (w:Int) a0<0
    ·simp only[Zck,e1,e0,e3,h1,h0,hT,ht,Q9,jA,Q1,Q3 hg,e4];rfl
    ·obtain⟨r1,r2⟩:=Yh5 hdm hk hi hw5 hg;simp only[Zck,e1,e0,e3,h1,h0,hT,ht,Q9,jA,Q1,Q2,Q4 hg,dec2 r1 r2,e4];rfl) (by
    have e1:decide (((5:Nat):Int)<5)=false:=by decide
    simp only[Zck,e1,Q2];rfl) (by omega)
   have hin':Uab (Zck prog a0 a1 (k:Int) s) 1000 ((0:Int),s)=some ((5:Int),folds (wayF a0 a1 (tdS a1) k) s 5):=hin;simp only[Zco,h1,w1,hw,Bool.not_true,Q1,Q2,hin',Uay,Zfa,h3]) (by
  have h1:decide (((36:Nat):Int)<36)=false:=by decide
  simp only[Zco,h1,Q2];rfl) (by omega)
 have h':Uab (Zco prog 1000 a0 a1) 1000 ((0:Int),Ub4 prog a1)=some ((36:Int),Ubz prog a0 a1):=h;unfold Ub4 at h';rw[h'];rfl
def Zb1:Con:=λargs h=>match args,h with|[.w 0,.w 1],[.row a0 35,.row a1 77]=>some (.a (.g (Ubz prog a0 a1) 77),.none,(okS a0&&(decide (0<=tdS a1)&&decide (tdS a1<2))))|_,_=>none
theorem Ztd:EntX prog 81:=Zal (fn:=f81)
theorem Zys:Uad mn prog 81 Zb1:=(ansY (N:=1000) (mKc (Zah Zqy) Zl4 (mKc (Zah Zyn) Zte mKn)) f81 [([7],[22]),([8],[22])]).of (by
 intro ρ h w args vals r e hA hH hr;unfold Zb1 at hr;split at hr
 ·rename_i a0 a1;obtain⟨rfl,rfl,hg2⟩:=BQi hr;exact Zu2 a0 a1 (hH.wt 0 rfl) (hH.wt 1 rfl) hg2
 ·cases hr)
def tdI(X:Array Value):Int:=(i64.wrap (i64.wrap (num X 0)+i64.wrap (num X 1))).tmod 2
def Ueq(S X:Array Value)(t:Int)(w:Nat)(r:Array Value)(k:Nat):Array Value:=bif Ua3 S (k:Int) w != -1 then adN r (3+(Ua3 S (k:Int) w).toNat*1) (muF S X t k w) else adN r 39 (muF S X t k w)
def Ubc(P:Program)(S X:Array Value)(w:Nat):Array Value:=folds (λr k=>if inC (num S 0) (num S 1) k&&Zaf S (k:Int) then Ueq S X (tdI X) w r k else r) (zc P 77) 36
def togF(Y:Array Value)(r:Array Value)(k:Nat):Array Value:=adN r (3+k*1) (num Y (3+k*1))
def togV(X Y:Array Value):Array Value:=adN (folds (togF Y) (adN X 2 (num Y 2)) 36) 39 (num Y 39)
def Uc0(S:Array Value)(r:Array Value)(k:Nat):Array Value:=bif Zae S (k:Int) then r.setIfInBounds (3+k*1) (.int .i64 (i64.wrap (num r (3+k*1)*12))) else r.setIfInBounds (3+k*1) (.int .i64 0)
def Ucf(r:Array Value):Array Value:=r.setIfInBounds 39 (.int .i64 (i64.wrap (num r 39*12)))
def Ucd(S X:Array Value):Array Value:=(Ucf (folds (Uc0 S) X 36)).setIfInBounds 1 (.int .i8 (IntKind.i8.wrap (num (Ucf (folds (Uc0 S) X 36)) 1+1)))
def Zde:Cons:=(mkΓx [(78,con Zk0),(80,con Zjz)] [(79,Zja)] [(82,Zfh)])
def Zd1(a0 a1:Array Value)(a2:Int):St:=(⟨.a (.g a0 35)::.a (.g a1 77)::.a (.i .i64 a2)::.a (.w 0)::.a (.w 1)::.a (.w 2)::.a (.w 3)::.a (.w 4)::.a (.w 12)::us 3 (.a (.p 1 (0) 22)::.a (.i .i8 (num a1 0))::.a (.i .i64 (i64.wrap (num a1 0)))::.a (.p 1 (1) 22)::.a (.i .i8 (num a1 1))::.a (.i .i64 (i64.wrap (num a1 1)))::.a (.i .i64 (((i64.wrap ((i64.wrap (num a1 0))+(i64.wrap (num a1 1))))).tmod (2:Int)))::.a (.g a0 35)::.a (.c 82 [17])::us 35 ([])),[.row a0 35,.row a1 77,.row #[.int .i64 a2] 2,.row (zc prog 77) 77,.row (zc prog 77) 77,.no,.no,.no,.no,.no,.no,.no,.row #[.int .i64 (((i64.wrap ((i64.wrap (num a1 0))+(i64.wrap (num a1 1))))).tmod (2:Int))] 2,.no,.no,.no,.no,.row a0 35,.no,.no,.no,.no],[12]⟩:St)
def Zjh:Array Value->BS
 |r0_4=>([.row r0_4 77]:BS)
def Zlk:Empty->Exit×BS:=λx=>nomatch x
def Zfw(P:Program)(a0 a1:Array Value)(a2:Int)(x0:Int):Array Value->Option (Stp (Array Value) Empty)
  |r0_4=>bif (decide (0<=x0)&&decide (x0<36)) then (bif (decide (0<=(((i64.wrap ((i64.wrap (num a1 0))+(i64.wrap (num a1 1))))).tmod (2:Int)))&&decide ((((i64.wrap ((i64.wrap (num a1 0))+(i64.wrap (num a1 1))))).tmod (2:Int))<2)) then (bif (decide (0<=x0)&&decide (x0<36)) then (bif (decide (0<=a2)&&decide (a2<5)) then (bif (decide (0<=a2)&&decide (a2<5)) then (bif ((Ua3 a0 x0 a2.toNat) != (-1:Int)) then (bif (decide (0<=(Ua3 a0 x0 a2.toNat))&&decide ((Ua3 a0 x0 a2.toNat)<36)) then (bif (decide (0<=(Ua3 a0 x0 a2.toNat))&&decide ((Ua3 a0 x0 a2.toNat)<36)) then (some (.more (r0_4.setIfInBounds (3+((Ua3 a0 x0 a2.toNat).toNat*1)) (.int .i64 (i64.wrap ((num r0_4 (3+((Ua3 a0 x0 a2.toNat).toNat*1)))+(i64.wrap ((num a1 (3+((x0).toNat*1)))*(i64.wrap (num a0 (((3+((((i64.wrap ((i64.wrap (num a1 0))+(i64.wrap (num a1 1))))).tmod (2:Int)).toNat*180))+((x0).toNat*5))+((a2).toNat*1)))))))))))) else (none)) else (none)) else (some (.more (r0_4.setIfInBounds 39 (.int .i64 (i64.wrap ((num r0_4 39)+(i64.wrap ((num a1 (3+((x0).toNat*1)))*(i64.wrap (num a0 (((3+((((i64.wrap ((i64.wrap (num a1 0))+(i64.wrap (num a1 1))))).tmod (2:Int)).toNat*180))+((x0).toNat*5))+((a2).toNat*1))))))))))))) else (none)) else (none)) else (none)) else (none)) else (none)
noncomputable abbrev cKCxG75:=codeOf f75
theorem Zz9(N:Nat)(a0 a1:Array Value)(a2:Int)(x0:Int):∀t:Array Value,Ud8 prog Zde N (cAt cKCxG75 [1,1,1,0,1,0,0]) (pAt (Uaa cKCxG75 [([],[4])]).1 [1,1,1,0,1,0]) 22 [4] [21] [(9,21)] (Zd1 a0 a1 a2) [.i .i64 x0] (Zjh t)=mapS Zjh Zlk (Zfw prog a0 a1 a2 x0 t):=by
 rintro r0_4
 conv=>rhs;simp only[Zfw,Zbg,Zbe,Zbd,Zbh,Zjh,Zlk]
 kernel_rfl
def Zj4(P:Program)(N:Nat)(a0 a1:Array Value)(a2:Int)(q0_4:Array Value):Option (SV×Eff×Bool):=some (.a (.g q0_4 77),.none,true)
theorem Zq4(N:Nat)(a0 a1:Array Value)(a2:Int)(q0_4:Array Value):(Uac 0 (kSeq (veC prog Zde N (cAt cKCxG75 [1,1,1,1]) (pAt (Uaa cKCxG75 [([],[4])]).1 [1,1,1,1]) (SV×Eff×Bool)) (finK prog [] [.cell 6 77]))) .normal (Uar [4] (Zd1 a0 a1 a2) ([.row q0_4 77]:BS))=Zj4 prog N a0 a1 a2 q0_4:=by kernel_rfl
theorem Zz2(N:Nat)(a0 a1:Array Value)(a2:Int):Uby (Uas (λ(x0:Int) (hb:BS)=>Ud8 prog Zde N (cAt cKCxG75 [1,1,1,0,1,0,0]) (pAt (Uaa cKCxG75 [([],[4])]).1 [1,1,1,0,1,0]) 22 [4] [21] [(9,21)] (Zd1 a0 a1 a2) [.i .i64 x0] hb) ((Uap (num a0 0) (num a0 1) 36).filter (Zaf a0)) ([.row (zc prog 77) 77]:BS)) (λhb=>(Uac 0 (kSeq (veC prog Zde N (cAt cKCxG75 [1,1,1,1]) (pAt (Uaa cKCxG75 [([],[4])]).1 [1,1,1,1]) (SV×Eff×Bool)) (finK prog [] [.cell 6 77]))) .normal (Uar [4] (Zd1 a0 a1 a2) hb)) (λe hb=>(Uac 0 (kSeq (veC prog Zde N (cAt cKCxG75 [1,1,1,1]) (pAt (Uaa cKCxG75 [([],[4])]).1 [1,1,1,1]) (SV×Eff×Bool)) (finK prog [] [.cell 6 77]))) e (Uar [4] (Zd1 a0 a1 a2) hb))=Ud7 (Uas (Zfw prog a0 a1 a2) ((Uap (num a0 0) (num a0 1) 36).filter (Zaf a0)) (zc prog 77)) (λx=>Zj4 prog N a0 a1 a2 x) (λx:Empty=>nomatch x):=by
 refine Ztu Zjh Zlk _ _ (λy t=>Zz9 N a0 a1 a2 y t) _ (zc prog 77) _ _ _ _ ?_ ?_
 ·intro x;exact Zq4 N a0 a1 a2 x
 ·intro x;exact nomatch x
theorem Zx5(N:Nat)(a0 a1:Array Value)(a2:Int):ansV prog Zde N f75 [([],[4])] [.g a0 35,.g a1 77,.i .i64 a2] []=(bif (decide (0<=num a0 0)&&decide (num a0 0<=6)&&(decide (0<=num a0 1)&&decide (num a0 1<=6))) then (Ud7 (Uas (Zfw prog a0 a1 a2) ((Uap (num a0 0) (num a0 1) 36).filter (Zaf a0)) (zc prog 77)) (λx=>Zj4 prog N a0 a1 a2 x) (λx:Empty=>nomatch x)) else (none)):=by
 conv=>rhs;simp only[<- Zz2 N a0 a1 a2]
 kernel_rfl
theorem Zwf(a0 a1:Array Value)(a2:Int)(h_a0:WT prog 35 a0)(h_a1:WT prog 77 a1)(h_a2:i64.min<=a2/\a2<=i64.max)(hg:((okS a0&&((decide (0<=tdI a1)&&decide (tdI a1<2))&&(decide (0<=a2)&&decide (a2<5)))))=true):ansV prog Zde 1000 f75 [([],[4])] [.g a0 35,.g a1 77,.i .i64 a2] []=some (.a (.g (Ubc prog a0 a1 a2.toNat) 77),.none,true):=by
 rw[Q7,Q7]at hg;obtain⟨hok,ht,hw5⟩:=hg;simp only[Q7,decide_eq_true_eq]at hw5;obtain⟨w0,w5⟩:=hw5;obtain⟨w,rfl⟩:=Int.eq_ofNat_of_zero_le w0;have hw:w<5:=by omega
 have hdm:=Ztn hok;refine(Zx5 1000 a0 a1 (w:Int)).trans ?_;rw[Yhe hok,Q1,Q9];have d1:decide (0<=(w:Int))=true:=Q3 (by omega);have d2:decide ((w:Int)<5)=true:=Q3 (by omega);have hT:(i64.wrap (i64.wrap (num a1 0)+i64.wrap (num a1 1))).tmod 2=tdI a1:=rfl;have h:=Zrx (X:=Empty) (g:=Zfw prog a0 a1 (w:Int)) (q:=Zaf a0) (Ueq a0 a1 (tdI a1) w) (wd:=num a0 0) (hi:=num a0 1) (λr k hk hi hq=>by
  have h1:decide ((k:Int)<36)=true:=Q3 (by omega);have h0:decide (0<=(k:Int))=true:=Q3 (by omega);have hmu:i64.wrap (num a1 (3+k*1)*i64.wrap (num a0 (3+(tdI a1).toNat*180+k*5+w*1)))=muF a0 a1 (tdI a1) k w:=by unfold muF chW;rw[Q9,Nat.mul_one w]
  simp only[Zfw,h0,h1,d1,d2,hT,ht,Q9,jA,Q1,hmu];unfold Ueq;cases hl:(Ua3 a0 (k:Int) w != -1) with
  |false=>simp only[Q2];rfl
  | true=>
   have hr:0<=Ua3 a0 (k:Int) w/\Ua3 a0 (k:Int) w<36:=by
    rw[Ykk hdm hk hi w hw]at hl|-
    exact Zxq hdm hk hi w hw (by simpa using hl)
   simp only[Q1,dec2 hr.1 hr.2];rfl) (zc prog 77)
 rw[h];rfl
def Zkw:Con:=λargs h=>match args,h with|[.g a0 35,.g a1 77,.i .i64 a2],[]=>some (.a (.g (Ubc prog a0 a1 a2.toNat) 77),.none,(okS a0&&((decide (0<=tdI a1)&&decide (tdI a1<2))&&(decide (0<=a2)&&decide (a2<5)))))|_,_=>none
theorem Zuc:EntX prog 75:=Zal (fn:=f75)
theorem Yal:Uad mn prog 75 Zkw:=(ansY (N:=1000) (mKx (Zah Yad) Zui (mKx (Zah Zza) Zs8 (mkΓx_nX Zst Zp4 (mkΓx_iX Zqt Znp mkΓx_nilX)))) f75 [([],[4])]).of (by
 intro ρ h w args vals r e hA hH hr;unfold Zkw at hr;split at hr
 ·rename_i a0 a1 a2;obtain⟨rfl,rfl,hg2⟩:=BQi hr;exact Zwf a0 a1 a2 (hA.wt 0 rfl) (hA.wt 1 rfl) (hA.rng 2 rfl) hg2
 ·cases hr)
def Ze8(a0 a1:Array Value):St:=(⟨.a (.g a0 35)::.a (.g a1 77)::.a (.w 0)::.a (.w 1)::.a (.w 2)::.a (.u)::.a (.i .i64 0)::us 25 ([]),[.row a0 35,.row a1 77,.row (zc prog 77) 77],[]⟩:St)
def Zgl:Int×Array Value->LS
 |(y0_6,r0_1)=>([.a (.i .i64 y0_6)],[.row r0_1 77])
def Zkk:Int×Array Value->Exit×LS
 |t=>((.exit 0),Zgl t)
def Zcn(P:Program)(a0 a1:Array Value):Int×Array Value->Option (Stp (Int×Array Value) (Int×Array Value))
 |(y0_6,r0_1)=>bif decide (y0_6<(36:Int)) then (bif decide (0<=y0_6) then (bif (Zae a0 y0_6) then (bif (decide (0<=y0_6)&&decide (y0_6<36)) then (bif (decide (0<=y0_6)&&decide (y0_6<36)) then (some (.more ((i64.wrap (y0_6+(1:Int))),(r0_1.setIfInBounds (3+((y0_6).toNat*1)) (.int .i64 (i64.wrap ((num r0_1 (3+((y0_6).toNat*1)))*(12:Int)))))))) else (none)) else (none)) else (bif (decide (0<=y0_6)&&decide (y0_6<36)) then (some (.more ((i64.wrap (y0_6+(1:Int))),(r0_1.setIfInBounds (3+((y0_6).toNat*1)) (.int .i64 0))))) else (none))) else (none)) else (some (.done (y0_6,r0_1)))
noncomputable abbrev cKCxG59:=codeOf f59
theorem Zx4(N:Nat)(a0 a1:Array Value):∀t:Int×Array Value,Uaw prog (mkΓ [(49,con Za1)]) N (cAt cKCxG59 [1,0,1,0,0]) (pAt (Uaa cKCxG59 [([6],[1])]).1 [1,0,1,0]) [6] [1] (Ze8 a0 a1) (Zgl t)=mapS Zgl Zkk (Zcn prog a0 a1 t):=by
 rintro⟨y0_6,r0_1⟩
 conv=>rhs;simp only[Zcn,Zbg,Zbe,Zbd,Zbh,Zgl,Zkk]
 kernel_rfl
def Ziz(P:Program)(N:Nat)(a0 a1:Array Value)(z0_6:Int)(q0_1:Array Value):Option (SV×Eff×Bool):=some (.a (.g ((q0_1.setIfInBounds 39 (.int .i64 (i64.wrap ((num q0_1 39)*(12:Int))))).setIfInBounds 1 (.int .i8 (IntKind.i8.wrap ((num (q0_1.setIfInBounds 39 (.int .i64 (i64.wrap ((num q0_1 39)*(12:Int))))) 1)+(1:Int))))) 77),.none,true)
theorem Zqe(N:Nat)(a0 a1:Array Value)(z0_6:Int)(q0_1:Array Value):(Uac 0 (kSeq (veC prog (mkΓ [(49,con Za1)]) N (cAt cKCxG59 [1,1]) (pAt (Uaa cKCxG59 [([6],[1])]).1 [1,1]) (SV×Eff×Bool)) (finK prog [] [.cell 4 77]))) (.exit 0) (left (writes (cAt cKCxG59 [1,0,1,0,0])) [6] [1] (Ze8 a0 a1) ([.a (.i .i64 z0_6)],[.row q0_1 77]))=Ziz prog N a0 a1 z0_6 q0_1:=by kernel_rfl
theorem Zy1(N:Nat)(a0 a1:Array Value):Ual (Uab (Uaw prog (mkΓ [(49,con Za1)]) N (cAt cKCxG59 [1,0,1,0,0]) (pAt (Uaa cKCxG59 [([6],[1])]).1 [1,0,1,0]) [6] [1] (Ze8 a0 a1)) N ([.a (.i .i64 0)],[.row a1 77])) (λe s=>(Uac 0 (kSeq (veC prog (mkΓ [(49,con Za1)]) N (cAt cKCxG59 [1,1]) (pAt (Uaa cKCxG59 [([6],[1])]).1 [1,1]) (SV×Eff×Bool)) (finK prog [] [.cell 4 77]))) e (left (writes (cAt cKCxG59 [1,0,1,0,0])) [6] [1] (Ze8 a0 a1) s))=Uay (Uab (Zcn prog a0 a1) N ((0:Int),a1)) (λx=>Ziz prog N a0 a1 x.1 x.2):=by refine Zbw Zgl Zkk _ _ (Zx4 N a0 a1) N ((0:Int),a1) _ _ ?_;intro x;exact Zqe N a0 a1 x.1 x.2
theorem Zxe(N:Nat)(a0 a1:Array Value):ansV prog (mkΓ [(49,con Za1)]) N f59 [([6],[1])] [.g a0 35,.g a1 77] []=(Uay (Uab (Zcn prog a0 a1) N ((0:Int),a1)) (λx=>Ziz prog N a0 a1 x.1 x.2)):=by
 conv=>rhs;simp only[<- Zy1 N a0 a1]
 kernel_rfl
theorem Zuz(a0 a1:Array Value)(h_a0:WT prog 35 a0)(h_a1:WT prog 77 a1)(hg:(true)=true):ansV prog (mkΓ [(49,con Za1)]) 1000 f59 [([6],[1])] [.g a0 35,.g a1 77] []=some (.a (.g (Ucd a0 a1) 77),.none,true):=by
 refine(Zxe 1000 a0 a1).trans ?_;have h:=Zh4 (g:=Zcn prog a0 a1) (λr k=>((k:Int),r)) (Uc0 a0) (m:=36) (t:=a1) (x:=((36:Int),folds (Uc0 a0) a1 36)) (N:=1000) (λk s hk _=>by
  have h1:decide ((k:Int)<36)=true:=Q3 (by omega);have h0:decide (0<=(k:Int))=true:=Q3 (by omega);have h3:i64.wrap ((k:Int)+1)=((k+1:Nat):Int):=by rw[w64 (by omega)];omega
  unfold Uc0;cases hl:Zae a0 (k:Int) with
  |false=>simp only[Zcn,h1,h0,h3,hl,Q9,jA,Q1,Q2]
  |true=>simp only[Zcn,h1,h0,h3,hl,Q9,jA,Q1,Q2]) (by
  have h1:decide (((36:Nat):Int)<36)=false:=by decide
  simp only[Zcn,h1,Q2];rfl) (by omega)
 have h':Uab (Zcn prog a0 a1) 1000 ((0:Int),a1)=some ((36:Int),folds (Uc0 a0) a1 36):=h;rw[h'];rfl
def Zjy:Con:=λargs h=>match args,h with|[.g a0 35,.g a1 77],[]=>some (.a (.g (Ucd a0 a1) 77),.none,true)|_,_=>none
theorem Zs6:EntX prog 59:=Zal (fn:=f59)
theorem Zxv:Uad mn prog 59 Zjy:=(ansY (N:=1000) (mKc (Zah Zd2) Zch mKn) f59 [([6],[1])]).of (by
 intro ρ h w args vals r e hA hH hr;unfold Zjy at hr;split at hr
 ·rename_i a0 a1;obtain⟨rfl,rfl,hg2⟩:=BQi hr;exact Zuz a0 a1 (hA.wt 0 rfl) (hA.wt 1 rfl) hg2
 ·cases hr)
def Zed(a0 a1:Array Value):St:=(⟨.a (.g a0 77)::.a (.g a1 77)::.a (.w 0)::.a (.w 1)::.a (.w 2)::.a (.u)::.a (.u)::.a (.p 0 (2) 2)::.a (.i .i64 (num a0 2))::.a (.p 1 (2) 2)::.a (.i .i64 (num a1 2))::.a (.i .i64 (i64.wrap ((num a0 2)+(num a1 2))))::.a (.p 0 (2) 2)::.a (.p 1 (3) 60)::.a (.g (a1.extract 3 (3+36)) 60)::.a (.i .i64 0)::us 19 ([]),[.row (a0.setIfInBounds 2 (.int .i64 (i64.wrap ((num a0 2)+(num a1 2))))) 77,.row a1 77,.row (zc prog 77) 77],[0]⟩:St)
def Zfm:Int×Array Value->LS
 |(y0_15,r0_0)=>([.a (.i .i64 y0_15)],[.row r0_0 77])
def Zj3:Int×Array Value->Exit×LS
 |t=>((.exit 0),Zfm t)
def Zcc(P:Program)(a0 a1:Array Value):Int×Array Value->Option (Stp (Int×Array Value) (Int×Array Value))
 |(y0_15,r0_0)=>bif decide (y0_15<(36:Int)) then (bif (decide (0<=y0_15)&&decide (y0_15<36)) then (bif (decide (0<=y0_15)&&decide (y0_15<36)) then (bif (decide (0<=y0_15)&&decide (y0_15<36)) then (some (.more ((i64.wrap (y0_15+(1:Int))),(r0_0.setIfInBounds (3+((y0_15).toNat*1)) (.int .i64 (i64.wrap ((num r0_0 (3+((y0_15).toNat*1)))+(num (a1.extract 3 (3+36)) ((y0_15).toNat*1))))))))) else (none)) else (none)) else (none)) else (some (.done (y0_15,r0_0)))
noncomputable abbrev cKCxG60:=codeOf f60
theorem Zwa(N:Nat)(a0 a1:Array Value):∀t:Int×Array Value,Uaw prog (mkΓ []) N (cAt cKCxG60 [1,1,0,1,0,0]) (pAt (Uaa cKCxG60 [([15],[0])]).1 [1,1,0,1,0]) [15] [0] (Zed a0 a1) (Zfm t)=mapS Zfm Zj3 (Zcc prog a0 a1 t):=by
 rintro⟨y0_15,r0_0⟩
 conv=>rhs;simp only[Zcc,Zbg,Zbe,Zbd,Zbh,Zfm,Zj3]
 kernel_rfl
def Zig(P:Program)(N:Nat)(a0 a1:Array Value)(z0_15:Int)(q0_0:Array Value):Option (SV×Eff×Bool):=some (.a (.g (q0_0.setIfInBounds 39 (.int .i64 (i64.wrap ((num q0_0 39)+(num a1 39))))) 77),.none,true)
theorem Zpa(N:Nat)(a0 a1:Array Value)(z0_15:Int)(q0_0:Array Value):(Uac 0 (kSeq (veC prog (mkΓ []) N (cAt cKCxG60 [1,1,1]) (pAt (Uaa cKCxG60 [([15],[0])]).1 [1,1,1]) (SV×Eff×Bool)) (finK prog [] [.cell 4 77]))) (.exit 0) (left (writes (cAt cKCxG60 [1,1,0,1,0,0])) [15] [0] (Zed a0 a1) ([.a (.i .i64 z0_15)],[.row q0_0 77]))=Zig prog N a0 a1 z0_15 q0_0:=by kernel_rfl
theorem Zwt(N:Nat)(a0 a1:Array Value):Ual (Uab (Uaw prog (mkΓ []) N (cAt cKCxG60 [1,1,0,1,0,0]) (pAt (Uaa cKCxG60 [([15],[0])]).1 [1,1,0,1,0]) [15] [0] (Zed a0 a1)) N ([.a (.i .i64 0)],[.row (a0.setIfInBounds 2 (.int .i64 (i64.wrap ((num a0 2)+(num a1 2))))) 77])) (λe s=>(Uac 0 (kSeq (veC prog (mkΓ []) N (cAt cKCxG60 [1,1,1]) (pAt (Uaa cKCxG60 [([15],[0])]).1 [1,1,1]) (SV×Eff×Bool)) (finK prog [] [.cell 4 77]))) e (left (writes (cAt cKCxG60 [1,1,0,1,0,0])) [15] [0] (Zed a0 a1) s))=Uay (Uab (Zcc prog a0 a1) N ((0:Int),(a0.setIfInBounds 2 (.int .i64 (i64.wrap ((num a0 2)+(num a1 2))))))) (λx=>Zig prog N a0 a1 x.1 x.2):=by refine Zbw Zfm Zj3 _ _ (Zwa N a0 a1) N ((0:Int),(a0.setIfInBounds 2 (.int .i64 (i64.wrap ((num a0 2)+(num a1 2)))))) _ _ ?_;intro x;exact Zpa N a0 a1 x.1 x.2
theorem Zuj(N:Nat)(a0 a1:Array Value):ansV prog (mkΓ []) N f60 [([15],[0])] [.g a0 77,.g a1 77] []=(Uay (Uab (Zcc prog a0 a1) N ((0:Int),(a0.setIfInBounds 2 (.int .i64 (i64.wrap ((num a0 2)+(num a1 2))))))) (λx=>Zig prog N a0 a1 x.1 x.2)):=by
 conv=>rhs;simp only[<- Zwt N a0 a1]
 kernel_rfl
theorem Zsc(a0 a1:Array Value)(h_a0:WT prog 77 a0)(h_a1:WT prog 77 a1)(hg:(true)=true):ansV prog (mkΓ []) 1000 f60 [([15],[0])] [.g a0 77,.g a1 77] []=some (.a (.g (togV a0 a1) 77),.none,true):=by
 have hz:a1.size=40:=by rw[h_a1.layLen];kernel_rfl
 refine(Zuj 1000 a0 a1).trans ?_;have h:=Zh4 (g:=Zcc prog a0 a1) (λr k=>((k:Int),r)) (togF a1) (m:=36) (t:=adN a0 2 (num a1 2)) (x:=((36:Int),folds (togF a1) (adN a0 2 (num a1 2)) 36)) (N:=1000) (λk s hk _=>by
  have h1:decide ((k:Int)<36)=true:=Q3 (by omega);have h0:decide (0<=(k:Int))=true:=Q3 (by omega);have h3:i64.wrap ((k:Int)+1)=((k+1:Nat):Int):=by rw[w64 (by omega)];omega
  have h5:=cell_num (T:=0) hz k hk;simp only[Zcc,h1,h0,h3,Q9,jA,Q1,h5];rfl) (by
  have h1:decide (((36:Nat):Int)<36)=false:=by decide
  simp only[Zcc,h1,Q2];rfl) (by omega)
 have h':Uab (Zcc prog a0 a1) 1000 ((0:Int),adN a0 2 (num a1 2))=some ((36:Int),folds (togF a1) (adN a0 2 (num a1 2)) 36):=h
 show Uay (Uab (Zcc prog a0 a1) 1000 ((0:Int),adN a0 2 (num a1 2))) _=_
 rw[h'];unfold togV;generalize folds (togF a1) (adN a0 2 (num a1 2)) 36=q;rfl
def Zix:Con:=λargs h=>match args,h with|[.g a0 77,.g a1 77],[]=>some (.a (.g (togV a0 a1) 77),.none,true)|_,_=>none
theorem Zrl:EntX prog 60:=Zal (fn:=f60)
theorem Zwj:Uad mn prog 60 Zix:=(ansY (N:=1000) mKn f60 [([15],[0])]).of (by
 intro ρ h w args vals r e hA hH hr;unfold Zix at hr;split at hr
 ·rename_i a0 a1;obtain⟨rfl,rfl,hg2⟩:=BQi hr;exact Zsc a0 a1 (hA.wt 0 rfl) (hA.wt 1 rfl) hg2
 ·cases hr)
end
end Go.Proofs.YtefjogahegolbaaDoor
