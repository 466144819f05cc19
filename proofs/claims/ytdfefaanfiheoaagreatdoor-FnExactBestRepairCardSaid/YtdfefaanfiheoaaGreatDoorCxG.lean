/- An hour as it is asked; what flows, what rests, and both together; in company. -/
import Derived.Test.YtdfefaanfiheoaaGreatDoorProg
import Derived.Test.YtdfefaanfiheoaaGreatDoorCxF
set_option linter.unusedVariables false
set_option linter.unusedSimpArgs false
open _root_.Bool renaming and_self->jA
namespace Go.Proofs.YtdfefaanfiheoaaGreatDoor
open Tryz (f106 f107 f116 f120)
open Go.ChangeShapes Go.WideShapes Go.ChangeAt Go.RowKit Ve Vc
open Tryz renaming prog -> PZ
open IntKind (i64)
set_option maxRecDepth 100000
noncomputable section
variable {mn:Md}
def Zc0:Cons:=(mkΓ [(70,con Zk5),(123,con Znb)])
def Zgl(a0 a1:Array Value)(y0_7:Int)(r0_22:Array Value):St:=(⟨.a (.w 0)::.a (.w 1)::.a (.u)::.a (.u)::.a (.w 2)::.a (.w 22)::.a (.i .i8 (((IntKind.i8.wrap ((num a1 0)+(num a1 1)))).tmod (2:Int)))::.a (.i .i64 y0_7)::.a (.i .i64 0)::.a (.x)::.a (.x)::.a (.w 1)::.a (.w 1)::.a (.p 1 (0) 22)::.a (.i .i8 (num a1 0))::.a (.w 1)::.a (.w 1)::.a (.p 1 (1) 22)::.a (.i .i8 (num a1 1))::.a (.i .i8 (IntKind.i8.wrap ((num a1 1)+(1:Int))))::.a (.w 1)::.a (.w 1)::.a (.p 1 (2) 2)::.a (.i .i64 (num a1 2))::.a (.w 1)::.a (.w 1)::.a (.p 1 (39) 2)::.a (.i .i64 (num a1 39))::.a (.i .i64 (i64.wrap ((num a1 39)*(12:Int))))::.a (.g (((((zc PZ 132).setIfInBounds 0 (.int .i8 (num a1 0))).setIfInBounds 1 (.int .i8 (IntKind.i8.wrap ((num a1 1)+(1:Int))))).setIfInBounds 2 (.int .i64 (num a1 2))).setIfInBounds 39 (.int .i64 (i64.wrap ((num a1 39)*(12:Int))))) 132)::.a (.w 1)::.a (.w 1)::.a (.p 1 (0) 22)::.a (.i .i8 (num a1 0))::.a (.w 1)::.a (.w 1)::.a (.p 1 (1) 22)::.a (.i .i8 (num a1 1))::.a (.i .i8 (IntKind.i8.wrap ((num a1 0)+(num a1 1))))::.a (.i .i8 (((IntKind.i8.wrap ((num a1 0)+(num a1 1)))).tmod (2:Int)))::.a (.i .i64 y0_7)::.a (.b (decide (y0_7<(36:Int))))::.a (.x)::.a (.x)::.a (.w 0)::.a (.i .i64 y0_7)::.a (.b ((Zal y0_7 a0)))::.a (.b ((!((Zal y0_7 a0)))))::xs 55 (.a (.u)::[]),[.row a0 37,.row a1 132,.row (zc PZ 132) 132,.no,.no,.no,.no,.no,.no,.no,.no,.no,.no,.no,.no,.no,.no,.no,.no,.no,.no,.no,.row r0_22 132,.no,.no,.no,.no,.no,.no,.no,.no,.no,.no,.no,.no],[22]⟩:St)
def Ze7:Int×Array Value->LS
 |(y1_8,r1_22)=>([.a (.i .i64 y1_8)],[.row r1_22 132])
def Ziu:Int×Array Value->Exit×LS
 |t=>((.exit 2),Ze7 t)
def Zdc(P:Program)(a0 a1:Array Value)(y0_7:Int)(r0_22:Array Value):Int×Array Value->Option (Stp (Int×Array Value) (Int×Array Value))
 |(y1_8,r1_22)=>bif decide (y1_8<(5:Int)) then (bif (decide (0<=y0_7)&&decide (y0_7<36)) then (bif (decide (0<=(((IntKind.i8.wrap ((num a1 0)+(num a1 1)))).tmod (2:Int)))&&decide ((((IntKind.i8.wrap ((num a1 0)+(num a1 1)))).tmod (2:Int))<2)) then (bif (decide (0<=y0_7)&&decide (y0_7<36)) then (bif (decide (0<=y1_8)&&decide (y1_8<5)) then (bif decide ((Zag y0_7 y1_8 a0)<(0:Int)) then (some (.more ((i64.wrap (y1_8+(1:Int))),(r1_22.setIfInBounds 39 (.int .i64 (i64.wrap ((num r1_22 39)+(i64.wrap ((num a1 (3+((y0_7).toNat*1)))*(i64.wrap (num a0 (((3+((((IntKind.i8.wrap ((num a1 0)+(num a1 1)))).tmod (2:Int)).toNat*180))+((y0_7).toNat*5))+((y1_8).toNat*1))))))))))))) else (bif (decide (0<=(Zag y0_7 y1_8 a0))&&decide ((Zag y0_7 y1_8 a0)<36)) then (bif (decide (0<=(Zag y0_7 y1_8 a0))&&decide ((Zag y0_7 y1_8 a0)<36)) then (some (.more ((i64.wrap (y1_8+(1:Int))),(r1_22.setIfInBounds (3+((Zag y0_7 y1_8 a0).toNat*1)) (.int .i64 (i64.wrap ((num r1_22 (3+((Zag y0_7 y1_8 a0).toNat*1)))+(i64.wrap ((num a1 (3+((y0_7).toNat*1)))*(i64.wrap (num a0 (((3+((((IntKind.i8.wrap ((num a1 0)+(num a1 1)))).tmod (2:Int)).toNat*180))+((y0_7).toNat*5))+((y1_8).toNat*1))))))))))))) else (none)) else (none))) else (none)) else (none)) else (none)) else (none)) else (some (.done (y1_8,r1_22)))
noncomputable abbrev cKCxG120:=codeOf f120
def Ub9:=(Uaa cKCxG120 [([7],[22]),([8],[22])]).1
theorem Zo6(N:Nat)(a0 a1:Array Value)(y0_7:Int)(r0_22:Array Value):∀t:Int×Array Value,Uah PZ Zc0 N (cAt cKCxG120 [1,1,1,0,1,0,0,1,0,0,1,1,0,0]) (pAt Ub9 [1,1,1,0,1,0,1,0,1,1,0]) [8] [22] (Zgl a0 a1 y0_7 r0_22) (Ze7 t)=mapS Ze7 Ziu (Zdc PZ a0 a1 y0_7 r0_22 t):=by
 rintro⟨y1_8,r1_22⟩
 conv=>rhs;simp only[Zdc,Zao,Zam,Zan,Zap,Ze7,Ziu]
 kernel_rfl
def Zgs(a0 a1:Array Value):St:=(⟨.a (.w 0)::.a (.w 1)::.a (.u)::.a (.u)::.a (.w 2)::.a (.w 22)::.a (.i .i8 (((IntKind.i8.wrap ((num a1 0)+(num a1 1)))).tmod (2:Int)))::.a (.i .i64 0)::us 3 (.a (.w 1)::.a (.w 1)::.a (.p 1 (0) 22)::.a (.i .i8 (num a1 0))::.a (.w 1)::.a (.w 1)::.a (.p 1 (1) 22)::.a (.i .i8 (num a1 1))::.a (.i .i8 (IntKind.i8.wrap ((num a1 1)+(1:Int))))::.a (.w 1)::.a (.w 1)::.a (.p 1 (2) 2)::.a (.i .i64 (num a1 2))::.a (.w 1)::.a (.w 1)::.a (.p 1 (39) 2)::.a (.i .i64 (num a1 39))::.a (.i .i64 (i64.wrap ((num a1 39)*(12:Int))))::.a (.g (((((zc PZ 132).setIfInBounds 0 (.int .i8 (num a1 0))).setIfInBounds 1 (.int .i8 (IntKind.i8.wrap ((num a1 1)+(1:Int))))).setIfInBounds 2 (.int .i64 (num a1 2))).setIfInBounds 39 (.int .i64 (i64.wrap ((num a1 39)*(12:Int))))) 132)::.a (.w 1)::.a (.w 1)::.a (.p 1 (0) 22)::.a (.i .i8 (num a1 0))::.a (.w 1)::.a (.w 1)::.a (.p 1 (1) 22)::.a (.i .i8 (num a1 1))::.a (.i .i8 (IntKind.i8.wrap ((num a1 0)+(num a1 1))))::.a (.i .i8 (((IntKind.i8.wrap ((num a1 0)+(num a1 1)))).tmod (2:Int)))::us 64 ([])),[.row a0 37,.row a1 132,.row (zc PZ 132) 132,.no,.no,.no,.no,.no,.no,.no,.no,.no,.no,.no,.no,.no,.no,.no,.no,.no,.no,.no,.row (((((zc PZ 132).setIfInBounds 0 (.int .i8 (num a1 0))).setIfInBounds 1 (.int .i8 (IntKind.i8.wrap ((num a1 1)+(1:Int))))).setIfInBounds 2 (.int .i64 (num a1 2))).setIfInBounds 39 (.int .i64 (i64.wrap ((num a1 39)*(12:Int))))) 132,.no,.no,.no,.no,.no,.no,.no,.no,.no,.no,.no,.no],[22]⟩:St)
def Zda:Int×Array Value->LS
 |(y0_7,r0_22)=>([.a (.i .i64 y0_7)],[.row r0_22 132])
def Ze9:Int×Array Value->Exit×LS
 |t=>((.exit 0),Zda t)
def Zgv(P:Program)(N:Nat)(a0 a1:Array Value)(y0_7:Int)(r0_22:Array Value)(z1_8:Int)(q1_22:Array Value):Option (Stp (Int×Array Value) (Int×Array Value)):=some (.more ((i64.wrap (y0_7+(1:Int))),q1_22))
def Ufd(N:Nat):=(Uad 2 (Uad 1 (kSeq (veC PZ Zc0 N (cAt cKCxG120 [1,1,1,0,1,0,0,1,1]) (pAt Ub9 [1,1,1,0,1,0,1,1]) (Stp LS (Exit×LS))) (Uez 35 [7] [22]))))
theorem Zvv(N:Nat)(a0 a1:Array Value)(y0_7:Int)(r0_22:Array Value)(z1_8:Int)(q1_22:Array Value):(Ufd N) (.exit 2) (left (writes (cAt cKCxG120 [1,1,1,0,1,0,0,1,0,0,1,1,0,0])) [8] [22] (Zgl a0 a1 y0_7 r0_22) ([.a (.i .i64 z1_8)],[.row q1_22 132]))=mapS Zda Ze9 (Zgv PZ N a0 a1 y0_7 r0_22 z1_8 q1_22):=by
 conv=>rhs;simp only[Zgv,Zao,Zam,Zan,Zap,Zda,Ze9]
 kernel_rfl
theorem Yhb(N:Nat)(a0 a1:Array Value)(y0_7:Int)(r0_22:Array Value):Uag (Uab (Uah PZ Zc0 N (cAt cKCxG120 [1,1,1,0,1,0,0,1,0,0,1,1,0,0]) (pAt Ub9 [1,1,1,0,1,0,1,0,1,1,0]) [8] [22] (Zgl a0 a1 y0_7 r0_22)) N ([.a (.i .i64 0)],[.row r0_22 132])) (λe s=>(Ufd N) e (left (writes (cAt cKCxG120 [1,1,1,0,1,0,0,1,0,0,1,1,0,0])) [8] [22] (Zgl a0 a1 y0_7 r0_22) s))=mapS Zda Ze9 (Uai (Uab (Zdc PZ a0 a1 y0_7 r0_22) N ((0:Int),r0_22)) (λx=>Zgv PZ N a0 a1 y0_7 r0_22 x.1 x.2)):=by
 rw[Zum Zda Ze9]
 first
 |(have h:=Zar (α:=Stp LS (Exit×LS)) Ze7 Ziu _ _ (Zo6 N a0 a1 y0_7 r0_22) N ((0:Int),r0_22);refine h _ _ ?_)
 |(have h:=Zar (α:=Stp BS (Exit×BS)) Ze7 Ziu _ _ (Zo6 N a0 a1 y0_7 r0_22) N ((0:Int),r0_22);refine h _ _ ?_)
 |(have h:=Zar (α:=Stp LS ((Exit×LS)⊕(SV×Eff×Bool))) Ze7 Ziu _ _ (Zo6 N a0 a1 y0_7 r0_22) N ((0:Int),r0_22);refine h _ _ ?_)
 intro x;exact Zvv N a0 a1 y0_7 r0_22 x.1 x.2
def Zc5(P:Program)(N:Nat)(a0 a1:Array Value):Int×Array Value->Option (Stp (Int×Array Value) (Int×Array Value))
 |(y0_7,r0_22)=>bif decide (y0_7<(36:Int)) then (bif (Zbw y0_7 a0) then (bif (!((Zal y0_7 a0))) then (bif (decide (0<=y0_7)&&decide (y0_7<36)) then (bif (decide (0<=y0_7)&&decide (y0_7<36)) then (bif (decide (0<=y0_7)&&decide (y0_7<36)) then (some (.more ((i64.wrap (y0_7+(1:Int))),(r0_22.setIfInBounds (3+((y0_7).toNat*1)) (.int .i64 (i64.wrap ((num r0_22 (3+((y0_7).toNat*1)))+(i64.wrap ((num a1 (3+((y0_7).toNat*1)))*(12:Int)))))))))) else (none)) else (none)) else (none)) else (Uai (Uab (Zdc P a0 a1 y0_7 r0_22) N ((0:Int),r0_22)) (λx=>Zgv P N a0 a1 y0_7 r0_22 x.1 x.2))) else (none)) else (some (.done (y0_7,r0_22)))
theorem Yf9(N:Nat)(a0 a1:Array Value):∀t:Int×Array Value,Uah PZ Zc0 N (cAt cKCxG120 [1,1,1,0,1,0,0]) (pAt Ub9 [1,1,1,0,1,0]) [7] [22] (Zgs a0 a1) (Zda t)=mapS Zda Ze9 (Zc5 PZ N a0 a1 t):=by
 rintro⟨y0_7,r0_22⟩
 conv=>rhs;simp only[<- Yhb N a0 a1 y0_7 r0_22,Zc5,Zao,Zam,Zan,Zap,Zda,Ze9]
 kernel_rfl
def Zl4(P:Program)(N:Nat)(a0 a1:Array Value)(z0_7:Int)(q0_22:Array Value):Option (SV×Eff×Bool):=some (.a (.g q0_22 132),.none,true)
def Ufi(N:Nat)(a0 a1:Array Value):=(Uad 0 (kSeq (veC PZ Zc0 N (cAt cKCxG120 [1,1,1,1]) (pAt Ub9 [1,1,1,1]) (SV×Eff×Bool)) (finK PZ [.row a0 37,.row a1 132] [.cell 4 132])))
theorem Zvu(N:Nat)(a0 a1:Array Value)(z0_7:Int)(q0_22:Array Value):(Ufi N a0 a1) (.exit 0) (left (writes (cAt cKCxG120 [1,1,1,0,1,0,0])) [7] [22] (Zgs a0 a1) ([.a (.i .i64 z0_7)],[.row q0_22 132]))=Zl4 PZ N a0 a1 z0_7 q0_22:=by kernel_rfl
theorem Yfv(N:Nat)(a0 a1:Array Value):Uag (Uab (Uah PZ Zc0 N (cAt cKCxG120 [1,1,1,0,1,0,0]) (pAt Ub9 [1,1,1,0,1,0]) [7] [22] (Zgs a0 a1)) N ([.a (.i .i64 0)],[.row (((((zc PZ 132).setIfInBounds 0 (.int .i8 (num a1 0))).setIfInBounds 1 (.int .i8 (IntKind.i8.wrap ((num a1 1)+(1:Int))))).setIfInBounds 2 (.int .i64 (num a1 2))).setIfInBounds 39 (.int .i64 (i64.wrap ((num a1 39)*(12:Int))))) 132])) (λe s=>(Ufi N a0 a1) e (left (writes (cAt cKCxG120 [1,1,1,0,1,0,0])) [7] [22] (Zgs a0 a1) s))=Uai (Uab (Zc5 PZ N a0 a1) N ((0:Int),(((((zc PZ 132).setIfInBounds 0 (.int .i8 (num a1 0))).setIfInBounds 1 (.int .i8 (IntKind.i8.wrap ((num a1 1)+(1:Int))))).setIfInBounds 2 (.int .i64 (num a1 2))).setIfInBounds 39 (.int .i64 (i64.wrap ((num a1 39)*(12:Int))))))) (λx=>Zl4 PZ N a0 a1 x.1 x.2):=by refine Zar Zda Ze9 _ _ (Yf9 N a0 a1) N ((0:Int),(((((zc PZ 132).setIfInBounds 0 (.int .i8 (num a1 0))).setIfInBounds 1 (.int .i8 (IntKind.i8.wrap ((num a1 1)+(1:Int))))).setIfInBounds 2 (.int .i64 (num a1 2))).setIfInBounds 39 (.int .i64 (i64.wrap ((num a1 39)*(12:Int)))))) _ _ ?_;intro x;exact Zvu N a0 a1 x.1 x.2
theorem Ydk(N:Nat)(a0 a1:Array Value):ansV PZ Zc0 N f120 [([7],[22]),([8],[22])] [.w 0,.w 1] [.row a0 37,.row a1 132]=(Uai (Uab (Zc5 PZ N a0 a1) N ((0:Int),(((((zc PZ 132).setIfInBounds 0 (.int .i8 (num a1 0))).setIfInBounds 1 (.int .i8 (IntKind.i8.wrap ((num a1 1)+(1:Int))))).setIfInBounds 2 (.int .i64 (num a1 2))).setIfInBounds 39 (.int .i64 (i64.wrap ((num a1 39)*(12:Int))))))) (λx=>Zl4 PZ N a0 a1 x.1 x.2)):=by
 conv=>rhs;simp only[<- Yfv N a0 a1]
 kernel_rfl
theorem dec2{a b:Int}(h1:0<=a)(h2:a<b):(decide (0<=a)&&decide (a<b))=true:=by rw[Q3 h1,Q3 h2];rfl
def adN(r:Array Value)(i:Nat)(m:Int):Array Value:=r.setIfInBounds i (.int .i64 (i64.wrap (num r i+m)))
def tdS(X:Array Value):Int:=(IntKind.i8.wrap (num X 0+num X 1)).tmod 2
def muF(S X:Array Value)(t:Int)(k w:Nat):Int:=i64.wrap (num X (3+k*1)*chW S t (k:Int) w)
def wayF(S X:Array Value)(t:Int)(k:Nat)(r:Array Value)(w:Nat):Array Value:=bif decide (Zag (k:Int) (w:Int) S<0) then adN r 39 (muF S X t k w) else adN r (3+(Zag (k:Int) (w:Int) S).toNat*1) (muF S X t k w)
def Ue6(S X:Array Value)(t:Int)(r:Array Value)(k:Nat):Array Value:=bif Zal (k:Int) S then folds (wayF S X t k) r 5 else adN r (3+k*1) (i64.wrap (num X (3+k*1)*12))
def Ub1(P:Program)(X:Array Value):Array Value:=((((zc P 132).setIfInBounds 0 (.int .i8 (num X 0))).setIfInBounds 1 (.int .i8 (IntKind.i8.wrap (num X 1+1)))).setIfInBounds 2 (.int .i64 (num X 2))).setIfInBounds 39 (.int .i64 (i64.wrap (num X 39*12)))
def Ubk(P:Program)(S X:Array Value):Array Value:=folds (Ue6 S X (tdS X)) (Ub1 P X) 36
theorem Yjs{S:Array Value}(h0:1<=num S 0/\num S 0<=6/\1<=num S 1/\num S 1<=6){k:Nat}(hk:k<36)(hi:inC (num S 0) (num S 1) k=true){w:Nat}(hw:w<5)(hn:¬Zag (k:Int) (w:Int) S<0):0<=Zag (k:Int) (w:Int) S/\Zag (k:Int) (w:Int) S<36:=by
 rw[Yhd h0 hk hi w hw]at hn|-
 exact Yfg h0 hk hi w hw (by omega)
theorem Ybq(a0 a1:Array Value)(h_a0:WT PZ 37 a0)(h_a1:WT PZ 132 a1)(hg:((okS a0&&(decide (0<=tdS a1)&&decide (tdS a1<2))))=true):ansV PZ Zc0 1000 f120 [([7],[22]),([8],[22])] [.w 0,.w 1] [.row a0 37,.row a1 132]=some (.a (.g (Ubk PZ a0 a1) 132),.none,true):=by
 rw[Q7]at hg;obtain⟨hok,ht⟩:=hg;have hdm:=Zut hok;refine(Ydk 1000 a0 a1).trans ?_;have hT:(IntKind.i8.wrap (num a1 0+num a1 1)).tmod 2=tdS a1:=rfl;have h:=Zi6 (g:=Zc5 PZ 1000 a0 a1) (λr k=>((k:Int),r)) (Ue6 a0 a1 (tdS a1)) (m:=36) (t:=Ub1 PZ a1) (x:=((36:Int),Ubk PZ a0 a1)) (N:=1000) (λk s hk _=>by
  have h1:decide ((k:Int)<36)=true:=Q3 (by omega);have h0:decide (0<=(k:Int))=true:=Q3 (by omega);have h3:i64.wrap ((k:Int)+1)=((k+1:Nat):Int):=by rw[w64 (by omega)];omega
  obtain⟨w1,w2⟩:=Yhp h_a0 hk;unfold Ue6;cases hw:Zal (k:Int) a0 with
  |false=>simp only[Zc5,h1,h0,h3,w1,hw,Q9,jA,Bool.not_false,Q1,Q2];rfl
  | true=>
   rw[hw]at w2;have hi:inC (num a0 0) (num a0 1) k=true:=(Bool.and_eq_true_iff.1 w2.symm).1;have hin:=Zi6 (g:=Zdc PZ a0 a1 (k:Int) s) (λr w=>((w:Int),r)) (wayF a0 a1 (tdS a1) k) (m:=5) (t:=s) (x:=((5:Int),folds (wayF a0 a1 (tdS a1) k) s 5)) (N:=1000) (λw r hw5 _=>by
    have e1:decide ((w:Int)<5)=true:=Q3 (by omega);have e0:decide (0<=(w:Int))=true:=Q3 (by omega);have e3:i64.wrap ((w:Int)+1)=((w+1:Nat):Int):=by rw[w64 (by omega)];omega
    have e4:i64.wrap (num a1 (3+k*1)*i64.wrap (num a0 (3+(tdS a1).toNat*180+k*5+w*1)))=muF a0 a1 (tdS a1) k w:=by unfold muF chW;rw[Q9,Nat.mul_one w]
    unfold wayF
    by_cases hg:Zag (k:Int) (w:Int) a0<0
    ·simp only[Zdc,e1,e0,e3,h1,h0,hT,ht,Q9,jA,Q1,Q3 hg,e4];rfl
    ·obtain⟨r1,r2⟩:=Yjs hdm hk hi hw5 hg;simp only[Zdc,e1,e0,e3,h1,h0,hT,ht,Q9,jA,Q1,Q2,Q4 hg,dec2 r1 r2,e4];rfl) (by
    have e1:decide (((5:Nat):Int)<5)=false:=by decide
    simp only[Zdc,e1,Q2];rfl) (by omega)
   have hin':Uab (Zdc PZ a0 a1 (k:Int) s) 1000 ((0:Int),s)=some ((5:Int),folds (wayF a0 a1 (tdS a1) k) s 5):=hin;simp only[Zc5,h1,w1,hw,Bool.not_true,Q1,Q2,hin',Uai,Zgv,h3]) (by
  have h1:decide (((36:Nat):Int)<36)=false:=by decide
  simp only[Zc5,h1,Q2];rfl) (by omega)
 have h':Uab (Zc5 PZ 1000 a0 a1) 1000 ((0:Int),Ub1 PZ a1)=some ((36:Int),Ubk PZ a0 a1):=h;unfold Ub1 at h';rw[h'];rfl
def Zdn:Con:=λargs h=>match args,h with|[.w 0,.w 1],[.row a0 37,.row a1 132]=>some (.a (.g (Ubk PZ a0 a1) 132),.none,(okS a0&&(decide (0<=tdS a1)&&decide (tdS a1<2))))|_,_=>none
theorem Yat:EntX PZ 120:=Zaj (fn:=f120)
theorem Yh4:Uac mn PZ 120 Zdn:=(ansY (N:=1000) (mKc (Zae Zwe) Zql (mKc (Zae Yh6) Zx7 mKn)) f120 [([7],[22]),([8],[22])]).of (by
 intro ρ h w args vals r e hA hH hr;unfold Zdn at hr;split at hr
 ·rename_i a0 a1;obtain⟨rfl,rfl,hg2⟩:=BQi hr;exact Ybq a0 a1 (hH.wt 0 rfl) (hH.wt 1 rfl) hg2
 ·cases hr)
def tdI(X:Array Value):Int:=(i64.wrap (i64.wrap (num X 0)+i64.wrap (num X 1))).tmod 2
def Uet(S X:Array Value)(t:Int)(w:Nat)(r:Array Value)(k:Nat):Array Value:=bif Ua1 S (k:Int) w != -1 then adN r (3+(Ua1 S (k:Int) w).toNat*1) (muF S X t k w) else adN r 39 (muF S X t k w)
def Ubd(P:Program)(S X:Array Value)(w:Nat):Array Value:=folds (λr k=>if inC (num S 0) (num S 1) k&&Zac S (k:Int) then Uet S X (tdI X) w r k else r) (zc P 132) 36
def togF(Y:Array Value)(r:Array Value)(k:Nat):Array Value:=adN r (3+k*1) (num Y (3+k*1))
def togV(X Y:Array Value):Array Value:=adN (folds (togF Y) (adN X 2 (num Y 2)) 36) 39 (num Y 39)
def Uc6(S:Array Value)(r:Array Value)(k:Nat):Array Value:=bif Zad S (k:Int) then r.setIfInBounds (3+k*1) (.int .i64 (i64.wrap (num r (3+k*1)*12))) else r.setIfInBounds (3+k*1) (.int .i64 0)
def Uce(r:Array Value):Array Value:=r.setIfInBounds 39 (.int .i64 (i64.wrap (num r 39*12)))
def Ucd(S X:Array Value):Array Value:=(Uce (folds (Uc6 S) X 36)).setIfInBounds 1 (.int .i8 (IntKind.i8.wrap (num (Uce (folds (Uc6 S) X 36)) 1+1)))
def Zix:Cons:=(mkΓx [(121,con Zo5),(122,con Znd)] [(92,Zi8)] [(110,Zfd)])
def Zey(a0 a1:Array Value)(a2:Int):St:=(⟨.a (.g a0 37)::.a (.g a1 132)::.a (.i .i64 a2)::.a (.w 0)::.a (.w 1)::.a (.w 2)::.a (.w 3)::.a (.w 4)::.a (.w 12)::us 3 (.a (.p 1 (0) 22)::.a (.i .i8 (num a1 0))::.a (.i .i64 (i64.wrap (num a1 0)))::.a (.p 1 (1) 22)::.a (.i .i8 (num a1 1))::.a (.i .i64 (i64.wrap (num a1 1)))::.a (.i .i64 (((i64.wrap ((i64.wrap (num a1 0))+(i64.wrap (num a1 1))))).tmod (2:Int)))::.a (.g a0 37)::.a (.c 110 [17])::us 35 ([])),[.row a0 37,.row a1 132,.row #[.int .i64 a2] 2,.row (zc PZ 132) 132,.row (zc PZ 132) 132,.no,.no,.no,.no,.no,.no,.no,.row #[.int .i64 (((i64.wrap ((i64.wrap (num a1 0))+(i64.wrap (num a1 1))))).tmod (2:Int))] 2,.no,.no,.no,.no,.row a0 37,.no,.no,.no,.no],[12]⟩:St)
def Zmh:Array Value->BS
 |r0_4=>([.row r0_4 132]:BS)
def Zpx:Empty->Exit×BS:=λx=>nomatch x
def Zhz(P:Program)(a0 a1:Array Value)(a2:Int)(x0:Int):Array Value->Option (Stp (Array Value) Empty)
  |r0_4=>bif (decide (0<=x0)&&decide (x0<36)) then (bif (decide (0<=(((i64.wrap ((i64.wrap (num a1 0))+(i64.wrap (num a1 1))))).tmod (2:Int)))&&decide ((((i64.wrap ((i64.wrap (num a1 0))+(i64.wrap (num a1 1))))).tmod (2:Int))<2)) then (bif (decide (0<=x0)&&decide (x0<36)) then (bif (decide (0<=a2)&&decide (a2<5)) then (bif (decide (0<=a2)&&decide (a2<5)) then (bif ((Ua1 a0 x0 a2.toNat) != (-1:Int)) then (bif (decide (0<=(Ua1 a0 x0 a2.toNat))&&decide ((Ua1 a0 x0 a2.toNat)<36)) then (bif (decide (0<=(Ua1 a0 x0 a2.toNat))&&decide ((Ua1 a0 x0 a2.toNat)<36)) then (some (.more (r0_4.setIfInBounds (3+((Ua1 a0 x0 a2.toNat).toNat*1)) (.int .i64 (i64.wrap ((num r0_4 (3+((Ua1 a0 x0 a2.toNat).toNat*1)))+(i64.wrap ((num a1 (3+((x0).toNat*1)))*(i64.wrap (num a0 (((3+((((i64.wrap ((i64.wrap (num a1 0))+(i64.wrap (num a1 1))))).tmod (2:Int)).toNat*180))+((x0).toNat*5))+((a2).toNat*1)))))))))))) else (none)) else (none)) else (some (.more (r0_4.setIfInBounds 39 (.int .i64 (i64.wrap ((num r0_4 39)+(i64.wrap ((num a1 (3+((x0).toNat*1)))*(i64.wrap (num a0 (((3+((((i64.wrap ((i64.wrap (num a1 0))+(i64.wrap (num a1 1))))).tmod (2:Int)).toNat*180))+((x0).toNat*5))+((a2).toNat*1))))))))))))) else (none)) else (none)) else (none)) else (none)) else (none)
noncomputable abbrev cKCxG116:=codeOf f116
def Ud2:=(Uaa cKCxG116 [([],[4])]).1
theorem Yi6(N:Nat)(a0 a1:Array Value)(a2:Int)(x0:Int):∀t:Array Value,Ud7 PZ Zix N (cAt cKCxG116 [1,1,1,0,1,0,0]) (pAt Ud2 [1,1,1,0,1,0]) 22 [4] [21] [(9,21)] (Zey a0 a1 a2) [.i .i64 x0] (Zmh t)=mapS Zmh Zpx (Zhz PZ a0 a1 a2 x0 t):=by
 rintro r0_4
 conv=>rhs;simp only[Zhz,Zao,Zam,Zan,Zap,Zmh,Zpx]
 kernel_rfl
def Znn(P:Program)(N:Nat)(a0 a1:Array Value)(a2:Int)(q0_4:Array Value):Option (SV×Eff×Bool):=some (.a (.g q0_4 132),.none,true)
def Udm(N:Nat):=(Uad 0 (kSeq (veC PZ Zix N (cAt cKCxG116 [1,1,1,1]) (pAt Ud2 [1,1,1,1]) (SV×Eff×Bool)) (finK PZ [] [.cell 6 132])))
theorem Zxe(N:Nat)(a0 a1:Array Value)(a2:Int)(q0_4:Array Value):(Udm N) .normal (Ua2 [4] (Zey a0 a1 a2) ([.row q0_4 132]:BS))=Znn PZ N a0 a1 a2 q0_4:=by kernel_rfl
theorem Yir(N:Nat)(a0 a1:Array Value)(a2:Int):Ucj (Uas (λ(x0:Int) (hb:BS)=>Ud7 PZ Zix N (cAt cKCxG116 [1,1,1,0,1,0,0]) (pAt Ud2 [1,1,1,0,1,0]) 22 [4] [21] [(9,21)] (Zey a0 a1 a2) [.i .i64 x0] hb) ((Uak (num a0 0) (num a0 1) 36).filter (Zac a0)) ([.row (zc PZ 132) 132]:BS)) (λhb=>(Udm N) .normal (Ua2 [4] (Zey a0 a1 a2) hb)) (λe hb=>(Udm N) e (Ua2 [4] (Zey a0 a1 a2) hb))=Uc9 (Uas (Zhz PZ a0 a1 a2) ((Uak (num a0 0) (num a0 1) 36).filter (Zac a0)) (zc PZ 132)) (λx=>Znn PZ N a0 a1 a2 x) (λx:Empty=>nomatch x):=by
 refine Zzo Zmh Zpx _ _ (λy t=>Yi6 N a0 a1 a2 y t) _ (zc PZ 132) _ _ _ _ ?_ ?_
 ·intro x;exact Zxe N a0 a1 a2 x
 ·intro x;exact nomatch x
theorem Yhw(N:Nat)(a0 a1:Array Value)(a2:Int):ansV PZ Zix N f116 [([],[4])] [.g a0 37,.g a1 132,.i .i64 a2] []=(bif (decide (0<=num a0 0)&&decide (num a0 0<=6)&&(decide (0<=num a0 1)&&decide (num a0 1<=6))) then (Uc9 (Uas (Zhz PZ a0 a1 a2) ((Uak (num a0 0) (num a0 1) 36).filter (Zac a0)) (zc PZ 132)) (λx=>Znn PZ N a0 a1 a2 x) (λx:Empty=>nomatch x)) else (none)):=by
 conv=>rhs;simp only[<- Yir N a0 a1 a2]
 kernel_rfl
theorem Yem(a0 a1:Array Value)(a2:Int)(h_a0:WT PZ 37 a0)(h_a1:WT PZ 132 a1)(h_a2:i64.min<=a2/\a2<=i64.max)(hg:((okS a0&&((decide (0<=tdI a1)&&decide (tdI a1<2))&&(decide (0<=a2)&&decide (a2<5)))))=true):ansV PZ Zix 1000 f116 [([],[4])] [.g a0 37,.g a1 132,.i .i64 a2] []=some (.a (.g (Ubd PZ a0 a1 a2.toNat) 132),.none,true):=by
 rw[Q7,Q7]at hg;obtain⟨hok,ht,hw5⟩:=hg;simp only[Q7,decide_eq_true_eq]at hw5;obtain⟨w0,w5⟩:=hw5;obtain⟨w,rfl⟩:=Int.eq_ofNat_of_zero_le w0;have hw:w<5:=by omega
 have hdm:=Zut hok;refine(Yhw 1000 a0 a1 (w:Int)).trans ?_;rw[Yly hok,Q1,Q9];have d1:decide (0<=(w:Int))=true:=Q3 (by omega);have d2:decide ((w:Int)<5)=true:=Q3 (by omega);have hT:(i64.wrap (i64.wrap (num a1 0)+i64.wrap (num a1 1))).tmod 2=tdI a1:=rfl;have h:=Zwf (X:=Empty) (g:=Zhz PZ a0 a1 (w:Int)) (q:=Zac a0) (Uet a0 a1 (tdI a1) w) (wd:=num a0 0) (hi:=num a0 1) (λr k hk hi hq=>by
  have h1:decide ((k:Int)<36)=true:=Q3 (by omega);have h0:decide (0<=(k:Int))=true:=Q3 (by omega);have hmu:i64.wrap (num a1 (3+k*1)*i64.wrap (num a0 (3+(tdI a1).toNat*180+k*5+w*1)))=muF a0 a1 (tdI a1) k w:=by unfold muF chW;rw[Q9,Nat.mul_one w]
  simp only[Zhz,h0,h1,d1,d2,hT,ht,Q9,jA,Q1,hmu];unfold Uet;cases hl:(Ua1 a0 (k:Int) w != -1) with
  |false=>simp only[Q2];rfl
  | true=>
   have hr:0<=Ua1 a0 (k:Int) w/\Ua1 a0 (k:Int) w<36:=by
    rw[Ytj hdm hk hi w hw]at hl|-
    exact Yfg hdm hk hi w hw (by simpa using hl)
   simp only[Q1,dec2 hr.1 hr.2];rfl) (zc PZ 132)
 rw[h];rfl
def Zoz:Con:=λargs h=>match args,h with|[.g a0 37,.g a1 132,.i .i64 a2],[]=>some (.a (.g (Ubd PZ a0 a1 a2.toNat) 132),.none,(okS a0&&((decide (0<=tdI a1)&&decide (tdI a1<2))&&(decide (0<=a2)&&decide (a2<5)))))|_,_=>none
theorem Ybu:EntX PZ 116:=Zaj (fn:=f116)
theorem Yil:Uac mn PZ 116 Zoz:=(ansY (N:=1000) (mKx (Zae Yin) Ya5 (mKx (Zae Yf3) Yas (mkΓx_nX Zpr Znu (mkΓx_iX Znv Zlu mkΓx_nilX)))) f116 [([],[4])]).of (by
 intro ρ h w args vals r e hA hH hr;unfold Zoz at hr;split at hr
 ·rename_i a0 a1 a2;obtain⟨rfl,rfl,hg2⟩:=BQi hr;exact Yem a0 a1 a2 (hA.wt 0 rfl) (hA.wt 1 rfl) (hA.rng 2 rfl) hg2
 ·cases hr)
def Zg0(a0 a1:Array Value):St:=(⟨.a (.g a0 37)::.a (.g a1 132)::.a (.w 0)::.a (.w 1)::.a (.w 2)::.a (.u)::.a (.i .i64 0)::us 25 ([]),[.row a0 37,.row a1 132,.row (zc PZ 132) 132],[]⟩:St)
def Zih:Int×Array Value->LS
 |(y0_6,r0_1)=>([.a (.i .i64 y0_6)],[.row r0_1 132])
def Zoj:Int×Array Value->Exit×LS
 |t=>((.exit 0),Zih t)
def Zc1(P:Program)(a0 a1:Array Value):Int×Array Value->Option (Stp (Int×Array Value) (Int×Array Value))
 |(y0_6,r0_1)=>bif decide (y0_6<(36:Int)) then (bif decide (0<=y0_6) then (bif (Zad a0 y0_6) then (bif (decide (0<=y0_6)&&decide (y0_6<36)) then (bif (decide (0<=y0_6)&&decide (y0_6<36)) then (some (.more ((i64.wrap (y0_6+(1:Int))),(r0_1.setIfInBounds (3+((y0_6).toNat*1)) (.int .i64 (i64.wrap ((num r0_1 (3+((y0_6).toNat*1)))*(12:Int)))))))) else (none)) else (none)) else (bif (decide (0<=y0_6)&&decide (y0_6<36)) then (some (.more ((i64.wrap (y0_6+(1:Int))),(r0_1.setIfInBounds (3+((y0_6).toNat*1)) (.int .i64 0))))) else (none))) else (none)) else (some (.done (y0_6,r0_1)))
noncomputable abbrev cKCxG106:=codeOf f106
def Ued:=(Uaa cKCxG106 [([6],[1])]).1
theorem Yif(N:Nat)(a0 a1:Array Value):∀t:Int×Array Value,Uah PZ (mkΓ [(83,con Zbl)]) N (cAt cKCxG106 [1,0,1,0,0]) (pAt Ued [1,0,1,0]) [6] [1] (Zg0 a0 a1) (Zih t)=mapS Zih Zoj (Zc1 PZ a0 a1 t):=by
 rintro⟨y0_6,r0_1⟩
 conv=>rhs;simp only[Zc1,Zao,Zam,Zan,Zap,Zih,Zoj]
 kernel_rfl
def Zlv(P:Program)(N:Nat)(a0 a1:Array Value)(z0_6:Int)(q0_1:Array Value):Option (SV×Eff×Bool):=some (.a (.g ((q0_1.setIfInBounds 39 (.int .i64 (i64.wrap ((num q0_1 39)*(12:Int))))).setIfInBounds 1 (.int .i8 (IntKind.i8.wrap ((num (q0_1.setIfInBounds 39 (.int .i64 (i64.wrap ((num q0_1 39)*(12:Int))))) 1)+(1:Int))))) 132),.none,true)
def Ufn(N:Nat):=(Uad 0 (kSeq (veC PZ (mkΓ [(83,con Zbl)]) N (cAt cKCxG106 [1,1]) (pAt Ued [1,1]) (SV×Eff×Bool)) (finK PZ [] [.cell 4 132])))
theorem Zvk(N:Nat)(a0 a1:Array Value)(z0_6:Int)(q0_1:Array Value):(Ufn N) (.exit 0) (left (writes (cAt cKCxG106 [1,0,1,0,0])) [6] [1] (Zg0 a0 a1) ([.a (.i .i64 z0_6)],[.row q0_1 132]))=Zlv PZ N a0 a1 z0_6 q0_1:=by kernel_rfl
theorem Yg6(N:Nat)(a0 a1:Array Value):Uag (Uab (Uah PZ (mkΓ [(83,con Zbl)]) N (cAt cKCxG106 [1,0,1,0,0]) (pAt Ued [1,0,1,0]) [6] [1] (Zg0 a0 a1)) N ([.a (.i .i64 0)],[.row a1 132])) (λe s=>(Ufn N) e (left (writes (cAt cKCxG106 [1,0,1,0,0])) [6] [1] (Zg0 a0 a1) s))=Uai (Uab (Zc1 PZ a0 a1) N ((0:Int),a1)) (λx=>Zlv PZ N a0 a1 x.1 x.2):=by refine Zar Zih Zoj _ _ (Yif N a0 a1) N ((0:Int),a1) _ _ ?_;intro x;exact Zvk N a0 a1 x.1 x.2
theorem Yda(N:Nat)(a0 a1:Array Value):ansV PZ (mkΓ [(83,con Zbl)]) N f106 [([6],[1])] [.g a0 37,.g a1 132] []=(Uai (Uab (Zc1 PZ a0 a1) N ((0:Int),a1)) (λx=>Zlv PZ N a0 a1 x.1 x.2)):=by
 conv=>rhs;simp only[<- Yg6 N a0 a1]
 kernel_rfl
theorem Yb1(a0 a1:Array Value)(h_a0:WT PZ 37 a0)(h_a1:WT PZ 132 a1)(hg:(true)=true):ansV PZ (mkΓ [(83,con Zbl)]) 1000 f106 [([6],[1])] [.g a0 37,.g a1 132] []=some (.a (.g (Ucd a0 a1) 132),.none,true):=by
 refine(Yda 1000 a0 a1).trans ?_;have h:=Zi6 (g:=Zc1 PZ a0 a1) (λr k=>((k:Int),r)) (Uc6 a0) (m:=36) (t:=a1) (x:=((36:Int),folds (Uc6 a0) a1 36)) (N:=1000) (λk s hk _=>by
  have h1:decide ((k:Int)<36)=true:=Q3 (by omega);have h0:decide (0<=(k:Int))=true:=Q3 (by omega);have h3:i64.wrap ((k:Int)+1)=((k+1:Nat):Int):=by rw[w64 (by omega)];omega
  unfold Uc6;cases hl:Zad a0 (k:Int) with
  |false=>simp only[Zc1,h1,h0,h3,hl,Q9,jA,Q1,Q2]
  |true=>simp only[Zc1,h1,h0,h3,hl,Q9,jA,Q1,Q2]) (by
  have h1:decide (((36:Nat):Int)<36)=false:=by decide
  simp only[Zc1,h1,Q2];rfl) (by omega)
 have h':Uab (Zc1 PZ a0 a1) 1000 ((0:Int),a1)=some ((36:Int),folds (Uc6 a0) a1 36):=h;rw[h'];rfl
def Zm2:Con:=λargs h=>match args,h with|[.g a0 37,.g a1 132],[]=>some (.a (.g (Ucd a0 a1) 132),.none,true)|_,_=>none
theorem Zy2:EntX PZ 106:=Zaj (fn:=f106)
theorem Yfu:Uac mn PZ 106 Zm2:=(ansY (N:=1000) (mKc (Zae Zez) Zcx mKn) f106 [([6],[1])]).of (by
 intro ρ h w args vals r e hA hH hr;unfold Zm2 at hr;split at hr
 ·rename_i a0 a1;obtain⟨rfl,rfl,hg2⟩:=BQi hr;exact Yb1 a0 a1 (hA.wt 0 rfl) (hA.wt 1 rfl) hg2
 ·cases hr)
def Zf2(a0 a1:Array Value):St:=(⟨.a (.g a0 132)::.a (.g a1 132)::.a (.w 0)::.a (.w 1)::.a (.w 2)::.a (.u)::.a (.u)::.a (.p 0 (2) 2)::.a (.i .i64 (num a0 2))::.a (.p 1 (2) 2)::.a (.i .i64 (num a1 2))::.a (.i .i64 (i64.wrap ((num a0 2)+(num a1 2))))::.a (.p 0 (2) 2)::.a (.p 1 (3) 105)::.a (.g (a1.extract 3 (3+36)) 105)::.a (.i .i64 0)::us 19 ([]),[.row (a0.setIfInBounds 2 (.int .i64 (i64.wrap ((num a0 2)+(num a1 2))))) 132,.row a1 132,.row (zc PZ 132) 132],[0]⟩:St)
def Zhm:Int×Array Value->LS
 |(y0_15,r0_0)=>([.a (.i .i64 y0_15)],[.row r0_0 132])
def Zng:Int×Array Value->Exit×LS
 |t=>((.exit 0),Zhm t)
def Zct(P:Program)(a0 a1:Array Value):Int×Array Value->Option (Stp (Int×Array Value) (Int×Array Value))
 |(y0_15,r0_0)=>bif decide (y0_15<(36:Int)) then (bif (decide (0<=y0_15)&&decide (y0_15<36)) then (bif (decide (0<=y0_15)&&decide (y0_15<36)) then (bif (decide (0<=y0_15)&&decide (y0_15<36)) then (some (.more ((i64.wrap (y0_15+(1:Int))),(r0_0.setIfInBounds (3+((y0_15).toNat*1)) (.int .i64 (i64.wrap ((num r0_0 (3+((y0_15).toNat*1)))+(num (a1.extract 3 (3+36)) ((y0_15).toNat*1))))))))) else (none)) else (none)) else (none)) else (some (.done (y0_15,r0_0)))
noncomputable abbrev cKCxG107:=codeOf f107
def Ud5:=(Uaa cKCxG107 [([15],[0])]).1
theorem Yeh(N:Nat)(a0 a1:Array Value):∀t:Int×Array Value,Uah PZ (mkΓ []) N (cAt cKCxG107 [1,1,0,1,0,0]) (pAt Ud5 [1,1,0,1,0]) [15] [0] (Zf2 a0 a1) (Zhm t)=mapS Zhm Zng (Zct PZ a0 a1 t):=by
 rintro⟨y0_15,r0_0⟩
 conv=>rhs;simp only[Zct,Zao,Zam,Zan,Zap,Zhm,Zng]
 kernel_rfl
def Zkx(P:Program)(N:Nat)(a0 a1:Array Value)(z0_15:Int)(q0_0:Array Value):Option (SV×Eff×Bool):=some (.a (.g (q0_0.setIfInBounds 39 (.int .i64 (i64.wrap ((num q0_0 39)+(num a1 39))))) 132),.none,true)
def Ufq(N:Nat):=(Uad 0 (kSeq (veC PZ (mkΓ []) N (cAt cKCxG107 [1,1,1]) (pAt Ud5 [1,1,1]) (SV×Eff×Bool)) (finK PZ [] [.cell 4 132])))
theorem Zua(N:Nat)(a0 a1:Array Value)(z0_15:Int)(q0_0:Array Value):(Ufq N) (.exit 0) (left (writes (cAt cKCxG107 [1,1,0,1,0,0])) [15] [0] (Zf2 a0 a1) ([.a (.i .i64 z0_15)],[.row q0_0 132]))=Zkx PZ N a0 a1 z0_15 q0_0:=by kernel_rfl
theorem Yel(N:Nat)(a0 a1:Array Value):Uag (Uab (Uah PZ (mkΓ []) N (cAt cKCxG107 [1,1,0,1,0,0]) (pAt Ud5 [1,1,0,1,0]) [15] [0] (Zf2 a0 a1)) N ([.a (.i .i64 0)],[.row (a0.setIfInBounds 2 (.int .i64 (i64.wrap ((num a0 2)+(num a1 2))))) 132])) (λe s=>(Ufq N) e (left (writes (cAt cKCxG107 [1,1,0,1,0,0])) [15] [0] (Zf2 a0 a1) s))=Uai (Uab (Zct PZ a0 a1) N ((0:Int),(a0.setIfInBounds 2 (.int .i64 (i64.wrap ((num a0 2)+(num a1 2))))))) (λx=>Zkx PZ N a0 a1 x.1 x.2):=by refine Zar Zhm Zng _ _ (Yeh N a0 a1) N ((0:Int),(a0.setIfInBounds 2 (.int .i64 (i64.wrap ((num a0 2)+(num a1 2)))))) _ _ ?_;intro x;exact Zua N a0 a1 x.1 x.2
theorem Yck(N:Nat)(a0 a1:Array Value):ansV PZ (mkΓ []) N f107 [([15],[0])] [.g a0 132,.g a1 132] []=(Uai (Uab (Zct PZ a0 a1) N ((0:Int),(a0.setIfInBounds 2 (.int .i64 (i64.wrap ((num a0 2)+(num a1 2))))))) (λx=>Zkx PZ N a0 a1 x.1 x.2)):=by
 conv=>rhs;simp only[<- Yel N a0 a1]
 kernel_rfl
theorem Zz7(a0 a1:Array Value)(h_a0:WT PZ 132 a0)(h_a1:WT PZ 132 a1)(hg:(true)=true):ansV PZ (mkΓ []) 1000 f107 [([15],[0])] [.g a0 132,.g a1 132] []=some (.a (.g (togV a0 a1) 132),.none,true):=by
 have hz:a1.size=40:=by rw[h_a1.layLen];kernel_rfl
 refine(Yck 1000 a0 a1).trans ?_;have h:=Zi6 (g:=Zct PZ a0 a1) (λr k=>((k:Int),r)) (togF a1) (m:=36) (t:=adN a0 2 (num a1 2)) (x:=((36:Int),folds (togF a1) (adN a0 2 (num a1 2)) 36)) (N:=1000) (λk s hk _=>by
  have h1:decide ((k:Int)<36)=true:=Q3 (by omega);have h0:decide (0<=(k:Int))=true:=Q3 (by omega);have h3:i64.wrap ((k:Int)+1)=((k+1:Nat):Int):=by rw[w64 (by omega)];omega
  have h5:=cell_num (T:=0) hz k hk;simp only[Zct,h1,h0,h3,Q9,jA,Q1,h5];rfl) (by
  have h1:decide (((36:Nat):Int)<36)=false:=by decide
  simp only[Zct,h1,Q2];rfl) (by omega)
 have h':Uab (Zct PZ a0 a1) 1000 ((0:Int),adN a0 2 (num a1 2))=some ((36:Int),folds (togF a1) (adN a0 2 (num a1 2)) 36):=h
 show Uai (Uab (Zct PZ a0 a1) 1000 ((0:Int),adN a0 2 (num a1 2))) _=_
 rw[h'];unfold togV;generalize folds (togF a1) (adN a0 2 (num a1 2)) 36=q;rfl
def Zmf:Con:=λargs h=>match args,h with|[.g a0 132,.g a1 132],[]=>some (.a (.g (togV a0 a1) 132),.none,true)|_,_=>none
theorem Zw1:EntX PZ 107:=Zaj (fn:=f107)
theorem Yd2:Uac mn PZ 107 Zmf:=(ansY (N:=1000) mKn f107 [([15],[0])]).of (by
 intro ρ h w args vals r e hA hH hr;unfold Zmf at hr;split at hr
 ·rename_i a0 a1;obtain⟨rfl,rfl,hg2⟩:=BQi hr;exact Zz7 a0 a1 (hA.wt 0 rfl) (hA.wt 1 rfl) hg2
 ·cases hr)
end
end Go.Proofs.YtdfefaanfiheoaaGreatDoor
