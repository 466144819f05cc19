/- An hour as it is asked; what flows, what rests, and both together; in company. -/
import Derived.Test.YtdfefaanfiheoaaGreatDoorProg
import Derived.Test.YtdfefaanfiheoaaGreatDoorCxF
set_option linter.unusedVariables false
set_option linter.unusedSimpArgs false
open _root_.Bool renaming and_self->jA
namespace Go.Proofs.YtdfefaanfiheoaaGreatDoor
open Tryz (f106 f107 f116 f120)
open Go.ChangeShapes Go.WideShapes Go.ChangeAt Go.RowKit Ve Vc
open Tryz renaming prog -> PZ
open IntKind (i64)
set_option maxRecDepth 100000
noncomputable section
variable {mn:Md}
def Zch:Cons:=(mkΓ [(70,con Zj9),(123,con Zl5)])
def Zgc(a0 a1:Array Value)(y0_7:Int)(r0_22:Array Value):St:=(⟨.a (.w 0) :: .a (.w 1) :: .a (.u) :: .a (.u) :: .a (.w 2) :: .a (.w 22) :: .a (.i .i8 (((IntKind.i8.wrap ((num a1 0)+(num a1 1)))).tmod (2:Int))) :: .a (.i .i64 (y0_7)) :: .a (.i .i64 (0:Int)) :: .a (.x) :: .a (.x) :: .a (.w 1) :: .a (.w 1) :: .a (.p 1 (0) 22) :: .a (.i .i8 (num a1 0)) :: .a (.w 1) :: .a (.w 1) :: .a (.p 1 (1) 22) :: .a (.i .i8 (num a1 1)) :: .a (.i .i8 (IntKind.i8.wrap ((num a1 1)+(1:Int)))) :: .a (.w 1) :: .a (.w 1) :: .a (.p 1 (2) 2) :: .a (.i .i64 (num a1 2)) :: .a (.w 1) :: .a (.w 1) :: .a (.p 1 (39) 2) :: .a (.i .i64 (num a1 39)) :: .a (.i .i64 (i64.wrap ((num a1 39)*(12:Int)))) :: .a (.g (((((zc PZ 132).setIfInBounds 0 (.int .i8 (num a1 0))).setIfInBounds 1 (.int .i8 (IntKind.i8.wrap ((num a1 1)+(1:Int))))).setIfInBounds 2 (.int .i64 (num a1 2))).setIfInBounds 39 (.int .i64 (i64.wrap ((num a1 39)*(12:Int))))) 132) :: .a (.w 1) :: .a (.w 1) :: .a (.p 1 (0) 22) :: .a (.i .i8 (num a1 0)) :: .a (.w 1) :: .a (.w 1) :: .a (.p 1 (1) 22) :: .a (.i .i8 (num a1 1)) :: .a (.i .i8 (IntKind.i8.wrap ((num a1 0)+(num a1 1)))) :: .a (.i .i8 (((IntKind.i8.wrap ((num a1 0)+(num a1 1)))).tmod (2:Int))) :: .a (.i .i64 (y0_7)) :: .a (.b (decide (y0_7<(36:Int)))) :: .a (.x) :: .a (.x) :: .a (.w 0) :: .a (.i .i64 (y0_7)) :: .a (.b ((Zai y0_7 a0))) :: .a (.b ((!((Zai y0_7 a0)))))::xs 55 (.a (.u)::[]),[.row a0 37,.row a1 132,.row (zc PZ 132) 132,.no,.no,.no,.no,.no,.no,.no,.no,.no,.no,.no,.no,.no,.no,.no,.no,.no,.no,.no,.row r0_22 132,.no,.no,.no,.no,.no,.no,.no,.no,.no,.no,.no,.no],[22]⟩:St)
def Zen:Int×Array Value->LS
 |(y1_8,r1_22)=>([.a (.i .i64 (y1_8))],[.row r1_22 132])
def Zhx:Int×Array Value->Exit×LS
 |t=>((.exit 2),Zen t)
def Zcp(P:Program)(a0 a1:Array Value)(y0_7:Int)(r0_22:Array Value):Int×Array Value->Option (Stp (Int×Array Value) (Int×Array Value))
 |(y1_8,r1_22)=>bif decide (y1_8<(5:Int)) then (bif (decide (0<=y0_7)&&decide (y0_7<36)) then (bif (decide (0<=(((IntKind.i8.wrap ((num a1 0)+(num a1 1)))).tmod (2:Int)))&&decide ((((IntKind.i8.wrap ((num a1 0)+(num a1 1)))).tmod (2:Int))<2)) then (bif (decide (0<=y0_7)&&decide (y0_7<36)) then (bif (decide (0<=y1_8)&&decide (y1_8<5)) then (bif decide ((Zaf y0_7 y1_8 a0)<(0:Int)) then (some (.more ((i64.wrap (y1_8+(1:Int))),(r1_22.setIfInBounds 39 (.int .i64 (i64.wrap ((num r1_22 39)+(i64.wrap ((num a1 (3+((y0_7).toNat*1)))*(i64.wrap (num a0 (((3+((((IntKind.i8.wrap ((num a1 0)+(num a1 1)))).tmod (2:Int)).toNat*180))+((y0_7).toNat*5))+((y1_8).toNat*1)))))))))))))
       else (bif (decide (0<=(Zaf y0_7 y1_8 a0))&&decide ((Zaf y0_7 y1_8 a0)<36)) then (bif (decide (0<=(Zaf y0_7 y1_8 a0))&&decide ((Zaf y0_7 y1_8 a0)<36)) then (some (.more ((i64.wrap (y1_8+(1:Int))),(r1_22.setIfInBounds (3+((Zaf y0_7 y1_8 a0).toNat*1)) (.int .i64 (i64.wrap ((num r1_22 (3+((Zaf y0_7 y1_8 a0).toNat*1)))+(i64.wrap ((num a1 (3+((y0_7).toNat*1)))*(i64.wrap (num a0 (((3+((((IntKind.i8.wrap ((num a1 0)+(num a1 1)))).tmod (2:Int)).toNat*180))+((y0_7).toNat*5))+((y1_8).toNat*1)))))))))))))
         else (none))
        else (none)))
      else (none))
     else (none))
    else (none))
   else (none))
  else (some (.done (y1_8,r1_22)))
noncomputable abbrev cKCxG120:=codeOf f120
def Ub5:=(Uaa cKCxG120 [([7],[22]),([8],[22])]).1
theorem Znt(N:Nat)(a0 a1:Array Value)(y0_7:Int)(r0_22:Array Value):∀t:Int×Array Value,Uag PZ Zch N (cAt cKCxG120 [1,1,1,0,1,0,0,1,0,0,1,1,0,0]) (pAt Ub5 [1,1,1,0,1,0,1,0,1,1,0]) [8] [22] (Zgc a0 a1 y0_7 r0_22) (Zen t)=mapS Zen Zhx (Zcp PZ a0 a1 y0_7 r0_22 t):=by
 rintro⟨y1_8,r1_22⟩;refine Eq.trans (b:=(bif decide (y1_8<(5:Int)) then (bif (decide (0<=y0_7)&&decide (y0_7<36)) then (bif (decide (0<=(((IntKind.i8.wrap ((num a1 0)+(num a1 1)))).tmod (2:Int)))&&decide ((((IntKind.i8.wrap ((num a1 0)+(num a1 1)))).tmod (2:Int))<2)) then (bif (decide (0<=y0_7)&&decide (y0_7<36)) then (bif (decide (0<=y1_8)&&decide (y1_8<5)) then (bif decide ((Zaf y0_7 y1_8 a0)<(0:Int)) then (some (.more ([.a (.i .i64 (i64.wrap (y1_8+(1:Int))))],[.row (r1_22.setIfInBounds 39 (.int .i64 (i64.wrap ((num r1_22 39)+(i64.wrap ((num a1 (3+((y0_7).toNat*1)))*(i64.wrap (num a0 (((3+((((IntKind.i8.wrap ((num a1 0)+(num a1 1)))).tmod (2:Int)).toNat*180))+((y0_7).toNat*5))+((y1_8).toNat*1)))))))))) 132])))
       else (bif (decide (0<=(Zaf y0_7 y1_8 a0))&&decide ((Zaf y0_7 y1_8 a0)<36)) then (bif (decide (0<=(Zaf y0_7 y1_8 a0))&&decide ((Zaf y0_7 y1_8 a0)<36)) then (some (.more ([.a (.i .i64 (i64.wrap (y1_8+(1:Int))))],[.row (r1_22.setIfInBounds (3+((Zaf y0_7 y1_8 a0).toNat*1)) (.int .i64 (i64.wrap ((num r1_22 (3+((Zaf y0_7 y1_8 a0).toNat*1)))+(i64.wrap ((num a1 (3+((y0_7).toNat*1)))*(i64.wrap (num a0 (((3+((((IntKind.i8.wrap ((num a1 0)+(num a1 1)))).tmod (2:Int)).toNat*180))+((y0_7).toNat*5))+((y1_8).toNat*1)))))))))) 132])))
         else (none))
        else (none)))
      else (none))
     else (none))
    else (none))
   else (none))
  else (some (.done ((.exit 2),([.a (.i .i64 (y1_8))],[.row r1_22 132])))))) (by kernel_rfl) ?_
 simp only[Zcp,Zao,Zap,Zam,Zan,Zen,Zhx]
def Zf2(a0 a1:Array Value):St:=(⟨.a (.w 0) :: .a (.w 1) :: .a (.u) :: .a (.u) :: .a (.w 2) :: .a (.w 22) :: .a (.i .i8 (((IntKind.i8.wrap ((num a1 0)+(num a1 1)))).tmod (2:Int))) :: .a (.i .i64 (0:Int))::us 3 (.a (.w 1) :: .a (.w 1) :: .a (.p 1 (0) 22) :: .a (.i .i8 (num a1 0)) :: .a (.w 1) :: .a (.w 1) :: .a (.p 1 (1) 22) :: .a (.i .i8 (num a1 1)) :: .a (.i .i8 (IntKind.i8.wrap ((num a1 1)+(1:Int)))) :: .a (.w 1) :: .a (.w 1) :: .a (.p 1 (2) 2) :: .a (.i .i64 (num a1 2)) :: .a (.w 1) :: .a (.w 1) :: .a (.p 1 (39) 2) :: .a (.i .i64 (num a1 39)) :: .a (.i .i64 (i64.wrap ((num a1 39)*(12:Int)))) :: .a (.g (((((zc PZ 132).setIfInBounds 0 (.int .i8 (num a1 0))).setIfInBounds 1 (.int .i8 (IntKind.i8.wrap ((num a1 1)+(1:Int))))).setIfInBounds 2 (.int .i64 (num a1 2))).setIfInBounds 39 (.int .i64 (i64.wrap ((num a1 39)*(12:Int))))) 132) :: .a (.w 1) :: .a (.w 1) :: .a (.p 1 (0) 22) :: .a (.i .i8 (num a1 0)) :: .a (.w 1) :: .a (.w 1) :: .a (.p 1 (1) 22) :: .a (.i .i8 (num a1 1)) :: .a (.i .i8 (IntKind.i8.wrap ((num a1 0)+(num a1 1)))) :: .a (.i .i8 (((IntKind.i8.wrap ((num a1 0)+(num a1 1)))).tmod (2:Int)))::us 64 ([])),[.row a0 37,.row a1 132,.row (zc PZ 132) 132,.no,.no,.no,.no,.no,.no,.no,.no,.no,.no,.no,.no,.no,.no,.no,.no,.no,.no,.no,.row (((((zc PZ 132).setIfInBounds 0 (.int .i8 (num a1 0))).setIfInBounds 1 (.int .i8 (IntKind.i8.wrap ((num a1 1)+(1:Int))))).setIfInBounds 2 (.int .i64 (num a1 2))).setIfInBounds 39 (.int .i64 (i64.wrap ((num a1 39)*(12:Int))))) 132,.no,.no,.no,.no,.no,.no,.no,.no,.no,.no,.no,.no],[22]⟩:St)
def Zcl:Int×Array Value->LS
 |(y0_7,r0_22)=>([.a (.i .i64 (y0_7))],[.row r0_22 132])
def Zej:Int×Array Value->Exit×LS
 |t=>((.exit 0),Zcl t)
def Zf1(P:Program)(N:Nat)(a0 a1:Array Value)(y0_7:Int)(r0_22:Array Value)(z1_8:Int)(q1_22:Array Value):Option (Stp (Int×Array Value) (Int×Array Value)):=some (.more ((i64.wrap (y0_7+(1:Int))),q1_22))
def Ufc(N:Nat):=(Uad 2 (Uad 1 (kSeq (veC PZ Zch N (cAt cKCxG120 [1,1,1,0,1,0,0,1,1]) (pAt Ub5 [1,1,1,0,1,0,1,1]) (Stp LS (Exit×LS))) (Uen 35 [7] [22]))))
theorem Zt5(N:Nat)(a0 a1:Array Value)(y0_7:Int)(r0_22:Array Value)(z1_8:Int)(q1_22:Array Value):(Ufc N) (.exit 2) (left (writes (cAt cKCxG120 [1,1,1,0,1,0,0,1,0,0,1,1,0,0])) [8] [22] (Zgc a0 a1 y0_7 r0_22) ([.a (.i .i64 (z1_8))],[.row q1_22 132]))=mapS Zcl Zej (Zf1 PZ N a0 a1 y0_7 r0_22 z1_8 q1_22):=by refine Eq.trans (b:=(some (.more ([.a (.i .i64 (i64.wrap (y0_7+(1:Int))))],[.row q1_22 132])))) (by kernel_rfl) ?_;simp only[Zf1,Zao,Zap,Zam,Zan,Zcl,Zej]
theorem Ydr(N:Nat)(a0 a1:Array Value)(y0_7:Int)(r0_22:Array Value):Uaj (Uab (Uag PZ Zch N (cAt cKCxG120 [1,1,1,0,1,0,0,1,0,0,1,1,0,0]) (pAt Ub5 [1,1,1,0,1,0,1,0,1,1,0]) [8] [22] (Zgc a0 a1 y0_7 r0_22)) N ([.a (.i .i64 (0:Int))],[.row r0_22 132])) (λe s=>(Ufc N) e (left (writes (cAt cKCxG120 [1,1,1,0,1,0,0,1,0,0,1,1,0,0])) [8] [22] (Zgc a0 a1 y0_7 r0_22) s))=mapS Zcl Zej (Uak (Uab (Zcp PZ a0 a1 y0_7 r0_22) N ((0:Int),r0_22)) (λx=>Zf1 PZ N a0 a1 y0_7 r0_22 x.1 x.2)):=by
 rw[Yhw Zcl Zej]
 first
 |(have h:=Zau (α:=Stp LS (Exit×LS)) Zen Zhx _ _ (Znt N a0 a1 y0_7 r0_22) N ((0:Int),r0_22);refine h _ _ ?_)
 |(have h:=Zau (α:=Stp BS (Exit×BS)) Zen Zhx _ _ (Znt N a0 a1 y0_7 r0_22) N ((0:Int),r0_22);refine h _ _ ?_)
 |(have h:=Zau (α:=Stp LS ((Exit×LS)⊕(SV×Eff×Bool))) Zen Zhx _ _ (Znt N a0 a1 y0_7 r0_22) N ((0:Int),r0_22);refine h _ _ ?_)
 intro x;exact Zt5 N a0 a1 y0_7 r0_22 x.1 x.2
def Zcr(P:Program)(N:Nat)(a0 a1:Array Value):Int×Array Value->Option (Stp (Int×Array Value) (Int×Array Value))
 |(y0_7,r0_22)=>bif decide (y0_7<(36:Int)) then (bif (Zbi y0_7 a0) then (bif (!((Zai y0_7 a0))) then (bif (decide (0<=y0_7)&&decide (y0_7<36)) then (bif (decide (0<=y0_7)&&decide (y0_7<36)) then (bif (decide (0<=y0_7)&&decide (y0_7<36)) then (some (.more ((i64.wrap (y0_7+(1:Int))),(r0_22.setIfInBounds (3+((y0_7).toNat*1)) (.int .i64 (i64.wrap ((num r0_22 (3+((y0_7).toNat*1)))+(i64.wrap ((num a1 (3+((y0_7).toNat*1)))*(12:Int))))))))))
       else (none))
      else (none))
     else (none))
    else (Uak (Uab (Zcp P a0 a1 y0_7 r0_22) N ((0:Int),r0_22)) (λx=>Zf1 P N a0 a1 y0_7 r0_22 x.1 x.2)))
   else (none))
  else (some (.done (y0_7,r0_22)))
theorem Yew(N:Nat)(a0 a1:Array Value):∀t:Int×Array Value,Uag PZ Zch N (cAt cKCxG120 [1,1,1,0,1,0,0]) (pAt Ub5 [1,1,1,0,1,0]) [7] [22] (Zf2 a0 a1) (Zcl t)=mapS Zcl Zej (Zcr PZ N a0 a1 t):=by
 rintro⟨y0_7,r0_22⟩;refine Eq.trans (b:=(bif decide (y0_7<(36:Int)) then (bif (Zbi y0_7 a0) then (bif (!((Zai y0_7 a0))) then (bif (decide (0<=y0_7)&&decide (y0_7<36)) then (bif (decide (0<=y0_7)&&decide (y0_7<36)) then (bif (decide (0<=y0_7)&&decide (y0_7<36)) then (some (.more ([.a (.i .i64 (i64.wrap (y0_7+(1:Int))))],[.row (r0_22.setIfInBounds (3+((y0_7).toNat*1)) (.int .i64 (i64.wrap ((num r0_22 (3+((y0_7).toNat*1)))+(i64.wrap ((num a1 (3+((y0_7).toNat*1)))*(12:Int))))))) 132])))
       else (none))
      else (none))
     else (none))
    else (Uaj (Uab (Uag PZ Zch N (cAt cKCxG120 [1,1,1,0,1,0,0,1,0,0,1,1,0,0]) (pAt Ub5 [1,1,1,0,1,0,1,0,1,1,0]) [8] [22] (Zgc a0 a1 y0_7 r0_22)) N ([.a (.i .i64 (0:Int))],[.row r0_22 132])) (λe s=>(Ufc N) e (left (writes (cAt cKCxG120 [1,1,1,0,1,0,0,1,0,0,1,1,0,0])) [8] [22] (Zgc a0 a1 y0_7 r0_22) s))))
   else (none))
  else (some (.done ((.exit 0),([.a (.i .i64 (y0_7))],[.row r0_22 132])))))) (by kernel_rfl) ?_
 simp only[Ydr N a0 a1 y0_7 r0_22,Zcr,Zao,Zap,Zam,Zan,Zcl,Zej]
def Zlf(P:Program)(N:Nat)(a0 a1:Array Value)(z0_7:Int)(q0_22:Array Value):Option (SV×Eff×Bool):=some (.a (.g q0_22 132),.none,true)
def Ufm(N:Nat)(a0 a1:Array Value):=(Uad 0 (kSeq (veC PZ Zch N (cAt cKCxG120 [1,1,1,1]) (pAt Ub5 [1,1,1,1]) (SV×Eff×Bool)) (finK PZ [.row a0 37,.row a1 132] [.cell 4 132])))
theorem Ztf(N:Nat)(a0 a1:Array Value)(z0_7:Int)(q0_22:Array Value):(Ufm N a0 a1) (.exit 0) (left (writes (cAt cKCxG120 [1,1,1,0,1,0,0])) [7] [22] (Zf2 a0 a1) ([.a (.i .i64 (z0_7))],[.row q0_22 132]))=Zlf PZ N a0 a1 z0_7 q0_22:=by refine Eq.trans (b:=(some (.a (.g q0_22 132),.none,true))) (by kernel_rfl) ?_;rfl
theorem Yd5(N:Nat)(a0 a1:Array Value):Uaj (Uab (Uag PZ Zch N (cAt cKCxG120 [1,1,1,0,1,0,0]) (pAt Ub5 [1,1,1,0,1,0]) [7] [22] (Zf2 a0 a1)) N ([.a (.i .i64 (0:Int))],[.row (((((zc PZ 132).setIfInBounds 0 (.int .i8 (num a1 0))).setIfInBounds 1 (.int .i8 (IntKind.i8.wrap ((num a1 1)+(1:Int))))).setIfInBounds 2 (.int .i64 (num a1 2))).setIfInBounds 39 (.int .i64 (i64.wrap ((num a1 39)*(12:Int))))) 132])) (λe s=>(Ufm N a0 a1) e (left (writes (cAt cKCxG120 [1,1,1,0,1,0,0])) [7] [22] (Zf2 a0 a1) s))=Uak (Uab (Zcr PZ N a0 a1) N ((0:Int),(((((zc PZ 132).setIfInBounds 0 (.int .i8 (num a1 0))).setIfInBounds 1 (.int .i8 (IntKind.i8.wrap ((num a1 1)+(1:Int))))).setIfInBounds 2 (.int .i64 (num a1 2))).setIfInBounds 39 (.int .i64 (i64.wrap ((num a1 39)*(12:Int))))))) (λx=>Zlf PZ N a0 a1 x.1 x.2):=by refine Zau Zcl Zej _ _ (Yew N a0 a1) N ((0:Int),(((((zc PZ 132).setIfInBounds 0 (.int .i8 (num a1 0))).setIfInBounds 1 (.int .i8 (IntKind.i8.wrap ((num a1 1)+(1:Int))))).setIfInBounds 2 (.int .i64 (num a1 2))).setIfInBounds 39 (.int .i64 (i64.wrap ((num a1 39)*(12:Int)))))) _ _ ?_;intro x;exact Ztf N a0 a1 x.1 x.2
theorem Ybl(N:Nat)(a0 a1:Array Value):ansV PZ Zch N f120 [([7],[22]),([8],[22])] [.w 0,.w 1] [.row a0 37,.row a1 132]=(Uak (Uab (Zcr PZ N a0 a1) N ((0:Int),(((((zc PZ 132).setIfInBounds 0 (.int .i8 (num a1 0))).setIfInBounds 1 (.int .i8 (IntKind.i8.wrap ((num a1 1)+(1:Int))))).setIfInBounds 2 (.int .i64 (num a1 2))).setIfInBounds 39 (.int .i64 (i64.wrap ((num a1 39)*(12:Int))))))) (λx=>Zlf PZ N a0 a1 x.1 x.2)):=by refine Eq.trans (b:=(Uaj (Uab (Uag PZ Zch N (cAt cKCxG120 [1,1,1,0,1,0,0]) (pAt Ub5 [1,1,1,0,1,0]) [7] [22] (Zf2 a0 a1)) N ([.a (.i .i64 (0:Int))],[.row (((((zc PZ 132).setIfInBounds 0 (.int .i8 (num a1 0))).setIfInBounds 1 (.int .i8 (IntKind.i8.wrap ((num a1 1)+(1:Int))))).setIfInBounds 2 (.int .i64 (num a1 2))).setIfInBounds 39 (.int .i64 (i64.wrap ((num a1 39)*(12:Int))))) 132])) (λe s=>(Ufm N a0 a1) e (left (writes (cAt cKCxG120 [1,1,1,0,1,0,0])) [7] [22] (Zf2 a0 a1) s)))) (by kernel_rfl) ?_;simp only[Yd5 N a0 a1]
theorem dec2{a b:Int}(h1:0<=a)(h2:a<b):(decide (0<=a)&&decide (a<b))=true:=by rw[Q3 h1,Q3 h2];rfl
def adN(r:Array Value)(i:Nat)(m:Int):Array Value:=r.setIfInBounds i (.int .i64 (i64.wrap (num r i+m)))
def tdS(X:Array Value):Int:=(IntKind.i8.wrap (num X 0+num X 1)).tmod 2
def muF(S X:Array Value)(t:Int)(k w:Nat):Int:=i64.wrap (num X (3+k*1)*chW S t (k:Int) w)
def wayF(S X:Array Value)(t:Int)(k:Nat)(r:Array Value)(w:Nat):Array Value:=bif decide (Zaf (k:Int) (w:Int) S<0) then adN r 39 (muF S X t k w) else adN r (3+(Zaf (k:Int) (w:Int) S).toNat*1) (muF S X t k w)
def Uef(S X:Array Value)(t:Int)(r:Array Value)(k:Nat):Array Value:=bif Zai (k:Int) S then folds (wayF S X t k) r 5 else adN r (3+k*1) (i64.wrap (num X (3+k*1)*12))
def Ubv(P:Program)(X:Array Value):Array Value:=((((zc P 132).setIfInBounds 0 (.int .i8 (num X 0))).setIfInBounds 1 (.int .i8 (IntKind.i8.wrap (num X 1+1)))).setIfInBounds 2 (.int .i64 (num X 2))).setIfInBounds 39 (.int .i64 (i64.wrap (num X 39*12)))
def Ubg(P:Program)(S X:Array Value):Array Value:=folds (Uef S X (tdS X)) (Ubv P X) 36
theorem Yg3{S:Array Value}(h0:1<=num S 0/\num S 0<=6/\1<=num S 1/\num S 1<=6){k:Nat}(hk:k<36)(hi:inC (num S 0) (num S 1) k=true){w:Nat}(hw:w<5)(hn:¬Zaf (k:Int) (w:Int) S<0):0<=Zaf (k:Int) (w:Int) S/\Zaf (k:Int) (w:Int) S<36:=by
 rw[Yed h0 hk hi w hw]at hn|-
 exact Ydj h0 hk hi w hw (by omega)
theorem Yas(a0 a1:Array Value)(h_a0:WT PZ 37 a0)(h_a1:WT PZ 132 a1)(hg:((okS a0&&(decide (0<=tdS a1)&&decide (tdS a1<2))))=true):ansV PZ Zch 1000 f120 [([7],[22]),([8],[22])] [.w 0,.w 1] [.row a0 37,.row a1 132]=some (.a (.g (Ubg PZ a0 a1) 132),.none,true):=by
 rw[Q7]at hg;obtain⟨hok,ht⟩:=hg;have hdm:=Zsz hok;refine(Ybl 1000 a0 a1).trans ?_;have hT:(IntKind.i8.wrap (num a1 0+num a1 1)).tmod 2=tdS a1:=rfl;have h:=Zh6 (g:=Zcr PZ 1000 a0 a1) (λr k=>((k:Int),r)) (Uef a0 a1 (tdS a1)) (m:=36) (t:=Ubv PZ a1) (x:=((36:Int),Ubg PZ a0 a1)) (N:=1000) (λk s hk _=>by
  have h1:decide ((k:Int)<36)=true:=Q3 (by omega);have h0:decide (0<=(k:Int))=true:=Q3 (by omega);have h3:i64.wrap ((k:Int)+1)=((k+1:Nat):Int):=by rw[w64 (by omega)];omega
  obtain⟨w1,w2⟩:=Yef h_a0 hk;unfold Uef;cases hw:Zai (k:Int) a0 with
  |false=>simp only[Zcr,h1,h0,h3,w1,hw,Q9,jA,Bool.not_false,Q1,Q2];rfl
  | true=>
   rw[hw]at w2;have hi:inC (num a0 0) (num a0 1) k=true:=(Bool.and_eq_true_iff.1 w2.symm).1;have hin:=Zh6 (g:=Zcp PZ a0 a1 (k:Int) s) (λr w=>((w:Int),r)) (wayF a0 a1 (tdS a1) k) (m:=5) (t:=s) (x:=((5:Int),folds (wayF a0 a1 (tdS a1) k) s 5)) (N:=1000) (λw r hw5 _=>by
    have e1:decide ((w:Int)<5)=true:=Q3 (by omega);have e0:decide (0<=(w:Int))=true:=Q3 (by omega);have e3:i64.wrap ((w:Int)+1)=((w+1:Nat):Int):=by rw[w64 (by omega)];omega
    have e4:i64.wrap (num a1 (3+k*1)*i64.wrap (num a0 (3+(tdS a1).toNat*180+k*5+w*1)))=muF a0 a1 (tdS a1) k w:=by unfold muF chW;rw[Q9,Nat.mul_one w]
    unfold wayF
    by_cases hg:Zaf (k:Int) (w:Int) a0<0
    ·simp only[Zcp,e1,e0,e3,h1,h0,hT,ht,Q9,jA,Q1,Q3 hg,e4]
     rfl
    ·obtain⟨r1,r2⟩:=Yg3 hdm hk hi hw5 hg
     simp only[Zcp,e1,e0,e3,h1,h0,hT,ht,Q9,jA,Q1,Q2,Q4 hg,dec2 r1 r2,e4];rfl) (by
    have e1:decide (((5:Nat):Int)<5)=false:=by decide
    simp only[Zcp,e1,Q2];rfl) (by omega)
   have hin':Uab (Zcp PZ a0 a1 (k:Int) s) 1000 ((0:Int),s)=some ((5:Int),folds (wayF a0 a1 (tdS a1) k) s 5):=hin;simp only[Zcr,h1,w1,hw,Bool.not_true,Q1,Q2,hin',Uak,Zf1,h3]) (by
  have h1:decide (((36:Nat):Int)<36)=false:=by decide
  simp only[Zcr,h1,Q2];rfl) (by omega)
 have h':Uab (Zcr PZ 1000 a0 a1) 1000 ((0:Int),Ubv PZ a1)=some ((36:Int),Ubg PZ a0 a1):=h;unfold Ubv at h';rw[h'];rfl
def Zc2:Con:=λargs h=>match args,h with
 |[.w 0,.w 1],[.row a0 37,.row a1 132]=>some (.a (.g (Ubg PZ a0 a1) 132),.none,(okS a0&&(decide (0<=tdS a1)&&decide (tdS a1<2))))
 |_,_=>none
theorem Zx2:EntX PZ 120:=Zah (fn:=f120)
theorem Yer:Uac mn PZ 120 Zc2:=(ansY (N:=1000) (mKc (Zae Zum) Zpa (mKc (Zae Ydt) Zy1 mKn)) f120 [([7],[22]),([8],[22])]).of (by
 intro ρ h w args vals r e hA hH hr;unfold Zc2 at hr;split at hr
 ·rename_i a0 a1
  obtain⟨rfl,rfl,hg2⟩:=BQi hr;exact Yas a0 a1 (hH.wt 0 rfl) (hH.wt 1 rfl) hg2
 ·cases hr)
def tdI(X:Array Value):Int:=(i64.wrap (i64.wrap (num X 0)+i64.wrap (num X 1))).tmod 2
def Uep(S X:Array Value)(t:Int)(w:Nat)(r:Array Value)(k:Nat):Array Value:=bif Uav S (k:Int) w != -1 then adN r (3+(Uav S (k:Int) w).toNat*1) (muF S X t k w) else adN r 39 (muF S X t k w)
def Uba(P:Program)(S X:Array Value)(w:Nat):Array Value:=folds (λr k=>if inC (num S 0) (num S 1) k&&Zad S (k:Int) then Uep S X (tdI X) w r k else r) (zc P 132) 36
def togF(Y:Array Value)(r:Array Value)(k:Nat):Array Value:=adN r (3+k*1) (num Y (3+k*1))
def togV(X Y:Array Value):Array Value:=adN (folds (togF Y) (adN X 2 (num Y 2)) 36) 39 (num Y 39)
def Ucz(S:Array Value)(r:Array Value)(k:Nat):Array Value:=bif Zac S (k:Int) then r.setIfInBounds (3+k*1) (.int .i64 (i64.wrap (num r (3+k*1)*12))) else r.setIfInBounds (3+k*1) (.int .i64 0)
def Ucc(r:Array Value):Array Value:=r.setIfInBounds 39 (.int .i64 (i64.wrap (num r 39*12)))
def Ub6(S X:Array Value):Array Value:=(Ucc (folds (Ucz S) X 36)).setIfInBounds 1 (.int .i8 (IntKind.i8.wrap (num (Ucc (folds (Ucz S) X 36)) 1+1)))
def Zic:Cons:=(mkΓx [(121,con Zna),(122,con Zmf)] [(92,Zlk)] [(110,Zge)])
def Zeb(a0 a1:Array Value)(a2:Int):St:=(⟨.a (.g a0 37) :: .a (.g a1 132) :: .a (.i .i64 (a2)) :: .a (.w 0) :: .a (.w 1) :: .a (.w 2) :: .a (.w 3) :: .a (.w 4) :: .a (.w 12)::us 3 (.a (.p 1 (0) 22) :: .a (.i .i8 (num a1 0)) :: .a (.i .i64 (i64.wrap (num a1 0))) :: .a (.p 1 (1) 22) :: .a (.i .i8 (num a1 1)) :: .a (.i .i64 (i64.wrap (num a1 1))) :: .a (.i .i64 (((i64.wrap ((i64.wrap (num a1 0))+(i64.wrap (num a1 1))))).tmod (2:Int))) :: .a (.g a0 37) :: .a (.c 110 [17])::us 35 ([])),[.row a0 37,.row a1 132,.row #[.int .i64 (a2)] 2,.row (zc PZ 132) 132,.row (zc PZ 132) 132,.no,.no,.no,.no,.no,.no,.no,.row #[.int .i64 (((i64.wrap ((i64.wrap (num a1 0))+(i64.wrap (num a1 1))))).tmod (2:Int))] 2,.no,.no,.no,.no,.row a0 37,.no,.no,.no,.no],[12]⟩:St)
def Zls:Array Value->BS
 |r0_4=>([.row r0_4 132]:BS)
def Zoq:Empty->Exit×BS:=λx=>nomatch x
def Zg9(P:Program)(a0 a1:Array Value)(a2:Int)(x0:Int):Array Value->Option (Stp (Array Value) Empty)
  |r0_4=>bif (decide (0<=x0)&&decide (x0<36)) then (bif (decide (0<=(((i64.wrap ((i64.wrap (num a1 0))+(i64.wrap (num a1 1))))).tmod (2:Int)))&&decide ((((i64.wrap ((i64.wrap (num a1 0))+(i64.wrap (num a1 1))))).tmod (2:Int))<2)) then (bif (decide (0<=x0)&&decide (x0<36)) then (bif (decide (0<=a2)&&decide (a2<5)) then (bif (decide (0<=a2)&&decide (a2<5)) then (bif ((Uav a0 x0 a2.toNat) != (-1:Int)) then (bif (decide (0<=(Uav a0 x0 a2.toNat))&&decide ((Uav a0 x0 a2.toNat)<36)) then (bif (decide (0<=(Uav a0 x0 a2.toNat))&&decide ((Uav a0 x0 a2.toNat)<36)) then (some (.more (r0_4.setIfInBounds (3+((Uav a0 x0 a2.toNat).toNat*1)) (.int .i64 (i64.wrap ((num r0_4 (3+((Uav a0 x0 a2.toNat).toNat*1)))+(i64.wrap ((num a1 (3+((x0).toNat*1)))*(i64.wrap (num a0 (((3+((((i64.wrap ((i64.wrap (num a1 0))+(i64.wrap (num a1 1))))).tmod (2:Int)).toNat*180))+((x0).toNat*5))+((a2).toNat*1))))))))))))
                  else (none))
                else (none))
              else (some (.more (r0_4.setIfInBounds 39 (.int .i64 (i64.wrap ((num r0_4 39)+(i64.wrap ((num a1 (3+((x0).toNat*1)))*(i64.wrap (num a0 (((3+((((i64.wrap ((i64.wrap (num a1 0))+(i64.wrap (num a1 1))))).tmod (2:Int)).toNat*180))+((x0).toNat*5))+((a2).toNat*1)))))))))))))
            else (none))
          else (none))
        else (none))
      else (none))
    else (none)
noncomputable abbrev cKCxG116:=codeOf f116
def Uea:=(Uaa cKCxG116 [([],[4])]).1
theorem Ygg(N:Nat)(a0 a1:Array Value)(a2:Int)(x0:Int):∀t:Array Value,Ud4 PZ Zic N (cAt cKCxG116 [1,1,1,0,1,0,0]) (pAt Uea [1,1,1,0,1,0]) 22 [4] [21] [(9,21)] (Zeb a0 a1 a2) [.i .i64 (x0)] (Zls t)=mapS Zls Zoq (Zg9 PZ a0 a1 a2 x0 t):=by
 rintro r0_4;refine Eq.trans (b:=(bif (decide (0<=x0)&&decide (x0<36)) then (bif (decide (0<=(((i64.wrap ((i64.wrap (num a1 0))+(i64.wrap (num a1 1))))).tmod (2:Int)))&&decide ((((i64.wrap ((i64.wrap (num a1 0))+(i64.wrap (num a1 1))))).tmod (2:Int))<2)) then (bif (decide (0<=x0)&&decide (x0<36)) then (bif (decide (0<=a2)&&decide (a2<5)) then (bif (decide (0<=a2)&&decide (a2<5)) then (bif ((Uav a0 x0 a2.toNat) != (-1:Int)) then (bif (decide (0<=(Uav a0 x0 a2.toNat))&&decide ((Uav a0 x0 a2.toNat)<36)) then (bif (decide (0<=(Uav a0 x0 a2.toNat))&&decide ((Uav a0 x0 a2.toNat)<36)) then (some (.more ([.row (r0_4.setIfInBounds (3+((Uav a0 x0 a2.toNat).toNat*1)) (.int .i64 (i64.wrap ((num r0_4 (3+((Uav a0 x0 a2.toNat).toNat*1)))+(i64.wrap ((num a1 (3+((x0).toNat*1)))*(i64.wrap (num a0 (((3+((((i64.wrap ((i64.wrap (num a1 0))+(i64.wrap (num a1 1))))).tmod (2:Int)).toNat*180))+((x0).toNat*5))+((a2).toNat*1)))))))))) 132]:BS)))
         else (none))
        else (none))
       else (some (.more ([.row (r0_4.setIfInBounds 39 (.int .i64 (i64.wrap ((num r0_4 39)+(i64.wrap ((num a1 (3+((x0).toNat*1)))*(i64.wrap (num a0 (((3+((((i64.wrap ((i64.wrap (num a1 0))+(i64.wrap (num a1 1))))).tmod (2:Int)).toNat*180))+((x0).toNat*5))+((a2).toNat*1)))))))))) 132]:BS))))
      else (none))
     else (none))
    else (none))
   else (none))
  else (none))) (by kernel_rfl) ?_
 simp only[Zg9,Zao,Zap,Zam,Zan,Zls,Zoq]
def Zmg(P:Program)(N:Nat)(a0 a1:Array Value)(a2:Int)(q0_4:Array Value):Option (SV×Eff×Bool):=some (.a (.g q0_4 132),.none,true)
def Uda(N:Nat):=(Uad 0 (kSeq (veC PZ Zic N (cAt cKCxG116 [1,1,1,1]) (pAt Uea [1,1,1,1]) (SV×Eff×Bool)) (finK PZ [] [.cell 6 132])))
theorem Zu0(N:Nat)(a0 a1:Array Value)(a2:Int)(q0_4:Array Value):(Uda N) .normal (Ubh [4] (Zeb a0 a1 a2) ([.row q0_4 132]:BS))=Zmg PZ N a0 a1 a2 q0_4:=by refine Eq.trans (b:=(some (.a (.g q0_4 132),.none,true))) (by kernel_rfl) ?_;rfl
theorem Ygi(N:Nat)(a0 a1:Array Value)(a2:Int):Udi (Ua0 (λ(x0:Int) (hb:BS)=>Ud4 PZ Zic N (cAt cKCxG116 [1,1,1,0,1,0,0]) (pAt Uea [1,1,1,0,1,0]) 22 [4] [21] [(9,21)] (Zeb a0 a1 a2) [.i .i64 (x0)] hb) ((Uan (num a0 0) (num a0 1) 36).filter (Zad a0)) ([.row (zc PZ 132) 132]:BS)) (λhb=>(Uda N) .normal (Ubh [4] (Zeb a0 a1 a2) hb)) (λe hb=>(Uda N) e (Ubh [4] (Zeb a0 a1 a2) hb))=Ue1 (Ua0 (Zg9 PZ a0 a1 a2) ((Uan (num a0 0) (num a0 1) 36).filter (Zad a0)) (zc PZ 132)) (λx=>Zmg PZ N a0 a1 a2 x) (λx:Empty=>nomatch x):=by
 refine Yfs Zls Zoq _ _ (λy t=>Ygg N a0 a1 a2 y t) _ (zc PZ 132) _ _ _ _ ?_ ?_
 ·intro x;exact Zu0 N a0 a1 a2 x
 ·intro x;exact nomatch x
theorem Yd0(N:Nat)(a0 a1:Array Value)(a2:Int):ansV PZ Zic N f116 [([],[4])] [.g a0 37,.g a1 132,.i .i64 (a2)] []=(bif (decide (0<=num a0 0)&&decide (num a0 0<=6)&&(decide (0<=num a0 1)&&decide (num a0 1<=6))) then (Ue1 (Ua0 (Zg9 PZ a0 a1 a2) ((Uan (num a0 0) (num a0 1) 36).filter (Zad a0)) (zc PZ 132)) (λx=>Zmg PZ N a0 a1 a2 x) (λx:Empty=>nomatch x))
  else (none)):=by
 refine Eq.trans (b:=(bif (decide (0<=num a0 0)&&decide (num a0 0<=6)&&(decide (0<=num a0 1)&&decide (num a0 1<=6))) then (Udi (Ua0 (λ(x0:Int) (hb:BS)=>Ud4 PZ Zic N (cAt cKCxG116 [1,1,1,0,1,0,0]) (pAt Uea [1,1,1,0,1,0]) 22 [4] [21] [(9,21)] (Zeb a0 a1 a2) [.i .i64 (x0)] hb) ((Uan (num a0 0) (num a0 1) 36).filter (Zad a0)) ([.row (zc PZ 132) 132]:BS)) (λhb=>(Uda N) .normal (Ubh [4] (Zeb a0 a1 a2) hb)) (λe hb=>(Uda N) e (Ubh [4] (Zeb a0 a1 a2) hb)))
  else (none))) (by kernel_rfl) ?_
 simp only[Ygi N a0 a1 a2]
theorem Yb5(a0 a1:Array Value)(a2:Int)(h_a0:WT PZ 37 a0)(h_a1:WT PZ 132 a1)(h_a2:i64.min<=a2/\a2<=i64.max)(hg:((okS a0&&((decide (0<=tdI a1)&&decide (tdI a1<2))&&(decide (0<=a2)&&decide (a2<5)))))=true):ansV PZ Zic 1000 f116 [([],[4])] [.g a0 37,.g a1 132,.i .i64 (a2)] []=some (.a (.g (Uba PZ a0 a1 a2.toNat) 132),.none,true):=by
 rw[Q7,Q7]at hg;obtain⟨hok,ht,hw5⟩:=hg;simp only[Q7,decide_eq_true_eq]at hw5;obtain⟨w0,w5⟩:=hw5;obtain⟨w,rfl⟩:=Int.eq_ofNat_of_zero_le w0;have hw:w<5:=by omega
 have hdm:=Zsz hok;refine(Yd0 1000 a0 a1 (w:Int)).trans ?_;rw[Yn2 hok,Q1,Q9];have d1:decide (0<=(w:Int))=true:=Q3 (by omega);have d2:decide ((w:Int)<5)=true:=Q3 (by omega);have hT:(i64.wrap (i64.wrap (num a1 0)+i64.wrap (num a1 1))).tmod 2=tdI a1:=rfl;have h:=Zvr (X:=Empty) (g:=Zg9 PZ a0 a1 (w:Int)) (q:=Zad a0) (Uep a0 a1 (tdI a1) w) (wd:=num a0 0) (hi:=num a0 1) (λr k hk hi hq=>by
  have h1:decide ((k:Int)<36)=true:=Q3 (by omega);have h0:decide (0<=(k:Int))=true:=Q3 (by omega);have hmu:i64.wrap (num a1 (3+k*1)*i64.wrap (num a0 (3+(tdI a1).toNat*180+k*5+w*1)))=muF a0 a1 (tdI a1) k w:=by unfold muF chW;rw[Q9,Nat.mul_one w]
  simp only[Zg9,h0,h1,d1,d2,hT,ht,Q9,jA,Q1,hmu];unfold Uep;cases hl:(Uav a0 (k:Int) w != -1) with
  |false=>simp only[Q2];rfl
  | true=>
   have hr:0<=Uav a0 (k:Int) w/\Uav a0 (k:Int) w<36:=by
    rw[Yqy hdm hk hi w hw]at hl|-
    exact Ydj hdm hk hi w hw (by simpa using hl)
   simp only[Q1,dec2 hr.1 hr.2];rfl) (zc PZ 132)
 rw[h];rfl
def Znr:Con:=λargs h=>match args,h with
 |[.g a0 37,.g a1 132,.i .i64 a2],[]=>some (.a (.g (Uba PZ a0 a1 a2.toNat) 132),.none,(okS a0&&((decide (0<=tdI a1)&&decide (tdI a1<2))&&(decide (0<=a2)&&decide (a2<5)))))
 |_,_=>none
theorem Yao:EntX PZ 116:=Zah (fn:=f116)
theorem Ygp:Uac mn PZ 116 Znr:=(ansY (N:=1000) (mKx (Zae Ygb) Zzs (mKx (Zae Yel) Zwp (mkΓx_nX Zw8 Zud (mkΓx_iX Zto Zqs mkΓx_nilX)))) f116 [([],[4])]).of (by
 intro ρ h w args vals r e hA hH hr;unfold Znr at hr;split at hr
 ·rename_i a0 a1 a2
  obtain⟨rfl,rfl,hg2⟩:=BQi hr;exact Yb5 a0 a1 a2 (hA.wt 0 rfl) (hA.wt 1 rfl) (hA.rng 2 rfl) hg2
 ·cases hr)
def Zf7(a0 a1:Array Value):St:=(⟨.a (.g a0 37) :: .a (.g a1 132) :: .a (.w 0) :: .a (.w 1) :: .a (.w 2) :: .a (.u) :: .a (.i .i64 (0:Int))::us 25 ([]),[.row a0 37,.row a1 132,.row (zc PZ 132) 132],[]⟩:St)
def Zh1:Int×Array Value->LS
 |(y0_6,r0_1)=>([.a (.i .i64 (y0_6))],[.row r0_1 132])
def Znv:Int×Array Value->Exit×LS
 |t=>((.exit 0),Zh1 t)
def Zck(P:Program)(a0 a1:Array Value):Int×Array Value->Option (Stp (Int×Array Value) (Int×Array Value))
 |(y0_6,r0_1)=>bif decide (y0_6<(36:Int)) then (bif decide (0<=y0_6) then (bif (Zac a0 y0_6) then (bif (decide (0<=y0_6)&&decide (y0_6<36)) then (bif (decide (0<=y0_6)&&decide (y0_6<36)) then (some (.more ((i64.wrap (y0_6+(1:Int))),(r0_1.setIfInBounds (3+((y0_6).toNat*1)) (.int .i64 (i64.wrap ((num r0_1 (3+((y0_6).toNat*1)))*(12:Int))))))))
      else (none))
     else (none))
    else (bif (decide (0<=y0_6)&&decide (y0_6<36)) then (some (.more ((i64.wrap (y0_6+(1:Int))),(r0_1.setIfInBounds (3+((y0_6).toNat*1)) (.int .i64 (0:Int))))))
     else (none)))
   else (none))
  else (some (.done (y0_6,r0_1)))
noncomputable abbrev cKCxG106:=codeOf f106
def Ud3:=(Uaa cKCxG106 [([6],[1])]).1
theorem Yfx(N:Nat)(a0 a1:Array Value):∀t:Int×Array Value,Uag PZ (mkΓ [(83,con Zbd)]) N (cAt cKCxG106 [1,0,1,0,0]) (pAt Ud3 [1,0,1,0]) [6] [1] (Zf7 a0 a1) (Zh1 t)=mapS Zh1 Znv (Zck PZ a0 a1 t):=by
 rintro⟨y0_6,r0_1⟩;refine Eq.trans (b:=(bif decide (y0_6<(36:Int)) then (bif decide (0<=y0_6) then (bif (Zac a0 y0_6) then (bif (decide (0<=y0_6)&&decide (y0_6<36)) then (bif (decide (0<=y0_6)&&decide (y0_6<36)) then (some (.more ([.a (.i .i64 (i64.wrap (y0_6+(1:Int))))],[.row (r0_1.setIfInBounds (3+((y0_6).toNat*1)) (.int .i64 (i64.wrap ((num r0_1 (3+((y0_6).toNat*1)))*(12:Int))))) 132])))
      else (none))
     else (none))
    else (bif (decide (0<=y0_6)&&decide (y0_6<36)) then (some (.more ([.a (.i .i64 (i64.wrap (y0_6+(1:Int))))],[.row (r0_1.setIfInBounds (3+((y0_6).toNat*1)) (.int .i64 (0:Int))) 132])))
     else (none)))
   else (none))
  else (some (.done ((.exit 0),([.a (.i .i64 (y0_6))],[.row r0_1 132])))))) (by kernel_rfl) ?_
 simp only[Zck,Zao,Zap,Zam,Zan,Zh1,Znv]
def Zk8(P:Program)(N:Nat)(a0 a1:Array Value)(z0_6:Int)(q0_1:Array Value):Option (SV×Eff×Bool):=some (.a (.g ((q0_1.setIfInBounds 39 (.int .i64 (i64.wrap ((num q0_1 39)*(12:Int))))).setIfInBounds 1 (.int .i8 (IntKind.i8.wrap ((num (q0_1.setIfInBounds 39 (.int .i64 (i64.wrap ((num q0_1 39)*(12:Int))))) 1)+(1:Int))))) 132),.none,true)
def Ufk(N:Nat):=(Uad 0 (kSeq (veC PZ (mkΓ [(83,con Zbd)]) N (cAt cKCxG106 [1,1]) (pAt Ud3 [1,1]) (SV×Eff×Bool)) (finK PZ [] [.cell 4 132])))
theorem Zub(N:Nat)(a0 a1:Array Value)(z0_6:Int)(q0_1:Array Value):(Ufk N) (.exit 0) (left (writes (cAt cKCxG106 [1,0,1,0,0])) [6] [1] (Zf7 a0 a1) ([.a (.i .i64 (z0_6))],[.row q0_1 132]))=Zk8 PZ N a0 a1 z0_6 q0_1:=by refine Eq.trans (b:=(some (.a (.g ((q0_1.setIfInBounds 39 (.int .i64 (i64.wrap ((num q0_1 39)*(12:Int))))).setIfInBounds 1 (.int .i8 (IntKind.i8.wrap ((num (q0_1.setIfInBounds 39 (.int .i64 (i64.wrap ((num q0_1 39)*(12:Int))))) 1)+(1:Int))))) 132),.none,true))) (by kernel_rfl) ?_;rfl
theorem Yet(N:Nat)(a0 a1:Array Value):Uaj (Uab (Uag PZ (mkΓ [(83,con Zbd)]) N (cAt cKCxG106 [1,0,1,0,0]) (pAt Ud3 [1,0,1,0]) [6] [1] (Zf7 a0 a1)) N ([.a (.i .i64 (0:Int))],[.row a1 132])) (λe s=>(Ufk N) e (left (writes (cAt cKCxG106 [1,0,1,0,0])) [6] [1] (Zf7 a0 a1) s))=Uak (Uab (Zck PZ a0 a1) N ((0:Int),a1)) (λx=>Zk8 PZ N a0 a1 x.1 x.2):=by refine Zau Zh1 Znv _ _ (Yfx N a0 a1) N ((0:Int),a1) _ _ ?_;intro x;exact Zub N a0 a1 x.1 x.2
theorem Yb0(N:Nat)(a0 a1:Array Value):ansV PZ (mkΓ [(83,con Zbd)]) N f106 [([6],[1])] [.g a0 37,.g a1 132] []=(Uak (Uab (Zck PZ a0 a1) N ((0:Int),a1)) (λx=>Zk8 PZ N a0 a1 x.1 x.2)):=by refine Eq.trans (b:=(Uaj (Uab (Uag PZ (mkΓ [(83,con Zbd)]) N (cAt cKCxG106 [1,0,1,0,0]) (pAt Ud3 [1,0,1,0]) [6] [1] (Zf7 a0 a1)) N ([.a (.i .i64 (0:Int))],[.row a1 132])) (λe s=>(Ufk N) e (left (writes (cAt cKCxG106 [1,0,1,0,0])) [6] [1] (Zf7 a0 a1) s)))) (by kernel_rfl) ?_;simp only[Yet N a0 a1]
theorem Zzp(a0 a1:Array Value)(h_a0:WT PZ 37 a0)(h_a1:WT PZ 132 a1)(hg:(true)=true):ansV PZ (mkΓ [(83,con Zbd)]) 1000 f106 [([6],[1])] [.g a0 37,.g a1 132] []=some (.a (.g (Ub6 a0 a1) 132),.none,true):=by
 refine(Yb0 1000 a0 a1).trans ?_;have h:=Zh6 (g:=Zck PZ a0 a1) (λr k=>((k:Int),r)) (Ucz a0) (m:=36) (t:=a1) (x:=((36:Int),folds (Ucz a0) a1 36)) (N:=1000) (λk s hk _=>by
  have h1:decide ((k:Int)<36)=true:=Q3 (by omega);have h0:decide (0<=(k:Int))=true:=Q3 (by omega);have h3:i64.wrap ((k:Int)+1)=((k+1:Nat):Int):=by rw[w64 (by omega)];omega
  unfold Ucz;cases hl:Zac a0 (k:Int) with
  |false=>simp only[Zck,h1,h0,h3,hl,Q9,jA,Q1,Q2]
  |true=>simp only[Zck,h1,h0,h3,hl,Q9,jA,Q1,Q2]) (by
  have h1:decide (((36:Nat):Int)<36)=false:=by decide
  simp only[Zck,h1,Q2];rfl) (by omega)
 have h':Uab (Zck PZ a0 a1) 1000 ((0:Int),a1)=some ((36:Int),folds (Ucz a0) a1 36):=h;rw[h'];rfl
def Zl7:Con:=λargs h=>match args,h with
 |[.g a0 37,.g a1 132],[]=>some (.a (.g (Ub6 a0 a1) 132),.none,true)
 |_,_=>none
theorem Zyt:EntX PZ 106:=Zah (fn:=f106)
theorem Yep:Uac mn PZ 106 Zl7:=(ansY (N:=1000) (mKc (Zae Zec) Zcf mKn) f106 [([6],[1])]).of (by
 intro ρ h w args vals r e hA hH hr;unfold Zl7 at hr;split at hr
 ·rename_i a0 a1
  obtain⟨rfl,rfl,hg2⟩:=BQi hr;exact Zzp a0 a1 (hA.wt 0 rfl) (hA.wt 1 rfl) hg2
 ·cases hr)
def Ze7(a0 a1:Array Value):St:=(⟨.a (.g a0 132) :: .a (.g a1 132) :: .a (.w 0) :: .a (.w 1) :: .a (.w 2) :: .a (.u) :: .a (.u) :: .a (.p 0 (2) 2) :: .a (.i .i64 (num a0 2)) :: .a (.p 1 (2) 2) :: .a (.i .i64 (num a1 2)) :: .a (.i .i64 (i64.wrap ((num a0 2)+(num a1 2)))) :: .a (.p 0 (2) 2) :: .a (.p 1 (3) 105) :: .a (.g (a1.extract 3 (3+36)) 105) :: .a (.i .i64 (0:Int))::us 19 ([]),[.row (a0.setIfInBounds 2 (.int .i64 (i64.wrap ((num a0 2)+(num a1 2))))) 132,.row a1 132,.row (zc PZ 132) 132],[0]⟩:St)
def Zgr:Int×Array Value->LS
 |(y0_15,r0_0)=>([.a (.i .i64 (y0_15))],[.row r0_0 132])
def Zmh:Int×Array Value->Exit×LS
 |t=>((.exit 0),Zgr t)
def Zcb(P:Program)(a0 a1:Array Value):Int×Array Value->Option (Stp (Int×Array Value) (Int×Array Value))
 |(y0_15,r0_0)=>bif decide (y0_15<(36:Int)) then (bif (decide (0<=y0_15)&&decide (y0_15<36)) then (bif (decide (0<=y0_15)&&decide (y0_15<36)) then (bif (decide (0<=y0_15)&&decide (y0_15<36)) then (some (.more ((i64.wrap (y0_15+(1:Int))),(r0_0.setIfInBounds (3+((y0_15).toNat*1)) (.int .i64 (i64.wrap ((num r0_0 (3+((y0_15).toNat*1)))+(num (a1.extract 3 (3+36)) ((y0_15).toNat*1)))))))))
     else (none))
    else (none))
   else (none))
  else (some (.done (y0_15,r0_0)))
noncomputable abbrev cKCxG107:=codeOf f107
def Uec:=(Uaa cKCxG107 [([15],[0])]).1
theorem Ybg(N:Nat)(a0 a1:Array Value):∀t:Int×Array Value,Uag PZ (mkΓ []) N (cAt cKCxG107 [1,1,0,1,0,0]) (pAt Uec [1,1,0,1,0]) [15] [0] (Ze7 a0 a1) (Zgr t)=mapS Zgr Zmh (Zcb PZ a0 a1 t):=by
 rintro⟨y0_15,r0_0⟩;refine Eq.trans (b:=(bif decide (y0_15<(36:Int)) then (bif (decide (0<=y0_15)&&decide (y0_15<36)) then (bif (decide (0<=y0_15)&&decide (y0_15<36)) then (bif (decide (0<=y0_15)&&decide (y0_15<36)) then (some (.more ([.a (.i .i64 (i64.wrap (y0_15+(1:Int))))],[.row (r0_0.setIfInBounds (3+((y0_15).toNat*1)) (.int .i64 (i64.wrap ((num r0_0 (3+((y0_15).toNat*1)))+(num (a1.extract 3 (3+36)) ((y0_15).toNat*1)))))) 132])))
     else (none))
    else (none))
   else (none))
  else (some (.done ((.exit 0),([.a (.i .i64 (y0_15))],[.row r0_0 132])))))) (by kernel_rfl) ?_
 simp only[Zcb,Zao,Zap,Zam,Zan,Zgr,Zmh]
def Zko(P:Program)(N:Nat)(a0 a1:Array Value)(z0_15:Int)(q0_0:Array Value):Option (SV×Eff×Bool):=some (.a (.g (q0_0.setIfInBounds 39 (.int .i64 (i64.wrap ((num q0_0 39)+(num a1 39))))) 132),.none,true)
def Ue8(N:Nat):=(Uad 0 (kSeq (veC PZ (mkΓ []) N (cAt cKCxG107 [1,1,1]) (pAt Uec [1,1,1]) (SV×Eff×Bool)) (finK PZ [] [.cell 4 132])))
theorem Zsr(N:Nat)(a0 a1:Array Value)(z0_15:Int)(q0_0:Array Value):(Ue8 N) (.exit 0) (left (writes (cAt cKCxG107 [1,1,0,1,0,0])) [15] [0] (Ze7 a0 a1) ([.a (.i .i64 (z0_15))],[.row q0_0 132]))=Zko PZ N a0 a1 z0_15 q0_0:=by refine Eq.trans (b:=(some (.a (.g (q0_0.setIfInBounds 39 (.int .i64 (i64.wrap ((num q0_0 39)+(num a1 39))))) 132),.none,true))) (by kernel_rfl) ?_;rfl
theorem Ybh(N:Nat)(a0 a1:Array Value):Uaj (Uab (Uag PZ (mkΓ []) N (cAt cKCxG107 [1,1,0,1,0,0]) (pAt Uec [1,1,0,1,0]) [15] [0] (Ze7 a0 a1)) N ([.a (.i .i64 (0:Int))],[.row (a0.setIfInBounds 2 (.int .i64 (i64.wrap ((num a0 2)+(num a1 2))))) 132])) (λe s=>(Ue8 N) e (left (writes (cAt cKCxG107 [1,1,0,1,0,0])) [15] [0] (Ze7 a0 a1) s))=Uak (Uab (Zcb PZ a0 a1) N ((0:Int),(a0.setIfInBounds 2 (.int .i64 (i64.wrap ((num a0 2)+(num a1 2))))))) (λx=>Zko PZ N a0 a1 x.1 x.2):=by refine Zau Zgr Zmh _ _ (Ybg N a0 a1) N ((0:Int),(a0.setIfInBounds 2 (.int .i64 (i64.wrap ((num a0 2)+(num a1 2)))))) _ _ ?_;intro x;exact Zsr N a0 a1 x.1 x.2
theorem Zzl(N:Nat)(a0 a1:Array Value):ansV PZ (mkΓ []) N f107 [([15],[0])] [.g a0 132,.g a1 132] []=(Uak (Uab (Zcb PZ a0 a1) N ((0:Int),(a0.setIfInBounds 2 (.int .i64 (i64.wrap ((num a0 2)+(num a1 2))))))) (λx=>Zko PZ N a0 a1 x.1 x.2)):=by refine Eq.trans (b:=(Uaj (Uab (Uag PZ (mkΓ []) N (cAt cKCxG107 [1,1,0,1,0,0]) (pAt Uec [1,1,0,1,0]) [15] [0] (Ze7 a0 a1)) N ([.a (.i .i64 (0:Int))],[.row (a0.setIfInBounds 2 (.int .i64 (i64.wrap ((num a0 2)+(num a1 2))))) 132])) (λe s=>(Ue8 N) e (left (writes (cAt cKCxG107 [1,1,0,1,0,0])) [15] [0] (Ze7 a0 a1) s)))) (by kernel_rfl) ?_;simp only[Ybh N a0 a1]
theorem Zxc(a0 a1:Array Value)(h_a0:WT PZ 132 a0)(h_a1:WT PZ 132 a1)(hg:(true)=true):ansV PZ (mkΓ []) 1000 f107 [([15],[0])] [.g a0 132,.g a1 132] []=some (.a (.g (togV a0 a1) 132),.none,true):=by
 have hz:a1.size=40:=by rw[h_a1.layLen];kernel_rfl
 refine(Zzl 1000 a0 a1).trans ?_;have h:=Zh6 (g:=Zcb PZ a0 a1) (λr k=>((k:Int),r)) (togF a1) (m:=36) (t:=adN a0 2 (num a1 2)) (x:=((36:Int),folds (togF a1) (adN a0 2 (num a1 2)) 36)) (N:=1000) (λk s hk _=>by
  have h1:decide ((k:Int)<36)=true:=Q3 (by omega);have h0:decide (0<=(k:Int))=true:=Q3 (by omega);have h3:i64.wrap ((k:Int)+1)=((k+1:Nat):Int):=by rw[w64 (by omega)];omega
  have h5:=cell_num (T:=0) hz k hk;simp only[Zcb,h1,h0,h3,Q9,jA,Q1,h5];rfl) (by
  have h1:decide (((36:Nat):Int)<36)=false:=by decide
  simp only[Zcb,h1,Q2];rfl) (by omega)
 have h':Uab (Zcb PZ a0 a1) 1000 ((0:Int),adN a0 2 (num a1 2))=some ((36:Int),folds (togF a1) (adN a0 2 (num a1 2)) 36):=h
 show Uak (Uab (Zcb PZ a0 a1) 1000 ((0:Int),adN a0 2 (num a1 2))) _=_
 rw[h'];unfold togV;generalize folds (togF a1) (adN a0 2 (num a1 2)) 36=q;rfl
def Zk1:Con:=λargs h=>match args,h with
 |[.g a0 132,.g a1 132],[]=>some (.a (.g (togV a0 a1) 132),.none,true)
 |_,_=>none
theorem Zvt:EntX PZ 107:=Zah (fn:=f107)
theorem Ycy:Uac mn PZ 107 Zk1:=(ansY (N:=1000) mKn f107 [([15],[0])]).of (by
 intro ρ h w args vals r e hA hH hr;unfold Zk1 at hr;split at hr
 ·rename_i a0 a1
  obtain⟨rfl,rfl,hg2⟩:=BQi hr;exact Zxc a0 a1 (hA.wt 0 rfl) (hA.wt 1 rfl) hg2
 ·cases hr)
end
end Go.Proofs.YtdfefaanfiheoaaGreatDoor
