/- An hour as it is asked; what flows, what rests, and both together; in company. -/
import Derived.Test.YtdfefaanfiheoaaGreatDoorProg
import Derived.Test.YtdfefaanfiheoaaGreatDoorCxF
open _root_.Bool renaming and_self→jA
namespace Go.Proofs.YtdfefaanfiheoaaGreatDoor
open Go.ChangeShapes Go.WideShapes Go.ChangeAt Go.RowKit Ve Vc
open Tryz renaming prog → PZ
open IntKind (i64)
set_option linter.unusedVariables false
set_option linter.unusedSimpArgs false
set_option maxRecDepth 100000
noncomputable section
variable {mn:Md}
def Zcd:Cons:=(mkΓ [(70,con Zj0),(123,con Zk6)])
def Zfk (a0 a1:Array Value) (y0_7:Int) (r0_22:Array Value):St:=(⟨.a (.w 0) :: .a (.w 1) :: .a (.u) :: .a (.u) :: .a (.w 2) :: .a (.w 22) :: .a (.i .i8 (((IntKind.i8.wrap ((num a1 0)+(num a1 1)))).tmod (2:Int))) :: .a (.i .i64 (y0_7)) :: .a (.i .i64 (0:Int)) :: .a (.x) :: .a (.x) :: .a (.w 1) :: .a (.w 1) :: .a (.p 1 (0) 22) :: .a (.i .i8 (num a1 0)) :: .a (.w 1) :: .a (.w 1) :: .a (.p 1 (1) 22) :: .a (.i .i8 (num a1 1)) :: .a (.i .i8 (IntKind.i8.wrap ((num a1 1)+(1:Int)))) :: .a (.w 1) :: .a (.w 1) :: .a (.p 1 (2) 2) :: .a (.i .i64 (num a1 2)) :: .a (.w 1) :: .a (.w 1) :: .a (.p 1 (39) 2) :: .a (.i .i64 (num a1 39)) :: .a (.i .i64 (i64.wrap ((num a1 39)*(12:Int)))) :: .a (.g (((((zc PZ 132).setIfInBounds 0 (.int .i8 (num a1 0))).setIfInBounds 1 (.int .i8 (IntKind.i8.wrap ((num a1 1)+(1:Int))))).setIfInBounds 2 (.int .i64 (num a1 2))).setIfInBounds 39 (.int .i64 (i64.wrap ((num a1 39)*(12:Int))))) 132) :: .a (.w 1) :: .a (.w 1) :: .a (.p 1 (0) 22) :: .a (.i .i8 (num a1 0)) :: .a (.w 1) :: .a (.w 1) :: .a (.p 1 (1) 22) :: .a (.i .i8 (num a1 1)) :: .a (.i .i8 (IntKind.i8.wrap ((num a1 0)+(num a1 1)))) :: .a (.i .i8 (((IntKind.i8.wrap ((num a1 0)+(num a1 1)))).tmod (2:Int))) :: .a (.i .i64 (y0_7)) :: .a (.b (decide (y0_7<(36:Int)))) :: .a (.x) :: .a (.x) :: .a (.w 0) :: .a (.i .i64 (y0_7)) :: .a (.b ((Zaj y0_7 a0))) :: .a (.b ((!((Zaj y0_7 a0)))))::xs 55 (.a (.u)::[]),[.row a0 37,.row a1 132,.row (zc PZ 132) 132,.no,.no,.no,.no,.no,.no,.no,.no,.no,.no,.no,.no,.no,.no,.no,.no,.no,.no,.no,.row r0_22 132,.no,.no,.no,.no,.no,.no,.no,.no,.no,.no,.no,.no],[22]⟩:St)
def Zeb:Int×Array Value→LS
 | (y1_8,r1_22)=>([.a (.i .i64 (y1_8))],[.row r1_22 132])
def Zha:Int×Array Value→Exit×LS
 | t=>((.exit 2),Zeb t)
def Zce (P : Program) (a0 a1 : Array Value) (y0_7 : Int) (r0_22 : Array Value) : Int × Array Value → Option (Stp (Int × Array Value) (Int × Array Value))
 | (y1_8, r1_22) => bif decide (y1_8 < (5 : Int)) then (bif (decide (0 ≤ y0_7) && decide (y0_7 < 36)) then (bif (decide (0 ≤ (((IntKind.i8.wrap ((num a1 0) + (num a1 1)))).tmod (2 : Int))) && decide ((((IntKind.i8.wrap ((num a1 0) + (num a1 1)))).tmod (2 : Int)) < 2)) then (bif (decide (0 ≤ y0_7) && decide (y0_7 < 36)) then (bif (decide (0 ≤ y1_8) && decide (y1_8 < 5)) then (bif decide ((Zaf y0_7 y1_8 a0) < (0 : Int)) then (some (.more ((i64.wrap (y1_8 + (1 : Int))), (r1_22.setIfInBounds 39 (.int .i64 (i64.wrap ((num r1_22 39) + (i64.wrap ((num a1 (3 + ((y0_7).toNat * 1))) * (i64.wrap (num a0 (((3 + ((((IntKind.i8.wrap ((num a1 0) + (num a1 1)))).tmod (2 : Int)).toNat * 180)) + ((y0_7).toNat * 5)) + ((y1_8).toNat * 1)))))))))))))
       else (bif (decide (0 ≤ (Zaf y0_7 y1_8 a0)) && decide ((Zaf y0_7 y1_8 a0) < 36)) then (bif (decide (0 ≤ (Zaf y0_7 y1_8 a0)) && decide ((Zaf y0_7 y1_8 a0) < 36)) then (some (.more ((i64.wrap (y1_8 + (1 : Int))), (r1_22.setIfInBounds (3 + ((Zaf y0_7 y1_8 a0).toNat * 1)) (.int .i64 (i64.wrap ((num r1_22 (3 + ((Zaf y0_7 y1_8 a0).toNat * 1))) + (i64.wrap ((num a1 (3 + ((y0_7).toNat * 1))) * (i64.wrap (num a0 (((3 + ((((IntKind.i8.wrap ((num a1 0) + (num a1 1)))).tmod (2 : Int)).toNat * 180)) + ((y0_7).toNat * 5)) + ((y1_8).toNat * 1)))))))))))))
         else (none))
        else (none)))
      else (none))
     else (none))
    else (none))
   else (none))
  else (some (.done (y1_8, r1_22)))
def Ub4:=(Uaa (codeOf Tryz.f120) [([7],[22]),([8],[22])]).1
theorem Zmv (N:Nat) (a0 a1:Array Value) (y0_7:Int) (r0_22:Array Value):∀ t:Int×Array Value,Uag PZ Zcd N (cAt (codeOf Tryz.f120) [1,1,1,0,1,0,0,1,0,0,1,1,0,0]) (pAt Ub4 [1,1,1,0,1,0,1,0,1,1,0]) [8] [22] (Zfk a0 a1 y0_7 r0_22) (Zeb t)=mapS Zeb Zha (Zce PZ a0 a1 y0_7 r0_22 t):=by
 rintro ⟨y1_8,r1_22⟩
 refine Eq.trans (b:=(bif decide (y1_8<(5:Int)) then (bif (decide (0≤y0_7)&&decide (y0_7<36)) then (bif (decide (0≤(((IntKind.i8.wrap ((num a1 0)+(num a1 1)))).tmod (2:Int)))&&decide ((((IntKind.i8.wrap ((num a1 0)+(num a1 1)))).tmod (2:Int))<2)) then (bif (decide (0≤y0_7)&&decide (y0_7<36)) then (bif (decide (0≤y1_8)&&decide (y1_8<5)) then (bif decide ((Zaf y0_7 y1_8 a0)<(0:Int)) then (some (.more ([.a (.i .i64 (i64.wrap (y1_8+(1:Int))))],[.row (r1_22.setIfInBounds 39 (.int .i64 (i64.wrap ((num r1_22 39)+(i64.wrap ((num a1 (3+((y0_7).toNat*1)))*(i64.wrap (num a0 (((3+((((IntKind.i8.wrap ((num a1 0)+(num a1 1)))).tmod (2:Int)).toNat*180))+((y0_7).toNat*5))+((y1_8).toNat*1)))))))))) 132])))
       else (bif (decide (0≤(Zaf y0_7 y1_8 a0))&&decide ((Zaf y0_7 y1_8 a0)<36)) then (bif (decide (0≤(Zaf y0_7 y1_8 a0))&&decide ((Zaf y0_7 y1_8 a0)<36)) then (some (.more ([.a (.i .i64 (i64.wrap (y1_8+(1:Int))))],[.row (r1_22.setIfInBounds (3+((Zaf y0_7 y1_8 a0).toNat*1)) (.int .i64 (i64.wrap ((num r1_22 (3+((Zaf y0_7 y1_8 a0).toNat*1)))+(i64.wrap ((num a1 (3+((y0_7).toNat*1)))*(i64.wrap (num a0 (((3+((((IntKind.i8.wrap ((num a1 0)+(num a1 1)))).tmod (2:Int)).toNat*180))+((y0_7).toNat*5))+((y1_8).toNat*1)))))))))) 132])))
         else (none))
        else (none)))
      else (none))
     else (none))
    else (none))
   else (none))
  else (some (.done ((.exit 2),([.a (.i .i64 (y1_8))],[.row r1_22 132])))))) (by kernel_rfl) ?_
 simp only [Zce,Zas,Zat,Zar,Zaq,Zeb,Zha]
def Zft (a0 a1:Array Value):St:=(⟨.a (.w 0) :: .a (.w 1) :: .a (.u) :: .a (.u) :: .a (.w 2) :: .a (.w 22) :: .a (.i .i8 (((IntKind.i8.wrap ((num a1 0)+(num a1 1)))).tmod (2:Int))) :: .a (.i .i64 (0:Int))::us 3 (.a (.w 1) :: .a (.w 1) :: .a (.p 1 (0) 22) :: .a (.i .i8 (num a1 0)) :: .a (.w 1) :: .a (.w 1) :: .a (.p 1 (1) 22) :: .a (.i .i8 (num a1 1)) :: .a (.i .i8 (IntKind.i8.wrap ((num a1 1)+(1:Int)))) :: .a (.w 1) :: .a (.w 1) :: .a (.p 1 (2) 2) :: .a (.i .i64 (num a1 2)) :: .a (.w 1) :: .a (.w 1) :: .a (.p 1 (39) 2) :: .a (.i .i64 (num a1 39)) :: .a (.i .i64 (i64.wrap ((num a1 39)*(12:Int)))) :: .a (.g (((((zc PZ 132).setIfInBounds 0 (.int .i8 (num a1 0))).setIfInBounds 1 (.int .i8 (IntKind.i8.wrap ((num a1 1)+(1:Int))))).setIfInBounds 2 (.int .i64 (num a1 2))).setIfInBounds 39 (.int .i64 (i64.wrap ((num a1 39)*(12:Int))))) 132) :: .a (.w 1) :: .a (.w 1) :: .a (.p 1 (0) 22) :: .a (.i .i8 (num a1 0)) :: .a (.w 1) :: .a (.w 1) :: .a (.p 1 (1) 22) :: .a (.i .i8 (num a1 1)) :: .a (.i .i8 (IntKind.i8.wrap ((num a1 0)+(num a1 1)))) :: .a (.i .i8 (((IntKind.i8.wrap ((num a1 0)+(num a1 1)))).tmod (2:Int)))::us 64 ([])),[.row a0 37,.row a1 132,.row (zc PZ 132) 132,.no,.no,.no,.no,.no,.no,.no,.no,.no,.no,.no,.no,.no,.no,.no,.no,.no,.no,.no,.row (((((zc PZ 132).setIfInBounds 0 (.int .i8 (num a1 0))).setIfInBounds 1 (.int .i8 (IntKind.i8.wrap ((num a1 1)+(1:Int))))).setIfInBounds 2 (.int .i64 (num a1 2))).setIfInBounds 39 (.int .i64 (i64.wrap ((num a1 39)*(12:Int))))) 132,.no,.no,.no,.no,.no,.no,.no,.no,.no,.no,.no,.no],[22]⟩:St)
def Zcj:Int×Array Value→LS
 | (y0_7,r0_22)=>([.a (.i .i64 (y0_7))],[.row r0_22 132])
def Zd8:Int×Array Value→Exit×LS
 | t=>((.exit 0),Zcj t)
def Zfg (P:Program) (N:Nat) (a0 a1:Array Value) (y0_7:Int) (r0_22:Array Value) (z1_8:Int) (q1_22:Array Value):Option (Stp (Int×Array Value) (Int×Array Value)):=some (.more ((i64.wrap (y0_7+(1:Int))),q1_22))
def Ue2 (N:Nat):=(Uad 2 (Uad 1 (kSeq (veC PZ Zcd N (cAt (codeOf Tryz.f120) [1,1,1,0,1,0,0,1,1]) (pAt Ub4 [1,1,1,0,1,0,1,1]) (Stp LS (Exit×LS))) (Uee 35 [7] [22]))))
theorem Zsc (N:Nat) (a0 a1:Array Value) (y0_7:Int) (r0_22:Array Value) (z1_8:Int) (q1_22:Array Value):(Ue2 N) (.exit 2) (left (writes (cAt (codeOf Tryz.f120) [1,1,1,0,1,0,0,1,0,0,1,1,0,0])) [8] [22] (Zfk a0 a1 y0_7 r0_22) ([.a (.i .i64 (z1_8))],[.row q1_22 132]))=mapS Zcj Zd8 (Zfg PZ N a0 a1 y0_7 r0_22 z1_8 q1_22):=by
 refine Eq.trans (b:=(some (.more ([.a (.i .i64 (i64.wrap (y0_7+(1:Int))))],[.row q1_22 132])))) (by kernel_rfl) ?_
 simp only [Zfg,Zas,Zat,Zar,Zaq,Zcj,Zd8]
theorem Ydm (N:Nat) (a0 a1:Array Value) (y0_7:Int) (r0_22:Array Value):Uah (Uab (Uag PZ Zcd N (cAt (codeOf Tryz.f120) [1,1,1,0,1,0,0,1,0,0,1,1,0,0]) (pAt Ub4 [1,1,1,0,1,0,1,0,1,1,0]) [8] [22] (Zfk a0 a1 y0_7 r0_22)) N ([.a (.i .i64 (0:Int))],[.row r0_22 132])) (fun e s=>(Ue2 N) e (left (writes (cAt (codeOf Tryz.f120) [1,1,1,0,1,0,0,1,0,0,1,1,0,0])) [8] [22] (Zfk a0 a1 y0_7 r0_22) s))=mapS Zcj Zd8 (Uai (Uab (Zce PZ a0 a1 y0_7 r0_22) N ((0:Int),r0_22)) (fun x=>Zfg PZ N a0 a1 y0_7 r0_22 x.1 x.2)):=by
 rw [Ygd Zcj Zd8]
 first
 | (have h:=Zav (α:=Stp LS (Exit×LS)) Zeb Zha _ _ (Zmv N a0 a1 y0_7 r0_22) N ((0:Int),r0_22);refine h _ _ ?_)
 | (have h:=Zav (α:=Stp BS (Exit×BS)) Zeb Zha _ _ (Zmv N a0 a1 y0_7 r0_22) N ((0:Int),r0_22);refine h _ _ ?_)
 | (have h:=Zav (α:=Stp LS ((Exit×LS) ⊕ (SV×Eff×Bool))) Zeb Zha _ _ (Zmv N a0 a1 y0_7 r0_22) N ((0:Int),r0_22);refine h _ _ ?_)
 intro x;exact Zsc N a0 a1 y0_7 r0_22 x.1 x.2
def Zco (P : Program) (N : Nat) (a0 a1 : Array Value) : Int × Array Value → Option (Stp (Int × Array Value) (Int × Array Value))
 | (y0_7, r0_22) => bif decide (y0_7 < (36 : Int)) then (bif (Zbh y0_7 a0) then (bif (!((Zaj y0_7 a0))) then (bif (decide (0 ≤ y0_7) && decide (y0_7 < 36)) then (bif (decide (0 ≤ y0_7) && decide (y0_7 < 36)) then (bif (decide (0 ≤ y0_7) && decide (y0_7 < 36)) then (some (.more ((i64.wrap (y0_7 + (1 : Int))), (r0_22.setIfInBounds (3 + ((y0_7).toNat * 1)) (.int .i64 (i64.wrap ((num r0_22 (3 + ((y0_7).toNat * 1))) + (i64.wrap ((num a1 (3 + ((y0_7).toNat * 1))) * (12 : Int))))))))))
       else (none))
      else (none))
     else (none))
    else (Uai (Uab (Zce P a0 a1 y0_7 r0_22) N ((0 : Int), r0_22)) (fun x => Zfg P N a0 a1 y0_7 r0_22 x.1 x.2)))
   else (none))
  else (some (.done (y0_7, r0_22)))
theorem Ydq (N:Nat) (a0 a1:Array Value):∀ t:Int×Array Value,Uag PZ Zcd N (cAt (codeOf Tryz.f120) [1,1,1,0,1,0,0]) (pAt Ub4 [1,1,1,0,1,0]) [7] [22] (Zft a0 a1) (Zcj t)=mapS Zcj Zd8 (Zco PZ N a0 a1 t):=by
 rintro ⟨y0_7,r0_22⟩
 refine Eq.trans (b:=(bif decide (y0_7<(36:Int)) then (bif (Zbh y0_7 a0) then (bif (!((Zaj y0_7 a0))) then (bif (decide (0≤y0_7)&&decide (y0_7<36)) then (bif (decide (0≤y0_7)&&decide (y0_7<36)) then (bif (decide (0≤y0_7)&&decide (y0_7<36)) then (some (.more ([.a (.i .i64 (i64.wrap (y0_7+(1:Int))))],[.row (r0_22.setIfInBounds (3+((y0_7).toNat*1)) (.int .i64 (i64.wrap ((num r0_22 (3+((y0_7).toNat*1)))+(i64.wrap ((num a1 (3+((y0_7).toNat*1)))*(12:Int))))))) 132])))
       else (none))
      else (none))
     else (none))
    else (Uah (Uab (Uag PZ Zcd N (cAt (codeOf Tryz.f120) [1,1,1,0,1,0,0,1,0,0,1,1,0,0]) (pAt Ub4 [1,1,1,0,1,0,1,0,1,1,0]) [8] [22] (Zfk a0 a1 y0_7 r0_22)) N ([.a (.i .i64 (0:Int))],[.row r0_22 132])) (fun e s=>(Ue2 N) e (left (writes (cAt (codeOf Tryz.f120) [1,1,1,0,1,0,0,1,0,0,1,1,0,0])) [8] [22] (Zfk a0 a1 y0_7 r0_22) s))))
   else (none))
  else (some (.done ((.exit 0),([.a (.i .i64 (y0_7))],[.row r0_22 132])))))) (by kernel_rfl) ?_
 simp only [Ydm N a0 a1 y0_7 r0_22,Zco,Zas,Zat,Zar,Zaq,Zcj,Zd8]
def Zki (P:Program) (N:Nat) (a0 a1:Array Value) (z0_7:Int) (q0_22:Array Value):Option (SV×Eff×Bool):=some (.a (.g q0_22 132),.none,true)
def Uez (N:Nat) (a0 a1:Array Value):=(Uad 0 (kSeq (veC PZ Zcd N (cAt (codeOf Tryz.f120) [1,1,1,1]) (pAt Ub4 [1,1,1,1]) (SV×Eff×Bool)) (finK PZ [.row a0 37,.row a1 132] [.cell 4 132])))
theorem Zs3 (N:Nat) (a0 a1:Array Value) (z0_7:Int) (q0_22:Array Value):(Uez N a0 a1) (.exit 0) (left (writes (cAt (codeOf Tryz.f120) [1,1,1,0,1,0,0])) [7] [22] (Zft a0 a1) ([.a (.i .i64 (z0_7))],[.row q0_22 132]))=Zki PZ N a0 a1 z0_7 q0_22:=by
 refine Eq.trans (b:=(some (.a (.g q0_22 132),.none,true))) (by kernel_rfl) ?_
 rfl
theorem Yd9 (N:Nat) (a0 a1:Array Value):Uah (Uab (Uag PZ Zcd N (cAt (codeOf Tryz.f120) [1,1,1,0,1,0,0]) (pAt Ub4 [1,1,1,0,1,0]) [7] [22] (Zft a0 a1)) N ([.a (.i .i64 (0:Int))],[.row (((((zc PZ 132).setIfInBounds 0 (.int .i8 (num a1 0))).setIfInBounds 1 (.int .i8 (IntKind.i8.wrap ((num a1 1)+(1:Int))))).setIfInBounds 2 (.int .i64 (num a1 2))).setIfInBounds 39 (.int .i64 (i64.wrap ((num a1 39)*(12:Int))))) 132])) (fun e s=>(Uez N a0 a1) e (left (writes (cAt (codeOf Tryz.f120) [1,1,1,0,1,0,0])) [7] [22] (Zft a0 a1) s))=Uai (Uab (Zco PZ N a0 a1) N ((0:Int),(((((zc PZ 132).setIfInBounds 0 (.int .i8 (num a1 0))).setIfInBounds 1 (.int .i8 (IntKind.i8.wrap ((num a1 1)+(1:Int))))).setIfInBounds 2 (.int .i64 (num a1 2))).setIfInBounds 39 (.int .i64 (i64.wrap ((num a1 39)*(12:Int))))))) (fun x=>Zki PZ N a0 a1 x.1 x.2):=by
 refine Zav Zcj Zd8 _ _ (Ydq N a0 a1) N ((0:Int),(((((zc PZ 132).setIfInBounds 0 (.int .i8 (num a1 0))).setIfInBounds 1 (.int .i8 (IntKind.i8.wrap ((num a1 1)+(1:Int))))).setIfInBounds 2 (.int .i64 (num a1 2))).setIfInBounds 39 (.int .i64 (i64.wrap ((num a1 39)*(12:Int)))))) _ _ ?_
 intro x;exact Zs3 N a0 a1 x.1 x.2
theorem Zz0 (N:Nat) (a0 a1:Array Value):ansV PZ Zcd N Tryz.f120 [([7],[22]),([8],[22])] [.w 0,.w 1] [.row a0 37,.row a1 132]=(Uai (Uab (Zco PZ N a0 a1) N ((0:Int),(((((zc PZ 132).setIfInBounds 0 (.int .i8 (num a1 0))).setIfInBounds 1 (.int .i8 (IntKind.i8.wrap ((num a1 1)+(1:Int))))).setIfInBounds 2 (.int .i64 (num a1 2))).setIfInBounds 39 (.int .i64 (i64.wrap ((num a1 39)*(12:Int))))))) (fun x=>Zki PZ N a0 a1 x.1 x.2)):=by
 refine Eq.trans (b:=(Uah (Uab (Uag PZ Zcd N (cAt (codeOf Tryz.f120) [1,1,1,0,1,0,0]) (pAt Ub4 [1,1,1,0,1,0]) [7] [22] (Zft a0 a1)) N ([.a (.i .i64 (0:Int))],[.row (((((zc PZ 132).setIfInBounds 0 (.int .i8 (num a1 0))).setIfInBounds 1 (.int .i8 (IntKind.i8.wrap ((num a1 1)+(1:Int))))).setIfInBounds 2 (.int .i64 (num a1 2))).setIfInBounds 39 (.int .i64 (i64.wrap ((num a1 39)*(12:Int))))) 132])) (fun e s=>(Uez N a0 a1) e (left (writes (cAt (codeOf Tryz.f120) [1,1,1,0,1,0,0])) [7] [22] (Zft a0 a1) s)))) (by kernel_rfl) ?_
 simp only [Yd9 N a0 a1]
theorem dec2 {a b:Int} (h1:0≤a) (h2:a<b):(decide (0≤a)&&decide (a<b))=true:=by rw [Q3 h1,Q3 h2];rfl
def adN (r:Array Value) (i:Nat) (m:Int):Array Value:=r.setIfInBounds i (.int .i64 (i64.wrap (num r i+m)))
def tdS (X:Array Value):Int:=(IntKind.i8.wrap (num X 0+num X 1)).tmod 2
def muF (S X:Array Value) (t:Int) (k w:Nat):Int:=i64.wrap (num X (3+k*1)*chW S t (k:Int) w)
def wayF (S X:Array Value) (t:Int) (k:Nat) (r:Array Value) (w:Nat):Array Value:=bif decide (Zaf (k:Int) (w:Int) S<0) then adN r 39 (muF S X t k w) else adN r (3+(Zaf (k:Int) (w:Int) S).toNat*1) (muF S X t k w)
def Ueq (S X:Array Value) (t:Int) (r:Array Value) (k:Nat):Array Value:=bif Zaj (k:Int) S then folds (wayF S X t k) r 5 else adN r (3+k*1) (i64.wrap (num X (3+k*1)*12))
def Ubs (P:Program) (X:Array Value):Array Value:=((((zc P 132).setIfInBounds 0 (.int .i8 (num X 0))).setIfInBounds 1 (.int .i8 (IntKind.i8.wrap (num X 1+1)))).setIfInBounds 2 (.int .i64 (num X 2))).setIfInBounds 39 (.int .i64 (i64.wrap (num X 39*12)))
def Ubf (P:Program) (S X:Array Value):Array Value:=folds (Ueq S X (tdS X)) (Ubs P X) 36
theorem Yf5 {S:Array Value} (h0:1≤num S 0∧num S 0≤6∧1≤num S 1∧num S 1≤6) {k:Nat} (hk:k<36) (hi:inC (num S 0) (num S 1) k=true) {w:Nat} (hw:w<5) (hn:¬ Zaf (k:Int) (w:Int) S<0):0≤Zaf (k:Int) (w:Int) S∧Zaf (k:Int) (w:Int) S<36:=by
 rw [Yec h0 hk hi w hw] at hn⊢
 exact Yby h0 hk hi w hw (by omega)
theorem Zyx (a0 a1:Array Value) (h_a0:WT PZ 37 a0) (h_a1:WT PZ 132 a1) (hg:((okS a0&&(decide (0≤tdS a1)&&decide (tdS a1<2))))=true):ansV PZ Zcd 1000 Tryz.f120 [([7],[22]),([8],[22])] [.w 0,.w 1] [.row a0 37,.row a1 132]=some (.a (.g (Ubf PZ a0 a1) 132),.none,true):=by
 rw [Q7] at hg
 obtain ⟨hok,ht⟩:=hg
 have hdm:=Zsb hok
 refine (Zz0 1000 a0 a1).trans ?_
 have hT:(IntKind.i8.wrap (num a1 0+num a1 1)).tmod 2=tdS a1:=rfl
 have h:=Zhu (g:=Zco PZ 1000 a0 a1) (fun r k=>((k:Int),r)) (Ueq a0 a1 (tdS a1)) (m:=36) (t:=Ubs PZ a1) (x:=((36:Int),Ubf PZ a0 a1)) (N:=1000) (fun k s hk _=>by
  have h1:decide ((k:Int)<36)=true:=Q3 (by omega)
  have h0:decide (0≤(k:Int))=true:=Q3 (by omega)
  have h3:i64.wrap ((k:Int)+1)=((k+1:Nat):Int):=by rw [w64 (by omega)];omega
  obtain ⟨w1,w2⟩:=Yd0 h_a0 hk
  unfold Ueq
  cases hw:Zaj (k:Int) a0 with
  | false=>
   simp only [Zco,h1,h0,h3,w1,hw,Q9,jA,Bool.not_false,Q1,Q2]
   rfl
  | true=>
   rw [hw] at w2
   have hi:inC (num a0 0) (num a0 1) k=true:=(Bool.and_eq_true_iff.1 w2.symm).1
   have hin:=Zhu (g:=Zce PZ a0 a1 (k:Int) s) (fun r w=>((w:Int),r)) (wayF a0 a1 (tdS a1) k) (m:=5) (t:=s) (x:=((5:Int),folds (wayF a0 a1 (tdS a1) k) s 5)) (N:=1000) (fun w r hw5 _=>by
    have e1:decide ((w:Int)<5)=true:=Q3 (by omega)
    have e0:decide (0≤(w:Int))=true:=Q3 (by omega)
    have e3:i64.wrap ((w:Int)+1)=((w+1:Nat):Int):=by rw [w64 (by omega)];omega
    have e4:i64.wrap (num a1 (3+k*1)*i64.wrap (num a0 (3+(tdS a1).toNat*180+k*5+w*1)))=muF a0 a1 (tdS a1) k w:=by unfold muF chW;rw [Q9,Nat.mul_one w]
    unfold wayF
    by_cases hg:Zaf (k:Int) (w:Int) a0<0
    ·simp only [Zce,e1,e0,e3,h1,h0,hT,ht,Q9,jA,Q1,Q3 hg,e4]
     rfl
    ·obtain ⟨r1,r2⟩:=Yf5 hdm hk hi hw5 hg
     simp only [Zce,e1,e0,e3,h1,h0,hT,ht,Q9,jA,Q1,Q2,Q4 hg,dec2 r1 r2,e4]
     rfl) (by
    have e1:decide (((5:Nat):Int)<5)=false:=by decide
    simp only [Zce,e1,Q2]
    rfl) (by omega)
   have hin':Uab (Zce PZ a0 a1 (k:Int) s) 1000 ((0:Int),s)=some ((5:Int),folds (wayF a0 a1 (tdS a1) k) s 5):=hin
   simp only [Zco,h1,w1,hw,Bool.not_true,Q1,Q2,hin',Uai,Zfg,h3]) (by
  have h1:decide (((36:Nat):Int)<36)=false:=by decide
  simp only [Zco,h1,Q2]
  rfl) (by omega)
 have h':Uab (Zco PZ 1000 a0 a1) 1000 ((0:Int),Ubs PZ a1)=some ((36:Int),Ubf PZ a0 a1):=h
 unfold Ubs at h'
 rw [h']
 rfl
def Zcv:Con:=fun args h=>match args,h with
 | [.w 0,.w 1],[.row a0 37,.row a1 132]=>some (.a (.g (Ubf PZ a0 a1) 132),.none,(okS a0&&(decide (0≤tdS a1)&&decide (tdS a1<2))))
 | _,_=>none
theorem Zvy:EntX PZ 120:=Zah (fn:=Tryz.f120) (by kernel_rfl) (by kernel_rfl) (by kernel_rfl)
theorem Yd1:Uac mn PZ 120 Zcv:=(Zai (N:=1000) (by kernel_rfl) (mkΓ_consX (Zae Ztd) Zn8 (mkΓ_consX (Zae Yd5) Zvq mkΓ_nilX)) (fn:=Tryz.f120) (by kernel_rfl) (by kernel_rfl) [([7],[22]),([8],[22])]).of (by
 intro ρ h w args vals r e hA hH hr
 unfold Zcv at hr
 split at hr
 ·rename_i a0 a1
  obtain ⟨rfl,rfl,hg2⟩:=BQi hr
  exact Zyx a0 a1 (hH.wt 0 rfl) (hH.wt 1 rfl) hg2
 ·cases hr)
def tdI (X:Array Value):Int:=(i64.wrap (i64.wrap (num X 0)+i64.wrap (num X 1))).tmod 2
def Uej (S X:Array Value) (t:Int) (w:Nat) (r:Array Value) (k:Nat):Array Value:=bif Uat S (k:Int) w != -1 then adN r (3+(Uat S (k:Int) w).toNat*1) (muF S X t k w) else adN r 39 (muF S X t k w)
def Ua7 (P:Program) (S X:Array Value) (w:Nat):Array Value:=folds (fun r k=>if inC (num S 0) (num S 1) k&&Zad S (k:Int) then Uej S X (tdI X) w r k else r) (zc P 132) 36
def togF (Y:Array Value) (r:Array Value) (k:Nat):Array Value:=adN r (3+k*1) (num Y (3+k*1))
def togV (X Y:Array Value):Array Value:=adN (folds (togF Y) (adN X 2 (num Y 2)) 36) 39 (num Y 39)
def Ucx (S:Array Value) (r:Array Value) (k:Nat):Array Value:=bif Zac S (k:Int) then r.setIfInBounds (3+k*1) (.int .i64 (i64.wrap (num r (3+k*1)*12))) else r.setIfInBounds (3+k*1) (.int .i64 0)
def Ucc (r:Array Value):Array Value:=r.setIfInBounds 39 (.int .i64 (i64.wrap (num r 39*12)))
def Ub6 (S X:Array Value):Array Value:=(Ucc (folds (Ucx S) X 36)).setIfInBounds 1 (.int .i8 (IntKind.i8.wrap (num (Ucc (folds (Ucx S) X 36)) 1+1)))
def Zhw:Cons:=(mkΓx [(121,con Zm3),(122,con Zlg)] [(92,Zj8)] [(110,Zfz)])
def Zd4 (a0 a1:Array Value) (a2:Int):St:=(⟨.a (.g a0 37) :: .a (.g a1 132) :: .a (.i .i64 (a2)) :: .a (.w 0) :: .a (.w 1) :: .a (.w 2) :: .a (.w 3) :: .a (.w 4) :: .a (.w 12)::us 3 (.a (.p 1 (0) 22) :: .a (.i .i8 (num a1 0)) :: .a (.i .i64 (i64.wrap (num a1 0))) :: .a (.p 1 (1) 22) :: .a (.i .i8 (num a1 1)) :: .a (.i .i64 (i64.wrap (num a1 1))) :: .a (.i .i64 (((i64.wrap ((i64.wrap (num a1 0))+(i64.wrap (num a1 1))))).tmod (2:Int))) :: .a (.g a0 37) :: .a (.c 110 [17])::us 35 ([])),[.row a0 37,.row a1 132,.row #[.int .i64 (a2)] 2,.row (zc PZ 132) 132,.row (zc PZ 132) 132,.no,.no,.no,.no,.no,.no,.no,.row #[.int .i64 (((i64.wrap ((i64.wrap (num a1 0))+(i64.wrap (num a1 1))))).tmod (2:Int))] 2,.no,.no,.no,.no,.row a0 37,.no,.no,.no,.no],[12]⟩:St)
def Zkr:Array Value→BS
 | r0_4=>([.row r0_4 132]:BS)
def Zn1:Empty→Exit×BS:=fun x=>nomatch x
def Zgn (P : Program) (a0 a1 : Array Value) (a2 : Int) (x0 : Int) : Array Value → Option (Stp (Array Value) Empty)
  | r0_4 => bif (decide (0 ≤ x0) && decide (x0 < 36)) then (bif (decide (0 ≤ (((i64.wrap ((i64.wrap (num a1 0)) + (i64.wrap (num a1 1))))).tmod (2 : Int))) && decide ((((i64.wrap ((i64.wrap (num a1 0)) + (i64.wrap (num a1 1))))).tmod (2 : Int)) < 2)) then (bif (decide (0 ≤ x0) && decide (x0 < 36)) then (bif (decide (0 ≤ a2) && decide (a2 < 5)) then (bif (decide (0 ≤ a2) && decide (a2 < 5)) then (bif ((Uat a0 x0 a2.toNat) != (-1 : Int)) then (bif (decide (0 ≤ (Uat a0 x0 a2.toNat)) && decide ((Uat a0 x0 a2.toNat) < 36)) then (bif (decide (0 ≤ (Uat a0 x0 a2.toNat)) && decide ((Uat a0 x0 a2.toNat) < 36)) then (some (.more (r0_4.setIfInBounds (3 + ((Uat a0 x0 a2.toNat).toNat * 1)) (.int .i64 (i64.wrap ((num r0_4 (3 + ((Uat a0 x0 a2.toNat).toNat * 1))) + (i64.wrap ((num a1 (3 + ((x0).toNat * 1))) * (i64.wrap (num a0 (((3 + ((((i64.wrap ((i64.wrap (num a1 0)) + (i64.wrap (num a1 1))))).tmod (2 : Int)).toNat * 180)) + ((x0).toNat * 5)) + ((a2).toNat * 1))))))))))))
                  else (none))
                else (none))
              else (some (.more (r0_4.setIfInBounds 39 (.int .i64 (i64.wrap ((num r0_4 39) + (i64.wrap ((num a1 (3 + ((x0).toNat * 1))) * (i64.wrap (num a0 (((3 + ((((i64.wrap ((i64.wrap (num a1 0)) + (i64.wrap (num a1 1))))).tmod (2 : Int)).toNat * 180)) + ((x0).toNat * 5)) + ((a2).toNat * 1)))))))))))))
            else (none))
          else (none))
        else (none))
      else (none))
    else (none)
def Udx:=(Uaa (codeOf Tryz.f116) [([],[4])]).1
theorem Ye2 (N:Nat) (a0 a1:Array Value) (a2:Int) (x0:Int):∀ t:Array Value,Ud6 PZ Zhw N (cAt (codeOf Tryz.f116) [1,1,1,0,1,0,0]) (pAt Udx [1,1,1,0,1,0]) 22 [4] [21] [(9,21)] (Zd4 a0 a1 a2) [.i .i64 (x0)] (Zkr t)=mapS Zkr Zn1 (Zgn PZ a0 a1 a2 x0 t):=by
 rintro r0_4
 refine Eq.trans (b:=(bif (decide (0≤x0)&&decide (x0<36)) then (bif (decide (0≤(((i64.wrap ((i64.wrap (num a1 0))+(i64.wrap (num a1 1))))).tmod (2:Int)))&&decide ((((i64.wrap ((i64.wrap (num a1 0))+(i64.wrap (num a1 1))))).tmod (2:Int))<2)) then (bif (decide (0≤x0)&&decide (x0<36)) then (bif (decide (0≤a2)&&decide (a2<5)) then (bif (decide (0≤a2)&&decide (a2<5)) then (bif ((Uat a0 x0 a2.toNat) != (-1:Int)) then (bif (decide (0≤(Uat a0 x0 a2.toNat))&&decide ((Uat a0 x0 a2.toNat)<36)) then (bif (decide (0≤(Uat a0 x0 a2.toNat))&&decide ((Uat a0 x0 a2.toNat)<36)) then (some (.more ([.row (r0_4.setIfInBounds (3+((Uat a0 x0 a2.toNat).toNat*1)) (.int .i64 (i64.wrap ((num r0_4 (3+((Uat a0 x0 a2.toNat).toNat*1)))+(i64.wrap ((num a1 (3+((x0).toNat*1)))*(i64.wrap (num a0 (((3+((((i64.wrap ((i64.wrap (num a1 0))+(i64.wrap (num a1 1))))).tmod (2:Int)).toNat*180))+((x0).toNat*5))+((a2).toNat*1)))))))))) 132]:BS)))
         else (none))
        else (none))
       else (some (.more ([.row (r0_4.setIfInBounds 39 (.int .i64 (i64.wrap ((num r0_4 39)+(i64.wrap ((num a1 (3+((x0).toNat*1)))*(i64.wrap (num a0 (((3+((((i64.wrap ((i64.wrap (num a1 0))+(i64.wrap (num a1 1))))).tmod (2:Int)).toNat*180))+((x0).toNat*5))+((a2).toNat*1)))))))))) 132]:BS))))
      else (none))
     else (none))
    else (none))
   else (none))
  else (none))) (by kernel_rfl) ?_
 simp only [Zgn,Zas,Zat,Zar,Zaq,Zkr,Zn1]
def Zls (P:Program) (N:Nat) (a0 a1:Array Value) (a2:Int) (q0_4:Array Value):Option (SV×Eff×Bool):=some (.a (.g q0_4 132),.none,true)
def Uc9 (N:Nat):=(Uad 0 (kSeq (veC PZ Zhw N (cAt (codeOf Tryz.f116) [1,1,1,1]) (pAt Udx [1,1,1,1]) (SV×Eff×Bool)) (finK PZ [] [.cell 6 132])))
theorem Zuc (N:Nat) (a0 a1:Array Value) (a2:Int) (q0_4:Array Value):(Uc9 N) .normal (Ube [4] (Zd4 a0 a1 a2) ([.row q0_4 132]:BS))=Zls PZ N a0 a1 a2 q0_4:=by
 refine Eq.trans (b:=(some (.a (.g q0_4 132),.none,true))) (by kernel_rfl) ?_
 rfl
theorem Yeq (N:Nat) (a0 a1:Array Value) (a2:Int):Udd (Ua1 (fun (x0:Int) (hb:BS)=>Ud6 PZ Zhw N (cAt (codeOf Tryz.f116) [1,1,1,0,1,0,0]) (pAt Udx [1,1,1,0,1,0]) 22 [4] [21] [(9,21)] (Zd4 a0 a1 a2) [.i .i64 (x0)] hb) ((Ual (num a0 0) (num a0 1) 36).filter (Zad a0)) ([.row (zc PZ 132) 132]:BS)) (fun hb=>(Uc9 N) .normal (Ube [4] (Zd4 a0 a1 a2) hb)) (fun e hb=>(Uc9 N) e (Ube [4] (Zd4 a0 a1 a2) hb))=Ue6 (Ua1 (Zgn PZ a0 a1 a2) ((Ual (num a0 0) (num a0 1) 36).filter (Zad a0)) (zc PZ 132)) (fun x=>Zls PZ N a0 a1 a2 x) (fun x:Empty=>nomatch x):=by
 refine Ydf Zkr Zn1 _ _ (fun y t=>Ye2 N a0 a1 a2 y t) _ (zc PZ 132) _ _ _ _ ?_ ?_
 ·intro x;exact Zuc N a0 a1 a2 x
 ·intro x;exact nomatch x
theorem Yc4 (N:Nat) (a0 a1:Array Value) (a2:Int):ansV PZ Zhw N Tryz.f116 [([],[4])] [.g a0 37,.g a1 132,.i .i64 (a2)] []=(bif (decide (0≤num a0 0)&&decide (num a0 0≤6)&&(decide (0≤num a0 1)&&decide (num a0 1≤6))) then (Ue6 (Ua1 (Zgn PZ a0 a1 a2) ((Ual (num a0 0) (num a0 1) 36).filter (Zad a0)) (zc PZ 132)) (fun x=>Zls PZ N a0 a1 a2 x) (fun x:Empty=>nomatch x))
  else (none)):=by
 refine Eq.trans (b:=(bif (decide (0≤num a0 0)&&decide (num a0 0≤6)&&(decide (0≤num a0 1)&&decide (num a0 1≤6))) then (Udd (Ua1 (fun (x0:Int) (hb:BS)=>Ud6 PZ Zhw N (cAt (codeOf Tryz.f116) [1,1,1,0,1,0,0]) (pAt Udx [1,1,1,0,1,0]) 22 [4] [21] [(9,21)] (Zd4 a0 a1 a2) [.i .i64 (x0)] hb) ((Ual (num a0 0) (num a0 1) 36).filter (Zad a0)) ([.row (zc PZ 132) 132]:BS)) (fun hb=>(Uc9 N) .normal (Ube [4] (Zd4 a0 a1 a2) hb)) (fun e hb=>(Uc9 N) e (Ube [4] (Zd4 a0 a1 a2) hb)))
  else (none))) (by kernel_rfl) ?_
 simp only [Yeq N a0 a1 a2]
theorem Zz9 (a0 a1:Array Value) (a2:Int) (h_a0:WT PZ 37 a0) (h_a1:WT PZ 132 a1) (h_a2:i64.min≤a2∧a2≤i64.max) (hg:((okS a0&&((decide (0≤tdI a1)&&decide (tdI a1<2))&&(decide (0≤a2)&&decide (a2<5)))))=true):ansV PZ Zhw 1000 Tryz.f116 [([],[4])] [.g a0 37,.g a1 132,.i .i64 (a2)] []=some (.a (.g (Ua7 PZ a0 a1 a2.toNat) 132),.none,true):=by
 rw [Q7,Q7] at hg
 obtain ⟨hok,ht,hw5⟩:=hg
 simp only [Q7,decide_eq_true_eq] at hw5
 obtain ⟨w0,w5⟩:=hw5
 obtain ⟨w,rfl⟩:=Int.eq_ofNat_of_zero_le w0
 have hw:w<5:=by omega
 have hdm:=Zsb hok
 refine (Yc4 1000 a0 a1 (w:Int)).trans ?_
 rw [Yma hok,Q1,Q9]
 have d1:decide (0≤(w:Int))=true:=Q3 (by omega)
 have d2:decide ((w:Int)<5)=true:=Q3 (by omega)
 have hT:(i64.wrap (i64.wrap (num a1 0)+i64.wrap (num a1 1))).tmod 2=tdI a1:=rfl
 have h:=Ztr (X:=Empty) (g:=Zgn PZ a0 a1 (w:Int)) (q:=Zad a0) (Uej a0 a1 (tdI a1) w) (wd:=num a0 0) (hi:=num a0 1) (fun r k hk hi hq=>by
  have h1:decide ((k:Int)<36)=true:=Q3 (by omega)
  have h0:decide (0≤(k:Int))=true:=Q3 (by omega)
  have hmu:i64.wrap (num a1 (3+k*1)*i64.wrap (num a0 (3+(tdI a1).toNat*180+k*5+w*1)))=muF a0 a1 (tdI a1) k w:=by unfold muF chW;rw [Q9,Nat.mul_one w]
  simp only [Zgn,h0,h1,d1,d2,hT,ht,Q9,jA,Q1,hmu]
  unfold Uej
  cases hl:(Uat a0 (k:Int) w != -1) with
  | false=>simp only [Q2];rfl
  | true=>
   have hr:0≤Uat a0 (k:Int) w∧Uat a0 (k:Int) w<36:=by
    rw [Yn6 hdm hk hi w hw] at hl⊢
    exact Yby hdm hk hi w hw (by simpa using hl)
   simp only [Q1,dec2 hr.1 hr.2]
   rfl) (zc PZ 132)
 rw [h]
 rfl
def Zm0:Con:=fun args h=>match args,h with
 | [.g a0 37,.g a1 132,.i .i64 a2],[]=>some (.a (.g (Ua7 PZ a0 a1 a2.toNat) 132),.none,(okS a0&&((decide (0≤tdI a1)&&decide (tdI a1<2))&&(decide (0≤a2)&&decide (a2<5)))))
 | _,_=>none
theorem Zzc:EntX PZ 116:=Zah (fn:=Tryz.f116) (by kernel_rfl) (by kernel_rfl) (by kernel_rfl)
theorem Ye6:Uac mn PZ 116 Zm0:=(Zai (N:=1000) (by kernel_rfl) (mkΓx_cX (Zae Yer) Zx7 (mkΓx_cX (Zae Ycp) Zxi (mkΓx_nX Zxl Zsn (mkΓx_iX Ztb Zpq mkΓx_nilX)))) (fn:=Tryz.f116) (by kernel_rfl) (by kernel_rfl) [([],[4])]).of (by
 intro ρ h w args vals r e hA hH hr
 unfold Zm0 at hr
 split at hr
 ·rename_i a0 a1 a2
  obtain ⟨rfl,rfl,hg2⟩:=BQi hr
  exact Zz9 a0 a1 a2 (hA.wt 0 rfl) (hA.wt 1 rfl) (hA.rng 2 rfl) hg2
 ·cases hr)
def Zfl (a0 a1:Array Value):St:=(⟨.a (.g a0 37) :: .a (.g a1 132) :: .a (.w 0) :: .a (.w 1) :: .a (.w 2) :: .a (.u) :: .a (.i .i64 (0:Int))::us 25 ([]),[.row a0 37,.row a1 132,.row (zc PZ 132) 132],[]⟩:St)
def Zhf:Int×Array Value→LS
 | (y0_6,r0_1)=>([.a (.i .i64 (y0_6))],[.row r0_1 132])
def Zmu:Int×Array Value→Exit×LS
 | t=>((.exit 0),Zhf t)
def Zcl (P : Program) (a0 a1 : Array Value) : Int × Array Value → Option (Stp (Int × Array Value) (Int × Array Value))
 | (y0_6, r0_1) => bif decide (y0_6 < (36 : Int)) then (bif decide (0 ≤ y0_6) then (bif (Zac a0 y0_6) then (bif (decide (0 ≤ y0_6) && decide (y0_6 < 36)) then (bif (decide (0 ≤ y0_6) && decide (y0_6 < 36)) then (some (.more ((i64.wrap (y0_6 + (1 : Int))), (r0_1.setIfInBounds (3 + ((y0_6).toNat * 1)) (.int .i64 (i64.wrap ((num r0_1 (3 + ((y0_6).toNat * 1))) * (12 : Int))))))))
      else (none))
     else (none))
    else (bif (decide (0 ≤ y0_6) && decide (y0_6 < 36)) then (some (.more ((i64.wrap (y0_6 + (1 : Int))), (r0_1.setIfInBounds (3 + ((y0_6).toNat * 1)) (.int .i64 (0 : Int))))))
     else (none)))
   else (none))
  else (some (.done (y0_6, r0_1)))
def Ud5:=(Uaa (codeOf Tryz.f106) [([6],[1])]).1
theorem Ydw (N:Nat) (a0 a1:Array Value):∀ t:Int×Array Value,Uag PZ (mkΓ [(83,con Zbb)]) N (cAt (codeOf Tryz.f106) [1,0,1,0,0]) (pAt Ud5 [1,0,1,0]) [6] [1] (Zfl a0 a1) (Zhf t)=mapS Zhf Zmu (Zcl PZ a0 a1 t):=by
 rintro ⟨y0_6,r0_1⟩
 refine Eq.trans (b:=(bif decide (y0_6<(36:Int)) then (bif decide (0≤y0_6) then (bif (Zac a0 y0_6) then (bif (decide (0≤y0_6)&&decide (y0_6<36)) then (bif (decide (0≤y0_6)&&decide (y0_6<36)) then (some (.more ([.a (.i .i64 (i64.wrap (y0_6+(1:Int))))],[.row (r0_1.setIfInBounds (3+((y0_6).toNat*1)) (.int .i64 (i64.wrap ((num r0_1 (3+((y0_6).toNat*1)))*(12:Int))))) 132])))
      else (none))
     else (none))
    else (bif (decide (0≤y0_6)&&decide (y0_6<36)) then (some (.more ([.a (.i .i64 (i64.wrap (y0_6+(1:Int))))],[.row (r0_1.setIfInBounds (3+((y0_6).toNat*1)) (.int .i64 (0:Int))) 132])))
     else (none)))
   else (none))
  else (some (.done ((.exit 0),([.a (.i .i64 (y0_6))],[.row r0_1 132])))))) (by kernel_rfl) ?_
 simp only [Zcl,Zas,Zat,Zar,Zaq,Zhf,Zmu]
def Zkm (P:Program) (N:Nat) (a0 a1:Array Value) (z0_6:Int) (q0_1:Array Value):Option (SV×Eff×Bool):=some (.a (.g ((q0_1.setIfInBounds 39 (.int .i64 (i64.wrap ((num q0_1 39)*(12:Int))))).setIfInBounds 1 (.int .i8 (IntKind.i8.wrap ((num (q0_1.setIfInBounds 39 (.int .i64 (i64.wrap ((num q0_1 39)*(12:Int))))) 1)+(1:Int))))) 132),.none,true)
def Ueu (N:Nat):=(Uad 0 (kSeq (veC PZ (mkΓ [(83,con Zbb)]) N (cAt (codeOf Tryz.f106) [1,1]) (pAt Ud5 [1,1]) (SV×Eff×Bool)) (finK PZ [] [.cell 4 132])))
theorem Zsl (N:Nat) (a0 a1:Array Value) (z0_6:Int) (q0_1:Array Value):(Ueu N) (.exit 0) (left (writes (cAt (codeOf Tryz.f106) [1,0,1,0,0])) [6] [1] (Zfl a0 a1) ([.a (.i .i64 (z0_6))],[.row q0_1 132]))=Zkm PZ N a0 a1 z0_6 q0_1:=by
 refine Eq.trans (b:=(some (.a (.g ((q0_1.setIfInBounds 39 (.int .i64 (i64.wrap ((num q0_1 39)*(12:Int))))).setIfInBounds 1 (.int .i8 (IntKind.i8.wrap ((num (q0_1.setIfInBounds 39 (.int .i64 (i64.wrap ((num q0_1 39)*(12:Int))))) 1)+(1:Int))))) 132),.none,true))) (by kernel_rfl) ?_
 rfl
theorem Yck (N:Nat) (a0 a1:Array Value):Uah (Uab (Uag PZ (mkΓ [(83,con Zbb)]) N (cAt (codeOf Tryz.f106) [1,0,1,0,0]) (pAt Ud5 [1,0,1,0]) [6] [1] (Zfl a0 a1)) N ([.a (.i .i64 (0:Int))],[.row a1 132])) (fun e s=>(Ueu N) e (left (writes (cAt (codeOf Tryz.f106) [1,0,1,0,0])) [6] [1] (Zfl a0 a1) s))=Uai (Uab (Zcl PZ a0 a1) N ((0:Int),a1)) (fun x=>Zkm PZ N a0 a1 x.1 x.2):=by
 refine Zav Zhf Zmu _ _ (Ydw N a0 a1) N ((0:Int),a1) _ _ ?_
 intro x;exact Zsl N a0 a1 x.1 x.2
theorem Zz6 (N:Nat) (a0 a1:Array Value):ansV PZ (mkΓ [(83,con Zbb)]) N Tryz.f106 [([6],[1])] [.g a0 37,.g a1 132] []=(Uai (Uab (Zcl PZ a0 a1) N ((0:Int),a1)) (fun x=>Zkm PZ N a0 a1 x.1 x.2)):=by
 refine Eq.trans (b:=(Uah (Uab (Uag PZ (mkΓ [(83,con Zbb)]) N (cAt (codeOf Tryz.f106) [1,0,1,0,0]) (pAt Ud5 [1,0,1,0]) [6] [1] (Zfl a0 a1)) N ([.a (.i .i64 (0:Int))],[.row a1 132])) (fun e s=>(Ueu N) e (left (writes (cAt (codeOf Tryz.f106) [1,0,1,0,0])) [6] [1] (Zfl a0 a1) s)))) (by kernel_rfl) ?_
 simp only [Yck N a0 a1]
theorem Zza (a0 a1:Array Value) (h_a0:WT PZ 37 a0) (h_a1:WT PZ 132 a1) (hg:(true)=true):ansV PZ (mkΓ [(83,con Zbb)]) 1000 Tryz.f106 [([6],[1])] [.g a0 37,.g a1 132] []=some (.a (.g (Ub6 a0 a1) 132),.none,true):=by
 refine (Zz6 1000 a0 a1).trans ?_
 have h:=Zhu (g:=Zcl PZ a0 a1) (fun r k=>((k:Int),r)) (Ucx a0) (m:=36) (t:=a1) (x:=((36:Int),folds (Ucx a0) a1 36)) (N:=1000) (fun k s hk _=>by
  have h1:decide ((k:Int)<36)=true:=Q3 (by omega)
  have h0:decide (0≤(k:Int))=true:=Q3 (by omega)
  have h3:i64.wrap ((k:Int)+1)=((k+1:Nat):Int):=by rw [w64 (by omega)];omega
  unfold Ucx
  cases hl:Zac a0 (k:Int) with
  | false=>simp only [Zcl,h1,h0,h3,hl,Q9,jA,Q1,Q2]
  | true=>simp only [Zcl,h1,h0,h3,hl,Q9,jA,Q1,Q2]) (by
  have h1:decide (((36:Nat):Int)<36)=false:=by decide
  simp only [Zcl,h1,Q2]
  rfl) (by omega)
 have h':Uab (Zcl PZ a0 a1) 1000 ((0:Int),a1)=some ((36:Int),folds (Ucx a0) a1 36):=h
 rw [h']
 rfl
def Zlb:Con:=fun args h=>match args,h with
 | [.g a0 37,.g a1 132],[]=>some (.a (.g (Ub6 a0 a1) 132),.none,true)
 | _,_=>none
theorem Zu9:EntX PZ 106:=Zah (fn:=Tryz.f106) (by kernel_rfl) (by kernel_rfl) (by kernel_rfl)
theorem Yeg:Uac mn PZ 106 Zlb:=(Zai (N:=1000) (by kernel_rfl) (mkΓ_consX (Zae Zd0) Zb9 mkΓ_nilX) (fn:=Tryz.f106) (by kernel_rfl) (by kernel_rfl) [([6],[1])]).of (by
 intro ρ h w args vals r e hA hH hr
 unfold Zlb at hr
 split at hr
 ·rename_i a0 a1
  obtain ⟨rfl,rfl,hg2⟩:=BQi hr
  exact Zza a0 a1 (hA.wt 0 rfl) (hA.wt 1 rfl) hg2
 ·cases hr)
def Zek (a0 a1:Array Value):St:=(⟨.a (.g a0 132) :: .a (.g a1 132) :: .a (.w 0) :: .a (.w 1) :: .a (.w 2) :: .a (.u) :: .a (.u) :: .a (.p 0 (2) 2) :: .a (.i .i64 (num a0 2)) :: .a (.p 1 (2) 2) :: .a (.i .i64 (num a1 2)) :: .a (.i .i64 (i64.wrap ((num a0 2)+(num a1 2)))) :: .a (.p 0 (2) 2) :: .a (.p 1 (3) 105) :: .a (.g (a1.extract 3 (3+36)) 105) :: .a (.i .i64 (0:Int))::us 19 ([]),[.row (a0.setIfInBounds 2 (.int .i64 (i64.wrap ((num a0 2)+(num a1 2))))) 132,.row a1 132,.row (zc PZ 132) 132],[0]⟩:St)
def Zgd:Int×Array Value→LS
 | (y0_15,r0_0)=>([.a (.i .i64 (y0_15))],[.row r0_0 132])
def Zle:Int×Array Value→Exit×LS
 | t=>((.exit 0),Zgd t)
def Zb2 (P : Program) (a0 a1 : Array Value) : Int × Array Value → Option (Stp (Int × Array Value) (Int × Array Value))
 | (y0_15, r0_0) => bif decide (y0_15 < (36 : Int)) then (bif (decide (0 ≤ y0_15) && decide (y0_15 < 36)) then (bif (decide (0 ≤ y0_15) && decide (y0_15 < 36)) then (bif (decide (0 ≤ y0_15) && decide (y0_15 < 36)) then (some (.more ((i64.wrap (y0_15 + (1 : Int))), (r0_0.setIfInBounds (3 + ((y0_15).toNat * 1)) (.int .i64 (i64.wrap ((num r0_0 (3 + ((y0_15).toNat * 1))) + (num (a1.extract 3 (3 + 36)) ((y0_15).toNat * 1)))))))))
     else (none))
    else (none))
   else (none))
  else (some (.done (y0_15, r0_0)))
def Udr:=(Uaa (codeOf Tryz.f107) [([15],[0])]).1
theorem Yaj (N:Nat) (a0 a1:Array Value):∀ t:Int×Array Value,Uag PZ (mkΓ []) N (cAt (codeOf Tryz.f107) [1,1,0,1,0,0]) (pAt Udr [1,1,0,1,0]) [15] [0] (Zek a0 a1) (Zgd t)=mapS Zgd Zle (Zb2 PZ a0 a1 t):=by
 rintro ⟨y0_15,r0_0⟩
 refine Eq.trans (b:=(bif decide (y0_15<(36:Int)) then (bif (decide (0≤y0_15)&&decide (y0_15<36)) then (bif (decide (0≤y0_15)&&decide (y0_15<36)) then (bif (decide (0≤y0_15)&&decide (y0_15<36)) then (some (.more ([.a (.i .i64 (i64.wrap (y0_15+(1:Int))))],[.row (r0_0.setIfInBounds (3+((y0_15).toNat*1)) (.int .i64 (i64.wrap ((num r0_0 (3+((y0_15).toNat*1)))+(num (a1.extract 3 (3+36)) ((y0_15).toNat*1)))))) 132])))
     else (none))
    else (none))
   else (none))
  else (some (.done ((.exit 0),([.a (.i .i64 (y0_15))],[.row r0_0 132])))))) (by kernel_rfl) ?_
 simp only [Zb2,Zas,Zat,Zar,Zaq,Zgd,Zle]
def Zjg (P:Program) (N:Nat) (a0 a1:Array Value) (z0_15:Int) (q0_0:Array Value):Option (SV×Eff×Bool):=some (.a (.g (q0_0.setIfInBounds 39 (.int .i64 (i64.wrap ((num q0_0 39)+(num a1 39))))) 132),.none,true)
def Ue0 (N:Nat):=(Uad 0 (kSeq (veC PZ (mkΓ []) N (cAt (codeOf Tryz.f107) [1,1,1]) (pAt Udr [1,1,1]) (SV×Eff×Bool)) (finK PZ [] [.cell 4 132])))
theorem Zqb (N:Nat) (a0 a1:Array Value) (z0_15:Int) (q0_0:Array Value):(Ue0 N) (.exit 0) (left (writes (cAt (codeOf Tryz.f107) [1,1,0,1,0,0])) [15] [0] (Zek a0 a1) ([.a (.i .i64 (z0_15))],[.row q0_0 132]))=Zjg PZ N a0 a1 z0_15 q0_0:=by
 refine Eq.trans (b:=(some (.a (.g (q0_0.setIfInBounds 39 (.int .i64 (i64.wrap ((num q0_0 39)+(num a1 39))))) 132),.none,true))) (by kernel_rfl) ?_
 rfl
theorem Ybe (N:Nat) (a0 a1:Array Value):Uah (Uab (Uag PZ (mkΓ []) N (cAt (codeOf Tryz.f107) [1,1,0,1,0,0]) (pAt Udr [1,1,0,1,0]) [15] [0] (Zek a0 a1)) N ([.a (.i .i64 (0:Int))],[.row (a0.setIfInBounds 2 (.int .i64 (i64.wrap ((num a0 2)+(num a1 2))))) 132])) (fun e s=>(Ue0 N) e (left (writes (cAt (codeOf Tryz.f107) [1,1,0,1,0,0])) [15] [0] (Zek a0 a1) s))=Uai (Uab (Zb2 PZ a0 a1) N ((0:Int),(a0.setIfInBounds 2 (.int .i64 (i64.wrap ((num a0 2)+(num a1 2))))))) (fun x=>Zjg PZ N a0 a1 x.1 x.2):=by
 refine Zav Zgd Zle _ _ (Yaj N a0 a1) N ((0:Int),(a0.setIfInBounds 2 (.int .i64 (i64.wrap ((num a0 2)+(num a1 2)))))) _ _ ?_
 intro x;exact Zqb N a0 a1 x.1 x.2
theorem Zyv (N:Nat) (a0 a1:Array Value):ansV PZ (mkΓ []) N Tryz.f107 [([15],[0])] [.g a0 132,.g a1 132] []=(Uai (Uab (Zb2 PZ a0 a1) N ((0:Int),(a0.setIfInBounds 2 (.int .i64 (i64.wrap ((num a0 2)+(num a1 2))))))) (fun x=>Zjg PZ N a0 a1 x.1 x.2)):=by
 refine Eq.trans (b:=(Uah (Uab (Uag PZ (mkΓ []) N (cAt (codeOf Tryz.f107) [1,1,0,1,0,0]) (pAt Udr [1,1,0,1,0]) [15] [0] (Zek a0 a1)) N ([.a (.i .i64 (0:Int))],[.row (a0.setIfInBounds 2 (.int .i64 (i64.wrap ((num a0 2)+(num a1 2))))) 132])) (fun e s=>(Ue0 N) e (left (writes (cAt (codeOf Tryz.f107) [1,1,0,1,0,0])) [15] [0] (Zek a0 a1) s)))) (by kernel_rfl) ?_
 simp only [Ybe N a0 a1]
theorem Zxf (a0 a1:Array Value) (h_a0:WT PZ 132 a0) (h_a1:WT PZ 132 a1) (hg:(true)=true):ansV PZ (mkΓ []) 1000 Tryz.f107 [([15],[0])] [.g a0 132,.g a1 132] []=some (.a (.g (togV a0 a1) 132),.none,true):=by
 have hz:a1.size=40:=by rw [h_a1.layLen];kernel_rfl
 refine (Zyv 1000 a0 a1).trans ?_
 have h:=Zhu (g:=Zb2 PZ a0 a1) (fun r k=>((k:Int),r)) (togF a1) (m:=36) (t:=adN a0 2 (num a1 2)) (x:=((36:Int),folds (togF a1) (adN a0 2 (num a1 2)) 36)) (N:=1000) (fun k s hk _=>by
  have h1:decide ((k:Int)<36)=true:=Q3 (by omega)
  have h0:decide (0≤(k:Int))=true:=Q3 (by omega)
  have h3:i64.wrap ((k:Int)+1)=((k+1:Nat):Int):=by rw [w64 (by omega)];omega
  have h5:=cell_num (T:=0) hz k hk
  simp only [Zb2,h1,h0,h3,Q9,jA,Q1,h5]
  rfl) (by
  have h1:decide (((36:Nat):Int)<36)=false:=by decide
  simp only [Zb2,h1,Q2]
  rfl) (by omega)
 have h':Uab (Zb2 PZ a0 a1) 1000 ((0:Int),adN a0 2 (num a1 2))=some ((36:Int),folds (togF a1) (adN a0 2 (num a1 2)) 36):=h
 show Uai (Uab (Zb2 PZ a0 a1) 1000 ((0:Int),adN a0 2 (num a1 2))) _=_
 rw [h']
 unfold togV
 generalize folds (togF a1) (adN a0 2 (num a1 2)) 36=q
 rfl
def Zko:Con:=fun args h=>match args,h with
 | [.g a0 132,.g a1 132],[]=>some (.a (.g (togV a0 a1) 132),.none,true)
 | _,_=>none
theorem Zt0:EntX PZ 107:=Zah (fn:=Tryz.f107) (by kernel_rfl) (by kernel_rfl) (by kernel_rfl)
theorem Yap:Uac mn PZ 107 Zko:=(Zai (N:=1000) (by kernel_rfl) mkΓ_nilX (fn:=Tryz.f107) (by kernel_rfl) (by kernel_rfl) [([15],[0])]).of (by
 intro ρ h w args vals r e hA hH hr
 unfold Zko at hr
 split at hr
 ·rename_i a0 a1
  obtain ⟨rfl,rfl,hg2⟩:=BQi hr
  exact Zxf a0 a1 (hA.wt 0 rfl) (hA.wt 1 rfl) hg2
 ·cases hr)
end
end Go.Proofs.YtdfefaanfiheoaaGreatDoor
