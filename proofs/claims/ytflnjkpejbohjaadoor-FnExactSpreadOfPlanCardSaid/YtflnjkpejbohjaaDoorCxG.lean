/- An hour as it is asked; what flows, what rests, and both together; in company. -/
import Derived.Test.YtflnjkpejbohjaaDoorProg
import Derived.Test.YtflnjkpejbohjaaDoorCxF
namespace Go.Proofs.YtflnjkpejbohjaaDoor
open Go.ChangeShapes Go.WideShapes Go.ChangeAt Go.RowKit Ve Vc
open Tryd (prog)
open IntKind (i64)
set_option linter.unusedVariables false
set_option linter.unusedSimpArgs false
set_option maxRecDepth 100000
noncomputable section
variable {mn:Md}
def Zbk:Cons:=(mkΓ [(67,con Zg5),(70,con Zki)])
def Zfh (a0 a1:Array Value) (y0_7:Int) (r0_22:Array Value):St:=(⟨.a (.w 0) :: .a (.w 1) :: .a (.u) :: .a (.u) :: .a (.w 2) :: .a (.w 22) :: .a (.i .i8 (((IntKind.i8.wrap ((num a1 0)+(num a1 1)))).tmod (2:Int))) :: .a (.i .i64 (y0_7)) :: .a (.i .i64 (0:Int)) :: .a (.x) :: .a (.x) :: .a (.w 1) :: .a (.w 1) :: .a (.p 1 (0) 22) :: .a (.i .i8 (num a1 0)) :: .a (.w 1) :: .a (.w 1) :: .a (.p 1 (1) 22) :: .a (.i .i8 (num a1 1)) :: .a (.i .i8 (IntKind.i8.wrap ((num a1 1)+(1:Int)))) :: .a (.w 1) :: .a (.w 1) :: .a (.p 1 (2) 2) :: .a (.i .i64 (num a1 2)) :: .a (.w 1) :: .a (.w 1) :: .a (.p 1 (39) 2) :: .a (.i .i64 (num a1 39)) :: .a (.i .i64 (i64.wrap ((num a1 39)*(12:Int)))) :: .a (.g (((((zc prog 35).setIfInBounds 0 (.int .i8 (num a1 0))).setIfInBounds 1 (.int .i8 (IntKind.i8.wrap ((num a1 1)+(1:Int))))).setIfInBounds 2 (.int .i64 (num a1 2))).setIfInBounds 39 (.int .i64 (i64.wrap ((num a1 39)*(12:Int))))) 35) :: .a (.w 1) :: .a (.w 1) :: .a (.p 1 (0) 22) :: .a (.i .i8 (num a1 0)) :: .a (.w 1) :: .a (.w 1) :: .a (.p 1 (1) 22) :: .a (.i .i8 (num a1 1)) :: .a (.i .i8 (IntKind.i8.wrap ((num a1 0)+(num a1 1)))) :: .a (.i .i8 (((IntKind.i8.wrap ((num a1 0)+(num a1 1)))).tmod (2:Int))) :: .a (.i .i64 (y0_7)) :: .a (.b (decide (y0_7<(36:Int)))) :: .a (.x) :: .a (.x) :: .a (.w 0) :: .a (.i .i64 (y0_7)) :: .a (.b ((Zaf y0_7 a0))) :: .a (.b ((!((Zaf y0_7 a0)))))::xs 55 (.a (.u)::[]),[.row a0 42,.row a1 35,.row (zc prog 35) 35,.no,.no,.no,.no,.no,.no,.no,.no,.no,.no,.no,.no,.no,.no,.no,.no,.no,.no,.no,.row r0_22 35,.no,.no,.no,.no,.no,.no,.no,.no,.no,.no,.no,.no],[22]⟩:St)
def Zg6:Int×Array Value→LS
 | (y1_8,r1_22)=>([.a (.i .i64 (y1_8))],[.row r1_22 35])
def Zme:Int×Array Value→Exit×LS
 | t=>((.exit 2),Zg6 t)
def Zcx (P : Program) (a0 a1 : Array Value) (y0_7 : Int) (r0_22 : Array Value) : Int × Array Value → Option (Stp (Int × Array Value) (Int × Array Value))
 | (y1_8, r1_22) => bif decide (y1_8 < (5 : Int)) then (bif (decide (0 ≤ y0_7) && decide (y0_7 < 36)) then (bif (decide (0 ≤ (((IntKind.i8.wrap ((num a1 0) + (num a1 1)))).tmod (2 : Int))) && decide ((((IntKind.i8.wrap ((num a1 0) + (num a1 1)))).tmod (2 : Int)) < 2)) then (bif (decide (0 ≤ y0_7) && decide (y0_7 < 36)) then (bif (decide (0 ≤ y1_8) && decide (y1_8 < 5)) then (bif decide ((Zae y0_7 y1_8 a0) < (0 : Int)) then (some (.more ((i64.wrap (y1_8 + (1 : Int))), (r1_22.setIfInBounds 39 (.int .i64 (i64.wrap ((num r1_22 39) + (i64.wrap ((num a1 (3 + ((y0_7).toNat * 1))) * (i64.wrap (num a0 (((3 + ((((IntKind.i8.wrap ((num a1 0) + (num a1 1)))).tmod (2 : Int)).toNat * 180)) + ((y0_7).toNat * 5)) + ((y1_8).toNat * 1)))))))))))))
       else (bif (decide (0 ≤ (Zae y0_7 y1_8 a0)) && decide ((Zae y0_7 y1_8 a0) < 36)) then (bif (decide (0 ≤ (Zae y0_7 y1_8 a0)) && decide ((Zae y0_7 y1_8 a0) < 36)) then (some (.more ((i64.wrap (y1_8 + (1 : Int))), (r1_22.setIfInBounds (3 + ((Zae y0_7 y1_8 a0).toNat * 1)) (.int .i64 (i64.wrap ((num r1_22 (3 + ((Zae y0_7 y1_8 a0).toNat * 1))) + (i64.wrap ((num a1 (3 + ((y0_7).toNat * 1))) * (i64.wrap (num a0 (((3 + ((((IntKind.i8.wrap ((num a1 0) + (num a1 1)))).tmod (2 : Int)).toNat * 180)) + ((y0_7).toNat * 5)) + ((y1_8).toNat * 1)))))))))))))
         else (none))
        else (none)))
      else (none))
     else (none))
    else (none))
   else (none))
  else (some (.done (y1_8, r1_22)))
theorem Yaw (N:Nat) (a0 a1:Array Value) (y0_7:Int) (r0_22:Array Value):∀ t:Int×Array Value,stepV prog Zbk N (cAt (codeOf Tryd.f44) [1,1,1,0,1,0,0,1,0,0,1,1,0,0]) (pAt (mkPlan (codeOf Tryd.f44) [([7],[22]),([8],[22])]).1 [1,1,1,0,1,0,1,0,1,1,0]) [8] [22] (Zfh a0 a1 y0_7 r0_22) (Zg6 t)=mapS Zg6 Zme (Zcx prog a0 a1 y0_7 r0_22 t):=by
 rintro ⟨y1_8,r1_22⟩
 refine Eq.trans (b:=(bif decide (y1_8<(5:Int)) then (bif (decide (0≤y0_7)&&decide (y0_7<36)) then (bif (decide (0≤(((IntKind.i8.wrap ((num a1 0)+(num a1 1)))).tmod (2:Int)))&&decide ((((IntKind.i8.wrap ((num a1 0)+(num a1 1)))).tmod (2:Int))<2)) then (bif (decide (0≤y0_7)&&decide (y0_7<36)) then (bif (decide (0≤y1_8)&&decide (y1_8<5)) then (bif decide ((Zae y0_7 y1_8 a0)<(0:Int)) then (some (.more ([.a (.i .i64 (i64.wrap (y1_8+(1:Int))))],[.row (r1_22.setIfInBounds 39 (.int .i64 (i64.wrap ((num r1_22 39)+(i64.wrap ((num a1 (3+((y0_7).toNat*1)))*(i64.wrap (num a0 (((3+((((IntKind.i8.wrap ((num a1 0)+(num a1 1)))).tmod (2:Int)).toNat*180))+((y0_7).toNat*5))+((y1_8).toNat*1)))))))))) 35])))
       else (bif (decide (0≤(Zae y0_7 y1_8 a0))&&decide ((Zae y0_7 y1_8 a0)<36)) then (bif (decide (0≤(Zae y0_7 y1_8 a0))&&decide ((Zae y0_7 y1_8 a0)<36)) then (some (.more ([.a (.i .i64 (i64.wrap (y1_8+(1:Int))))],[.row (r1_22.setIfInBounds (3+((Zae y0_7 y1_8 a0).toNat*1)) (.int .i64 (i64.wrap ((num r1_22 (3+((Zae y0_7 y1_8 a0).toNat*1)))+(i64.wrap ((num a1 (3+((y0_7).toNat*1)))*(i64.wrap (num a0 (((3+((((IntKind.i8.wrap ((num a1 0)+(num a1 1)))).tmod (2:Int)).toNat*180))+((y0_7).toNat*5))+((y1_8).toNat*1)))))))))) 35])))
         else (none))
        else (none)))
      else (none))
     else (none))
    else (none))
   else (none))
  else (some (.done ((.exit 2),([.a (.i .i64 (y1_8))],[.row r1_22 35])))))) (by kernel_rfl) ?_
 simp only [Zcx,Za0,Zay,Za1,Zaz,Zg6,Zme]
def Zfi (a0 a1:Array Value):St:=(⟨.a (.w 0) :: .a (.w 1) :: .a (.u) :: .a (.u) :: .a (.w 2) :: .a (.w 22) :: .a (.i .i8 (((IntKind.i8.wrap ((num a1 0)+(num a1 1)))).tmod (2:Int))) :: .a (.i .i64 (0:Int))::us 3 (.a (.w 1) :: .a (.w 1) :: .a (.p 1 (0) 22) :: .a (.i .i8 (num a1 0)) :: .a (.w 1) :: .a (.w 1) :: .a (.p 1 (1) 22) :: .a (.i .i8 (num a1 1)) :: .a (.i .i8 (IntKind.i8.wrap ((num a1 1)+(1:Int)))) :: .a (.w 1) :: .a (.w 1) :: .a (.p 1 (2) 2) :: .a (.i .i64 (num a1 2)) :: .a (.w 1) :: .a (.w 1) :: .a (.p 1 (39) 2) :: .a (.i .i64 (num a1 39)) :: .a (.i .i64 (i64.wrap ((num a1 39)*(12:Int)))) :: .a (.g (((((zc prog 35).setIfInBounds 0 (.int .i8 (num a1 0))).setIfInBounds 1 (.int .i8 (IntKind.i8.wrap ((num a1 1)+(1:Int))))).setIfInBounds 2 (.int .i64 (num a1 2))).setIfInBounds 39 (.int .i64 (i64.wrap ((num a1 39)*(12:Int))))) 35) :: .a (.w 1) :: .a (.w 1) :: .a (.p 1 (0) 22) :: .a (.i .i8 (num a1 0)) :: .a (.w 1) :: .a (.w 1) :: .a (.p 1 (1) 22) :: .a (.i .i8 (num a1 1)) :: .a (.i .i8 (IntKind.i8.wrap ((num a1 0)+(num a1 1)))) :: .a (.i .i8 (((IntKind.i8.wrap ((num a1 0)+(num a1 1)))).tmod (2:Int)))::us 64 ([])),[.row a0 42,.row a1 35,.row (zc prog 35) 35,.no,.no,.no,.no,.no,.no,.no,.no,.no,.no,.no,.no,.no,.no,.no,.no,.no,.no,.no,.row (((((zc prog 35).setIfInBounds 0 (.int .i8 (num a1 0))).setIfInBounds 1 (.int .i8 (IntKind.i8.wrap ((num a1 1)+(1:Int))))).setIfInBounds 2 (.int .i64 (num a1 2))).setIfInBounds 39 (.int .i64 (i64.wrap ((num a1 39)*(12:Int))))) 35,.no,.no,.no,.no,.no,.no,.no,.no,.no,.no,.no,.no],[22]⟩:St)
def Zcj:Int×Array Value→LS
 | (y0_7,r0_22)=>([.a (.i .i64 (y0_7))],[.row r0_22 35])
def Zds:Int×Array Value→Exit×LS
 | t=>((.exit 0),Zcj t)
def Zee (P:Program) (N:Nat) (a0 a1:Array Value) (y0_7:Int) (r0_22:Array Value) (z1_8:Int) (q1_22:Array Value):Option (Stp (Int×Array Value) (Int×Array Value)):=some (.more ((i64.wrap (y0_7+(1:Int))),q1_22))
theorem Zst (N:Nat) (a0 a1:Array Value) (y0_7:Int) (r0_22:Array Value) (z1_8:Int) (q1_22:Array Value):(kBlock 2 (kBlock 1 (kSeq (veC prog Zbk N (cAt (codeOf Tryd.f44) [1,1,1,0,1,0,0,1,1]) (pAt (mkPlan (codeOf Tryd.f44) [([7],[22]),([8],[22])]).1 [1,1,1,0,1,0,1,1]) (Stp LS (Exit×LS))) (kBody 35 [7] [22])))) (.exit 2) (left (writes (cAt (codeOf Tryd.f44) [1,1,1,0,1,0,0,1,0,0,1,1,0,0])) [8] [22] (Zfh a0 a1 y0_7 r0_22) ([.a (.i .i64 (z1_8))],[.row q1_22 35]))=mapS Zcj Zds (Zee prog N a0 a1 y0_7 r0_22 z1_8 q1_22):=by
 refine Eq.trans (b:=(some (.more ([.a (.i .i64 (i64.wrap (y0_7+(1:Int))))],[.row q1_22 35])))) (by kernel_rfl) ?_
 simp only [Zee,Za0,Zay,Za1,Zaz,Zcj,Zds]
theorem Ya8 (N:Nat) (a0 a1:Array Value) (y0_7:Int) (r0_22:Array Value):bindX (iterO (stepV prog Zbk N (cAt (codeOf Tryd.f44) [1,1,1,0,1,0,0,1,0,0,1,1,0,0]) (pAt (mkPlan (codeOf Tryd.f44) [([7],[22]),([8],[22])]).1 [1,1,1,0,1,0,1,0,1,1,0]) [8] [22] (Zfh a0 a1 y0_7 r0_22)) N ([.a (.i .i64 (0:Int))],[.row r0_22 35])) (fun e s=>(kBlock 2 (kBlock 1 (kSeq (veC prog Zbk N (cAt (codeOf Tryd.f44) [1,1,1,0,1,0,0,1,1]) (pAt (mkPlan (codeOf Tryd.f44) [([7],[22]),([8],[22])]).1 [1,1,1,0,1,0,1,1]) (Stp LS (Exit×LS))) (kBody 35 [7] [22])))) e (left (writes (cAt (codeOf Tryd.f44) [1,1,1,0,1,0,0,1,0,0,1,1,0,0])) [8] [22] (Zfh a0 a1 y0_7 r0_22) s))=mapS Zcj Zds (nodeX (iterO (Zcx prog a0 a1 y0_7 r0_22) N ((0:Int),r0_22)) (fun x=>Zee prog N a0 a1 y0_7 r0_22 x.1 x.2)):=by
 refine (Zbg Zg6 Zme _ _ (Yaw N a0 a1 y0_7 r0_22) N ((0:Int),r0_22) _ (fun x=>mapS Zcj Zds ((fun x=>Zee prog N a0 a1 y0_7 r0_22 x.1 x.2) x)) ?_).trans (Zx6 Zcj Zds _ _).symm
 intro x;exact Zst N a0 a1 y0_7 r0_22 x.1 x.2
def Zc5 (P : Program) (N : Nat) (a0 a1 : Array Value) : Int × Array Value → Option (Stp (Int × Array Value) (Int × Array Value))
 | (y0_7, r0_22) => bif decide (y0_7 < (36 : Int)) then (bif (Za4 y0_7 a0) then (bif (!((Zaf y0_7 a0))) then (bif (decide (0 ≤ y0_7) && decide (y0_7 < 36)) then (bif (decide (0 ≤ y0_7) && decide (y0_7 < 36)) then (bif (decide (0 ≤ y0_7) && decide (y0_7 < 36)) then (some (.more ((i64.wrap (y0_7 + (1 : Int))), (r0_22.setIfInBounds (3 + ((y0_7).toNat * 1)) (.int .i64 (i64.wrap ((num r0_22 (3 + ((y0_7).toNat * 1))) + (i64.wrap ((num a1 (3 + ((y0_7).toNat * 1))) * (12 : Int))))))))))
       else (none))
      else (none))
     else (none))
    else (nodeX (iterO (Zcx P a0 a1 y0_7 r0_22) N ((0 : Int), r0_22)) (fun x => Zee P N a0 a1 y0_7 r0_22 x.1 x.2)))
   else (none))
  else (some (.done (y0_7, r0_22)))
theorem Ya5 (N:Nat) (a0 a1:Array Value):∀ t:Int×Array Value,stepV prog Zbk N (cAt (codeOf Tryd.f44) [1,1,1,0,1,0,0]) (pAt (mkPlan (codeOf Tryd.f44) [([7],[22]),([8],[22])]).1 [1,1,1,0,1,0]) [7] [22] (Zfi a0 a1) (Zcj t)=mapS Zcj Zds (Zc5 prog N a0 a1 t):=by
 rintro ⟨y0_7,r0_22⟩
 refine Eq.trans (b:=(bif decide (y0_7<(36:Int)) then (bif (Za4 y0_7 a0) then (bif (!((Zaf y0_7 a0))) then (bif (decide (0≤y0_7)&&decide (y0_7<36)) then (bif (decide (0≤y0_7)&&decide (y0_7<36)) then (bif (decide (0≤y0_7)&&decide (y0_7<36)) then (some (.more ([.a (.i .i64 (i64.wrap (y0_7+(1:Int))))],[.row (r0_22.setIfInBounds (3+((y0_7).toNat*1)) (.int .i64 (i64.wrap ((num r0_22 (3+((y0_7).toNat*1)))+(i64.wrap ((num a1 (3+((y0_7).toNat*1)))*(12:Int))))))) 35])))
       else (none))
      else (none))
     else (none))
    else (bindX (iterO (stepV prog Zbk N (cAt (codeOf Tryd.f44) [1,1,1,0,1,0,0,1,0,0,1,1,0,0]) (pAt (mkPlan (codeOf Tryd.f44) [([7],[22]),([8],[22])]).1 [1,1,1,0,1,0,1,0,1,1,0]) [8] [22] (Zfh a0 a1 y0_7 r0_22)) N ([.a (.i .i64 (0:Int))],[.row r0_22 35])) (fun e s=>(kBlock 2 (kBlock 1 (kSeq (veC prog Zbk N (cAt (codeOf Tryd.f44) [1,1,1,0,1,0,0,1,1]) (pAt (mkPlan (codeOf Tryd.f44) [([7],[22]),([8],[22])]).1 [1,1,1,0,1,0,1,1]) (Stp LS (Exit×LS))) (kBody 35 [7] [22])))) e (left (writes (cAt (codeOf Tryd.f44) [1,1,1,0,1,0,0,1,0,0,1,1,0,0])) [8] [22] (Zfh a0 a1 y0_7 r0_22) s))))
   else (none))
  else (some (.done ((.exit 0),([.a (.i .i64 (y0_7))],[.row r0_22 35])))))) (by kernel_rfl) ?_
 simp only [Ya8 N a0 a1 y0_7 r0_22,Zc5,Za0,Zay,Za1,Zaz,Zcj,Zds]
def Zjz (P:Program) (N:Nat) (a0 a1:Array Value) (z0_7:Int) (q0_22:Array Value):Option (SV×Eff×Bool):=some (.a (.g q0_22 35),.none,true)
theorem Zsa (N:Nat) (a0 a1:Array Value) (z0_7:Int) (q0_22:Array Value):(kBlock 0 (kSeq (veC prog Zbk N (cAt (codeOf Tryd.f44) [1,1,1,1]) (pAt (mkPlan (codeOf Tryd.f44) [([7],[22]),([8],[22])]).1 [1,1,1,1]) (SV×Eff×Bool)) (finK prog [.row a0 42,.row a1 35] [.cell 4 35]))) (.exit 0) (left (writes (cAt (codeOf Tryd.f44) [1,1,1,0,1,0,0])) [7] [22] (Zfi a0 a1) ([.a (.i .i64 (z0_7))],[.row q0_22 35]))=Zjz prog N a0 a1 z0_7 q0_22:=by
 refine Eq.trans (b:=(some (.a (.g q0_22 35),.none,true))) (by kernel_rfl) ?_
 rfl
theorem Ya7 (N:Nat) (a0 a1:Array Value):bindX (iterO (stepV prog Zbk N (cAt (codeOf Tryd.f44) [1,1,1,0,1,0,0]) (pAt (mkPlan (codeOf Tryd.f44) [([7],[22]),([8],[22])]).1 [1,1,1,0,1,0]) [7] [22] (Zfi a0 a1)) N ([.a (.i .i64 (0:Int))],[.row (((((zc prog 35).setIfInBounds 0 (.int .i8 (num a1 0))).setIfInBounds 1 (.int .i8 (IntKind.i8.wrap ((num a1 1)+(1:Int))))).setIfInBounds 2 (.int .i64 (num a1 2))).setIfInBounds 39 (.int .i64 (i64.wrap ((num a1 39)*(12:Int))))) 35])) (fun e s=>(kBlock 0 (kSeq (veC prog Zbk N (cAt (codeOf Tryd.f44) [1,1,1,1]) (pAt (mkPlan (codeOf Tryd.f44) [([7],[22]),([8],[22])]).1 [1,1,1,1]) (SV×Eff×Bool)) (finK prog [.row a0 42,.row a1 35] [.cell 4 35]))) e (left (writes (cAt (codeOf Tryd.f44) [1,1,1,0,1,0,0])) [7] [22] (Zfi a0 a1) s))=nodeX (iterO (Zc5 prog N a0 a1) N ((0:Int),(((((zc prog 35).setIfInBounds 0 (.int .i8 (num a1 0))).setIfInBounds 1 (.int .i8 (IntKind.i8.wrap ((num a1 1)+(1:Int))))).setIfInBounds 2 (.int .i64 (num a1 2))).setIfInBounds 39 (.int .i64 (i64.wrap ((num a1 39)*(12:Int))))))) (fun x=>Zjz prog N a0 a1 x.1 x.2):=by
 refine Zbg Zcj Zds _ _ (Ya5 N a0 a1) N ((0:Int),(((((zc prog 35).setIfInBounds 0 (.int .i8 (num a1 0))).setIfInBounds 1 (.int .i8 (IntKind.i8.wrap ((num a1 1)+(1:Int))))).setIfInBounds 2 (.int .i64 (num a1 2))).setIfInBounds 39 (.int .i64 (i64.wrap ((num a1 39)*(12:Int)))))) _ _ ?_
 intro x;exact Zsa N a0 a1 x.1 x.2
theorem Zzb (N:Nat) (a0 a1:Array Value):ansV prog Zbk N Tryd.f44 [([7],[22]),([8],[22])] [.w 0,.w 1] [.row a0 42,.row a1 35]=(nodeX (iterO (Zc5 prog N a0 a1) N ((0:Int),(((((zc prog 35).setIfInBounds 0 (.int .i8 (num a1 0))).setIfInBounds 1 (.int .i8 (IntKind.i8.wrap ((num a1 1)+(1:Int))))).setIfInBounds 2 (.int .i64 (num a1 2))).setIfInBounds 39 (.int .i64 (i64.wrap ((num a1 39)*(12:Int))))))) (fun x=>Zjz prog N a0 a1 x.1 x.2)):=by
 refine Eq.trans (b:=(bindX (iterO (stepV prog Zbk N (cAt (codeOf Tryd.f44) [1,1,1,0,1,0,0]) (pAt (mkPlan (codeOf Tryd.f44) [([7],[22]),([8],[22])]).1 [1,1,1,0,1,0]) [7] [22] (Zfi a0 a1)) N ([.a (.i .i64 (0:Int))],[.row (((((zc prog 35).setIfInBounds 0 (.int .i8 (num a1 0))).setIfInBounds 1 (.int .i8 (IntKind.i8.wrap ((num a1 1)+(1:Int))))).setIfInBounds 2 (.int .i64 (num a1 2))).setIfInBounds 39 (.int .i64 (i64.wrap ((num a1 39)*(12:Int))))) 35])) (fun e s=>(kBlock 0 (kSeq (veC prog Zbk N (cAt (codeOf Tryd.f44) [1,1,1,1]) (pAt (mkPlan (codeOf Tryd.f44) [([7],[22]),([8],[22])]).1 [1,1,1,1]) (SV×Eff×Bool)) (finK prog [.row a0 42,.row a1 35] [.cell 4 35]))) e (left (writes (cAt (codeOf Tryd.f44) [1,1,1,0,1,0,0])) [7] [22] (Zfi a0 a1) s)))) (by kernel_rfl) ?_
 simp only [Ya7 N a0 a1]
theorem dec2 {a b:Int} (h1:0≤a) (h2:a<b):(decide (0≤a)&&decide (a<b))=true:=by rw [decide_eq_true h1,decide_eq_true h2];rfl
def adN (r:Array Value) (i:Nat) (m:Int):Array Value:=r.setIfInBounds i (.int .i64 (i64.wrap (num r i+m)))
def tdS (X:Array Value):Int:=(IntKind.i8.wrap (num X 0+num X 1)).tmod 2
def muF (S X:Array Value) (t:Int) (k w:Nat):Int:=i64.wrap (num X (3+k*1)*chW S t (k:Int) w)
def wayF (S X:Array Value) (t:Int) (k:Nat) (r:Array Value) (w:Nat):Array Value:=bif decide (Zae (k:Int) (w:Int) S<0) then adN r 39 (muF S X t k w) else adN r (3+(Zae (k:Int) (w:Int) S).toNat*1) (muF S X t k w)
def cellF (S X:Array Value) (t:Int) (r:Array Value) (k:Nat):Array Value:=bif Zaf (k:Int) S then folds (wayF S X t k) r 5 else adN r (3+k*1) (i64.wrap (num X (3+k*1)*12))
def hourI (P:Program) (X:Array Value):Array Value:=((((zc P 35).setIfInBounds 0 (.int .i8 (num X 0))).setIfInBounds 1 (.int .i8 (IntKind.i8.wrap (num X 1+1)))).setIfInBounds 2 (.int .i64 (num X 2))).setIfInBounds 39 (.int .i64 (i64.wrap (num X 39*12)))
def hourV (P:Program) (S X:Array Value):Array Value:=folds (cellF S X (tdS X)) (hourI P X) 36
theorem Yj1 {S:Array Value} (h0:1≤num S 0∧num S 0≤6∧1≤num S 1∧num S 1≤6) {k:Nat} (hk:k<36) (hi:inC (num S 0) (num S 1) k=true) {w:Nat} (hw:w<5) (hn:¬ Zae (k:Int) (w:Int) S<0):0≤Zae (k:Int) (w:Int) S∧Zae (k:Int) (w:Int) S<36:=by
 rw [Yak h0 hk hi w hw] at hn⊢
 exact Zz9 h0 hk hi w hw (by omega)
theorem Zxk (a0 a1:Array Value) (h_a0:WT prog 42 a0) (h_a1:WT prog 35 a1) (hg:((okS a0&&(decide (0≤tdS a1)&&decide (tdS a1<2))))=true):ansV prog Zbk 1000 Tryd.f44 [([7],[22]),([8],[22])] [.w 0,.w 1] [.row a0 42,.row a1 35]=some (.a (.g (hourV prog a0 a1) 35),.none,true):=by
 rw [Bool.and_eq_true] at hg
 obtain ⟨hok,ht⟩:=hg
 have hdm:=Zrx hok
 refine (Zzb 1000 a0 a1).trans ?_
 have hT:(IntKind.i8.wrap (num a1 0+num a1 1)).tmod 2=tdS a1:=rfl
 have h:=Zhf (g:=Zc5 prog 1000 a0 a1) (fun r k=>((k:Int),r)) (cellF a0 a1 (tdS a1)) (m:=36) (t:=hourI prog a1) (x:=((36:Int),hourV prog a0 a1)) (N:=1000) (fun k s hk _=>by
  have h1:decide ((k:Int)<36)=true:=decide_eq_true (by omega)
  have h0:decide (0≤(k:Int))=true:=decide_eq_true (by omega)
  have h3:i64.wrap ((k:Int)+1)=((k+1:Nat):Int):=by rw [w64 (by omega)];omega
  obtain ⟨w1,w2⟩:=Ygy h_a0 hk
  unfold cellF
  cases hw:Zaf (k:Int) a0 with
  | false=>
   simp only [Zc5,h1,h0,h3,w1,hw,Int.toNat_natCast,Bool.and_self,Bool.not_false,cond_true,cond_false]
   rfl
  | true=>
   rw [hw] at w2
   have hi:inC (num a0 0) (num a0 1) k=true:=(Bool.and_eq_true_iff.1 w2.symm).1
   have hin:=Zhf (g:=Zcx prog a0 a1 (k:Int) s) (fun r w=>((w:Int),r)) (wayF a0 a1 (tdS a1) k) (m:=5) (t:=s) (x:=((5:Int),folds (wayF a0 a1 (tdS a1) k) s 5)) (N:=1000) (fun w r hw5 _=>by
    have e1:decide ((w:Int)<5)=true:=decide_eq_true (by omega)
    have e0:decide (0≤(w:Int))=true:=decide_eq_true (by omega)
    have e3:i64.wrap ((w:Int)+1)=((w+1:Nat):Int):=by rw [w64 (by omega)];omega
    have e4:i64.wrap (num a1 (3+k*1)*i64.wrap (num a0 (3+(tdS a1).toNat*180+k*5+w*1)))=muF a0 a1 (tdS a1) k w:=by unfold muF chW;rw [Int.toNat_natCast,Nat.mul_one w]
    unfold wayF
    by_cases hg:Zae (k:Int) (w:Int) a0<0
    ·simp only [Zcx,e1,e0,e3,h1,h0,hT,ht,Int.toNat_natCast,Bool.and_self,cond_true,decide_eq_true hg,e4]
     rfl
    ·obtain ⟨r1,r2⟩:=Yj1 hdm hk hi hw5 hg
     simp only [Zcx,e1,e0,e3,h1,h0,hT,ht,Int.toNat_natCast,Bool.and_self,cond_true,cond_false,decide_eq_false hg,dec2 r1 r2,e4]
     rfl) (by
    have e1:decide (((5:Nat):Int)<5)=false:=by decide
    simp only [Zcx,e1,cond_false]
    rfl) (by omega)
   have hin':iterO (Zcx prog a0 a1 (k:Int) s) 1000 ((0:Int),s)=some ((5:Int),folds (wayF a0 a1 (tdS a1) k) s 5):=hin
   simp only [Zc5,h1,w1,hw,Bool.not_true,cond_true,cond_false,hin',nodeX,Zee,h3]) (by
  have h1:decide (((36:Nat):Int)<36)=false:=by decide
  simp only [Zc5,h1,cond_false]
  rfl) (by omega)
 have h':iterO (Zc5 prog 1000 a0 a1) 1000 ((0:Int),hourI prog a1)=some ((36:Int),hourV prog a0 a1):=h
 unfold hourI at h'
 rw [h']
 rfl
def Zkn:Con:=fun args h=>match args,h with
 | [.w 0,.w 1],[.row a0 42,.row a1 35]=>some (.a (.g (hourV prog a0 a1) 35),.none,(okS a0&&(decide (0≤tdS a1)&&decide (tdS a1<2))))
 | _,_=>none
theorem Zv4:EntX prog 44:=Zag (fn:=Tryd.f44) (by kernel_rfl) (by kernel_rfl) (by kernel_rfl)
theorem Ybi:ConOkX mn prog 44 Zkn:=(Zah (N:=1000) (by kernel_rfl) (mkΓ_consX (Zad Zm9) Zjv (mkΓ_consX (Zad Ycg) Zwt mkΓ_nilX)) (fn:=Tryd.f44) (by kernel_rfl) (by kernel_rfl) [([7],[22]),([8],[22])]).of (by
 intro ρ h w args vals r e hA hH hr
 unfold Zkn at hr
 split at hr
 ·rename_i a0 a1
  obtain ⟨rfl,hg⟩:=Prod.mk.inj (Option.some.inj hr)
  obtain ⟨rfl,hg2⟩:=Prod.mk.inj hg
  exact Zxk a0 a1 (hH.wt 0 rfl) (hH.wt 1 rfl) hg2
 ·cases hr)
def tdI (X:Array Value):Int:=(i64.wrap (i64.wrap (num X 0)+i64.wrap (num X 1))).tmod 2
def flowF (S X:Array Value) (t:Int) (w:Nat) (r:Array Value) (k:Nat):Array Value:=bif leadI S (k:Int) w != -1 then adN r (3+(leadI S (k:Int) w).toNat*1) (muF S X t k w) else adN r 39 (muF S X t k w)
def flowV (P:Program) (S X:Array Value) (w:Nat):Array Value:=folds (fun r k=>if inC (num S 0) (num S 1) k&&Zac S (k:Int) then flowF S X (tdI X) w r k else r) (zc P 35) 36
def togF (Y:Array Value) (r:Array Value) (k:Nat):Array Value:=adN r (3+k*1) (num Y (3+k*1))
def togV (X Y:Array Value):Array Value:=adN (folds (togF Y) (adN X 2 (num Y 2)) 36) 39 (num Y 39)
def restF (S:Array Value) (r:Array Value) (k:Nat):Array Value:=bif Zav S (k:Int) then r.setIfInBounds (3+k*1) (.int .i64 (i64.wrap (num r (3+k*1)*12))) else r.setIfInBounds (3+k*1) (.int .i64 0)
def rest39 (r:Array Value):Array Value:=r.setIfInBounds 39 (.int .i64 (i64.wrap (num r 39*12)))
def restV (S X:Array Value):Array Value:=(rest39 (folds (restF S) X 36)).setIfInBounds 1 (.int .i8 (IntKind.i8.wrap (num (rest39 (folds (restF S) X 36)) 1+1)))
def Zdr:Cons:=(mkΓx [(106,con Zls),(108,con Zkx)] [(107,Zjs)] [(112,Zf2)])
def Zec (a0 a1:Array Value) (a2:Int):St:=(⟨.a (.g a0 42) :: .a (.g a1 35) :: .a (.i .i64 (a2)) :: .a (.w 0) :: .a (.w 1) :: .a (.w 2) :: .a (.w 3) :: .a (.w 4) :: .a (.w 12)::us 3 (.a (.p 1 (0) 22) :: .a (.i .i8 (num a1 0)) :: .a (.i .i64 (i64.wrap (num a1 0))) :: .a (.p 1 (1) 22) :: .a (.i .i8 (num a1 1)) :: .a (.i .i64 (i64.wrap (num a1 1))) :: .a (.i .i64 (((i64.wrap ((i64.wrap (num a1 0))+(i64.wrap (num a1 1))))).tmod (2:Int))) :: .a (.g a0 42) :: .a (.c 112 [17])::us 35 ([])),[.row a0 42,.row a1 35,.row #[.int .i64 (a2)] 2,.row (zc prog 35) 35,.row (zc prog 35) 35,.no,.no,.no,.no,.no,.no,.no,.row #[.int .i64 (((i64.wrap ((i64.wrap (num a1 0))+(i64.wrap (num a1 1))))).tmod (2:Int))] 2,.no,.no,.no,.no,.row a0 42,.no,.no,.no,.no],[12]⟩:St)
def Zj8:Array Value→BS
 | r0_4=>([.row r0_4 35]:BS)
def Zm3:Empty→Exit×BS:=fun x=>nomatch x
def Zgd (P : Program) (a0 a1 : Array Value) (a2 : Int) (x0 : Int) : Array Value → Option (Stp (Array Value) Empty)
  | r0_4 => bif (decide (0 ≤ x0) && decide (x0 < 36)) then (bif (decide (0 ≤ (((i64.wrap ((i64.wrap (num a1 0)) + (i64.wrap (num a1 1))))).tmod (2 : Int))) && decide ((((i64.wrap ((i64.wrap (num a1 0)) + (i64.wrap (num a1 1))))).tmod (2 : Int)) < 2)) then (bif (decide (0 ≤ x0) && decide (x0 < 36)) then (bif (decide (0 ≤ a2) && decide (a2 < 5)) then (bif (decide (0 ≤ a2) && decide (a2 < 5)) then (bif ((leadI a0 x0 a2.toNat) != (-1 : Int)) then (bif (decide (0 ≤ (leadI a0 x0 a2.toNat)) && decide ((leadI a0 x0 a2.toNat) < 36)) then (bif (decide (0 ≤ (leadI a0 x0 a2.toNat)) && decide ((leadI a0 x0 a2.toNat) < 36)) then (some (.more (r0_4.setIfInBounds (3 + ((leadI a0 x0 a2.toNat).toNat * 1)) (.int .i64 (i64.wrap ((num r0_4 (3 + ((leadI a0 x0 a2.toNat).toNat * 1))) + (i64.wrap ((num a1 (3 + ((x0).toNat * 1))) * (i64.wrap (num a0 (((3 + ((((i64.wrap ((i64.wrap (num a1 0)) + (i64.wrap (num a1 1))))).tmod (2 : Int)).toNat * 180)) + ((x0).toNat * 5)) + ((a2).toNat * 1))))))))))))
                  else (none))
                else (none))
              else (some (.more (r0_4.setIfInBounds 39 (.int .i64 (i64.wrap ((num r0_4 39) + (i64.wrap ((num a1 (3 + ((x0).toNat * 1))) * (i64.wrap (num a0 (((3 + ((((i64.wrap ((i64.wrap (num a1 0)) + (i64.wrap (num a1 1))))).tmod (2 : Int)).toNat * 180)) + ((x0).toNat * 5)) + ((a2).toNat * 1)))))))))))))
            else (none))
          else (none))
        else (none))
      else (none))
    else (none)
theorem Ycz (N:Nat) (a0 a1:Array Value) (a2:Int) (x0:Int):∀ t:Array Value,stepI prog Zdr N (cAt (codeOf Tryd.f101) [1,1,1,0,1,0,0]) (pAt (mkPlan (codeOf Tryd.f101) [([],[4])]).1 [1,1,1,0,1,0]) 22 [4] [21] [(9,21)] (Zec a0 a1 a2) [.i .i64 (x0)] (Zj8 t)=mapS Zj8 Zm3 (Zgd prog a0 a1 a2 x0 t):=by
 rintro r0_4
 refine Eq.trans (b:=(bif (decide (0≤x0)&&decide (x0<36)) then (bif (decide (0≤(((i64.wrap ((i64.wrap (num a1 0))+(i64.wrap (num a1 1))))).tmod (2:Int)))&&decide ((((i64.wrap ((i64.wrap (num a1 0))+(i64.wrap (num a1 1))))).tmod (2:Int))<2)) then (bif (decide (0≤x0)&&decide (x0<36)) then (bif (decide (0≤a2)&&decide (a2<5)) then (bif (decide (0≤a2)&&decide (a2<5)) then (bif ((leadI a0 x0 a2.toNat) != (-1:Int)) then (bif (decide (0≤(leadI a0 x0 a2.toNat))&&decide ((leadI a0 x0 a2.toNat)<36)) then (bif (decide (0≤(leadI a0 x0 a2.toNat))&&decide ((leadI a0 x0 a2.toNat)<36)) then (some (.more ([.row (r0_4.setIfInBounds (3+((leadI a0 x0 a2.toNat).toNat*1)) (.int .i64 (i64.wrap ((num r0_4 (3+((leadI a0 x0 a2.toNat).toNat*1)))+(i64.wrap ((num a1 (3+((x0).toNat*1)))*(i64.wrap (num a0 (((3+((((i64.wrap ((i64.wrap (num a1 0))+(i64.wrap (num a1 1))))).tmod (2:Int)).toNat*180))+((x0).toNat*5))+((a2).toNat*1)))))))))) 35]:BS)))
         else (none))
        else (none))
       else (some (.more ([.row (r0_4.setIfInBounds 39 (.int .i64 (i64.wrap ((num r0_4 39)+(i64.wrap ((num a1 (3+((x0).toNat*1)))*(i64.wrap (num a0 (((3+((((i64.wrap ((i64.wrap (num a1 0))+(i64.wrap (num a1 1))))).tmod (2:Int)).toNat*180))+((x0).toNat*5))+((a2).toNat*1)))))))))) 35]:BS))))
      else (none))
     else (none))
    else (none))
   else (none))
  else (none))) (by kernel_rfl) ?_
 simp only [Zgd,Za0,Zay,Za1,Zaz,Zj8,Zm3]
def Zkq (P:Program) (N:Nat) (a0 a1:Array Value) (a2:Int) (q0_4:Array Value):Option (SV×Eff×Bool):=some (.a (.g q0_4 35),.none,true)
theorem Ztz (N:Nat) (a0 a1:Array Value) (a2:Int) (q0_4:Array Value):(kBlock 0 (kSeq (veC prog Zdr N (cAt (codeOf Tryd.f101) [1,1,1,1]) (pAt (mkPlan (codeOf Tryd.f101) [([],[4])]).1 [1,1,1,1]) (SV×Eff×Bool)) (finK prog [] [.cell 6 35]))) .normal (leftI [4] (Zec a0 a1 a2) ([.row q0_4 35]:BS))=Zkq prog N a0 a1 a2 q0_4:=by
 refine Eq.trans (b:=(some (.a (.g q0_4 35),.none,true))) (by kernel_rfl) ?_
 rfl
theorem Yc5 (N:Nat) (a0 a1:Array Value) (a2:Int):bindI (foldI (fun (x0:Int) (hb:BS)=>stepI prog Zdr N (cAt (codeOf Tryd.f101) [1,1,1,0,1,0,0]) (pAt (mkPlan (codeOf Tryd.f101) [([],[4])]).1 [1,1,1,0,1,0]) 22 [4] [21] [(9,21)] (Zec a0 a1 a2) [.i .i64 (x0)] hb) ((cellsL (num a0 0) (num a0 1) 36).filter (Zac a0)) ([.row (zc prog 35) 35]:BS)) (fun hb=>(kBlock 0 (kSeq (veC prog Zdr N (cAt (codeOf Tryd.f101) [1,1,1,1]) (pAt (mkPlan (codeOf Tryd.f101) [([],[4])]).1 [1,1,1,1]) (SV×Eff×Bool)) (finK prog [] [.cell 6 35]))) .normal (leftI [4] (Zec a0 a1 a2) hb)) (fun e hb=>(kBlock 0 (kSeq (veC prog Zdr N (cAt (codeOf Tryd.f101) [1,1,1,1]) (pAt (mkPlan (codeOf Tryd.f101) [([],[4])]).1 [1,1,1,1]) (SV×Eff×Bool)) (finK prog [] [.cell 6 35]))) e (leftI [4] (Zec a0 a1 a2) hb))=nodeI (foldI (Zgd prog a0 a1 a2) ((cellsL (num a0 0) (num a0 1) 36).filter (Zac a0)) (zc prog 35)) (fun x=>Zkq prog N a0 a1 a2 x) (fun x:Empty=>nomatch x):=by
 refine Yfo Zj8 Zm3 _ _ (fun y t=>Ycz N a0 a1 a2 y t) _ (zc prog 35) _ _ _ _ ?_ ?_
 ·intro x;exact Ztz N a0 a1 a2 x
 ·intro x;exact nomatch x
theorem Yb5 (N:Nat) (a0 a1:Array Value) (a2:Int):ansV prog Zdr N Tryd.f101 [([],[4])] [.g a0 42,.g a1 35,.i .i64 (a2)] []=(bif (decide (0≤num a0 0)&&decide (num a0 0≤6)&&(decide (0≤num a0 1)&&decide (num a0 1≤6))) then (nodeI (foldI (Zgd prog a0 a1 a2) ((cellsL (num a0 0) (num a0 1) 36).filter (Zac a0)) (zc prog 35)) (fun x=>Zkq prog N a0 a1 a2 x) (fun x:Empty=>nomatch x))
  else (none)):=by
 refine Eq.trans (b:=(bif (decide (0≤num a0 0)&&decide (num a0 0≤6)&&(decide (0≤num a0 1)&&decide (num a0 1≤6))) then (bindI (foldI (fun (x0:Int) (hb:BS)=>stepI prog Zdr N (cAt (codeOf Tryd.f101) [1,1,1,0,1,0,0]) (pAt (mkPlan (codeOf Tryd.f101) [([],[4])]).1 [1,1,1,0,1,0]) 22 [4] [21] [(9,21)] (Zec a0 a1 a2) [.i .i64 (x0)] hb) ((cellsL (num a0 0) (num a0 1) 36).filter (Zac a0)) ([.row (zc prog 35) 35]:BS)) (fun hb=>(kBlock 0 (kSeq (veC prog Zdr N (cAt (codeOf Tryd.f101) [1,1,1,1]) (pAt (mkPlan (codeOf Tryd.f101) [([],[4])]).1 [1,1,1,1]) (SV×Eff×Bool)) (finK prog [] [.cell 6 35]))) .normal (leftI [4] (Zec a0 a1 a2) hb)) (fun e hb=>(kBlock 0 (kSeq (veC prog Zdr N (cAt (codeOf Tryd.f101) [1,1,1,1]) (pAt (mkPlan (codeOf Tryd.f101) [([],[4])]).1 [1,1,1,1]) (SV×Eff×Bool)) (finK prog [] [.cell 6 35]))) e (leftI [4] (Zec a0 a1 a2) hb)))
  else (none))) (by kernel_rfl) ?_
 simp only [Yc5 N a0 a1 a2]
theorem Zzm (a0 a1:Array Value) (a2:Int) (h_a0:WT prog 42 a0) (h_a1:WT prog 35 a1) (h_a2:i64.min≤a2∧a2≤i64.max) (hg:((okS a0&&((decide (0≤tdI a1)&&decide (tdI a1<2))&&(decide (0≤a2)&&decide (a2<5)))))=true):ansV prog Zdr 1000 Tryd.f101 [([],[4])] [.g a0 42,.g a1 35,.i .i64 (a2)] []=some (.a (.g (flowV prog a0 a1 a2.toNat) 35),.none,true):=by
 rw [Bool.and_eq_true,Bool.and_eq_true] at hg
 obtain ⟨hok,ht,hw5⟩:=hg
 simp only [Bool.and_eq_true,decide_eq_true_eq] at hw5
 obtain ⟨w0,w5⟩:=hw5
 obtain ⟨w,rfl⟩:=Int.eq_ofNat_of_zero_le w0
 have hw:w<5:=by omega
 have hdm:=Zrx hok
 refine (Yb5 1000 a0 a1 (w:Int)).trans ?_
 rw [okS_iter hok,cond_true,Int.toNat_natCast]
 have d1:decide (0≤(w:Int))=true:=decide_eq_true (by omega)
 have d2:decide ((w:Int)<5)=true:=decide_eq_true (by omega)
 have hT:(i64.wrap (i64.wrap (num a1 0)+i64.wrap (num a1 1))).tmod 2=tdI a1:=rfl
 have h:=Ybc (X:=Empty) (g:=Zgd prog a0 a1 (w:Int)) (q:=Zac a0) (flowF a0 a1 (tdI a1) w) (wd:=num a0 0) (hi:=num a0 1) (fun r k hk hi hq=>by
  have h1:decide ((k:Int)<36)=true:=decide_eq_true (by omega)
  have h0:decide (0≤(k:Int))=true:=decide_eq_true (by omega)
  have hmu:i64.wrap (num a1 (3+k*1)*i64.wrap (num a0 (3+(tdI a1).toNat*180+k*5+w*1)))=muF a0 a1 (tdI a1) k w:=by unfold muF chW;rw [Int.toNat_natCast,Nat.mul_one w]
  simp only [Zgd,h0,h1,d1,d2,hT,ht,Int.toNat_natCast,Bool.and_self,cond_true,hmu]
  unfold flowF
  cases hl:(leadI a0 (k:Int) w != -1) with
  | false=>simp only [cond_false];rfl
  | true=>
   have hr:0≤leadI a0 (k:Int) w∧leadI a0 (k:Int) w<36:=by
    rw [Ylo hdm hk hi w hw] at hl⊢
    exact Zz9 hdm hk hi w hw (by simpa using hl)
   simp only [cond_true,dec2 hr.1 hr.2]
   rfl) (zc prog 35)
 rw [h]
 rfl
def Zl8:Con:=fun args h=>match args,h with
 | [.g a0 42,.g a1 35,.i .i64 a2],[]=>some (.a (.g (flowV prog a0 a1 a2.toNat) 35),.none,(okS a0&&((decide (0≤tdI a1)&&decide (tdI a1<2))&&(decide (0≤a2)&&decide (a2<5)))))
 | _,_=>none
theorem Zyb:EntX prog 101:=Zag (fn:=Tryd.f101) (by kernel_rfl) (by kernel_rfl) (by kernel_rfl)
theorem Yc0:ConOkX mn prog 101 Zl8:=(Zah (N:=1000) (by kernel_rfl) (mkΓx_cX (Zad Yc2) Zym (mkΓx_cX (Zad Yba) Zwh (mkΓx_nX Zvp Zr9 (mkΓx_iX Zsp Zpd mkΓx_nilX)))) (fn:=Tryd.f101) (by kernel_rfl) (by kernel_rfl) [([],[4])]).of (by
 intro ρ h w args vals r e hA hH hr
 unfold Zl8 at hr
 split at hr
 ·rename_i a0 a1 a2
  obtain ⟨rfl,hg⟩:=Prod.mk.inj (Option.some.inj hr)
  obtain ⟨rfl,hg2⟩:=Prod.mk.inj hg
  exact Zzm a0 a1 a2 (hA.wt 0 rfl) (hA.wt 1 rfl) (hA.rng 2 rfl) hg2
 ·cases hr)
def Zfk (a0 a1:Array Value):St:=(⟨.a (.g a0 42) :: .a (.g a1 35) :: .a (.w 0) :: .a (.w 1) :: .a (.w 2) :: .a (.u) :: .a (.i .i64 (0:Int))::us 25 ([]),[.row a0 42,.row a1 35,.row (zc prog 35) 35],[]⟩:St)
def Zgw:Int×Array Value→LS
 | (y0_6,r0_1)=>([.a (.i .i64 (y0_6))],[.row r0_1 35])
def Zmd:Int×Array Value→Exit×LS
 | t=>((.exit 0),Zgw t)
def Zcy (P : Program) (a0 a1 : Array Value) : Int × Array Value → Option (Stp (Int × Array Value) (Int × Array Value))
 | (y0_6, r0_1) => bif decide (y0_6 < (36 : Int)) then (bif decide (0 ≤ y0_6) then (bif (Zav a0 y0_6) then (bif (decide (0 ≤ y0_6) && decide (y0_6 < 36)) then (bif (decide (0 ≤ y0_6) && decide (y0_6 < 36)) then (some (.more ((i64.wrap (y0_6 + (1 : Int))), (r0_1.setIfInBounds (3 + ((y0_6).toNat * 1)) (.int .i64 (i64.wrap ((num r0_1 (3 + ((y0_6).toNat * 1))) * (12 : Int))))))))
      else (none))
     else (none))
    else (bif (decide (0 ≤ y0_6) && decide (y0_6 < 36)) then (some (.more ((i64.wrap (y0_6 + (1 : Int))), (r0_1.setIfInBounds (3 + ((y0_6).toNat * 1)) (.int .i64 (0 : Int))))))
     else (none)))
   else (none))
  else (some (.done (y0_6, r0_1)))
theorem Ya0 (N:Nat) (a0 a1:Array Value):∀ t:Int×Array Value,stepV prog (mkΓ [(88,con Zbo)]) N (cAt (codeOf Tryd.f81) [1,0,1,0,0]) (pAt (mkPlan (codeOf Tryd.f81) [([6],[1])]).1 [1,0,1,0]) [6] [1] (Zfk a0 a1) (Zgw t)=mapS Zgw Zmd (Zcy prog a0 a1 t):=by
 rintro ⟨y0_6,r0_1⟩
 refine Eq.trans (b:=(bif decide (y0_6<(36:Int)) then (bif decide (0≤y0_6) then (bif (Zav a0 y0_6) then (bif (decide (0≤y0_6)&&decide (y0_6<36)) then (bif (decide (0≤y0_6)&&decide (y0_6<36)) then (some (.more ([.a (.i .i64 (i64.wrap (y0_6+(1:Int))))],[.row (r0_1.setIfInBounds (3+((y0_6).toNat*1)) (.int .i64 (i64.wrap ((num r0_1 (3+((y0_6).toNat*1)))*(12:Int))))) 35])))
      else (none))
     else (none))
    else (bif (decide (0≤y0_6)&&decide (y0_6<36)) then (some (.more ([.a (.i .i64 (i64.wrap (y0_6+(1:Int))))],[.row (r0_1.setIfInBounds (3+((y0_6).toNat*1)) (.int .i64 (0:Int))) 35])))
     else (none)))
   else (none))
  else (some (.done ((.exit 0),([.a (.i .i64 (y0_6))],[.row r0_1 35])))))) (by kernel_rfl) ?_
 simp only [Zcy,Za0,Zay,Za1,Zaz,Zgw,Zmd]
def Zjq (P:Program) (N:Nat) (a0 a1:Array Value) (z0_6:Int) (q0_1:Array Value):Option (SV×Eff×Bool):=some (.a (.g ((q0_1.setIfInBounds 39 (.int .i64 (i64.wrap ((num q0_1 39)*(12:Int))))).setIfInBounds 1 (.int .i8 (IntKind.i8.wrap ((num (q0_1.setIfInBounds 39 (.int .i64 (i64.wrap ((num q0_1 39)*(12:Int))))) 1)+(1:Int))))) 35),.none,true)
theorem Zso (N:Nat) (a0 a1:Array Value) (z0_6:Int) (q0_1:Array Value):(kBlock 0 (kSeq (veC prog (mkΓ [(88,con Zbo)]) N (cAt (codeOf Tryd.f81) [1,1]) (pAt (mkPlan (codeOf Tryd.f81) [([6],[1])]).1 [1,1]) (SV×Eff×Bool)) (finK prog [] [.cell 4 35]))) (.exit 0) (left (writes (cAt (codeOf Tryd.f81) [1,0,1,0,0])) [6] [1] (Zfk a0 a1) ([.a (.i .i64 (z0_6))],[.row q0_1 35]))=Zjq prog N a0 a1 z0_6 q0_1:=by
 refine Eq.trans (b:=(some (.a (.g ((q0_1.setIfInBounds 39 (.int .i64 (i64.wrap ((num q0_1 39)*(12:Int))))).setIfInBounds 1 (.int .i8 (IntKind.i8.wrap ((num (q0_1.setIfInBounds 39 (.int .i64 (i64.wrap ((num q0_1 39)*(12:Int))))) 1)+(1:Int))))) 35),.none,true))) (by kernel_rfl) ?_
 rfl
theorem Yb9 (N:Nat) (a0 a1:Array Value):bindX (iterO (stepV prog (mkΓ [(88,con Zbo)]) N (cAt (codeOf Tryd.f81) [1,0,1,0,0]) (pAt (mkPlan (codeOf Tryd.f81) [([6],[1])]).1 [1,0,1,0]) [6] [1] (Zfk a0 a1)) N ([.a (.i .i64 (0:Int))],[.row a1 35])) (fun e s=>(kBlock 0 (kSeq (veC prog (mkΓ [(88,con Zbo)]) N (cAt (codeOf Tryd.f81) [1,1]) (pAt (mkPlan (codeOf Tryd.f81) [([6],[1])]).1 [1,1]) (SV×Eff×Bool)) (finK prog [] [.cell 4 35]))) e (left (writes (cAt (codeOf Tryd.f81) [1,0,1,0,0])) [6] [1] (Zfk a0 a1) s))=nodeX (iterO (Zcy prog a0 a1) N ((0:Int),a1)) (fun x=>Zjq prog N a0 a1 x.1 x.2):=by
 refine Zbg Zgw Zmd _ _ (Ya0 N a0 a1) N ((0:Int),a1) _ _ ?_
 intro x;exact Zso N a0 a1 x.1 x.2
theorem Zzo (N:Nat) (a0 a1:Array Value):ansV prog (mkΓ [(88,con Zbo)]) N Tryd.f81 [([6],[1])] [.g a0 42,.g a1 35] []=(nodeX (iterO (Zcy prog a0 a1) N ((0:Int),a1)) (fun x=>Zjq prog N a0 a1 x.1 x.2)):=by
 refine Eq.trans (b:=(bindX (iterO (stepV prog (mkΓ [(88,con Zbo)]) N (cAt (codeOf Tryd.f81) [1,0,1,0,0]) (pAt (mkPlan (codeOf Tryd.f81) [([6],[1])]).1 [1,0,1,0]) [6] [1] (Zfk a0 a1)) N ([.a (.i .i64 (0:Int))],[.row a1 35])) (fun e s=>(kBlock 0 (kSeq (veC prog (mkΓ [(88,con Zbo)]) N (cAt (codeOf Tryd.f81) [1,1]) (pAt (mkPlan (codeOf Tryd.f81) [([6],[1])]).1 [1,1]) (SV×Eff×Bool)) (finK prog [] [.cell 4 35]))) e (left (writes (cAt (codeOf Tryd.f81) [1,0,1,0,0])) [6] [1] (Zfk a0 a1) s)))) (by kernel_rfl) ?_
 simp only [Yb9 N a0 a1]
theorem Zx5 (a0 a1:Array Value) (h_a0:WT prog 42 a0) (h_a1:WT prog 35 a1) (hg:(true)=true):ansV prog (mkΓ [(88,con Zbo)]) 1000 Tryd.f81 [([6],[1])] [.g a0 42,.g a1 35] []=some (.a (.g (restV a0 a1) 35),.none,true):=by
 refine (Zzo 1000 a0 a1).trans ?_
 have h:=Zhf (g:=Zcy prog a0 a1) (fun r k=>((k:Int),r)) (restF a0) (m:=36) (t:=a1) (x:=((36:Int),folds (restF a0) a1 36)) (N:=1000) (fun k s hk _=>by
  have h1:decide ((k:Int)<36)=true:=decide_eq_true (by omega)
  have h0:decide (0≤(k:Int))=true:=decide_eq_true (by omega)
  have h3:i64.wrap ((k:Int)+1)=((k+1:Nat):Int):=by rw [w64 (by omega)];omega
  unfold restF
  cases hl:Zav a0 (k:Int) with
  | false=>simp only [Zcy,h1,h0,h3,hl,Int.toNat_natCast,Bool.and_self,cond_true,cond_false]
  | true=>simp only [Zcy,h1,h0,h3,hl,Int.toNat_natCast,Bool.and_self,cond_true,cond_false]) (by
  have h1:decide (((36:Nat):Int)<36)=false:=by decide
  simp only [Zcy,h1,cond_false]
  rfl) (by omega)
 have h':iterO (Zcy prog a0 a1) 1000 ((0:Int),a1)=some ((36:Int),folds (restF a0) a1 36):=h
 rw [h']
 rfl
def Zko:Con:=fun args h=>match args,h with
 | [.g a0 42,.g a1 35],[]=>some (.a (.g (restV a0 a1) 35),.none,true)
 | _,_=>none
theorem Zuy:EntX prog 81:=Zag (fn:=Tryd.f81) (by kernel_rfl) (by kernel_rfl) (by kernel_rfl)
theorem Yb0:ConOkX mn prog 81 Zko:=(Zah (N:=1000) (by kernel_rfl) (mkΓ_consX (Zad Zs2) Zn3 mkΓ_nilX) (fn:=Tryd.f81) (by kernel_rfl) (by kernel_rfl) [([6],[1])]).of (by
 intro ρ h w args vals r e hA hH hr
 unfold Zko at hr
 split at hr
 ·rename_i a0 a1
  obtain ⟨rfl,hg⟩:=Prod.mk.inj (Option.some.inj hr)
  obtain ⟨rfl,hg2⟩:=Prod.mk.inj hg
  exact Zx5 a0 a1 (hA.wt 0 rfl) (hA.wt 1 rfl) hg2
 ·cases hr)
def Zes (a0 a1:Array Value):St:=(⟨.a (.g a0 35) :: .a (.g a1 35) :: .a (.w 0) :: .a (.w 1) :: .a (.w 2) :: .a (.u) :: .a (.u) :: .a (.p 0 (2) 2) :: .a (.i .i64 (num a0 2)) :: .a (.p 1 (2) 2) :: .a (.i .i64 (num a1 2)) :: .a (.i .i64 (i64.wrap ((num a0 2)+(num a1 2)))) :: .a (.p 0 (2) 2) :: .a (.p 1 (3) 33) :: .a (.g (a1.extract 3 (3+36)) 33) :: .a (.i .i64 (0:Int))::us 19 ([]),[.row (a0.setIfInBounds 2 (.int .i64 (i64.wrap ((num a0 2)+(num a1 2))))) 35,.row a1 35,.row (zc prog 35) 35],[0]⟩:St)
def Zf8:Int×Array Value→LS
 | (y0_15,r0_0)=>([.a (.i .i64 (y0_15))],[.row r0_0 35])
def Zky:Int×Array Value→Exit×LS
 | t=>((.exit 0),Zf8 t)
def Zcn (P : Program) (a0 a1 : Array Value) : Int × Array Value → Option (Stp (Int × Array Value) (Int × Array Value))
 | (y0_15, r0_0) => bif decide (y0_15 < (36 : Int)) then (bif (decide (0 ≤ y0_15) && decide (y0_15 < 36)) then (bif (decide (0 ≤ y0_15) && decide (y0_15 < 36)) then (bif (decide (0 ≤ y0_15) && decide (y0_15 < 36)) then (some (.more ((i64.wrap (y0_15 + (1 : Int))), (r0_0.setIfInBounds (3 + ((y0_15).toNat * 1)) (.int .i64 (i64.wrap ((num r0_0 (3 + ((y0_15).toNat * 1))) + (num (a1.extract 3 (3 + 36)) ((y0_15).toNat * 1)))))))))
     else (none))
    else (none))
   else (none))
  else (some (.done (y0_15, r0_0)))
theorem Zza (N:Nat) (a0 a1:Array Value):∀ t:Int×Array Value,stepV prog (mkΓ []) N (cAt (codeOf Tryd.f82) [1,1,0,1,0,0]) (pAt (mkPlan (codeOf Tryd.f82) [([15],[0])]).1 [1,1,0,1,0]) [15] [0] (Zes a0 a1) (Zf8 t)=mapS Zf8 Zky (Zcn prog a0 a1 t):=by
 rintro ⟨y0_15,r0_0⟩
 refine Eq.trans (b:=(bif decide (y0_15<(36:Int)) then (bif (decide (0≤y0_15)&&decide (y0_15<36)) then (bif (decide (0≤y0_15)&&decide (y0_15<36)) then (bif (decide (0≤y0_15)&&decide (y0_15<36)) then (some (.more ([.a (.i .i64 (i64.wrap (y0_15+(1:Int))))],[.row (r0_0.setIfInBounds (3+((y0_15).toNat*1)) (.int .i64 (i64.wrap ((num r0_0 (3+((y0_15).toNat*1)))+(num (a1.extract 3 (3+36)) ((y0_15).toNat*1)))))) 35])))
     else (none))
    else (none))
   else (none))
  else (some (.done ((.exit 0),([.a (.i .i64 (y0_15))],[.row r0_0 35])))))) (by kernel_rfl) ?_
 simp only [Zcn,Za0,Zay,Za1,Zaz,Zf8,Zky]
def Zjd (P:Program) (N:Nat) (a0 a1:Array Value) (z0_15:Int) (q0_0:Array Value):Option (SV×Eff×Bool):=some (.a (.g (q0_0.setIfInBounds 39 (.int .i64 (i64.wrap ((num q0_0 39)+(num a1 39))))) 35),.none,true)
theorem Zqw (N:Nat) (a0 a1:Array Value) (z0_15:Int) (q0_0:Array Value):(kBlock 0 (kSeq (veC prog (mkΓ []) N (cAt (codeOf Tryd.f82) [1,1,1]) (pAt (mkPlan (codeOf Tryd.f82) [([15],[0])]).1 [1,1,1]) (SV×Eff×Bool)) (finK prog [] [.cell 4 35]))) (.exit 0) (left (writes (cAt (codeOf Tryd.f82) [1,1,0,1,0,0])) [15] [0] (Zes a0 a1) ([.a (.i .i64 (z0_15))],[.row q0_0 35]))=Zjd prog N a0 a1 z0_15 q0_0:=by
 refine Eq.trans (b:=(some (.a (.g (q0_0.setIfInBounds 39 (.int .i64 (i64.wrap ((num q0_0 39)+(num a1 39))))) 35),.none,true))) (by kernel_rfl) ?_
 rfl
theorem Zzn (N:Nat) (a0 a1:Array Value):bindX (iterO (stepV prog (mkΓ []) N (cAt (codeOf Tryd.f82) [1,1,0,1,0,0]) (pAt (mkPlan (codeOf Tryd.f82) [([15],[0])]).1 [1,1,0,1,0]) [15] [0] (Zes a0 a1)) N ([.a (.i .i64 (0:Int))],[.row (a0.setIfInBounds 2 (.int .i64 (i64.wrap ((num a0 2)+(num a1 2))))) 35])) (fun e s=>(kBlock 0 (kSeq (veC prog (mkΓ []) N (cAt (codeOf Tryd.f82) [1,1,1]) (pAt (mkPlan (codeOf Tryd.f82) [([15],[0])]).1 [1,1,1]) (SV×Eff×Bool)) (finK prog [] [.cell 4 35]))) e (left (writes (cAt (codeOf Tryd.f82) [1,1,0,1,0,0])) [15] [0] (Zes a0 a1) s))=nodeX (iterO (Zcn prog a0 a1) N ((0:Int),(a0.setIfInBounds 2 (.int .i64 (i64.wrap ((num a0 2)+(num a1 2))))))) (fun x=>Zjd prog N a0 a1 x.1 x.2):=by
 refine Zbg Zf8 Zky _ _ (Zza N a0 a1) N ((0:Int),(a0.setIfInBounds 2 (.int .i64 (i64.wrap ((num a0 2)+(num a1 2)))))) _ _ ?_
 intro x;exact Zqw N a0 a1 x.1 x.2
theorem Zx9 (N:Nat) (a0 a1:Array Value):ansV prog (mkΓ []) N Tryd.f82 [([15],[0])] [.g a0 35,.g a1 35] []=(nodeX (iterO (Zcn prog a0 a1) N ((0:Int),(a0.setIfInBounds 2 (.int .i64 (i64.wrap ((num a0 2)+(num a1 2))))))) (fun x=>Zjd prog N a0 a1 x.1 x.2)):=by
 refine Eq.trans (b:=(bindX (iterO (stepV prog (mkΓ []) N (cAt (codeOf Tryd.f82) [1,1,0,1,0,0]) (pAt (mkPlan (codeOf Tryd.f82) [([15],[0])]).1 [1,1,0,1,0]) [15] [0] (Zes a0 a1)) N ([.a (.i .i64 (0:Int))],[.row (a0.setIfInBounds 2 (.int .i64 (i64.wrap ((num a0 2)+(num a1 2))))) 35])) (fun e s=>(kBlock 0 (kSeq (veC prog (mkΓ []) N (cAt (codeOf Tryd.f82) [1,1,1]) (pAt (mkPlan (codeOf Tryd.f82) [([15],[0])]).1 [1,1,1]) (SV×Eff×Bool)) (finK prog [] [.cell 4 35]))) e (left (writes (cAt (codeOf Tryd.f82) [1,1,0,1,0,0])) [15] [0] (Zes a0 a1) s)))) (by kernel_rfl) ?_
 simp only [Zzn N a0 a1]
theorem Zvg (a0 a1:Array Value) (h_a0:WT prog 35 a0) (h_a1:WT prog 35 a1) (hg:(true)=true):ansV prog (mkΓ []) 1000 Tryd.f82 [([15],[0])] [.g a0 35,.g a1 35] []=some (.a (.g (togV a0 a1) 35),.none,true):=by
 have hz:a1.size=40:=by rw [h_a1.layLen];kernel_rfl
 refine (Zx9 1000 a0 a1).trans ?_
 have h:=Zhf (g:=Zcn prog a0 a1) (fun r k=>((k:Int),r)) (togF a1) (m:=36) (t:=adN a0 2 (num a1 2)) (x:=((36:Int),folds (togF a1) (adN a0 2 (num a1 2)) 36)) (N:=1000) (fun k s hk _=>by
  have h1:decide ((k:Int)<36)=true:=decide_eq_true (by omega)
  have h0:decide (0≤(k:Int))=true:=decide_eq_true (by omega)
  have h3:i64.wrap ((k:Int)+1)=((k+1:Nat):Int):=by rw [w64 (by omega)];omega
  have h5:=cell_num (T:=0) hz k hk
  simp only [Zcn,h1,h0,h3,Int.toNat_natCast,Bool.and_self,cond_true,h5]
  rfl) (by
  have h1:decide (((36:Nat):Int)<36)=false:=by decide
  simp only [Zcn,h1,cond_false]
  rfl) (by omega)
 have h':iterO (Zcn prog a0 a1) 1000 ((0:Int),adN a0 2 (num a1 2))=some ((36:Int),folds (togF a1) (adN a0 2 (num a1 2)) 36):=h
 show nodeX (iterO (Zcn prog a0 a1) 1000 ((0:Int),adN a0 2 (num a1 2))) _=_
 rw [h']
 unfold togV
 generalize folds (togF a1) (adN a0 2 (num a1 2)) 36=q
 rfl
def Zj4:Con:=fun args h=>match args,h with
 | [.g a0 35,.g a1 35],[]=>some (.a (.g (togV a0 a1) 35),.none,true)
 | _,_=>none
theorem Ztu:EntX prog 82:=Zag (fn:=Tryd.f82) (by kernel_rfl) (by kernel_rfl) (by kernel_rfl)
theorem Zzu:ConOkX mn prog 82 Zj4:=(Zah (N:=1000) (by kernel_rfl) mkΓ_nilX (fn:=Tryd.f82) (by kernel_rfl) (by kernel_rfl) [([15],[0])]).of (by
 intro ρ h w args vals r e hA hH hr
 unfold Zj4 at hr
 split at hr
 ·rename_i a0 a1
  obtain ⟨rfl,hg⟩:=Prod.mk.inj (Option.some.inj hr)
  obtain ⟨rfl,hg2⟩:=Prod.mk.inj hg
  exact Zvg a0 a1 (hA.wt 0 rfl) (hA.wt 1 rfl) hg2
 ·cases hr)
end
end Go.Proofs.YtflnjkpejbohjaaDoor
