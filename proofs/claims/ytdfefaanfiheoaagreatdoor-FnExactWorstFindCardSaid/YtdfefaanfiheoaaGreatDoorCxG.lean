/- An hour as it is asked; what flows, what rests, and both together; in company. -/
import Derived.Test.YtdfefaanfiheoaaGreatDoorProg
import Derived.Test.YtdfefaanfiheoaaGreatDoorCxF
set_option linter.unusedVariables false
set_option linter.unusedSimpArgs false
open _root_.Bool renaming and_self→jA
namespace Go.Proofs.YtdfefaanfiheoaaGreatDoor
open Tryz (f106 f107 f116 f120)
open Go.ChangeShapes Go.WideShapes Go.ChangeAt Go.RowKit Ve Vc
open Tryz renaming prog → PZ
open IntKind (i64)
set_option maxRecDepth 100000
noncomputable section
variable {mn:Md}
def Zcf:Cons:=(mkΓ [(70,con Zjr),(123,con Zla)])
def Zfx (a0 a1:Array Value) (y0_7:Int) (r0_22:Array Value):St:=(⟨.a (.w 0) :: .a (.w 1) :: .a (.u) :: .a (.u) :: .a (.w 2) :: .a (.w 22) :: .a (.i .i8 (((IntKind.i8.wrap ((num a1 0)+(num a1 1)))).tmod (2:Int))) :: .a (.i .i64 (y0_7)) :: .a (.i .i64 (0:Int)) :: .a (.x) :: .a (.x) :: .a (.w 1) :: .a (.w 1) :: .a (.p 1 (0) 22) :: .a (.i .i8 (num a1 0)) :: .a (.w 1) :: .a (.w 1) :: .a (.p 1 (1) 22) :: .a (.i .i8 (num a1 1)) :: .a (.i .i8 (IntKind.i8.wrap ((num a1 1)+(1:Int)))) :: .a (.w 1) :: .a (.w 1) :: .a (.p 1 (2) 2) :: .a (.i .i64 (num a1 2)) :: .a (.w 1) :: .a (.w 1) :: .a (.p 1 (39) 2) :: .a (.i .i64 (num a1 39)) :: .a (.i .i64 (i64.wrap ((num a1 39)*(12:Int)))) :: .a (.g (((((zc PZ 132).setIfInBounds 0 (.int .i8 (num a1 0))).setIfInBounds 1 (.int .i8 (IntKind.i8.wrap ((num a1 1)+(1:Int))))).setIfInBounds 2 (.int .i64 (num a1 2))).setIfInBounds 39 (.int .i64 (i64.wrap ((num a1 39)*(12:Int))))) 132) :: .a (.w 1) :: .a (.w 1) :: .a (.p 1 (0) 22) :: .a (.i .i8 (num a1 0)) :: .a (.w 1) :: .a (.w 1) :: .a (.p 1 (1) 22) :: .a (.i .i8 (num a1 1)) :: .a (.i .i8 (IntKind.i8.wrap ((num a1 0)+(num a1 1)))) :: .a (.i .i8 (((IntKind.i8.wrap ((num a1 0)+(num a1 1)))).tmod (2:Int))) :: .a (.i .i64 (y0_7)) :: .a (.b (decide (y0_7<(36:Int)))) :: .a (.x) :: .a (.x) :: .a (.w 0) :: .a (.i .i64 (y0_7)) :: .a (.b ((Zai y0_7 a0))) :: .a (.b ((!((Zai y0_7 a0)))))::xs 55 (.a (.u)::[]),[.row a0 37,.row a1 132,.row (zc PZ 132) 132,.no,.no,.no,.no,.no,.no,.no,.no,.no,.no,.no,.no,.no,.no,.no,.no,.no,.no,.no,.row r0_22 132,.no,.no,.no,.no,.no,.no,.no,.no,.no,.no,.no,.no],[22]⟩:St)
def Zeg:Int×Array Value→LS
 | (y1_8,r1_22)=>([.a (.i .i64 (y1_8))],[.row r1_22 132])
def Zhg:Int×Array Value→Exit×LS
 | t=>((.exit 2),Zeg t)
def Zco (P : Program) (a0 a1 : Array Value) (y0_7 : Int) (r0_22 : Array Value) : Int × Array Value → Option (Stp (Int × Array Value) (Int × Array Value))
 | (y1_8, r1_22) => bif decide (y1_8 < (5 : Int)) then (bif (decide (0 ≤ y0_7) && decide (y0_7 < 36)) then (bif (decide (0 ≤ (((IntKind.i8.wrap ((num a1 0) + (num a1 1)))).tmod (2 : Int))) && decide ((((IntKind.i8.wrap ((num a1 0) + (num a1 1)))).tmod (2 : Int)) < 2)) then (bif (decide (0 ≤ y0_7) && decide (y0_7 < 36)) then (bif (decide (0 ≤ y1_8) && decide (y1_8 < 5)) then (bif decide ((Zaf y0_7 y1_8 a0) < (0 : Int)) then (some (.more ((i64.wrap (y1_8 + (1 : Int))), (r1_22.setIfInBounds 39 (.int .i64 (i64.wrap ((num r1_22 39) + (i64.wrap ((num a1 (3 + ((y0_7).toNat * 1))) * (i64.wrap (num a0 (((3 + ((((IntKind.i8.wrap ((num a1 0) + (num a1 1)))).tmod (2 : Int)).toNat * 180)) + ((y0_7).toNat * 5)) + ((y1_8).toNat * 1)))))))))))))
       else (bif (decide (0 ≤ (Zaf y0_7 y1_8 a0)) && decide ((Zaf y0_7 y1_8 a0) < 36)) then (bif (decide (0 ≤ (Zaf y0_7 y1_8 a0)) && decide ((Zaf y0_7 y1_8 a0) < 36)) then (some (.more ((i64.wrap (y1_8 + (1 : Int))), (r1_22.setIfInBounds (3 + ((Zaf y0_7 y1_8 a0).toNat * 1)) (.int .i64 (i64.wrap ((num r1_22 (3 + ((Zaf y0_7 y1_8 a0).toNat * 1))) + (i64.wrap ((num a1 (3 + ((y0_7).toNat * 1))) * (i64.wrap (num a0 (((3 + ((((IntKind.i8.wrap ((num a1 0) + (num a1 1)))).tmod (2 : Int)).toNat * 180)) + ((y0_7).toNat * 5)) + ((y1_8).toNat * 1)))))))))))))
         else (none))
        else (none)))
      else (none))
     else (none))
    else (none))
   else (none))
  else (some (.done (y1_8, r1_22)))
noncomputable abbrev cKCxG120:=codeOf f120
def Ub1:=(Uaa cKCxG120 [([7],[22]),([8],[22])]).1
theorem Zm1 (N:Nat) (a0 a1:Array Value) (y0_7:Int) (r0_22:Array Value):∀ t:Int×Array Value,Uag PZ Zcf N (cAt cKCxG120 [1,1,1,0,1,0,0,1,0,0,1,1,0,0]) (pAt Ub1 [1,1,1,0,1,0,1,0,1,1,0]) [8] [22] (Zfx a0 a1 y0_7 r0_22) (Zeg t)=mapS Zeg Zhg (Zco PZ a0 a1 y0_7 r0_22 t):=by
 rintro ⟨y1_8,r1_22⟩
 refine Eq.trans (b:=(bif decide (y1_8<(5:Int)) then (bif (decide (0≤y0_7)&&decide (y0_7<36)) then (bif (decide (0≤(((IntKind.i8.wrap ((num a1 0)+(num a1 1)))).tmod (2:Int)))&&decide ((((IntKind.i8.wrap ((num a1 0)+(num a1 1)))).tmod (2:Int))<2)) then (bif (decide (0≤y0_7)&&decide (y0_7<36)) then (bif (decide (0≤y1_8)&&decide (y1_8<5)) then (bif decide ((Zaf y0_7 y1_8 a0)<(0:Int)) then (some (.more ([.a (.i .i64 (i64.wrap (y1_8+(1:Int))))],[.row (r1_22.setIfInBounds 39 (.int .i64 (i64.wrap ((num r1_22 39)+(i64.wrap ((num a1 (3+((y0_7).toNat*1)))*(i64.wrap (num a0 (((3+((((IntKind.i8.wrap ((num a1 0)+(num a1 1)))).tmod (2:Int)).toNat*180))+((y0_7).toNat*5))+((y1_8).toNat*1)))))))))) 132])))
       else (bif (decide (0≤(Zaf y0_7 y1_8 a0))&&decide ((Zaf y0_7 y1_8 a0)<36)) then (bif (decide (0≤(Zaf y0_7 y1_8 a0))&&decide ((Zaf y0_7 y1_8 a0)<36)) then (some (.more ([.a (.i .i64 (i64.wrap (y1_8+(1:Int))))],[.row (r1_22.setIfInBounds (3+((Zaf y0_7 y1_8 a0).toNat*1)) (.int .i64 (i64.wrap ((num r1_22 (3+((Zaf y0_7 y1_8 a0).toNat*1)))+(i64.wrap ((num a1 (3+((y0_7).toNat*1)))*(i64.wrap (num a0 (((3+((((IntKind.i8.wrap ((num a1 0)+(num a1 1)))).tmod (2:Int)).toNat*180))+((y0_7).toNat*5))+((y1_8).toNat*1)))))))))) 132])))
         else (none))
        else (none)))
      else (none))
     else (none))
    else (none))
   else (none))
  else (some (.done ((.exit 2),([.a (.i .i64 (y1_8))],[.row r1_22 132])))))) (by kernel_rfl) ?_
 simp only [Zco,Zat,Zaq,Zar,Zas,Zeg,Zhg]
def Zfo (a0 a1:Array Value):St:=(⟨.a (.w 0) :: .a (.w 1) :: .a (.u) :: .a (.u) :: .a (.w 2) :: .a (.w 22) :: .a (.i .i8 (((IntKind.i8.wrap ((num a1 0)+(num a1 1)))).tmod (2:Int))) :: .a (.i .i64 (0:Int))::us 3 (.a (.w 1) :: .a (.w 1) :: .a (.p 1 (0) 22) :: .a (.i .i8 (num a1 0)) :: .a (.w 1) :: .a (.w 1) :: .a (.p 1 (1) 22) :: .a (.i .i8 (num a1 1)) :: .a (.i .i8 (IntKind.i8.wrap ((num a1 1)+(1:Int)))) :: .a (.w 1) :: .a (.w 1) :: .a (.p 1 (2) 2) :: .a (.i .i64 (num a1 2)) :: .a (.w 1) :: .a (.w 1) :: .a (.p 1 (39) 2) :: .a (.i .i64 (num a1 39)) :: .a (.i .i64 (i64.wrap ((num a1 39)*(12:Int)))) :: .a (.g (((((zc PZ 132).setIfInBounds 0 (.int .i8 (num a1 0))).setIfInBounds 1 (.int .i8 (IntKind.i8.wrap ((num a1 1)+(1:Int))))).setIfInBounds 2 (.int .i64 (num a1 2))).setIfInBounds 39 (.int .i64 (i64.wrap ((num a1 39)*(12:Int))))) 132) :: .a (.w 1) :: .a (.w 1) :: .a (.p 1 (0) 22) :: .a (.i .i8 (num a1 0)) :: .a (.w 1) :: .a (.w 1) :: .a (.p 1 (1) 22) :: .a (.i .i8 (num a1 1)) :: .a (.i .i8 (IntKind.i8.wrap ((num a1 0)+(num a1 1)))) :: .a (.i .i8 (((IntKind.i8.wrap ((num a1 0)+(num a1 1)))).tmod (2:Int)))::us 64 ([])),[.row a0 37,.row a1 132,.row (zc PZ 132) 132,.no,.no,.no,.no,.no,.no,.no,.no,.no,.no,.no,.no,.no,.no,.no,.no,.no,.no,.no,.row (((((zc PZ 132).setIfInBounds 0 (.int .i8 (num a1 0))).setIfInBounds 1 (.int .i8 (IntKind.i8.wrap ((num a1 1)+(1:Int))))).setIfInBounds 2 (.int .i64 (num a1 2))).setIfInBounds 39 (.int .i64 (i64.wrap ((num a1 39)*(12:Int))))) 132,.no,.no,.no,.no,.no,.no,.no,.no,.no,.no,.no,.no],[22]⟩:St)
def Zcn:Int×Array Value→LS
 | (y0_7,r0_22)=>([.a (.i .i64 (y0_7))],[.row r0_22 132])
def Zec:Int×Array Value→Exit×LS
 | t=>((.exit 0),Zcn t)
def Zfr (P:Program) (N:Nat) (a0 a1:Array Value) (y0_7:Int) (r0_22:Array Value) (z1_8:Int) (q1_22:Array Value):Option (Stp (Int×Array Value) (Int×Array Value)):=some (.more ((i64.wrap (y0_7+(1:Int))),q1_22))
def Uew (N:Nat):=(Uad 2 (Uad 1 (kSeq (veC PZ Zcf N (cAt cKCxG120 [1,1,1,0,1,0,0,1,1]) (pAt Ub1 [1,1,1,0,1,0,1,1]) (Stp LS (Exit×LS))) (Uei 35 [7] [22]))))
theorem Zso (N:Nat) (a0 a1:Array Value) (y0_7:Int) (r0_22:Array Value) (z1_8:Int) (q1_22:Array Value):(Uew N) (.exit 2) (left (writes (cAt cKCxG120 [1,1,1,0,1,0,0,1,0,0,1,1,0,0])) [8] [22] (Zfx a0 a1 y0_7 r0_22) ([.a (.i .i64 (z1_8))],[.row q1_22 132]))=mapS Zcn Zec (Zfr PZ N a0 a1 y0_7 r0_22 z1_8 q1_22):=by
 refine Eq.trans (b:=(some (.more ([.a (.i .i64 (i64.wrap (y0_7+(1:Int))))],[.row q1_22 132])))) (by kernel_rfl) ?_
 simp only [Zfr,Zat,Zaq,Zar,Zas,Zcn,Zec]
theorem Ycs (N:Nat) (a0 a1:Array Value) (y0_7:Int) (r0_22:Array Value):Uah (Uab (Uag PZ Zcf N (cAt cKCxG120 [1,1,1,0,1,0,0,1,0,0,1,1,0,0]) (pAt Ub1 [1,1,1,0,1,0,1,0,1,1,0]) [8] [22] (Zfx a0 a1 y0_7 r0_22)) N ([.a (.i .i64 (0:Int))],[.row r0_22 132])) (fun e s=>(Uew N) e (left (writes (cAt cKCxG120 [1,1,1,0,1,0,0,1,0,0,1,1,0,0])) [8] [22] (Zfx a0 a1 y0_7 r0_22) s))=mapS Zcn Zec (Uai (Uab (Zco PZ a0 a1 y0_7 r0_22) N ((0:Int),r0_22)) (fun x=>Zfr PZ N a0 a1 y0_7 r0_22 x.1 x.2)):=by
 rw [Yf7 Zcn Zec]
 first
 | (have h:=Zav (α:=Stp LS (Exit×LS)) Zeg Zhg _ _ (Zm1 N a0 a1 y0_7 r0_22) N ((0:Int),r0_22);refine h _ _ ?_)
 | (have h:=Zav (α:=Stp BS (Exit×BS)) Zeg Zhg _ _ (Zm1 N a0 a1 y0_7 r0_22) N ((0:Int),r0_22);refine h _ _ ?_)
 | (have h:=Zav (α:=Stp LS ((Exit×LS) ⊕ (SV×Eff×Bool))) Zeg Zhg _ _ (Zm1 N a0 a1 y0_7 r0_22) N ((0:Int),r0_22);refine h _ _ ?_)
 intro x;exact Zso N a0 a1 y0_7 r0_22 x.1 x.2
def Zcq (P : Program) (N : Nat) (a0 a1 : Array Value) : Int × Array Value → Option (Stp (Int × Array Value) (Int × Array Value))
 | (y0_7, r0_22) => bif decide (y0_7 < (36 : Int)) then (bif (Zbh y0_7 a0) then (bif (!((Zai y0_7 a0))) then (bif (decide (0 ≤ y0_7) && decide (y0_7 < 36)) then (bif (decide (0 ≤ y0_7) && decide (y0_7 < 36)) then (bif (decide (0 ≤ y0_7) && decide (y0_7 < 36)) then (some (.more ((i64.wrap (y0_7 + (1 : Int))), (r0_22.setIfInBounds (3 + ((y0_7).toNat * 1)) (.int .i64 (i64.wrap ((num r0_22 (3 + ((y0_7).toNat * 1))) + (i64.wrap ((num a1 (3 + ((y0_7).toNat * 1))) * (12 : Int))))))))))
       else (none))
      else (none))
     else (none))
    else (Uai (Uab (Zco P a0 a1 y0_7 r0_22) N ((0 : Int), r0_22)) (fun x => Zfr P N a0 a1 y0_7 r0_22 x.1 x.2)))
   else (none))
  else (some (.done (y0_7, r0_22)))
theorem Ycb (N:Nat) (a0 a1:Array Value):∀ t:Int×Array Value,Uag PZ Zcf N (cAt cKCxG120 [1,1,1,0,1,0,0]) (pAt Ub1 [1,1,1,0,1,0]) [7] [22] (Zfo a0 a1) (Zcn t)=mapS Zcn Zec (Zcq PZ N a0 a1 t):=by
 rintro ⟨y0_7,r0_22⟩
 refine Eq.trans (b:=(bif decide (y0_7<(36:Int)) then (bif (Zbh y0_7 a0) then (bif (!((Zai y0_7 a0))) then (bif (decide (0≤y0_7)&&decide (y0_7<36)) then (bif (decide (0≤y0_7)&&decide (y0_7<36)) then (bif (decide (0≤y0_7)&&decide (y0_7<36)) then (some (.more ([.a (.i .i64 (i64.wrap (y0_7+(1:Int))))],[.row (r0_22.setIfInBounds (3+((y0_7).toNat*1)) (.int .i64 (i64.wrap ((num r0_22 (3+((y0_7).toNat*1)))+(i64.wrap ((num a1 (3+((y0_7).toNat*1)))*(12:Int))))))) 132])))
       else (none))
      else (none))
     else (none))
    else (Uah (Uab (Uag PZ Zcf N (cAt cKCxG120 [1,1,1,0,1,0,0,1,0,0,1,1,0,0]) (pAt Ub1 [1,1,1,0,1,0,1,0,1,1,0]) [8] [22] (Zfx a0 a1 y0_7 r0_22)) N ([.a (.i .i64 (0:Int))],[.row r0_22 132])) (fun e s=>(Uew N) e (left (writes (cAt cKCxG120 [1,1,1,0,1,0,0,1,0,0,1,1,0,0])) [8] [22] (Zfx a0 a1 y0_7 r0_22) s))))
   else (none))
  else (some (.done ((.exit 0),([.a (.i .i64 (y0_7))],[.row r0_22 132])))))) (by kernel_rfl) ?_
 simp only [Ycs N a0 a1 y0_7 r0_22,Zcq,Zat,Zaq,Zar,Zas,Zcn,Zec]
def Zku (P:Program) (N:Nat) (a0 a1:Array Value) (z0_7:Int) (q0_22:Array Value):Option (SV×Eff×Bool):=some (.a (.g q0_22 132),.none,true)
def Ufb (N:Nat) (a0 a1:Array Value):=(Uad 0 (kSeq (veC PZ Zcf N (cAt cKCxG120 [1,1,1,1]) (pAt Ub1 [1,1,1,1]) (SV×Eff×Bool)) (finK PZ [.row a0 37,.row a1 132] [.cell 4 132])))
theorem Ztj (N:Nat) (a0 a1:Array Value) (z0_7:Int) (q0_22:Array Value):(Ufb N a0 a1) (.exit 0) (left (writes (cAt cKCxG120 [1,1,1,0,1,0,0])) [7] [22] (Zfo a0 a1) ([.a (.i .i64 (z0_7))],[.row q0_22 132]))=Zku PZ N a0 a1 z0_7 q0_22:=by
 refine Eq.trans (b:=(some (.a (.g q0_22 132),.none,true))) (by kernel_rfl) ?_
 rfl
theorem Ydm (N:Nat) (a0 a1:Array Value):Uah (Uab (Uag PZ Zcf N (cAt cKCxG120 [1,1,1,0,1,0,0]) (pAt Ub1 [1,1,1,0,1,0]) [7] [22] (Zfo a0 a1)) N ([.a (.i .i64 (0:Int))],[.row (((((zc PZ 132).setIfInBounds 0 (.int .i8 (num a1 0))).setIfInBounds 1 (.int .i8 (IntKind.i8.wrap ((num a1 1)+(1:Int))))).setIfInBounds 2 (.int .i64 (num a1 2))).setIfInBounds 39 (.int .i64 (i64.wrap ((num a1 39)*(12:Int))))) 132])) (fun e s=>(Ufb N a0 a1) e (left (writes (cAt cKCxG120 [1,1,1,0,1,0,0])) [7] [22] (Zfo a0 a1) s))=Uai (Uab (Zcq PZ N a0 a1) N ((0:Int),(((((zc PZ 132).setIfInBounds 0 (.int .i8 (num a1 0))).setIfInBounds 1 (.int .i8 (IntKind.i8.wrap ((num a1 1)+(1:Int))))).setIfInBounds 2 (.int .i64 (num a1 2))).setIfInBounds 39 (.int .i64 (i64.wrap ((num a1 39)*(12:Int))))))) (fun x=>Zku PZ N a0 a1 x.1 x.2):=by
 refine Zav Zcn Zec _ _ (Ycb N a0 a1) N ((0:Int),(((((zc PZ 132).setIfInBounds 0 (.int .i8 (num a1 0))).setIfInBounds 1 (.int .i8 (IntKind.i8.wrap ((num a1 1)+(1:Int))))).setIfInBounds 2 (.int .i64 (num a1 2))).setIfInBounds 39 (.int .i64 (i64.wrap ((num a1 39)*(12:Int)))))) _ _ ?_
 intro x;exact Ztj N a0 a1 x.1 x.2
theorem Zz8 (N:Nat) (a0 a1:Array Value):ansV PZ Zcf N f120 [([7],[22]),([8],[22])] [.w 0,.w 1] [.row a0 37,.row a1 132]=(Uai (Uab (Zcq PZ N a0 a1) N ((0:Int),(((((zc PZ 132).setIfInBounds 0 (.int .i8 (num a1 0))).setIfInBounds 1 (.int .i8 (IntKind.i8.wrap ((num a1 1)+(1:Int))))).setIfInBounds 2 (.int .i64 (num a1 2))).setIfInBounds 39 (.int .i64 (i64.wrap ((num a1 39)*(12:Int))))))) (fun x=>Zku PZ N a0 a1 x.1 x.2)):=by
 refine Eq.trans (b:=(Uah (Uab (Uag PZ Zcf N (cAt cKCxG120 [1,1,1,0,1,0,0]) (pAt Ub1 [1,1,1,0,1,0]) [7] [22] (Zfo a0 a1)) N ([.a (.i .i64 (0:Int))],[.row (((((zc PZ 132).setIfInBounds 0 (.int .i8 (num a1 0))).setIfInBounds 1 (.int .i8 (IntKind.i8.wrap ((num a1 1)+(1:Int))))).setIfInBounds 2 (.int .i64 (num a1 2))).setIfInBounds 39 (.int .i64 (i64.wrap ((num a1 39)*(12:Int))))) 132])) (fun e s=>(Ufb N a0 a1) e (left (writes (cAt cKCxG120 [1,1,1,0,1,0,0])) [7] [22] (Zfo a0 a1) s)))) (by kernel_rfl) ?_
 simp only [Ydm N a0 a1]
theorem dec2 {a b:Int} (h1:0≤a) (h2:a<b):(decide (0≤a)&&decide (a<b))=true:=by rw [Q3 h1,Q3 h2];rfl
def adN (r:Array Value) (i:Nat) (m:Int):Array Value:=r.setIfInBounds i (.int .i64 (i64.wrap (num r i+m)))
def tdS (X:Array Value):Int:=(IntKind.i8.wrap (num X 0+num X 1)).tmod 2
def muF (S X:Array Value) (t:Int) (k w:Nat):Int:=i64.wrap (num X (3+k*1)*chW S t (k:Int) w)
def wayF (S X:Array Value) (t:Int) (k:Nat) (r:Array Value) (w:Nat):Array Value:=bif decide (Zaf (k:Int) (w:Int) S<0) then adN r 39 (muF S X t k w) else adN r (3+(Zaf (k:Int) (w:Int) S).toNat*1) (muF S X t k w)
def Uee (S X:Array Value) (t:Int) (r:Array Value) (k:Nat):Array Value:=bif Zai (k:Int) S then folds (wayF S X t k) r 5 else adN r (3+k*1) (i64.wrap (num X (3+k*1)*12))
def Ubu (P:Program) (X:Array Value):Array Value:=((((zc P 132).setIfInBounds 0 (.int .i8 (num X 0))).setIfInBounds 1 (.int .i8 (IntKind.i8.wrap (num X 1+1)))).setIfInBounds 2 (.int .i64 (num X 2))).setIfInBounds 39 (.int .i64 (i64.wrap (num X 39*12)))
def Ubd (P:Program) (S X:Array Value):Array Value:=folds (Uee S X (tdS X)) (Ubu P X) 36
theorem Yfn {S:Array Value} (h0:1≤num S 0∧num S 0≤6∧1≤num S 1∧num S 1≤6) {k:Nat} (hk:k<36) (hi:inC (num S 0) (num S 1) k=true) {w:Nat} (hw:w<5) (hn:¬ Zaf (k:Int) (w:Int) S<0):0≤Zaf (k:Int) (w:Int) S∧Zaf (k:Int) (w:Int) S<36:=by
 rw [Ydn h0 hk hi w hw] at hn⊢
 exact Ybz h0 hk hi w hw (by omega)
theorem Zzh (a0 a1:Array Value) (h_a0:WT PZ 37 a0) (h_a1:WT PZ 132 a1) (hg:((okS a0&&(decide (0≤tdS a1)&&decide (tdS a1<2))))=true):ansV PZ Zcf 1000 f120 [([7],[22]),([8],[22])] [.w 0,.w 1] [.row a0 37,.row a1 132]=some (.a (.g (Ubd PZ a0 a1) 132),.none,true):=by
 rw [Q7] at hg
 obtain ⟨hok,ht⟩:=hg
 have hdm:=Zr9 hok
 refine (Zz8 1000 a0 a1).trans ?_
 have hT:(IntKind.i8.wrap (num a1 0+num a1 1)).tmod 2=tdS a1:=rfl
 have h:=Zhz (g:=Zcq PZ 1000 a0 a1) (fun r k=>((k:Int),r)) (Uee a0 a1 (tdS a1)) (m:=36) (t:=Ubu PZ a1) (x:=((36:Int),Ubd PZ a0 a1)) (N:=1000) (fun k s hk _=>by
  have h1:decide ((k:Int)<36)=true:=Q3 (by omega)
  have h0:decide (0≤(k:Int))=true:=Q3 (by omega)
  have h3:i64.wrap ((k:Int)+1)=((k+1:Nat):Int):=by rw [w64 (by omega)];omega
  obtain ⟨w1,w2⟩:=Yej h_a0 hk
  unfold Uee
  cases hw:Zai (k:Int) a0 with
  | false=>
   simp only [Zcq,h1,h0,h3,w1,hw,Q9,jA,Bool.not_false,Q1,Q2]
   rfl
  | true=>
   rw [hw] at w2
   have hi:inC (num a0 0) (num a0 1) k=true:=(Bool.and_eq_true_iff.1 w2.symm).1
   have hin:=Zhz (g:=Zco PZ a0 a1 (k:Int) s) (fun r w=>((w:Int),r)) (wayF a0 a1 (tdS a1) k) (m:=5) (t:=s) (x:=((5:Int),folds (wayF a0 a1 (tdS a1) k) s 5)) (N:=1000) (fun w r hw5 _=>by
    have e1:decide ((w:Int)<5)=true:=Q3 (by omega)
    have e0:decide (0≤(w:Int))=true:=Q3 (by omega)
    have e3:i64.wrap ((w:Int)+1)=((w+1:Nat):Int):=by rw [w64 (by omega)];omega
    have e4:i64.wrap (num a1 (3+k*1)*i64.wrap (num a0 (3+(tdS a1).toNat*180+k*5+w*1)))=muF a0 a1 (tdS a1) k w:=by unfold muF chW;rw [Q9,Nat.mul_one w]
    unfold wayF
    by_cases hg:Zaf (k:Int) (w:Int) a0<0
    ·simp only [Zco,e1,e0,e3,h1,h0,hT,ht,Q9,jA,Q1,Q3 hg,e4]
     rfl
    ·obtain ⟨r1,r2⟩:=Yfn hdm hk hi hw5 hg
     simp only [Zco,e1,e0,e3,h1,h0,hT,ht,Q9,jA,Q1,Q2,Q4 hg,dec2 r1 r2,e4]
     rfl) (by
    have e1:decide (((5:Nat):Int)<5)=false:=by decide
    simp only [Zco,e1,Q2]
    rfl) (by omega)
   have hin':Uab (Zco PZ a0 a1 (k:Int) s) 1000 ((0:Int),s)=some ((5:Int),folds (wayF a0 a1 (tdS a1) k) s 5):=hin
   simp only [Zcq,h1,w1,hw,Bool.not_true,Q1,Q2,hin',Uai,Zfr,h3]) (by
  have h1:decide (((36:Nat):Int)<36)=false:=by decide
  simp only [Zcq,h1,Q2]
  rfl) (by omega)
 have h':Uab (Zcq PZ 1000 a0 a1) 1000 ((0:Int),Ubu PZ a1)=some ((36:Int),Ubd PZ a0 a1):=h
 unfold Ubu at h'
 rw [h']
 rfl
def Zcz:Con:=fun args h=>match args,h with
 | [.w 0,.w 1],[.row a0 37,.row a1 132]=>some (.a (.g (Ubd PZ a0 a1) 132),.none,(okS a0&&(decide (0≤tdS a1)&&decide (tdS a1<2))))
 | _,_=>none
theorem Zwu:EntX PZ 120:=Zah (fn:=f120)
theorem Ydt:Uac mn PZ 120 Zcz:=(ansY (N:=1000) (mkΓ_consX (Zae Ztt) Zoe (mkΓ_consX (Zae Yec) Zvn mkΓ_nilX)) f120 [([7],[22]),([8],[22])]).of (by
 intro ρ h w args vals r e hA hH hr
 unfold Zcz at hr
 split at hr
 ·rename_i a0 a1
  obtain ⟨rfl,rfl,hg2⟩:=BQi hr
  exact Zzh a0 a1 (hH.wt 0 rfl) (hH.wt 1 rfl) hg2
 ·cases hr)
def tdI (X:Array Value):Int:=(i64.wrap (i64.wrap (num X 0)+i64.wrap (num X 1))).tmod 2
def Uen (S X:Array Value) (t:Int) (w:Nat) (r:Array Value) (k:Nat):Array Value:=bif Uat S (k:Int) w != -1 then adN r (3+(Uat S (k:Int) w).toNat*1) (muF S X t k w) else adN r 39 (muF S X t k w)
def Ua7 (P:Program) (S X:Array Value) (w:Nat):Array Value:=folds (fun r k=>if inC (num S 0) (num S 1) k&&Zad S (k:Int) then Uen S X (tdI X) w r k else r) (zc P 132) 36
def togF (Y:Array Value) (r:Array Value) (k:Nat):Array Value:=adN r (3+k*1) (num Y (3+k*1))
def togV (X Y:Array Value):Array Value:=adN (folds (togF Y) (adN X 2 (num Y 2)) 36) 39 (num Y 39)
def Ucx (S:Array Value) (r:Array Value) (k:Nat):Array Value:=bif Zac S (k:Int) then r.setIfInBounds (3+k*1) (.int .i64 (i64.wrap (num r (3+k*1)*12))) else r.setIfInBounds (3+k*1) (.int .i64 0)
def Ucb (r:Array Value):Array Value:=r.setIfInBounds 39 (.int .i64 (i64.wrap (num r 39*12)))
def Ub7 (S X:Array Value):Array Value:=(Ucb (folds (Ucx S) X 36)).setIfInBounds 1 (.int .i8 (IntKind.i8.wrap (num (Ucb (folds (Ucx S) X 36)) 1+1)))
def Zh2:Cons:=(mkΓx [(121,con Zm8),(122,con Zlf)] [(92,Zkj)] [(110,Zf9)])
def Zd4 (a0 a1:Array Value) (a2:Int):St:=(⟨.a (.g a0 37) :: .a (.g a1 132) :: .a (.i .i64 (a2)) :: .a (.w 0) :: .a (.w 1) :: .a (.w 2) :: .a (.w 3) :: .a (.w 4) :: .a (.w 12)::us 3 (.a (.p 1 (0) 22) :: .a (.i .i8 (num a1 0)) :: .a (.i .i64 (i64.wrap (num a1 0))) :: .a (.p 1 (1) 22) :: .a (.i .i8 (num a1 1)) :: .a (.i .i64 (i64.wrap (num a1 1))) :: .a (.i .i64 (((i64.wrap ((i64.wrap (num a1 0))+(i64.wrap (num a1 1))))).tmod (2:Int))) :: .a (.g a0 37) :: .a (.c 110 [17])::us 35 ([])),[.row a0 37,.row a1 132,.row #[.int .i64 (a2)] 2,.row (zc PZ 132) 132,.row (zc PZ 132) 132,.no,.no,.no,.no,.no,.no,.no,.row #[.int .i64 (((i64.wrap ((i64.wrap (num a1 0))+(i64.wrap (num a1 1))))).tmod (2:Int))] 2,.no,.no,.no,.no,.row a0 37,.no,.no,.no,.no],[12]⟩:St)
def Zkz:Array Value→BS
 | r0_4=>([.row r0_4 132]:BS)
def Zns:Empty→Exit×BS:=fun x=>nomatch x
def Zgv (P : Program) (a0 a1 : Array Value) (a2 : Int) (x0 : Int) : Array Value → Option (Stp (Array Value) Empty)
  | r0_4 => bif (decide (0 ≤ x0) && decide (x0 < 36)) then (bif (decide (0 ≤ (((i64.wrap ((i64.wrap (num a1 0)) + (i64.wrap (num a1 1))))).tmod (2 : Int))) && decide ((((i64.wrap ((i64.wrap (num a1 0)) + (i64.wrap (num a1 1))))).tmod (2 : Int)) < 2)) then (bif (decide (0 ≤ x0) && decide (x0 < 36)) then (bif (decide (0 ≤ a2) && decide (a2 < 5)) then (bif (decide (0 ≤ a2) && decide (a2 < 5)) then (bif ((Uat a0 x0 a2.toNat) != (-1 : Int)) then (bif (decide (0 ≤ (Uat a0 x0 a2.toNat)) && decide ((Uat a0 x0 a2.toNat) < 36)) then (bif (decide (0 ≤ (Uat a0 x0 a2.toNat)) && decide ((Uat a0 x0 a2.toNat) < 36)) then (some (.more (r0_4.setIfInBounds (3 + ((Uat a0 x0 a2.toNat).toNat * 1)) (.int .i64 (i64.wrap ((num r0_4 (3 + ((Uat a0 x0 a2.toNat).toNat * 1))) + (i64.wrap ((num a1 (3 + ((x0).toNat * 1))) * (i64.wrap (num a0 (((3 + ((((i64.wrap ((i64.wrap (num a1 0)) + (i64.wrap (num a1 1))))).tmod (2 : Int)).toNat * 180)) + ((x0).toNat * 5)) + ((a2).toNat * 1))))))))))))
                  else (none))
                else (none))
              else (some (.more (r0_4.setIfInBounds 39 (.int .i64 (i64.wrap ((num r0_4 39) + (i64.wrap ((num a1 (3 + ((x0).toNat * 1))) * (i64.wrap (num a0 (((3 + ((((i64.wrap ((i64.wrap (num a1 0)) + (i64.wrap (num a1 1))))).tmod (2 : Int)).toNat * 180)) + ((x0).toNat * 5)) + ((a2).toNat * 1)))))))))))))
            else (none))
          else (none))
        else (none))
      else (none))
    else (none)
noncomputable abbrev cKCxG116:=codeOf f116
def Udr:=(Uaa cKCxG116 [([],[4])]).1
theorem Yep (N:Nat) (a0 a1:Array Value) (a2:Int) (x0:Int):∀ t:Array Value,Ud4 PZ Zh2 N (cAt cKCxG116 [1,1,1,0,1,0,0]) (pAt Udr [1,1,1,0,1,0]) 22 [4] [21] [(9,21)] (Zd4 a0 a1 a2) [.i .i64 (x0)] (Zkz t)=mapS Zkz Zns (Zgv PZ a0 a1 a2 x0 t):=by
 rintro r0_4
 refine Eq.trans (b:=(bif (decide (0≤x0)&&decide (x0<36)) then (bif (decide (0≤(((i64.wrap ((i64.wrap (num a1 0))+(i64.wrap (num a1 1))))).tmod (2:Int)))&&decide ((((i64.wrap ((i64.wrap (num a1 0))+(i64.wrap (num a1 1))))).tmod (2:Int))<2)) then (bif (decide (0≤x0)&&decide (x0<36)) then (bif (decide (0≤a2)&&decide (a2<5)) then (bif (decide (0≤a2)&&decide (a2<5)) then (bif ((Uat a0 x0 a2.toNat) != (-1:Int)) then (bif (decide (0≤(Uat a0 x0 a2.toNat))&&decide ((Uat a0 x0 a2.toNat)<36)) then (bif (decide (0≤(Uat a0 x0 a2.toNat))&&decide ((Uat a0 x0 a2.toNat)<36)) then (some (.more ([.row (r0_4.setIfInBounds (3+((Uat a0 x0 a2.toNat).toNat*1)) (.int .i64 (i64.wrap ((num r0_4 (3+((Uat a0 x0 a2.toNat).toNat*1)))+(i64.wrap ((num a1 (3+((x0).toNat*1)))*(i64.wrap (num a0 (((3+((((i64.wrap ((i64.wrap (num a1 0))+(i64.wrap (num a1 1))))).tmod (2:Int)).toNat*180))+((x0).toNat*5))+((a2).toNat*1)))))))))) 132]:BS)))
         else (none))
        else (none))
       else (some (.more ([.row (r0_4.setIfInBounds 39 (.int .i64 (i64.wrap ((num r0_4 39)+(i64.wrap ((num a1 (3+((x0).toNat*1)))*(i64.wrap (num a0 (((3+((((i64.wrap ((i64.wrap (num a1 0))+(i64.wrap (num a1 1))))).tmod (2:Int)).toNat*180))+((x0).toNat*5))+((a2).toNat*1)))))))))) 132]:BS))))
      else (none))
     else (none))
    else (none))
   else (none))
  else (none))) (by kernel_rfl) ?_
 simp only [Zgv,Zat,Zaq,Zar,Zas,Zkz,Zns]
def Zlt (P:Program) (N:Nat) (a0 a1:Array Value) (a2:Int) (q0_4:Array Value):Option (SV×Eff×Bool):=some (.a (.g q0_4 132),.none,true)
def Uda (N:Nat):=(Uad 0 (kSeq (veC PZ Zh2 N (cAt cKCxG116 [1,1,1,1]) (pAt Udr [1,1,1,1]) (SV×Eff×Bool)) (finK PZ [] [.cell 6 132])))
theorem Zuv (N:Nat) (a0 a1:Array Value) (a2:Int) (q0_4:Array Value):(Uda N) .normal (Ube [4] (Zd4 a0 a1 a2) ([.row q0_4 132]:BS))=Zlt PZ N a0 a1 a2 q0_4:=by
 refine Eq.trans (b:=(some (.a (.g q0_4 132),.none,true))) (by kernel_rfl) ?_
 rfl
theorem Yeu (N:Nat) (a0 a1:Array Value) (a2:Int):Udf (Ua1 (fun (x0:Int) (hb:BS)=>Ud4 PZ Zh2 N (cAt cKCxG116 [1,1,1,0,1,0,0]) (pAt Udr [1,1,1,0,1,0]) 22 [4] [21] [(9,21)] (Zd4 a0 a1 a2) [.i .i64 (x0)] hb) ((Ual (num a0 0) (num a0 1) 36).filter (Zad a0)) ([.row (zc PZ 132) 132]:BS)) (fun hb=>(Uda N) .normal (Ube [4] (Zd4 a0 a1 a2) hb)) (fun e hb=>(Uda N) e (Ube [4] (Zd4 a0 a1 a2) hb))=Ue4 (Ua1 (Zgv PZ a0 a1 a2) ((Ual (num a0 0) (num a0 1) 36).filter (Zad a0)) (zc PZ 132)) (fun x=>Zlt PZ N a0 a1 a2 x) (fun x:Empty=>nomatch x):=by
 refine Yc7 Zkz Zns _ _ (fun y t=>Yep N a0 a1 a2 y t) _ (zc PZ 132) _ _ _ _ ?_ ?_
 ·intro x;exact Zuv N a0 a1 a2 x
 ·intro x;exact nomatch x
theorem Ycw (N:Nat) (a0 a1:Array Value) (a2:Int):ansV PZ Zh2 N f116 [([],[4])] [.g a0 37,.g a1 132,.i .i64 (a2)] []=(bif (decide (0≤num a0 0)&&decide (num a0 0≤6)&&(decide (0≤num a0 1)&&decide (num a0 1≤6))) then (Ue4 (Ua1 (Zgv PZ a0 a1 a2) ((Ual (num a0 0) (num a0 1) 36).filter (Zad a0)) (zc PZ 132)) (fun x=>Zlt PZ N a0 a1 a2 x) (fun x:Empty=>nomatch x))
  else (none)):=by
 refine Eq.trans (b:=(bif (decide (0≤num a0 0)&&decide (num a0 0≤6)&&(decide (0≤num a0 1)&&decide (num a0 1≤6))) then (Udf (Ua1 (fun (x0:Int) (hb:BS)=>Ud4 PZ Zh2 N (cAt cKCxG116 [1,1,1,0,1,0,0]) (pAt Udr [1,1,1,0,1,0]) 22 [4] [21] [(9,21)] (Zd4 a0 a1 a2) [.i .i64 (x0)] hb) ((Ual (num a0 0) (num a0 1) 36).filter (Zad a0)) ([.row (zc PZ 132) 132]:BS)) (fun hb=>(Uda N) .normal (Ube [4] (Zd4 a0 a1 a2) hb)) (fun e hb=>(Uda N) e (Ube [4] (Zd4 a0 a1 a2) hb)))
  else (none))) (by kernel_rfl) ?_
 simp only [Yeu N a0 a1 a2]
theorem Ybq (a0 a1:Array Value) (a2:Int) (h_a0:WT PZ 37 a0) (h_a1:WT PZ 132 a1) (h_a2:i64.min≤a2∧a2≤i64.max) (hg:((okS a0&&((decide (0≤tdI a1)&&decide (tdI a1<2))&&(decide (0≤a2)&&decide (a2<5)))))=true):ansV PZ Zh2 1000 f116 [([],[4])] [.g a0 37,.g a1 132,.i .i64 (a2)] []=some (.a (.g (Ua7 PZ a0 a1 a2.toNat) 132),.none,true):=by
 rw [Q7,Q7] at hg
 obtain ⟨hok,ht,hw5⟩:=hg
 simp only [Q7,decide_eq_true_eq] at hw5
 obtain ⟨w0,w5⟩:=hw5
 obtain ⟨w,rfl⟩:=Int.eq_ofNat_of_zero_le w0
 have hw:w<5:=by omega
 have hdm:=Zr9 hok
 refine (Ycw 1000 a0 a1 (w:Int)).trans ?_
 rw [Yl2 hok,Q1,Q9]
 have d1:decide (0≤(w:Int))=true:=Q3 (by omega)
 have d2:decide ((w:Int)<5)=true:=Q3 (by omega)
 have hT:(i64.wrap (i64.wrap (num a1 0)+i64.wrap (num a1 1))).tmod 2=tdI a1:=rfl
 have h:=Zt6 (X:=Empty) (g:=Zgv PZ a0 a1 (w:Int)) (q:=Zad a0) (Uen a0 a1 (tdI a1) w) (wd:=num a0 0) (hi:=num a0 1) (fun r k hk hi hq=>by
  have h1:decide ((k:Int)<36)=true:=Q3 (by omega)
  have h0:decide (0≤(k:Int))=true:=Q3 (by omega)
  have hmu:i64.wrap (num a1 (3+k*1)*i64.wrap (num a0 (3+(tdI a1).toNat*180+k*5+w*1)))=muF a0 a1 (tdI a1) k w:=by unfold muF chW;rw [Q9,Nat.mul_one w]
  simp only [Zgv,h0,h1,d1,d2,hT,ht,Q9,jA,Q1,hmu]
  unfold Uen
  cases hl:(Uat a0 (k:Int) w != -1) with
  | false=>simp only [Q2];rfl
  | true=>
   have hr:0≤Uat a0 (k:Int) w∧Uat a0 (k:Int) w<36:=by
    rw [Ypw hdm hk hi w hw] at hl⊢
    exact Ybz hdm hk hi w hw (by simpa using hl)
   simp only [Q1,dec2 hr.1 hr.2]
   rfl) (zc PZ 132)
 rw [h]
 rfl
def Zmr:Con:=fun args h=>match args,h with
 | [.g a0 37,.g a1 132,.i .i64 a2],[]=>some (.a (.g (Ua7 PZ a0 a1 a2.toNat) 132),.none,(okS a0&&((decide (0≤tdI a1)&&decide (tdI a1<2))&&(decide (0≤a2)&&decide (a2<5)))))
 | _,_=>none
theorem Zzq:EntX PZ 116:=Zah (fn:=f116)
theorem Ye3:Uac mn PZ 116 Zmr:=(ansY (N:=1000) (mkΓx_cX (Zae Ye6) Zze (mkΓx_cX (Zae Yde) Zwv (mkΓx_nX Zvs Ztm (mkΓx_iX Ztf Zp2 mkΓx_nilX)))) f116 [([],[4])]).of (by
 intro ρ h w args vals r e hA hH hr
 unfold Zmr at hr
 split at hr
 ·rename_i a0 a1 a2
  obtain ⟨rfl,rfl,hg2⟩:=BQi hr
  exact Ybq a0 a1 a2 (hA.wt 0 rfl) (hA.wt 1 rfl) (hA.rng 2 rfl) hg2
 ·cases hr)
def Zfw (a0 a1:Array Value):St:=(⟨.a (.g a0 37) :: .a (.g a1 132) :: .a (.w 0) :: .a (.w 1) :: .a (.w 2) :: .a (.u) :: .a (.i .i64 (0:Int))::us 25 ([]),[.row a0 37,.row a1 132,.row (zc PZ 132) 132],[]⟩:St)
def Zhk:Int×Array Value→LS
 | (y0_6,r0_1)=>([.a (.i .i64 (y0_6))],[.row r0_1 132])
def Zmj:Int×Array Value→Exit×LS
 | t=>((.exit 0),Zhk t)
def Zcr (P : Program) (a0 a1 : Array Value) : Int × Array Value → Option (Stp (Int × Array Value) (Int × Array Value))
 | (y0_6, r0_1) => bif decide (y0_6 < (36 : Int)) then (bif decide (0 ≤ y0_6) then (bif (Zac a0 y0_6) then (bif (decide (0 ≤ y0_6) && decide (y0_6 < 36)) then (bif (decide (0 ≤ y0_6) && decide (y0_6 < 36)) then (some (.more ((i64.wrap (y0_6 + (1 : Int))), (r0_1.setIfInBounds (3 + ((y0_6).toNat * 1)) (.int .i64 (i64.wrap ((num r0_1 (3 + ((y0_6).toNat * 1))) * (12 : Int))))))))
      else (none))
     else (none))
    else (bif (decide (0 ≤ y0_6) && decide (y0_6 < 36)) then (some (.more ((i64.wrap (y0_6 + (1 : Int))), (r0_1.setIfInBounds (3 + ((y0_6).toNat * 1)) (.int .i64 (0 : Int))))))
     else (none)))
   else (none))
  else (some (.done (y0_6, r0_1)))
noncomputable abbrev cKCxG106:=codeOf f106
def Ud9:=(Uaa cKCxG106 [([6],[1])]).1
theorem Ydz (N:Nat) (a0 a1:Array Value):∀ t:Int×Array Value,Uag PZ (mkΓ [(83,con Zba)]) N (cAt cKCxG106 [1,0,1,0,0]) (pAt Ud9 [1,0,1,0]) [6] [1] (Zfw a0 a1) (Zhk t)=mapS Zhk Zmj (Zcr PZ a0 a1 t):=by
 rintro ⟨y0_6,r0_1⟩
 refine Eq.trans (b:=(bif decide (y0_6<(36:Int)) then (bif decide (0≤y0_6) then (bif (Zac a0 y0_6) then (bif (decide (0≤y0_6)&&decide (y0_6<36)) then (bif (decide (0≤y0_6)&&decide (y0_6<36)) then (some (.more ([.a (.i .i64 (i64.wrap (y0_6+(1:Int))))],[.row (r0_1.setIfInBounds (3+((y0_6).toNat*1)) (.int .i64 (i64.wrap ((num r0_1 (3+((y0_6).toNat*1)))*(12:Int))))) 132])))
      else (none))
     else (none))
    else (bif (decide (0≤y0_6)&&decide (y0_6<36)) then (some (.more ([.a (.i .i64 (i64.wrap (y0_6+(1:Int))))],[.row (r0_1.setIfInBounds (3+((y0_6).toNat*1)) (.int .i64 (0:Int))) 132])))
     else (none)))
   else (none))
  else (some (.done ((.exit 0),([.a (.i .i64 (y0_6))],[.row r0_1 132])))))) (by kernel_rfl) ?_
 simp only [Zcr,Zat,Zaq,Zar,Zas,Zhk,Zmj]
def Zke (P:Program) (N:Nat) (a0 a1:Array Value) (z0_6:Int) (q0_1:Array Value):Option (SV×Eff×Bool):=some (.a (.g ((q0_1.setIfInBounds 39 (.int .i64 (i64.wrap ((num q0_1 39)*(12:Int))))).setIfInBounds 1 (.int .i8 (IntKind.i8.wrap ((num (q0_1.setIfInBounds 39 (.int .i64 (i64.wrap ((num q0_1 39)*(12:Int))))) 1)+(1:Int))))) 132),.none,true)
def Ue3 (N:Nat):=(Uad 0 (kSeq (veC PZ (mkΓ [(83,con Zba)]) N (cAt cKCxG106 [1,1]) (pAt Ud9 [1,1]) (SV×Eff×Bool)) (finK PZ [] [.cell 4 132])))
theorem Zs7 (N:Nat) (a0 a1:Array Value) (z0_6:Int) (q0_1:Array Value):(Ue3 N) (.exit 0) (left (writes (cAt cKCxG106 [1,0,1,0,0])) [6] [1] (Zfw a0 a1) ([.a (.i .i64 (z0_6))],[.row q0_1 132]))=Zke PZ N a0 a1 z0_6 q0_1:=by
 refine Eq.trans (b:=(some (.a (.g ((q0_1.setIfInBounds 39 (.int .i64 (i64.wrap ((num q0_1 39)*(12:Int))))).setIfInBounds 1 (.int .i8 (IntKind.i8.wrap ((num (q0_1.setIfInBounds 39 (.int .i64 (i64.wrap ((num q0_1 39)*(12:Int))))) 1)+(1:Int))))) 132),.none,true))) (by kernel_rfl) ?_
 rfl
theorem Yd6 (N:Nat) (a0 a1:Array Value):Uah (Uab (Uag PZ (mkΓ [(83,con Zba)]) N (cAt cKCxG106 [1,0,1,0,0]) (pAt Ud9 [1,0,1,0]) [6] [1] (Zfw a0 a1)) N ([.a (.i .i64 (0:Int))],[.row a1 132])) (fun e s=>(Ue3 N) e (left (writes (cAt cKCxG106 [1,0,1,0,0])) [6] [1] (Zfw a0 a1) s))=Uai (Uab (Zcr PZ a0 a1) N ((0:Int),a1)) (fun x=>Zke PZ N a0 a1 x.1 x.2):=by
 refine Zav Zhk Zmj _ _ (Ydz N a0 a1) N ((0:Int),a1) _ _ ?_
 intro x;exact Zs7 N a0 a1 x.1 x.2
theorem Yaa (N:Nat) (a0 a1:Array Value):ansV PZ (mkΓ [(83,con Zba)]) N f106 [([6],[1])] [.g a0 37,.g a1 132] []=(Uai (Uab (Zcr PZ a0 a1) N ((0:Int),a1)) (fun x=>Zke PZ N a0 a1 x.1 x.2)):=by
 refine Eq.trans (b:=(Uah (Uab (Uag PZ (mkΓ [(83,con Zba)]) N (cAt cKCxG106 [1,0,1,0,0]) (pAt Ud9 [1,0,1,0]) [6] [1] (Zfw a0 a1)) N ([.a (.i .i64 (0:Int))],[.row a1 132])) (fun e s=>(Ue3 N) e (left (writes (cAt cKCxG106 [1,0,1,0,0])) [6] [1] (Zfw a0 a1) s)))) (by kernel_rfl) ?_
 simp only [Yd6 N a0 a1]
theorem Zx7 (a0 a1:Array Value) (h_a0:WT PZ 37 a0) (h_a1:WT PZ 132 a1) (hg:(true)=true):ansV PZ (mkΓ [(83,con Zba)]) 1000 f106 [([6],[1])] [.g a0 37,.g a1 132] []=some (.a (.g (Ub7 a0 a1) 132),.none,true):=by
 refine (Yaa 1000 a0 a1).trans ?_
 have h:=Zhz (g:=Zcr PZ a0 a1) (fun r k=>((k:Int),r)) (Ucx a0) (m:=36) (t:=a1) (x:=((36:Int),folds (Ucx a0) a1 36)) (N:=1000) (fun k s hk _=>by
  have h1:decide ((k:Int)<36)=true:=Q3 (by omega)
  have h0:decide (0≤(k:Int))=true:=Q3 (by omega)
  have h3:i64.wrap ((k:Int)+1)=((k+1:Nat):Int):=by rw [w64 (by omega)];omega
  unfold Ucx
  cases hl:Zac a0 (k:Int) with
  | false=>simp only [Zcr,h1,h0,h3,hl,Q9,jA,Q1,Q2]
  | true=>simp only [Zcr,h1,h0,h3,hl,Q9,jA,Q1,Q2]) (by
  have h1:decide (((36:Nat):Int)<36)=false:=by decide
  simp only [Zcr,h1,Q2]
  rfl) (by omega)
 have h':Uab (Zcr PZ a0 a1) 1000 ((0:Int),a1)=some ((36:Int),folds (Ucx a0) a1 36):=h
 rw [h']
 rfl
def Zlj:Con:=fun args h=>match args,h with
 | [.g a0 37,.g a1 132],[]=>some (.a (.g (Ub7 a0 a1) 132),.none,true)
 | _,_=>none
theorem Zwz:EntX PZ 106:=Zah (fn:=f106)
theorem Yd9:Uac mn PZ 106 Zlj:=(ansY (N:=1000) (mkΓ_consX (Zae Zd1) Zcb mkΓ_nilX) f106 [([6],[1])]).of (by
 intro ρ h w args vals r e hA hH hr
 unfold Zlj at hr
 split at hr
 ·rename_i a0 a1
  obtain ⟨rfl,rfl,hg2⟩:=BQi hr
  exact Zx7 a0 a1 (hA.wt 0 rfl) (hA.wt 1 rfl) hg2
 ·cases hr)
def Zep (a0 a1:Array Value):St:=(⟨.a (.g a0 132) :: .a (.g a1 132) :: .a (.w 0) :: .a (.w 1) :: .a (.w 2) :: .a (.u) :: .a (.u) :: .a (.p 0 (2) 2) :: .a (.i .i64 (num a0 2)) :: .a (.p 1 (2) 2) :: .a (.i .i64 (num a1 2)) :: .a (.i .i64 (i64.wrap ((num a0 2)+(num a1 2)))) :: .a (.p 0 (2) 2) :: .a (.p 1 (3) 105) :: .a (.g (a1.extract 3 (3+36)) 105) :: .a (.i .i64 (0:Int))::us 19 ([]),[.row (a0.setIfInBounds 2 (.int .i64 (i64.wrap ((num a0 2)+(num a1 2))))) 132,.row a1 132,.row (zc PZ 132) 132],[0]⟩:St)
def Zgj:Int×Array Value→LS
 | (y0_15,r0_0)=>([.a (.i .i64 (y0_15))],[.row r0_0 132])
def Zlv:Int×Array Value→Exit×LS
 | t=>((.exit 0),Zgj t)
def Zb7 (P : Program) (a0 a1 : Array Value) : Int × Array Value → Option (Stp (Int × Array Value) (Int × Array Value))
 | (y0_15, r0_0) => bif decide (y0_15 < (36 : Int)) then (bif (decide (0 ≤ y0_15) && decide (y0_15 < 36)) then (bif (decide (0 ≤ y0_15) && decide (y0_15 < 36)) then (bif (decide (0 ≤ y0_15) && decide (y0_15 < 36)) then (some (.more ((i64.wrap (y0_15 + (1 : Int))), (r0_0.setIfInBounds (3 + ((y0_15).toNat * 1)) (.int .i64 (i64.wrap ((num r0_0 (3 + ((y0_15).toNat * 1))) + (num (a1.extract 3 (3 + 36)) ((y0_15).toNat * 1)))))))))
     else (none))
    else (none))
   else (none))
  else (some (.done (y0_15, r0_0)))
noncomputable abbrev cKCxG107:=codeOf f107
def Udy:=(Uaa cKCxG107 [([15],[0])]).1
theorem Yap (N:Nat) (a0 a1:Array Value):∀ t:Int×Array Value,Uag PZ (mkΓ []) N (cAt cKCxG107 [1,1,0,1,0,0]) (pAt Udy [1,1,0,1,0]) [15] [0] (Zep a0 a1) (Zgj t)=mapS Zgj Zlv (Zb7 PZ a0 a1 t):=by
 rintro ⟨y0_15,r0_0⟩
 refine Eq.trans (b:=(bif decide (y0_15<(36:Int)) then (bif (decide (0≤y0_15)&&decide (y0_15<36)) then (bif (decide (0≤y0_15)&&decide (y0_15<36)) then (bif (decide (0≤y0_15)&&decide (y0_15<36)) then (some (.more ([.a (.i .i64 (i64.wrap (y0_15+(1:Int))))],[.row (r0_0.setIfInBounds (3+((y0_15).toNat*1)) (.int .i64 (i64.wrap ((num r0_0 (3+((y0_15).toNat*1)))+(num (a1.extract 3 (3+36)) ((y0_15).toNat*1)))))) 132])))
     else (none))
    else (none))
   else (none))
  else (some (.done ((.exit 0),([.a (.i .i64 (y0_15))],[.row r0_0 132])))))) (by kernel_rfl) ?_
 simp only [Zb7,Zat,Zaq,Zar,Zas,Zgj,Zlv]
def Zjj (P:Program) (N:Nat) (a0 a1:Array Value) (z0_15:Int) (q0_0:Array Value):Option (SV×Eff×Bool):=some (.a (.g (q0_0.setIfInBounds 39 (.int .i64 (i64.wrap ((num q0_0 39)+(num a1 39))))) 132),.none,true)
def Uff (N:Nat):=(Uad 0 (kSeq (veC PZ (mkΓ []) N (cAt cKCxG107 [1,1,1]) (pAt Udy [1,1,1]) (SV×Eff×Bool)) (finK PZ [] [.cell 4 132])))
theorem Zqg (N:Nat) (a0 a1:Array Value) (z0_15:Int) (q0_0:Array Value):(Uff N) (.exit 0) (left (writes (cAt cKCxG107 [1,1,0,1,0,0])) [15] [0] (Zep a0 a1) ([.a (.i .i64 (z0_15))],[.row q0_0 132]))=Zjj PZ N a0 a1 z0_15 q0_0:=by
 refine Eq.trans (b:=(some (.a (.g (q0_0.setIfInBounds 39 (.int .i64 (i64.wrap ((num q0_0 39)+(num a1 39))))) 132),.none,true))) (by kernel_rfl) ?_
 rfl
theorem Zz7 (N:Nat) (a0 a1:Array Value):Uah (Uab (Uag PZ (mkΓ []) N (cAt cKCxG107 [1,1,0,1,0,0]) (pAt Udy [1,1,0,1,0]) [15] [0] (Zep a0 a1)) N ([.a (.i .i64 (0:Int))],[.row (a0.setIfInBounds 2 (.int .i64 (i64.wrap ((num a0 2)+(num a1 2))))) 132])) (fun e s=>(Uff N) e (left (writes (cAt cKCxG107 [1,1,0,1,0,0])) [15] [0] (Zep a0 a1) s))=Uai (Uab (Zb7 PZ a0 a1) N ((0:Int),(a0.setIfInBounds 2 (.int .i64 (i64.wrap ((num a0 2)+(num a1 2))))))) (fun x=>Zjj PZ N a0 a1 x.1 x.2):=by
 refine Zav Zgj Zlv _ _ (Yap N a0 a1) N ((0:Int),(a0.setIfInBounds 2 (.int .i64 (i64.wrap ((num a0 2)+(num a1 2)))))) _ _ ?_
 intro x;exact Zqg N a0 a1 x.1 x.2
theorem Zy0 (N:Nat) (a0 a1:Array Value):ansV PZ (mkΓ []) N f107 [([15],[0])] [.g a0 132,.g a1 132] []=(Uai (Uab (Zb7 PZ a0 a1) N ((0:Int),(a0.setIfInBounds 2 (.int .i64 (i64.wrap ((num a0 2)+(num a1 2))))))) (fun x=>Zjj PZ N a0 a1 x.1 x.2)):=by
 refine Eq.trans (b:=(Uah (Uab (Uag PZ (mkΓ []) N (cAt cKCxG107 [1,1,0,1,0,0]) (pAt Udy [1,1,0,1,0]) [15] [0] (Zep a0 a1)) N ([.a (.i .i64 (0:Int))],[.row (a0.setIfInBounds 2 (.int .i64 (i64.wrap ((num a0 2)+(num a1 2))))) 132])) (fun e s=>(Uff N) e (left (writes (cAt cKCxG107 [1,1,0,1,0,0])) [15] [0] (Zep a0 a1) s)))) (by kernel_rfl) ?_
 simp only [Zz7 N a0 a1]
theorem Zxq (a0 a1:Array Value) (h_a0:WT PZ 132 a0) (h_a1:WT PZ 132 a1) (hg:(true)=true):ansV PZ (mkΓ []) 1000 f107 [([15],[0])] [.g a0 132,.g a1 132] []=some (.a (.g (togV a0 a1) 132),.none,true):=by
 have hz:a1.size=40:=by rw [h_a1.layLen];kernel_rfl
 refine (Zy0 1000 a0 a1).trans ?_
 have h:=Zhz (g:=Zb7 PZ a0 a1) (fun r k=>((k:Int),r)) (togF a1) (m:=36) (t:=adN a0 2 (num a1 2)) (x:=((36:Int),folds (togF a1) (adN a0 2 (num a1 2)) 36)) (N:=1000) (fun k s hk _=>by
  have h1:decide ((k:Int)<36)=true:=Q3 (by omega)
  have h0:decide (0≤(k:Int))=true:=Q3 (by omega)
  have h3:i64.wrap ((k:Int)+1)=((k+1:Nat):Int):=by rw [w64 (by omega)];omega
  have h5:=cell_num (T:=0) hz k hk
  simp only [Zb7,h1,h0,h3,Q9,jA,Q1,h5]
  rfl) (by
  have h1:decide (((36:Nat):Int)<36)=false:=by decide
  simp only [Zb7,h1,Q2]
  rfl) (by omega)
 have h':Uab (Zb7 PZ a0 a1) 1000 ((0:Int),adN a0 2 (num a1 2))=some ((36:Int),folds (togF a1) (adN a0 2 (num a1 2)) 36):=h
 show Uai (Uab (Zb7 PZ a0 a1) 1000 ((0:Int),adN a0 2 (num a1 2))) _=_
 rw [h']
 unfold togV
 generalize folds (togF a1) (adN a0 2 (num a1 2)) 36=q
 rfl
def Zkm:Con:=fun args h=>match args,h with
 | [.g a0 132,.g a1 132],[]=>some (.a (.g (togV a0 a1) 132),.none,true)
 | _,_=>none
theorem Zuc:EntX PZ 107:=Zah (fn:=f107)
theorem Yag:Uac mn PZ 107 Zkm:=(ansY (N:=1000) mkΓ_nilX f107 [([15],[0])]).of (by
 intro ρ h w args vals r e hA hH hr
 unfold Zkm at hr
 split at hr
 ·rename_i a0 a1
  obtain ⟨rfl,rfl,hg2⟩:=BQi hr
  exact Zxq a0 a1 (hA.wt 0 rfl) (hA.wt 1 rfl) hg2
 ·cases hr)
end
end Go.Proofs.YtdfefaanfiheoaaGreatDoor
