/- An hour as it is asked; what flows, what rests, and both together; in company. -/
import Derived.Test.YtflnjkpejbohjaaGreatDoorProg
import Derived.Test.YtflnjkpejbohjaaGreatDoorCxF
namespace Go.Proofs.YtflnjkpejbohjaaGreatDoor
open Go.ChangeShapes Go.WideShapes Go.ChangeAt Go.RowKit Ve Vc
open Tryz renaming prog → PZ
open IntKind (i64)
set_option linter.unusedVariables false
set_option linter.unusedSimpArgs false
set_option maxRecDepth 100000
noncomputable section
variable {mn:Md}
def Zbj:Cons:=(mkΓ [(59,con Zgu),(63,con Zka)])
def Zfo (a0 a1:Array Value) (y0_7:Int) (r0_22:Array Value):St:=(⟨.a (.w 0) :: .a (.w 1) :: .a (.u) :: .a (.u) :: .a (.w 2) :: .a (.w 22) :: .a (.i .i8 (((IntKind.i8.wrap ((num a1 0)+(num a1 1)))).tmod (2:Int))) :: .a (.i .i64 (y0_7)) :: .a (.i .i64 (0:Int)) :: .a (.x) :: .a (.x) :: .a (.w 1) :: .a (.w 1) :: .a (.p 1 (0) 22) :: .a (.i .i8 (num a1 0)) :: .a (.w 1) :: .a (.w 1) :: .a (.p 1 (1) 22) :: .a (.i .i8 (num a1 1)) :: .a (.i .i8 (IntKind.i8.wrap ((num a1 1)+(1:Int)))) :: .a (.w 1) :: .a (.w 1) :: .a (.p 1 (2) 2) :: .a (.i .i64 (num a1 2)) :: .a (.w 1) :: .a (.w 1) :: .a (.p 1 (39) 2) :: .a (.i .i64 (num a1 39)) :: .a (.i .i64 (i64.wrap ((num a1 39)*(12:Int)))) :: .a (.g (((((zc PZ 60).setIfInBounds 0 (.int .i8 (num a1 0))).setIfInBounds 1 (.int .i8 (IntKind.i8.wrap ((num a1 1)+(1:Int))))).setIfInBounds 2 (.int .i64 (num a1 2))).setIfInBounds 39 (.int .i64 (i64.wrap ((num a1 39)*(12:Int))))) 60) :: .a (.w 1) :: .a (.w 1) :: .a (.p 1 (0) 22) :: .a (.i .i8 (num a1 0)) :: .a (.w 1) :: .a (.w 1) :: .a (.p 1 (1) 22) :: .a (.i .i8 (num a1 1)) :: .a (.i .i8 (IntKind.i8.wrap ((num a1 0)+(num a1 1)))) :: .a (.i .i8 (((IntKind.i8.wrap ((num a1 0)+(num a1 1)))).tmod (2:Int))) :: .a (.i .i64 (y0_7)) :: .a (.b (decide (y0_7<(36:Int)))) :: .a (.x) :: .a (.x) :: .a (.w 0) :: .a (.i .i64 (y0_7)) :: .a (.b ((Zae y0_7 a0))) :: .a (.b ((!((Zae y0_7 a0)))))::xs 55 (.a (.u)::[]),[.row a0 41,.row a1 60,.row (zc PZ 60) 60,.no,.no,.no,.no,.no,.no,.no,.no,.no,.no,.no,.no,.no,.no,.no,.no,.no,.no,.no,.row r0_22 60,.no,.no,.no,.no,.no,.no,.no,.no,.no,.no,.no,.no],[22]⟩:St)
def Zgv:Int×Array Value→LS
 | (y1_8,r1_22)=>([.a (.i .i64 (y1_8))],[.row r1_22 60])
def Zl2:Int×Array Value→Exit×LS
 | t=>((.exit 2),Zgv t)
def Zcz (P : Program) (a0 a1 : Array Value) (y0_7 : Int) (r0_22 : Array Value) : Int × Array Value → Option (Stp (Int × Array Value) (Int × Array Value))
 | (y1_8, r1_22) => bif decide (y1_8 < (5 : Int)) then (bif (decide (0 ≤ y0_7) && decide (y0_7 < 36)) then (bif (decide (0 ≤ (((IntKind.i8.wrap ((num a1 0) + (num a1 1)))).tmod (2 : Int))) && decide ((((IntKind.i8.wrap ((num a1 0) + (num a1 1)))).tmod (2 : Int)) < 2)) then (bif (decide (0 ≤ y0_7) && decide (y0_7 < 36)) then (bif (decide (0 ≤ y1_8) && decide (y1_8 < 5)) then (bif decide ((Zac y0_7 y1_8 a0) < (0 : Int)) then (some (.more ((i64.wrap (y1_8 + (1 : Int))), (r1_22.setIfInBounds 39 (.int .i64 (i64.wrap ((num r1_22 39) + (i64.wrap ((num a1 (3 + ((y0_7).toNat * 1))) * (i64.wrap (num a0 (((3 + ((((IntKind.i8.wrap ((num a1 0) + (num a1 1)))).tmod (2 : Int)).toNat * 180)) + ((y0_7).toNat * 5)) + ((y1_8).toNat * 1)))))))))))))
       else (bif (decide (0 ≤ (Zac y0_7 y1_8 a0)) && decide ((Zac y0_7 y1_8 a0) < 36)) then (bif (decide (0 ≤ (Zac y0_7 y1_8 a0)) && decide ((Zac y0_7 y1_8 a0) < 36)) then (some (.more ((i64.wrap (y1_8 + (1 : Int))), (r1_22.setIfInBounds (3 + ((Zac y0_7 y1_8 a0).toNat * 1)) (.int .i64 (i64.wrap ((num r1_22 (3 + ((Zac y0_7 y1_8 a0).toNat * 1))) + (i64.wrap ((num a1 (3 + ((y0_7).toNat * 1))) * (i64.wrap (num a0 (((3 + ((((IntKind.i8.wrap ((num a1 0) + (num a1 1)))).tmod (2 : Int)).toNat * 180)) + ((y0_7).toNat * 5)) + ((y1_8).toNat * 1)))))))))))))
         else (none))
        else (none)))
      else (none))
     else (none))
    else (none))
   else (none))
  else (some (.done (y1_8, r1_22)))
theorem Zz7 (N:Nat) (a0 a1:Array Value) (y0_7:Int) (r0_22:Array Value):∀ t:Int×Array Value,Uah PZ Zbj N (cAt (codeOf Tryz.f42) [1,1,1,0,1,0,0,1,0,0,1,1,0,0]) (pAt (Uaa (codeOf Tryz.f42) [([7],[22]),([8],[22])]).1 [1,1,1,0,1,0,1,0,1,1,0]) [8] [22] (Zfo a0 a1 y0_7 r0_22) (Zgv t)=mapS Zgv Zl2 (Zcz PZ a0 a1 y0_7 r0_22 t):=by
 rintro ⟨y1_8,r1_22⟩
 refine Eq.trans (b:=(bif decide (y1_8<(5:Int)) then (bif (decide (0≤y0_7)&&decide (y0_7<36)) then (bif (decide (0≤(((IntKind.i8.wrap ((num a1 0)+(num a1 1)))).tmod (2:Int)))&&decide ((((IntKind.i8.wrap ((num a1 0)+(num a1 1)))).tmod (2:Int))<2)) then (bif (decide (0≤y0_7)&&decide (y0_7<36)) then (bif (decide (0≤y1_8)&&decide (y1_8<5)) then (bif decide ((Zac y0_7 y1_8 a0)<(0:Int)) then (some (.more ([.a (.i .i64 (i64.wrap (y1_8+(1:Int))))],[.row (r1_22.setIfInBounds 39 (.int .i64 (i64.wrap ((num r1_22 39)+(i64.wrap ((num a1 (3+((y0_7).toNat*1)))*(i64.wrap (num a0 (((3+((((IntKind.i8.wrap ((num a1 0)+(num a1 1)))).tmod (2:Int)).toNat*180))+((y0_7).toNat*5))+((y1_8).toNat*1)))))))))) 60])))
       else (bif (decide (0≤(Zac y0_7 y1_8 a0))&&decide ((Zac y0_7 y1_8 a0)<36)) then (bif (decide (0≤(Zac y0_7 y1_8 a0))&&decide ((Zac y0_7 y1_8 a0)<36)) then (some (.more ([.a (.i .i64 (i64.wrap (y1_8+(1:Int))))],[.row (r1_22.setIfInBounds (3+((Zac y0_7 y1_8 a0).toNat*1)) (.int .i64 (i64.wrap ((num r1_22 (3+((Zac y0_7 y1_8 a0).toNat*1)))+(i64.wrap ((num a1 (3+((y0_7).toNat*1)))*(i64.wrap (num a0 (((3+((((IntKind.i8.wrap ((num a1 0)+(num a1 1)))).tmod (2:Int)).toNat*180))+((y0_7).toNat*5))+((y1_8).toNat*1)))))))))) 60])))
         else (none))
        else (none)))
      else (none))
     else (none))
    else (none))
   else (none))
  else (some (.done ((.exit 2),([.a (.i .i64 (y1_8))],[.row r1_22 60])))))) (by kernel_rfl) ?_
 simp only [Zcz,Zax,Za0,Zay,Zaz,Zgv,Zl2]
def Zff (a0 a1:Array Value):St:=(⟨.a (.w 0) :: .a (.w 1) :: .a (.u) :: .a (.u) :: .a (.w 2) :: .a (.w 22) :: .a (.i .i8 (((IntKind.i8.wrap ((num a1 0)+(num a1 1)))).tmod (2:Int))) :: .a (.i .i64 (0:Int))::us 3 (.a (.w 1) :: .a (.w 1) :: .a (.p 1 (0) 22) :: .a (.i .i8 (num a1 0)) :: .a (.w 1) :: .a (.w 1) :: .a (.p 1 (1) 22) :: .a (.i .i8 (num a1 1)) :: .a (.i .i8 (IntKind.i8.wrap ((num a1 1)+(1:Int)))) :: .a (.w 1) :: .a (.w 1) :: .a (.p 1 (2) 2) :: .a (.i .i64 (num a1 2)) :: .a (.w 1) :: .a (.w 1) :: .a (.p 1 (39) 2) :: .a (.i .i64 (num a1 39)) :: .a (.i .i64 (i64.wrap ((num a1 39)*(12:Int)))) :: .a (.g (((((zc PZ 60).setIfInBounds 0 (.int .i8 (num a1 0))).setIfInBounds 1 (.int .i8 (IntKind.i8.wrap ((num a1 1)+(1:Int))))).setIfInBounds 2 (.int .i64 (num a1 2))).setIfInBounds 39 (.int .i64 (i64.wrap ((num a1 39)*(12:Int))))) 60) :: .a (.w 1) :: .a (.w 1) :: .a (.p 1 (0) 22) :: .a (.i .i8 (num a1 0)) :: .a (.w 1) :: .a (.w 1) :: .a (.p 1 (1) 22) :: .a (.i .i8 (num a1 1)) :: .a (.i .i8 (IntKind.i8.wrap ((num a1 0)+(num a1 1)))) :: .a (.i .i8 (((IntKind.i8.wrap ((num a1 0)+(num a1 1)))).tmod (2:Int)))::us 64 ([])),[.row a0 41,.row a1 60,.row (zc PZ 60) 60,.no,.no,.no,.no,.no,.no,.no,.no,.no,.no,.no,.no,.no,.no,.no,.no,.no,.no,.no,.row (((((zc PZ 60).setIfInBounds 0 (.int .i8 (num a1 0))).setIfInBounds 1 (.int .i8 (IntKind.i8.wrap ((num a1 1)+(1:Int))))).setIfInBounds 2 (.int .i64 (num a1 2))).setIfInBounds 39 (.int .i64 (i64.wrap ((num a1 39)*(12:Int))))) 60,.no,.no,.no,.no,.no,.no,.no,.no,.no,.no,.no,.no],[22]⟩:St)
def Zcw:Int×Array Value→LS
 | (y0_7,r0_22)=>([.a (.i .i64 (y0_7))],[.row r0_22 60])
def Zen:Int×Array Value→Exit×LS
 | t=>((.exit 0),Zcw t)
def Zfi (P:Program) (N:Nat) (a0 a1:Array Value) (y0_7:Int) (r0_22:Array Value) (z1_8:Int) (q1_22:Array Value):Option (Stp (Int×Array Value) (Int×Array Value)):=some (.more ((i64.wrap (y0_7+(1:Int))),q1_22))
theorem Zsa (N:Nat) (a0 a1:Array Value) (y0_7:Int) (r0_22:Array Value) (z1_8:Int) (q1_22:Array Value):(Uac 2 (Uac 1 (kSeq (veC PZ Zbj N (cAt (codeOf Tryz.f42) [1,1,1,0,1,0,0,1,1]) (pAt (Uaa (codeOf Tryz.f42) [([7],[22]),([8],[22])]).1 [1,1,1,0,1,0,1,1]) (Stp LS (Exit×LS))) (Ubz 35 [7] [22])))) (.exit 2) (left (writes (cAt (codeOf Tryz.f42) [1,1,1,0,1,0,0,1,0,0,1,1,0,0])) [8] [22] (Zfo a0 a1 y0_7 r0_22) ([.a (.i .i64 (z1_8))],[.row q1_22 60]))=mapS Zcw Zen (Zfi PZ N a0 a1 y0_7 r0_22 z1_8 q1_22):=by
 refine Eq.trans (b:=(some (.more ([.a (.i .i64 (i64.wrap (y0_7+(1:Int))))],[.row q1_22 60])))) (by kernel_rfl) ?_
 simp only [Zfi,Zax,Za0,Zay,Zaz,Zcw,Zen]
theorem Yb2 (N:Nat) (a0 a1:Array Value) (y0_7:Int) (r0_22:Array Value):Uaj (Uab (Uah PZ Zbj N (cAt (codeOf Tryz.f42) [1,1,1,0,1,0,0,1,0,0,1,1,0,0]) (pAt (Uaa (codeOf Tryz.f42) [([7],[22]),([8],[22])]).1 [1,1,1,0,1,0,1,0,1,1,0]) [8] [22] (Zfo a0 a1 y0_7 r0_22)) N ([.a (.i .i64 (0:Int))],[.row r0_22 60])) (fun e s=>(Uac 2 (Uac 1 (kSeq (veC PZ Zbj N (cAt (codeOf Tryz.f42) [1,1,1,0,1,0,0,1,1]) (pAt (Uaa (codeOf Tryz.f42) [([7],[22]),([8],[22])]).1 [1,1,1,0,1,0,1,1]) (Stp LS (Exit×LS))) (Ubz 35 [7] [22])))) e (left (writes (cAt (codeOf Tryz.f42) [1,1,1,0,1,0,0,1,0,0,1,1,0,0])) [8] [22] (Zfo a0 a1 y0_7 r0_22) s))=mapS Zcw Zen (Uak (Uab (Zcz PZ a0 a1 y0_7 r0_22) N ((0:Int),r0_22)) (fun x=>Zfi PZ N a0 a1 y0_7 r0_22 x.1 x.2)):=by
 have h:=Zbk (α:=Stp LS (Exit×LS)) Zgv Zl2 _ _ (Zz7 N a0 a1 y0_7 r0_22) N ((0:Int),r0_22)
 rw [Zwb Zcw Zen]
 refine h _ _ ?_
 intro x;exact Zsa N a0 a1 y0_7 r0_22 x.1 x.2
def Zc0 (P : Program) (N : Nat) (a0 a1 : Array Value) : Int × Array Value → Option (Stp (Int × Array Value) (Int × Array Value))
 | (y0_7, r0_22) => bif decide (y0_7 < (36 : Int)) then (bif (Za2 y0_7 a0) then (bif (!((Zae y0_7 a0))) then (bif (decide (0 ≤ y0_7) && decide (y0_7 < 36)) then (bif (decide (0 ≤ y0_7) && decide (y0_7 < 36)) then (bif (decide (0 ≤ y0_7) && decide (y0_7 < 36)) then (some (.more ((i64.wrap (y0_7 + (1 : Int))), (r0_22.setIfInBounds (3 + ((y0_7).toNat * 1)) (.int .i64 (i64.wrap ((num r0_22 (3 + ((y0_7).toNat * 1))) + (i64.wrap ((num a1 (3 + ((y0_7).toNat * 1))) * (12 : Int))))))))))
       else (none))
      else (none))
     else (none))
    else (Uak (Uab (Zcz P a0 a1 y0_7 r0_22) N ((0 : Int), r0_22)) (fun x => Zfi P N a0 a1 y0_7 r0_22 x.1 x.2)))
   else (none))
  else (some (.done (y0_7, r0_22)))
theorem Ybi (N:Nat) (a0 a1:Array Value):∀ t:Int×Array Value,Uah PZ Zbj N (cAt (codeOf Tryz.f42) [1,1,1,0,1,0,0]) (pAt (Uaa (codeOf Tryz.f42) [([7],[22]),([8],[22])]).1 [1,1,1,0,1,0]) [7] [22] (Zff a0 a1) (Zcw t)=mapS Zcw Zen (Zc0 PZ N a0 a1 t):=by
 rintro ⟨y0_7,r0_22⟩
 refine Eq.trans (b:=(bif decide (y0_7<(36:Int)) then (bif (Za2 y0_7 a0) then (bif (!((Zae y0_7 a0))) then (bif (decide (0≤y0_7)&&decide (y0_7<36)) then (bif (decide (0≤y0_7)&&decide (y0_7<36)) then (bif (decide (0≤y0_7)&&decide (y0_7<36)) then (some (.more ([.a (.i .i64 (i64.wrap (y0_7+(1:Int))))],[.row (r0_22.setIfInBounds (3+((y0_7).toNat*1)) (.int .i64 (i64.wrap ((num r0_22 (3+((y0_7).toNat*1)))+(i64.wrap ((num a1 (3+((y0_7).toNat*1)))*(12:Int))))))) 60])))
       else (none))
      else (none))
     else (none))
    else (Uaj (Uab (Uah PZ Zbj N (cAt (codeOf Tryz.f42) [1,1,1,0,1,0,0,1,0,0,1,1,0,0]) (pAt (Uaa (codeOf Tryz.f42) [([7],[22]),([8],[22])]).1 [1,1,1,0,1,0,1,0,1,1,0]) [8] [22] (Zfo a0 a1 y0_7 r0_22)) N ([.a (.i .i64 (0:Int))],[.row r0_22 60])) (fun e s=>(Uac 2 (Uac 1 (kSeq (veC PZ Zbj N (cAt (codeOf Tryz.f42) [1,1,1,0,1,0,0,1,1]) (pAt (Uaa (codeOf Tryz.f42) [([7],[22]),([8],[22])]).1 [1,1,1,0,1,0,1,1]) (Stp LS (Exit×LS))) (Ubz 35 [7] [22])))) e (left (writes (cAt (codeOf Tryz.f42) [1,1,1,0,1,0,0,1,0,0,1,1,0,0])) [8] [22] (Zfo a0 a1 y0_7 r0_22) s))))
   else (none))
  else (some (.done ((.exit 0),([.a (.i .i64 (y0_7))],[.row r0_22 60])))))) (by kernel_rfl) ?_
 simp only [Yb2 N a0 a1 y0_7 r0_22,Zc0,Zax,Za0,Zay,Zaz,Zcw,Zen]
def Zjj (P:Program) (N:Nat) (a0 a1:Array Value) (z0_7:Int) (q0_22:Array Value):Option (SV×Eff×Bool):=some (.a (.g q0_22 60),.none,true)
theorem Zr2 (N:Nat) (a0 a1:Array Value) (z0_7:Int) (q0_22:Array Value):(Uac 0 (kSeq (veC PZ Zbj N (cAt (codeOf Tryz.f42) [1,1,1,1]) (pAt (Uaa (codeOf Tryz.f42) [([7],[22]),([8],[22])]).1 [1,1,1,1]) (SV×Eff×Bool)) (finK PZ [.row a0 41,.row a1 60] [.cell 4 60]))) (.exit 0) (left (writes (cAt (codeOf Tryz.f42) [1,1,1,0,1,0,0])) [7] [22] (Zff a0 a1) ([.a (.i .i64 (z0_7))],[.row q0_22 60]))=Zjj PZ N a0 a1 z0_7 q0_22:=by
 refine Eq.trans (b:=(some (.a (.g q0_22 60),.none,true))) (by kernel_rfl) ?_
 rfl
theorem Yae (N:Nat) (a0 a1:Array Value):Uaj (Uab (Uah PZ Zbj N (cAt (codeOf Tryz.f42) [1,1,1,0,1,0,0]) (pAt (Uaa (codeOf Tryz.f42) [([7],[22]),([8],[22])]).1 [1,1,1,0,1,0]) [7] [22] (Zff a0 a1)) N ([.a (.i .i64 (0:Int))],[.row (((((zc PZ 60).setIfInBounds 0 (.int .i8 (num a1 0))).setIfInBounds 1 (.int .i8 (IntKind.i8.wrap ((num a1 1)+(1:Int))))).setIfInBounds 2 (.int .i64 (num a1 2))).setIfInBounds 39 (.int .i64 (i64.wrap ((num a1 39)*(12:Int))))) 60])) (fun e s=>(Uac 0 (kSeq (veC PZ Zbj N (cAt (codeOf Tryz.f42) [1,1,1,1]) (pAt (Uaa (codeOf Tryz.f42) [([7],[22]),([8],[22])]).1 [1,1,1,1]) (SV×Eff×Bool)) (finK PZ [.row a0 41,.row a1 60] [.cell 4 60]))) e (left (writes (cAt (codeOf Tryz.f42) [1,1,1,0,1,0,0])) [7] [22] (Zff a0 a1) s))=Uak (Uab (Zc0 PZ N a0 a1) N ((0:Int),(((((zc PZ 60).setIfInBounds 0 (.int .i8 (num a1 0))).setIfInBounds 1 (.int .i8 (IntKind.i8.wrap ((num a1 1)+(1:Int))))).setIfInBounds 2 (.int .i64 (num a1 2))).setIfInBounds 39 (.int .i64 (i64.wrap ((num a1 39)*(12:Int))))))) (fun x=>Zjj PZ N a0 a1 x.1 x.2):=by
 refine Zbk Zcw Zen _ _ (Ybi N a0 a1) N ((0:Int),(((((zc PZ 60).setIfInBounds 0 (.int .i8 (num a1 0))).setIfInBounds 1 (.int .i8 (IntKind.i8.wrap ((num a1 1)+(1:Int))))).setIfInBounds 2 (.int .i64 (num a1 2))).setIfInBounds 39 (.int .i64 (i64.wrap ((num a1 39)*(12:Int)))))) _ _ ?_
 intro x;exact Zr2 N a0 a1 x.1 x.2
theorem Zza (N:Nat) (a0 a1:Array Value):ansV PZ Zbj N Tryz.f42 [([7],[22]),([8],[22])] [.w 0,.w 1] [.row a0 41,.row a1 60]=(Uak (Uab (Zc0 PZ N a0 a1) N ((0:Int),(((((zc PZ 60).setIfInBounds 0 (.int .i8 (num a1 0))).setIfInBounds 1 (.int .i8 (IntKind.i8.wrap ((num a1 1)+(1:Int))))).setIfInBounds 2 (.int .i64 (num a1 2))).setIfInBounds 39 (.int .i64 (i64.wrap ((num a1 39)*(12:Int))))))) (fun x=>Zjj PZ N a0 a1 x.1 x.2)):=by
 refine Eq.trans (b:=(Uaj (Uab (Uah PZ Zbj N (cAt (codeOf Tryz.f42) [1,1,1,0,1,0,0]) (pAt (Uaa (codeOf Tryz.f42) [([7],[22]),([8],[22])]).1 [1,1,1,0,1,0]) [7] [22] (Zff a0 a1)) N ([.a (.i .i64 (0:Int))],[.row (((((zc PZ 60).setIfInBounds 0 (.int .i8 (num a1 0))).setIfInBounds 1 (.int .i8 (IntKind.i8.wrap ((num a1 1)+(1:Int))))).setIfInBounds 2 (.int .i64 (num a1 2))).setIfInBounds 39 (.int .i64 (i64.wrap ((num a1 39)*(12:Int))))) 60])) (fun e s=>(Uac 0 (kSeq (veC PZ Zbj N (cAt (codeOf Tryz.f42) [1,1,1,1]) (pAt (Uaa (codeOf Tryz.f42) [([7],[22]),([8],[22])]).1 [1,1,1,1]) (SV×Eff×Bool)) (finK PZ [.row a0 41,.row a1 60] [.cell 4 60]))) e (left (writes (cAt (codeOf Tryz.f42) [1,1,1,0,1,0,0])) [7] [22] (Zff a0 a1) s)))) (by kernel_rfl) ?_
 simp only [Yae N a0 a1]
theorem dec2 {a b:Int} (h1:0≤a) (h2:a<b):(decide (0≤a)&&decide (a<b))=true:=by rw [decide_eq_true h1,decide_eq_true h2];rfl
def adN (r:Array Value) (i:Nat) (m:Int):Array Value:=r.setIfInBounds i (.int .i64 (i64.wrap (num r i+m)))
def tdS (X:Array Value):Int:=(IntKind.i8.wrap (num X 0+num X 1)).tmod 2
def muF (S X:Array Value) (t:Int) (k w:Nat):Int:=i64.wrap (num X (3+k*1)*chW S t (k:Int) w)
def wayF (S X:Array Value) (t:Int) (k:Nat) (r:Array Value) (w:Nat):Array Value:=bif decide (Zac (k:Int) (w:Int) S<0) then adN r 39 (muF S X t k w) else adN r (3+(Zac (k:Int) (w:Int) S).toNat*1) (muF S X t k w)
def Ud9 (S X:Array Value) (t:Int) (r:Array Value) (k:Nat):Array Value:=bif Zae (k:Int) S then folds (wayF S X t k) r 5 else adN r (3+k*1) (i64.wrap (num X (3+k*1)*12))
def Ubs (P:Program) (X:Array Value):Array Value:=((((zc P 60).setIfInBounds 0 (.int .i8 (num X 0))).setIfInBounds 1 (.int .i8 (IntKind.i8.wrap (num X 1+1)))).setIfInBounds 2 (.int .i64 (num X 2))).setIfInBounds 39 (.int .i64 (i64.wrap (num X 39*12)))
def Ubf (P:Program) (S X:Array Value):Array Value:=folds (Ud9 S X (tdS X)) (Ubs P X) 36
theorem Ydy {S:Array Value} (h0:1≤num S 0∧num S 0≤6∧1≤num S 1∧num S 1≤6) {k:Nat} (hk:k<36) (hi:inC (num S 0) (num S 1) k=true) {w:Nat} (hw:w<5) (hn:¬ Zac (k:Int) (w:Int) S<0):0≤Zac (k:Int) (w:Int) S∧Zac (k:Int) (w:Int) S<36:=by
 rw [Zzz h0 hk hi w hw] at hn⊢
 exact Zzl h0 hk hi w hw (by omega)
theorem Zxi (a0 a1:Array Value) (h_a0:WT PZ 41 a0) (h_a1:WT PZ 60 a1) (hg:((okS a0&&(decide (0≤tdS a1)&&decide (tdS a1<2))))=true):ansV PZ Zbj 1000 Tryz.f42 [([7],[22]),([8],[22])] [.w 0,.w 1] [.row a0 41,.row a1 60]=some (.a (.g (Ubf PZ a0 a1) 60),.none,true):=by
 rw [Bool.and_eq_true] at hg
 obtain ⟨hok,ht⟩:=hg
 have hdm:=Zog hok
 refine (Zza 1000 a0 a1).trans ?_
 have hT:(IntKind.i8.wrap (num a1 0+num a1 1)).tmod 2=tdS a1:=rfl
 have h:=Zjn (g:=Zc0 PZ 1000 a0 a1) (fun r k=>((k:Int),r)) (Ud9 a0 a1 (tdS a1)) (m:=36) (t:=Ubs PZ a1) (x:=((36:Int),Ubf PZ a0 a1)) (N:=1000) (fun k s hk _=>by
  have h1:decide ((k:Int)<36)=true:=decide_eq_true (by omega)
  have h0:decide (0≤(k:Int))=true:=decide_eq_true (by omega)
  have h3:i64.wrap ((k:Int)+1)=((k+1:Nat):Int):=by rw [w64 (by omega)];omega
  obtain ⟨w1,w2⟩:=Ydk h_a0 hk
  unfold Ud9
  cases hw:Zae (k:Int) a0 with
  | false=>
   simp only [Zc0,h1,h0,h3,w1,hw,Int.toNat_natCast,Bool.and_self,Bool.not_false,cond_true,cond_false]
   rfl
  | true=>
   rw [hw] at w2
   have hi:inC (num a0 0) (num a0 1) k=true:=(Bool.and_eq_true_iff.1 w2.symm).1
   have hin:=Zjn (g:=Zcz PZ a0 a1 (k:Int) s) (fun r w=>((w:Int),r)) (wayF a0 a1 (tdS a1) k) (m:=5) (t:=s) (x:=((5:Int),folds (wayF a0 a1 (tdS a1) k) s 5)) (N:=1000) (fun w r hw5 _=>by
    have e1:decide ((w:Int)<5)=true:=decide_eq_true (by omega)
    have e0:decide (0≤(w:Int))=true:=decide_eq_true (by omega)
    have e3:i64.wrap ((w:Int)+1)=((w+1:Nat):Int):=by rw [w64 (by omega)];omega
    have e4:i64.wrap (num a1 (3+k*1)*i64.wrap (num a0 (3+(tdS a1).toNat*180+k*5+w*1)))=muF a0 a1 (tdS a1) k w:=by unfold muF chW;rw [Int.toNat_natCast,Nat.mul_one w]
    unfold wayF
    by_cases hg:Zac (k:Int) (w:Int) a0<0
    ·simp only [Zcz,e1,e0,e3,h1,h0,hT,ht,Int.toNat_natCast,Bool.and_self,cond_true,decide_eq_true hg,e4]
     rfl
    ·obtain ⟨r1,r2⟩:=Ydy hdm hk hi hw5 hg
     simp only [Zcz,e1,e0,e3,h1,h0,hT,ht,Int.toNat_natCast,Bool.and_self,cond_true,cond_false,decide_eq_false hg,dec2 r1 r2,e4]
     rfl) (by
    have e1:decide (((5:Nat):Int)<5)=false:=by decide
    simp only [Zcz,e1,cond_false]
    rfl) (by omega)
   have hin':Uab (Zcz PZ a0 a1 (k:Int) s) 1000 ((0:Int),s)=some ((5:Int),folds (wayF a0 a1 (tdS a1) k) s 5):=hin
   simp only [Zc0,h1,w1,hw,Bool.not_true,cond_true,cond_false,hin',Uak,Zfi,h3]) (by
  have h1:decide (((36:Nat):Int)<36)=false:=by decide
  simp only [Zc0,h1,cond_false]
  rfl) (by omega)
 have h':Uab (Zc0 PZ 1000 a0 a1) 1000 ((0:Int),Ubs PZ a1)=some ((36:Int),Ubf PZ a0 a1):=h
 unfold Ubs at h'
 rw [h']
 rfl
def Zkm:Con:=fun args h=>match args,h with
 | [.w 0,.w 1],[.row a0 41,.row a1 60]=>some (.a (.g (Ubf PZ a0 a1) 60),.none,(okS a0&&(decide (0≤tdS a1)&&decide (tdS a1<2))))
 | _,_=>none
theorem Zv7:EntX PZ 42:=Zaf (fn:=Tryz.f42) (by kernel_rfl) (by kernel_rfl) (by kernel_rfl)
theorem Yam:Uad mn PZ 42 Zkm:=(Zah (N:=1000) (by kernel_rfl) (mkΓ_consX (Zad Zmw) Zjp (mkΓ_consX (Zad Ybq) Zu0 mkΓ_nilX)) (fn:=Tryz.f42) (by kernel_rfl) (by kernel_rfl) [([7],[22]),([8],[22])]).of (by
 intro ρ h w args vals r e hA hH hr
 unfold Zkm at hr
 split at hr
 ·rename_i a0 a1
  obtain ⟨rfl,hg⟩:=Prod.mk.inj (Option.some.inj hr)
  obtain ⟨rfl,hg2⟩:=Prod.mk.inj hg
  exact Zxi a0 a1 (hH.wt 0 rfl) (hH.wt 1 rfl) hg2
 ·cases hr)
def tdI (X:Array Value):Int:=(i64.wrap (i64.wrap (num X 0)+i64.wrap (num X 1))).tmod 2
def Uea (S X:Array Value) (t:Int) (w:Nat) (r:Array Value) (k:Nat):Array Value:=bif Uaw S (k:Int) w != -1 then adN r (3+(Uaw S (k:Int) w).toNat*1) (muF S X t k w) else adN r 39 (muF S X t k w)
def Ua9 (P:Program) (S X:Array Value) (w:Nat):Array Value:=folds (fun r k=>if inC (num S 0) (num S 1) k&&Zab S (k:Int) then Uea S X (tdI X) w r k else r) (zc P 60) 36
def togF (Y:Array Value) (r:Array Value) (k:Nat):Array Value:=adN r (3+k*1) (num Y (3+k*1))
def togV (X Y:Array Value):Array Value:=adN (folds (togF Y) (adN X 2 (num Y 2)) 36) 39 (num Y 39)
def Uct (S:Array Value) (r:Array Value) (k:Nat):Array Value:=bif Zau S (k:Int) then r.setIfInBounds (3+k*1) (.int .i64 (i64.wrap (num r (3+k*1)*12))) else r.setIfInBounds (3+k*1) (.int .i64 0)
def Ub6 (r:Array Value):Array Value:=r.setIfInBounds 39 (.int .i64 (i64.wrap (num r 39*12)))
def Ub0 (S X:Array Value):Array Value:=(Ub6 (folds (Uct S) X 36)).setIfInBounds 1 (.int .i8 (IntKind.i8.wrap (num (Ub6 (folds (Uct S) X 36)) 1+1)))
def Zdl:Cons:=(mkΓx [(95,con Zlx),(97,con Zj6)] [(96,Zjs)] [(101,Zft)])
def Zef (a0 a1:Array Value) (a2:Int):St:=(⟨.a (.g a0 41) :: .a (.g a1 60) :: .a (.i .i64 (a2)) :: .a (.w 0) :: .a (.w 1) :: .a (.w 2) :: .a (.w 3) :: .a (.w 4) :: .a (.w 12)::us 3 (.a (.p 1 (0) 22) :: .a (.i .i8 (num a1 0)) :: .a (.i .i64 (i64.wrap (num a1 0))) :: .a (.p 1 (1) 22) :: .a (.i .i8 (num a1 1)) :: .a (.i .i64 (i64.wrap (num a1 1))) :: .a (.i .i64 (((i64.wrap ((i64.wrap (num a1 0))+(i64.wrap (num a1 1))))).tmod (2:Int))) :: .a (.g a0 41) :: .a (.c 101 [17])::us 35 ([])),[.row a0 41,.row a1 60,.row #[.int .i64 (a2)] 2,.row (zc PZ 60) 60,.row (zc PZ 60) 60,.no,.no,.no,.no,.no,.no,.no,.row #[.int .i64 (((i64.wrap ((i64.wrap (num a1 0))+(i64.wrap (num a1 1))))).tmod (2:Int))] 2,.no,.no,.no,.no,.row a0 41,.no,.no,.no,.no],[12]⟩:St)
def Zjw:Array Value→BS
 | r0_4=>([.row r0_4 60]:BS)
def Zmp:Empty→Exit×BS:=fun x=>nomatch x
def Zgc (P : Program) (a0 a1 : Array Value) (a2 : Int) (x0 : Int) : Array Value → Option (Stp (Array Value) Empty)
  | r0_4 => bif (decide (0 ≤ x0) && decide (x0 < 36)) then (bif (decide (0 ≤ (((i64.wrap ((i64.wrap (num a1 0)) + (i64.wrap (num a1 1))))).tmod (2 : Int))) && decide ((((i64.wrap ((i64.wrap (num a1 0)) + (i64.wrap (num a1 1))))).tmod (2 : Int)) < 2)) then (bif (decide (0 ≤ x0) && decide (x0 < 36)) then (bif (decide (0 ≤ a2) && decide (a2 < 5)) then (bif (decide (0 ≤ a2) && decide (a2 < 5)) then (bif ((Uaw a0 x0 a2.toNat) != (-1 : Int)) then (bif (decide (0 ≤ (Uaw a0 x0 a2.toNat)) && decide ((Uaw a0 x0 a2.toNat) < 36)) then (bif (decide (0 ≤ (Uaw a0 x0 a2.toNat)) && decide ((Uaw a0 x0 a2.toNat) < 36)) then (some (.more (r0_4.setIfInBounds (3 + ((Uaw a0 x0 a2.toNat).toNat * 1)) (.int .i64 (i64.wrap ((num r0_4 (3 + ((Uaw a0 x0 a2.toNat).toNat * 1))) + (i64.wrap ((num a1 (3 + ((x0).toNat * 1))) * (i64.wrap (num a0 (((3 + ((((i64.wrap ((i64.wrap (num a1 0)) + (i64.wrap (num a1 1))))).tmod (2 : Int)).toNat * 180)) + ((x0).toNat * 5)) + ((a2).toNat * 1))))))))))))
                  else (none))
                else (none))
              else (some (.more (r0_4.setIfInBounds 39 (.int .i64 (i64.wrap ((num r0_4 39) + (i64.wrap ((num a1 (3 + ((x0).toNat * 1))) * (i64.wrap (num a0 (((3 + ((((i64.wrap ((i64.wrap (num a1 0)) + (i64.wrap (num a1 1))))).tmod (2 : Int)).toNat * 180)) + ((x0).toNat * 5)) + ((a2).toNat * 1)))))))))))))
            else (none))
          else (none))
        else (none))
      else (none))
    else (none)
theorem Ych (N:Nat) (a0 a1:Array Value) (a2:Int) (x0:Int):∀ t:Array Value,Udw PZ Zdl N (cAt (codeOf Tryz.f86) [1,1,1,0,1,0,0]) (pAt (Uaa (codeOf Tryz.f86) [([],[4])]).1 [1,1,1,0,1,0]) 22 [4] [21] [(9,21)] (Zef a0 a1 a2) [.i .i64 (x0)] (Zjw t)=mapS Zjw Zmp (Zgc PZ a0 a1 a2 x0 t):=by
 rintro r0_4
 refine Eq.trans (b:=(bif (decide (0≤x0)&&decide (x0<36)) then (bif (decide (0≤(((i64.wrap ((i64.wrap (num a1 0))+(i64.wrap (num a1 1))))).tmod (2:Int)))&&decide ((((i64.wrap ((i64.wrap (num a1 0))+(i64.wrap (num a1 1))))).tmod (2:Int))<2)) then (bif (decide (0≤x0)&&decide (x0<36)) then (bif (decide (0≤a2)&&decide (a2<5)) then (bif (decide (0≤a2)&&decide (a2<5)) then (bif ((Uaw a0 x0 a2.toNat) != (-1:Int)) then (bif (decide (0≤(Uaw a0 x0 a2.toNat))&&decide ((Uaw a0 x0 a2.toNat)<36)) then (bif (decide (0≤(Uaw a0 x0 a2.toNat))&&decide ((Uaw a0 x0 a2.toNat)<36)) then (some (.more ([.row (r0_4.setIfInBounds (3+((Uaw a0 x0 a2.toNat).toNat*1)) (.int .i64 (i64.wrap ((num r0_4 (3+((Uaw a0 x0 a2.toNat).toNat*1)))+(i64.wrap ((num a1 (3+((x0).toNat*1)))*(i64.wrap (num a0 (((3+((((i64.wrap ((i64.wrap (num a1 0))+(i64.wrap (num a1 1))))).tmod (2:Int)).toNat*180))+((x0).toNat*5))+((a2).toNat*1)))))))))) 60]:BS)))
         else (none))
        else (none))
       else (some (.more ([.row (r0_4.setIfInBounds 39 (.int .i64 (i64.wrap ((num r0_4 39)+(i64.wrap ((num a1 (3+((x0).toNat*1)))*(i64.wrap (num a0 (((3+((((i64.wrap ((i64.wrap (num a1 0))+(i64.wrap (num a1 1))))).tmod (2:Int)).toNat*180))+((x0).toNat*5))+((a2).toNat*1)))))))))) 60]:BS))))
      else (none))
     else (none))
    else (none))
   else (none))
  else (none))) (by kernel_rfl) ?_
 simp only [Zgc,Zax,Za0,Zay,Zaz,Zjw,Zmp]
def Zku (P:Program) (N:Nat) (a0 a1:Array Value) (a2:Int) (q0_4:Array Value):Option (SV×Eff×Bool):=some (.a (.g q0_4 60),.none,true)
theorem Zs9 (N:Nat) (a0 a1:Array Value) (a2:Int) (q0_4:Array Value):(Uac 0 (kSeq (veC PZ Zdl N (cAt (codeOf Tryz.f86) [1,1,1,1]) (pAt (Uaa (codeOf Tryz.f86) [([],[4])]).1 [1,1,1,1]) (SV×Eff×Bool)) (finK PZ [] [.cell 6 60]))) .normal (Ubh [4] (Zef a0 a1 a2) ([.row q0_4 60]:BS))=Zku PZ N a0 a1 a2 q0_4:=by
 refine Eq.trans (b:=(some (.a (.g q0_4 60),.none,true))) (by kernel_rfl) ?_
 rfl
theorem Yco (N:Nat) (a0 a1:Array Value) (a2:Int):Uc9 (Uaz (fun (x0:Int) (hb:BS)=>Udw PZ Zdl N (cAt (codeOf Tryz.f86) [1,1,1,0,1,0,0]) (pAt (Uaa (codeOf Tryz.f86) [([],[4])]).1 [1,1,1,0,1,0]) 22 [4] [21] [(9,21)] (Zef a0 a1 a2) [.i .i64 (x0)] hb) ((Uap (num a0 0) (num a0 1) 36).filter (Zab a0)) ([.row (zc PZ 60) 60]:BS)) (fun hb=>(Uac 0 (kSeq (veC PZ Zdl N (cAt (codeOf Tryz.f86) [1,1,1,1]) (pAt (Uaa (codeOf Tryz.f86) [([],[4])]).1 [1,1,1,1]) (SV×Eff×Bool)) (finK PZ [] [.cell 6 60]))) .normal (Ubh [4] (Zef a0 a1 a2) hb)) (fun e hb=>(Uac 0 (kSeq (veC PZ Zdl N (cAt (codeOf Tryz.f86) [1,1,1,1]) (pAt (Uaa (codeOf Tryz.f86) [([],[4])]).1 [1,1,1,1]) (SV×Eff×Bool)) (finK PZ [] [.cell 6 60]))) e (Ubh [4] (Zef a0 a1 a2) hb))=Uem (Uaz (Zgc PZ a0 a1 a2) ((Uap (num a0 0) (num a0 1) 36).filter (Zab a0)) (zc PZ 60)) (fun x=>Zku PZ N a0 a1 a2 x) (fun x:Empty=>nomatch x):=by
 refine Zz8 Zjw Zmp _ _ (fun y t=>Ych N a0 a1 a2 y t) _ (zc PZ 60) _ _ _ _ ?_ ?_
 ·intro x;exact Zs9 N a0 a1 a2 x
 ·intro x;exact nomatch x
theorem Ybv (N:Nat) (a0 a1:Array Value) (a2:Int):ansV PZ Zdl N Tryz.f86 [([],[4])] [.g a0 41,.g a1 60,.i .i64 (a2)] []=(bif (decide (0≤num a0 0)&&decide (num a0 0≤6)&&(decide (0≤num a0 1)&&decide (num a0 1≤6))) then (Uem (Uaz (Zgc PZ a0 a1 a2) ((Uap (num a0 0) (num a0 1) 36).filter (Zab a0)) (zc PZ 60)) (fun x=>Zku PZ N a0 a1 a2 x) (fun x:Empty=>nomatch x))
  else (none)):=by
 refine Eq.trans (b:=(bif (decide (0≤num a0 0)&&decide (num a0 0≤6)&&(decide (0≤num a0 1)&&decide (num a0 1≤6))) then (Uc9 (Uaz (fun (x0:Int) (hb:BS)=>Udw PZ Zdl N (cAt (codeOf Tryz.f86) [1,1,1,0,1,0,0]) (pAt (Uaa (codeOf Tryz.f86) [([],[4])]).1 [1,1,1,0,1,0]) 22 [4] [21] [(9,21)] (Zef a0 a1 a2) [.i .i64 (x0)] hb) ((Uap (num a0 0) (num a0 1) 36).filter (Zab a0)) ([.row (zc PZ 60) 60]:BS)) (fun hb=>(Uac 0 (kSeq (veC PZ Zdl N (cAt (codeOf Tryz.f86) [1,1,1,1]) (pAt (Uaa (codeOf Tryz.f86) [([],[4])]).1 [1,1,1,1]) (SV×Eff×Bool)) (finK PZ [] [.cell 6 60]))) .normal (Ubh [4] (Zef a0 a1 a2) hb)) (fun e hb=>(Uac 0 (kSeq (veC PZ Zdl N (cAt (codeOf Tryz.f86) [1,1,1,1]) (pAt (Uaa (codeOf Tryz.f86) [([],[4])]).1 [1,1,1,1]) (SV×Eff×Bool)) (finK PZ [] [.cell 6 60]))) e (Ubh [4] (Zef a0 a1 a2) hb)))
  else (none))) (by kernel_rfl) ?_
 simp only [Yco N a0 a1 a2]
theorem Zyo (a0 a1:Array Value) (a2:Int) (h_a0:WT PZ 41 a0) (h_a1:WT PZ 60 a1) (h_a2:i64.min≤a2∧a2≤i64.max) (hg:((okS a0&&((decide (0≤tdI a1)&&decide (tdI a1<2))&&(decide (0≤a2)&&decide (a2<5)))))=true):ansV PZ Zdl 1000 Tryz.f86 [([],[4])] [.g a0 41,.g a1 60,.i .i64 (a2)] []=some (.a (.g (Ua9 PZ a0 a1 a2.toNat) 60),.none,true):=by
 rw [Bool.and_eq_true,Bool.and_eq_true] at hg
 obtain ⟨hok,ht,hw5⟩:=hg
 simp only [Bool.and_eq_true,decide_eq_true_eq] at hw5
 obtain ⟨w0,w5⟩:=hw5
 obtain ⟨w,rfl⟩:=Int.eq_ofNat_of_zero_le w0
 have hw:w<5:=by omega
 have hdm:=Zog hok
 refine (Ybv 1000 a0 a1 (w:Int)).trans ?_
 rw [okS_iter hok,cond_true,Int.toNat_natCast]
 have d1:decide (0≤(w:Int))=true:=decide_eq_true (by omega)
 have d2:decide ((w:Int)<5)=true:=decide_eq_true (by omega)
 have hT:(i64.wrap (i64.wrap (num a1 0)+i64.wrap (num a1 1))).tmod 2=tdI a1:=rfl
 have h:=Yap (X:=Empty) (g:=Zgc PZ a0 a1 (w:Int)) (q:=Zab a0) (Uea a0 a1 (tdI a1) w) (wd:=num a0 0) (hi:=num a0 1) (fun r k hk hi hq=>by
  have h1:decide ((k:Int)<36)=true:=decide_eq_true (by omega)
  have h0:decide (0≤(k:Int))=true:=decide_eq_true (by omega)
  have hmu:i64.wrap (num a1 (3+k*1)*i64.wrap (num a0 (3+(tdI a1).toNat*180+k*5+w*1)))=muF a0 a1 (tdI a1) k w:=by unfold muF chW;rw [Int.toNat_natCast,Nat.mul_one w]
  simp only [Zgc,h0,h1,d1,d2,hT,ht,Int.toNat_natCast,Bool.and_self,cond_true,hmu]
  unfold Uea
  cases hl:(Uaw a0 (k:Int) w != -1) with
  | false=>simp only [cond_false];rfl
  | true=>
   have hr:0≤Uaw a0 (k:Int) w∧Uaw a0 (k:Int) w<36:=by
    rw [Yll hdm hk hi w hw] at hl⊢
    exact Zzl hdm hk hi w hw (by simpa using hl)
   simp only [cond_true,dec2 hr.1 hr.2]
   rfl) (zc PZ 60)
 rw [h]
 rfl
def Zl5:Con:=fun args h=>match args,h with
 | [.g a0 41,.g a1 60,.i .i64 a2],[]=>some (.a (.g (Ua9 PZ a0 a1 a2.toNat) 60),.none,(okS a0&&((decide (0≤tdI a1)&&decide (tdI a1<2))&&(decide (0≤a2)&&decide (a2<5)))))
 | _,_=>none
theorem Zwm:EntX PZ 86:=Zaf (fn:=Tryz.f86) (by kernel_rfl) (by kernel_rfl) (by kernel_rfl)
theorem Ycx:Uad mn PZ 86 Zl5:=(Zah (N:=1000) (by kernel_rfl) (mkΓx_cX (Zad Ycs) Zxg (mkΓx_cX (Zad Ybz) Zux (mkΓx_nX Zts Zr7 (mkΓx_iX Zrj Zpc mkΓx_nilX)))) (fn:=Tryz.f86) (by kernel_rfl) (by kernel_rfl) [([],[4])]).of (by
 intro ρ h w args vals r e hA hH hr
 unfold Zl5 at hr
 split at hr
 ·rename_i a0 a1 a2
  obtain ⟨rfl,hg⟩:=Prod.mk.inj (Option.some.inj hr)
  obtain ⟨rfl,hg2⟩:=Prod.mk.inj hg
  exact Zyo a0 a1 a2 (hA.wt 0 rfl) (hA.wt 1 rfl) (hA.rng 2 rfl) hg2
 ·cases hr)
def Zfj (a0 a1:Array Value):St:=(⟨.a (.g a0 41) :: .a (.g a1 60) :: .a (.w 0) :: .a (.w 1) :: .a (.w 2) :: .a (.u) :: .a (.i .i64 (0:Int))::us 25 ([]),[.row a0 41,.row a1 60,.row (zc PZ 60) 60],[]⟩:St)
def Zgy:Int×Array Value→LS
 | (y0_6,r0_1)=>([.a (.i .i64 (y0_6))],[.row r0_1 60])
def Zlm:Int×Array Value→Exit×LS
 | t=>((.exit 0),Zgy t)
def Zct (P : Program) (a0 a1 : Array Value) : Int × Array Value → Option (Stp (Int × Array Value) (Int × Array Value))
 | (y0_6, r0_1) => bif decide (y0_6 < (36 : Int)) then (bif decide (0 ≤ y0_6) then (bif (Zau a0 y0_6) then (bif (decide (0 ≤ y0_6) && decide (y0_6 < 36)) then (bif (decide (0 ≤ y0_6) && decide (y0_6 < 36)) then (some (.more ((i64.wrap (y0_6 + (1 : Int))), (r0_1.setIfInBounds (3 + ((y0_6).toNat * 1)) (.int .i64 (i64.wrap ((num r0_1 (3 + ((y0_6).toNat * 1))) * (12 : Int))))))))
      else (none))
     else (none))
    else (bif (decide (0 ≤ y0_6) && decide (y0_6 < 36)) then (some (.more ((i64.wrap (y0_6 + (1 : Int))), (r0_1.setIfInBounds (3 + ((y0_6).toNat * 1)) (.int .i64 (0 : Int))))))
     else (none)))
   else (none))
  else (some (.done (y0_6, r0_1)))
theorem Yb9 (N:Nat) (a0 a1:Array Value):∀ t:Int×Array Value,Uah PZ (mkΓ [(87,con Zbn)]) N (cAt (codeOf Tryz.f73) [1,0,1,0,0]) (pAt (Uaa (codeOf Tryz.f73) [([6],[1])]).1 [1,0,1,0]) [6] [1] (Zfj a0 a1) (Zgy t)=mapS Zgy Zlm (Zct PZ a0 a1 t):=by
 rintro ⟨y0_6,r0_1⟩
 refine Eq.trans (b:=(bif decide (y0_6<(36:Int)) then (bif decide (0≤y0_6) then (bif (Zau a0 y0_6) then (bif (decide (0≤y0_6)&&decide (y0_6<36)) then (bif (decide (0≤y0_6)&&decide (y0_6<36)) then (some (.more ([.a (.i .i64 (i64.wrap (y0_6+(1:Int))))],[.row (r0_1.setIfInBounds (3+((y0_6).toNat*1)) (.int .i64 (i64.wrap ((num r0_1 (3+((y0_6).toNat*1)))*(12:Int))))) 60])))
      else (none))
     else (none))
    else (bif (decide (0≤y0_6)&&decide (y0_6<36)) then (some (.more ([.a (.i .i64 (i64.wrap (y0_6+(1:Int))))],[.row (r0_1.setIfInBounds (3+((y0_6).toNat*1)) (.int .i64 (0:Int))) 60])))
     else (none)))
   else (none))
  else (some (.done ((.exit 0),([.a (.i .i64 (y0_6))],[.row r0_1 60])))))) (by kernel_rfl) ?_
 simp only [Zct,Zax,Za0,Zay,Zaz,Zgy,Zlm]
def Zju (P:Program) (N:Nat) (a0 a1:Array Value) (z0_6:Int) (q0_1:Array Value):Option (SV×Eff×Bool):=some (.a (.g ((q0_1.setIfInBounds 39 (.int .i64 (i64.wrap ((num q0_1 39)*(12:Int))))).setIfInBounds 1 (.int .i8 (IntKind.i8.wrap ((num (q0_1.setIfInBounds 39 (.int .i64 (i64.wrap ((num q0_1 39)*(12:Int))))) 1)+(1:Int))))) 60),.none,true)
theorem Zr9 (N:Nat) (a0 a1:Array Value) (z0_6:Int) (q0_1:Array Value):(Uac 0 (kSeq (veC PZ (mkΓ [(87,con Zbn)]) N (cAt (codeOf Tryz.f73) [1,1]) (pAt (Uaa (codeOf Tryz.f73) [([6],[1])]).1 [1,1]) (SV×Eff×Bool)) (finK PZ [] [.cell 4 60]))) (.exit 0) (left (writes (cAt (codeOf Tryz.f73) [1,0,1,0,0])) [6] [1] (Zfj a0 a1) ([.a (.i .i64 (z0_6))],[.row q0_1 60]))=Zju PZ N a0 a1 z0_6 q0_1:=by
 refine Eq.trans (b:=(some (.a (.g ((q0_1.setIfInBounds 39 (.int .i64 (i64.wrap ((num q0_1 39)*(12:Int))))).setIfInBounds 1 (.int .i8 (IntKind.i8.wrap ((num (q0_1.setIfInBounds 39 (.int .i64 (i64.wrap ((num q0_1 39)*(12:Int))))) 1)+(1:Int))))) 60),.none,true))) (by kernel_rfl) ?_
 rfl
theorem Ya0 (N:Nat) (a0 a1:Array Value):Uaj (Uab (Uah PZ (mkΓ [(87,con Zbn)]) N (cAt (codeOf Tryz.f73) [1,0,1,0,0]) (pAt (Uaa (codeOf Tryz.f73) [([6],[1])]).1 [1,0,1,0]) [6] [1] (Zfj a0 a1)) N ([.a (.i .i64 (0:Int))],[.row a1 60])) (fun e s=>(Uac 0 (kSeq (veC PZ (mkΓ [(87,con Zbn)]) N (cAt (codeOf Tryz.f73) [1,1]) (pAt (Uaa (codeOf Tryz.f73) [([6],[1])]).1 [1,1]) (SV×Eff×Bool)) (finK PZ [] [.cell 4 60]))) e (left (writes (cAt (codeOf Tryz.f73) [1,0,1,0,0])) [6] [1] (Zfj a0 a1) s))=Uak (Uab (Zct PZ a0 a1) N ((0:Int),a1)) (fun x=>Zju PZ N a0 a1 x.1 x.2):=by
 refine Zbk Zgy Zlm _ _ (Yb9 N a0 a1) N ((0:Int),a1) _ _ ?_
 intro x;exact Zr9 N a0 a1 x.1 x.2
theorem Zy1 (N:Nat) (a0 a1:Array Value):ansV PZ (mkΓ [(87,con Zbn)]) N Tryz.f73 [([6],[1])] [.g a0 41,.g a1 60] []=(Uak (Uab (Zct PZ a0 a1) N ((0:Int),a1)) (fun x=>Zju PZ N a0 a1 x.1 x.2)):=by
 refine Eq.trans (b:=(Uaj (Uab (Uah PZ (mkΓ [(87,con Zbn)]) N (cAt (codeOf Tryz.f73) [1,0,1,0,0]) (pAt (Uaa (codeOf Tryz.f73) [([6],[1])]).1 [1,0,1,0]) [6] [1] (Zfj a0 a1)) N ([.a (.i .i64 (0:Int))],[.row a1 60])) (fun e s=>(Uac 0 (kSeq (veC PZ (mkΓ [(87,con Zbn)]) N (cAt (codeOf Tryz.f73) [1,1]) (pAt (Uaa (codeOf Tryz.f73) [([6],[1])]).1 [1,1]) (SV×Eff×Bool)) (finK PZ [] [.cell 4 60]))) e (left (writes (cAt (codeOf Tryz.f73) [1,0,1,0,0])) [6] [1] (Zfj a0 a1) s)))) (by kernel_rfl) ?_
 simp only [Ya0 N a0 a1]
theorem Zwg (a0 a1:Array Value) (h_a0:WT PZ 41 a0) (h_a1:WT PZ 60 a1) (hg:(true)=true):ansV PZ (mkΓ [(87,con Zbn)]) 1000 Tryz.f73 [([6],[1])] [.g a0 41,.g a1 60] []=some (.a (.g (Ub0 a0 a1) 60),.none,true):=by
 refine (Zy1 1000 a0 a1).trans ?_
 have h:=Zjn (g:=Zct PZ a0 a1) (fun r k=>((k:Int),r)) (Uct a0) (m:=36) (t:=a1) (x:=((36:Int),folds (Uct a0) a1 36)) (N:=1000) (fun k s hk _=>by
  have h1:decide ((k:Int)<36)=true:=decide_eq_true (by omega)
  have h0:decide (0≤(k:Int))=true:=decide_eq_true (by omega)
  have h3:i64.wrap ((k:Int)+1)=((k+1:Nat):Int):=by rw [w64 (by omega)];omega
  unfold Uct
  cases hl:Zau a0 (k:Int) with
  | false=>simp only [Zct,h1,h0,h3,hl,Int.toNat_natCast,Bool.and_self,cond_true,cond_false]
  | true=>simp only [Zct,h1,h0,h3,hl,Int.toNat_natCast,Bool.and_self,cond_true,cond_false]) (by
  have h1:decide (((36:Nat):Int)<36)=false:=by decide
  simp only [Zct,h1,cond_false]
  rfl) (by omega)
 have h':Uab (Zct PZ a0 a1) 1000 ((0:Int),a1)=some ((36:Int),folds (Uct a0) a1 36):=h
 rw [h']
 rfl
def Zkw:Con:=fun args h=>match args,h with
 | [.g a0 41,.g a1 60],[]=>some (.a (.g (Ub0 a0 a1) 60),.none,true)
 | _,_=>none
theorem Zuy:EntX PZ 73:=Zaf (fn:=Tryz.f73) (by kernel_rfl) (by kernel_rfl) (by kernel_rfl)
theorem Zz4:Uad mn PZ 73 Zkw:=(Zah (N:=1000) (by kernel_rfl) (mkΓ_consX (Zad Zsi) Zm0 mkΓ_nilX) (fn:=Tryz.f73) (by kernel_rfl) (by kernel_rfl) [([6],[1])]).of (by
 intro ρ h w args vals r e hA hH hr
 unfold Zkw at hr
 split at hr
 ·rename_i a0 a1
  obtain ⟨rfl,hg⟩:=Prod.mk.inj (Option.some.inj hr)
  obtain ⟨rfl,hg2⟩:=Prod.mk.inj hg
  exact Zwg a0 a1 (hA.wt 0 rfl) (hA.wt 1 rfl) hg2
 ·cases hr)
def Zew (a0 a1:Array Value):St:=(⟨.a (.g a0 60) :: .a (.g a1 60) :: .a (.w 0) :: .a (.w 1) :: .a (.w 2) :: .a (.u) :: .a (.u) :: .a (.p 0 (2) 2) :: .a (.i .i64 (num a0 2)) :: .a (.p 1 (2) 2) :: .a (.i .i64 (num a1 2)) :: .a (.i .i64 (i64.wrap ((num a0 2)+(num a1 2)))) :: .a (.p 0 (2) 2) :: .a (.p 1 (3) 58) :: .a (.g (a1.extract 3 (3+36)) 58) :: .a (.i .i64 (0:Int))::us 19 ([]),[.row (a0.setIfInBounds 2 (.int .i64 (i64.wrap ((num a0 2)+(num a1 2))))) 60,.row a1 60,.row (zc PZ 60) 60],[0]⟩:St)
def Zf4:Int×Array Value→LS
 | (y0_15,r0_0)=>([.a (.i .i64 (y0_15))],[.row r0_0 60])
def Zkx:Int×Array Value→Exit×LS
 | t=>((.exit 0),Zf4 t)
def Zck (P : Program) (a0 a1 : Array Value) : Int × Array Value → Option (Stp (Int × Array Value) (Int × Array Value))
 | (y0_15, r0_0) => bif decide (y0_15 < (36 : Int)) then (bif (decide (0 ≤ y0_15) && decide (y0_15 < 36)) then (bif (decide (0 ≤ y0_15) && decide (y0_15 < 36)) then (bif (decide (0 ≤ y0_15) && decide (y0_15 < 36)) then (some (.more ((i64.wrap (y0_15 + (1 : Int))), (r0_0.setIfInBounds (3 + ((y0_15).toNat * 1)) (.int .i64 (i64.wrap ((num r0_0 (3 + ((y0_15).toNat * 1))) + (num (a1.extract 3 (3 + 36)) ((y0_15).toNat * 1)))))))))
     else (none))
    else (none))
   else (none))
  else (some (.done (y0_15, r0_0)))
theorem Zym (N:Nat) (a0 a1:Array Value):∀ t:Int×Array Value,Uah PZ (mkΓ []) N (cAt (codeOf Tryz.f74) [1,1,0,1,0,0]) (pAt (Uaa (codeOf Tryz.f74) [([15],[0])]).1 [1,1,0,1,0]) [15] [0] (Zew a0 a1) (Zf4 t)=mapS Zf4 Zkx (Zck PZ a0 a1 t):=by
 rintro ⟨y0_15,r0_0⟩
 refine Eq.trans (b:=(bif decide (y0_15<(36:Int)) then (bif (decide (0≤y0_15)&&decide (y0_15<36)) then (bif (decide (0≤y0_15)&&decide (y0_15<36)) then (bif (decide (0≤y0_15)&&decide (y0_15<36)) then (some (.more ([.a (.i .i64 (i64.wrap (y0_15+(1:Int))))],[.row (r0_0.setIfInBounds (3+((y0_15).toNat*1)) (.int .i64 (i64.wrap ((num r0_0 (3+((y0_15).toNat*1)))+(num (a1.extract 3 (3+36)) ((y0_15).toNat*1)))))) 60])))
     else (none))
    else (none))
   else (none))
  else (some (.done ((.exit 0),([.a (.i .i64 (y0_15))],[.row r0_0 60])))))) (by kernel_rfl) ?_
 simp only [Zck,Zax,Za0,Zay,Zaz,Zf4,Zkx]
def Zjd (P:Program) (N:Nat) (a0 a1:Array Value) (z0_15:Int) (q0_0:Array Value):Option (SV×Eff×Bool):=some (.a (.g (q0_0.setIfInBounds 39 (.int .i64 (i64.wrap ((num q0_0 39)+(num a1 39))))) 60),.none,true)
theorem Zpk (N:Nat) (a0 a1:Array Value) (z0_15:Int) (q0_0:Array Value):(Uac 0 (kSeq (veC PZ (mkΓ []) N (cAt (codeOf Tryz.f74) [1,1,1]) (pAt (Uaa (codeOf Tryz.f74) [([15],[0])]).1 [1,1,1]) (SV×Eff×Bool)) (finK PZ [] [.cell 4 60]))) (.exit 0) (left (writes (cAt (codeOf Tryz.f74) [1,1,0,1,0,0])) [15] [0] (Zew a0 a1) ([.a (.i .i64 (z0_15))],[.row q0_0 60]))=Zjd PZ N a0 a1 z0_15 q0_0:=by
 refine Eq.trans (b:=(some (.a (.g (q0_0.setIfInBounds 39 (.int .i64 (i64.wrap ((num q0_0 39)+(num a1 39))))) 60),.none,true))) (by kernel_rfl) ?_
 rfl
theorem Zyx (N:Nat) (a0 a1:Array Value):Uaj (Uab (Uah PZ (mkΓ []) N (cAt (codeOf Tryz.f74) [1,1,0,1,0,0]) (pAt (Uaa (codeOf Tryz.f74) [([15],[0])]).1 [1,1,0,1,0]) [15] [0] (Zew a0 a1)) N ([.a (.i .i64 (0:Int))],[.row (a0.setIfInBounds 2 (.int .i64 (i64.wrap ((num a0 2)+(num a1 2))))) 60])) (fun e s=>(Uac 0 (kSeq (veC PZ (mkΓ []) N (cAt (codeOf Tryz.f74) [1,1,1]) (pAt (Uaa (codeOf Tryz.f74) [([15],[0])]).1 [1,1,1]) (SV×Eff×Bool)) (finK PZ [] [.cell 4 60]))) e (left (writes (cAt (codeOf Tryz.f74) [1,1,0,1,0,0])) [15] [0] (Zew a0 a1) s))=Uak (Uab (Zck PZ a0 a1) N ((0:Int),(a0.setIfInBounds 2 (.int .i64 (i64.wrap ((num a0 2)+(num a1 2))))))) (fun x=>Zjd PZ N a0 a1 x.1 x.2):=by
 refine Zbk Zf4 Zkx _ _ (Zym N a0 a1) N ((0:Int),(a0.setIfInBounds 2 (.int .i64 (i64.wrap ((num a0 2)+(num a1 2)))))) _ _ ?_
 intro x;exact Zpk N a0 a1 x.1 x.2
theorem Zxt (N:Nat) (a0 a1:Array Value):ansV PZ (mkΓ []) N Tryz.f74 [([15],[0])] [.g a0 60,.g a1 60] []=(Uak (Uab (Zck PZ a0 a1) N ((0:Int),(a0.setIfInBounds 2 (.int .i64 (i64.wrap ((num a0 2)+(num a1 2))))))) (fun x=>Zjd PZ N a0 a1 x.1 x.2)):=by
 refine Eq.trans (b:=(Uaj (Uab (Uah PZ (mkΓ []) N (cAt (codeOf Tryz.f74) [1,1,0,1,0,0]) (pAt (Uaa (codeOf Tryz.f74) [([15],[0])]).1 [1,1,0,1,0]) [15] [0] (Zew a0 a1)) N ([.a (.i .i64 (0:Int))],[.row (a0.setIfInBounds 2 (.int .i64 (i64.wrap ((num a0 2)+(num a1 2))))) 60])) (fun e s=>(Uac 0 (kSeq (veC PZ (mkΓ []) N (cAt (codeOf Tryz.f74) [1,1,1]) (pAt (Uaa (codeOf Tryz.f74) [([15],[0])]).1 [1,1,1]) (SV×Eff×Bool)) (finK PZ [] [.cell 4 60]))) e (left (writes (cAt (codeOf Tryz.f74) [1,1,0,1,0,0])) [15] [0] (Zew a0 a1) s)))) (by kernel_rfl) ?_
 simp only [Zyx N a0 a1]
theorem Zvz (a0 a1:Array Value) (h_a0:WT PZ 60 a0) (h_a1:WT PZ 60 a1) (hg:(true)=true):ansV PZ (mkΓ []) 1000 Tryz.f74 [([15],[0])] [.g a0 60,.g a1 60] []=some (.a (.g (togV a0 a1) 60),.none,true):=by
 have hz:a1.size=40:=by rw [h_a1.layLen];kernel_rfl
 refine (Zxt 1000 a0 a1).trans ?_
 have h:=Zjn (g:=Zck PZ a0 a1) (fun r k=>((k:Int),r)) (togF a1) (m:=36) (t:=adN a0 2 (num a1 2)) (x:=((36:Int),folds (togF a1) (adN a0 2 (num a1 2)) 36)) (N:=1000) (fun k s hk _=>by
  have h1:decide ((k:Int)<36)=true:=decide_eq_true (by omega)
  have h0:decide (0≤(k:Int))=true:=decide_eq_true (by omega)
  have h3:i64.wrap ((k:Int)+1)=((k+1:Nat):Int):=by rw [w64 (by omega)];omega
  have h5:=cell_num (T:=0) hz k hk
  simp only [Zck,h1,h0,h3,Int.toNat_natCast,Bool.and_self,cond_true,h5]
  rfl) (by
  have h1:decide (((36:Nat):Int)<36)=false:=by decide
  simp only [Zck,h1,cond_false]
  rfl) (by omega)
 have h':Uab (Zck PZ a0 a1) 1000 ((0:Int),adN a0 2 (num a1 2))=some ((36:Int),folds (togF a1) (adN a0 2 (num a1 2)) 36):=h
 show Uak (Uab (Zck PZ a0 a1) 1000 ((0:Int),adN a0 2 (num a1 2))) _=_
 rw [h']
 unfold togV
 generalize folds (togF a1) (adN a0 2 (num a1 2)) 36=q
 rfl
def Zji:Con:=fun args h=>match args,h with
 | [.g a0 60,.g a1 60],[]=>some (.a (.g (togV a0 a1) 60),.none,true)
 | _,_=>none
theorem Ztm:EntX PZ 74:=Zaf (fn:=Tryz.f74) (by kernel_rfl) (by kernel_rfl) (by kernel_rfl)
theorem Zy5:Uad mn PZ 74 Zji:=(Zah (N:=1000) (by kernel_rfl) mkΓ_nilX (fn:=Tryz.f74) (by kernel_rfl) (by kernel_rfl) [([15],[0])]).of (by
 intro ρ h w args vals r e hA hH hr
 unfold Zji at hr
 split at hr
 ·rename_i a0 a1
  obtain ⟨rfl,hg⟩:=Prod.mk.inj (Option.some.inj hr)
  obtain ⟨rfl,hg2⟩:=Prod.mk.inj hg
  exact Zvz a0 a1 (hA.wt 0 rfl) (hA.wt 1 rfl) hg2
 ·cases hr)
end
end Go.Proofs.YtflnjkpejbohjaaGreatDoor
