/- An hour as it is asked; what flows, what rests, and both together; in company. -/
import Derived.Test.YtphmhgdedoeaeaaDoorProg
import Derived.Test.YtphmhgdedoeaeaaDoorCxF
namespace Go.Proofs.YtphmhgdedoeaeaaDoor
open Go.ChangeShapes Go.WideShapes Go.ChangeAt Go.RowKit Ve Vc
open Tryd (prog)
open IntKind (i64)
set_option linter.unusedVariables false
set_option linter.unusedSimpArgs false
set_option maxRecDepth 100000
noncomputable section
variable {mn:Md}
noncomputable def spec_l02Hour_G:Cons:=(mkΓ [(110,con spec_l01Wet_con),(130,con spec_l01Goes_con)])
noncomputable def spec_l02Hour_t1 (a0 a1:Array Value) (y0_7:Int) (r0_22:Array Value):St:=(⟨.a (.w 0) :: .a (.w 1) :: .a (.u) :: .a (.u) :: .a (.w 2) :: .a (.w 22) :: .a (.i .i8 (((IntKind.i8.wrap ((num a1 0)+(num a1 1)))).tmod (2:Int))) :: .a (.i .i64 (y0_7)) :: .a (.i .i64 (0:Int)) :: .a (.x) :: .a (.x) :: .a (.w 1) :: .a (.w 1) :: .a (.p 1 (0) 22) :: .a (.i .i8 (num a1 0)) :: .a (.w 1) :: .a (.w 1) :: .a (.p 1 (1) 22) :: .a (.i .i8 (num a1 1)) :: .a (.i .i8 (IntKind.i8.wrap ((num a1 1)+(1:Int)))) :: .a (.w 1) :: .a (.w 1) :: .a (.p 1 (2) 2) :: .a (.i .i64 (num a1 2)) :: .a (.w 1) :: .a (.w 1) :: .a (.p 1 (39) 2) :: .a (.i .i64 (num a1 39)) :: .a (.i .i64 (i64.wrap ((num a1 39)*(12:Int)))) :: .a (.g (((((zc prog 108).setIfInBounds 0 (.int .i8 (num a1 0))).setIfInBounds 1 (.int .i8 (IntKind.i8.wrap ((num a1 1)+(1:Int))))).setIfInBounds 2 (.int .i64 (num a1 2))).setIfInBounds 39 (.int .i64 (i64.wrap ((num a1 39)*(12:Int))))) 108) :: .a (.w 1) :: .a (.w 1) :: .a (.p 1 (0) 22) :: .a (.i .i8 (num a1 0)) :: .a (.w 1) :: .a (.w 1) :: .a (.p 1 (1) 22) :: .a (.i .i8 (num a1 1)) :: .a (.i .i8 (IntKind.i8.wrap ((num a1 0)+(num a1 1)))) :: .a (.i .i8 (((IntKind.i8.wrap ((num a1 0)+(num a1 1)))).tmod (2:Int))) :: .a (.i .i64 (y0_7)) :: .a (.b (decide (y0_7<(36:Int)))) :: .a (.x) :: .a (.x) :: .a (.w 0) :: .a (.i .i64 (y0_7)) :: .a (.b ((spec_l01Wet_v0 y0_7 a0))) :: .a (.b ((!((spec_l01Wet_v0 y0_7 a0)))))::xs 55 (.a (.u)::[]),[.row a0 36,.row a1 108,.row (zc prog 108) 108,.no,.no,.no,.no,.no,.no,.no,.no,.no,.no,.no,.no,.no,.no,.no,.no,.no,.no,.no,.row r0_22 108,.no,.no,.no,.no,.no,.no,.no,.no,.no,.no,.no,.no],[22]⟩:St)
noncomputable def spec_l02Hour_e1:Int×Array Value→LS
 | (y1_8,r1_22)=>([.a (.i .i64 (y1_8))],[.row r1_22 108])
noncomputable def spec_l02Hour_x1:Int×Array Value→Exit×LS
 | t=>((.exit 2),spec_l02Hour_e1 t)
noncomputable def spec_l02Hour_g1 (P : Program) (a0 a1 : Array Value) (y0_7 : Int) (r0_22 : Array Value) : Int × Array Value → Option (Stp (Int × Array Value) (Int × Array Value))
 | (y1_8, r1_22) => bif decide (y1_8 < (5 : Int)) then (bif (decide (0 ≤ y0_7) && decide (y0_7 < 36)) then (bif (decide (0 ≤ (((IntKind.i8.wrap ((num a1 0) + (num a1 1)))).tmod (2 : Int))) && decide ((((IntKind.i8.wrap ((num a1 0) + (num a1 1)))).tmod (2 : Int)) < 2)) then (bif (decide (0 ≤ y0_7) && decide (y0_7 < 36)) then (bif (decide (0 ≤ y1_8) && decide (y1_8 < 5)) then (bif decide ((spec_l01Goes_v0 y0_7 y1_8 a0) < (0 : Int)) then (some (.more ((i64.wrap (y1_8 + (1 : Int))), (r1_22.setIfInBounds 39 (.int .i64 (i64.wrap ((num r1_22 39) + (i64.wrap ((num a1 (3 + ((y0_7).toNat * 1))) * (i64.wrap (num a0 (((3 + ((((IntKind.i8.wrap ((num a1 0) + (num a1 1)))).tmod (2 : Int)).toNat * 180)) + ((y0_7).toNat * 5)) + ((y1_8).toNat * 1)))))))))))))
       else (bif (decide (0 ≤ (spec_l01Goes_v0 y0_7 y1_8 a0)) && decide ((spec_l01Goes_v0 y0_7 y1_8 a0) < 36)) then (bif (decide (0 ≤ (spec_l01Goes_v0 y0_7 y1_8 a0)) && decide ((spec_l01Goes_v0 y0_7 y1_8 a0) < 36)) then (some (.more ((i64.wrap (y1_8 + (1 : Int))), (r1_22.setIfInBounds (3 + ((spec_l01Goes_v0 y0_7 y1_8 a0).toNat * 1)) (.int .i64 (i64.wrap ((num r1_22 (3 + ((spec_l01Goes_v0 y0_7 y1_8 a0).toNat * 1))) + (i64.wrap ((num a1 (3 + ((y0_7).toNat * 1))) * (i64.wrap (num a0 (((3 + ((((IntKind.i8.wrap ((num a1 0) + (num a1 1)))).tmod (2 : Int)).toNat * 180)) + ((y0_7).toNat * 5)) + ((y1_8).toNat * 1)))))))))))))
         else (none))
        else (none)))
      else (none))
     else (none))
    else (none))
   else (none))
  else (some (.done (y1_8, r1_22)))
theorem spec_l02Hour_s1 (N:Nat) (a0 a1:Array Value) (y0_7:Int) (r0_22:Array Value):∀ t:Int×Array Value,stepV prog spec_l02Hour_G N (cAt (codeOf Tryd.f123) [1,1,1,0,1,0,0,1,0,0,1,1,0,0]) (pAt (mkPlan (codeOf Tryd.f123) [([7],[22]),([8],[22])]).1 [1,1,1,0,1,0,1,0,1,1,0]) [8] [22] (spec_l02Hour_t1 a0 a1 y0_7 r0_22) (spec_l02Hour_e1 t)=mapS spec_l02Hour_e1 spec_l02Hour_x1 (spec_l02Hour_g1 prog a0 a1 y0_7 r0_22 t):=by
 rintro ⟨y1_8,r1_22⟩
 refine Eq.trans (b:=(bif decide (y1_8<(5:Int)) then (bif (decide (0≤y0_7)&&decide (y0_7<36)) then (bif (decide (0≤(((IntKind.i8.wrap ((num a1 0)+(num a1 1)))).tmod (2:Int)))&&decide ((((IntKind.i8.wrap ((num a1 0)+(num a1 1)))).tmod (2:Int))<2)) then (bif (decide (0≤y0_7)&&decide (y0_7<36)) then (bif (decide (0≤y1_8)&&decide (y1_8<5)) then (bif decide ((spec_l01Goes_v0 y0_7 y1_8 a0)<(0:Int)) then (some (.more ([.a (.i .i64 (i64.wrap (y1_8+(1:Int))))],[.row (r1_22.setIfInBounds 39 (.int .i64 (i64.wrap ((num r1_22 39)+(i64.wrap ((num a1 (3+((y0_7).toNat*1)))*(i64.wrap (num a0 (((3+((((IntKind.i8.wrap ((num a1 0)+(num a1 1)))).tmod (2:Int)).toNat*180))+((y0_7).toNat*5))+((y1_8).toNat*1)))))))))) 108])))
       else (bif (decide (0≤(spec_l01Goes_v0 y0_7 y1_8 a0))&&decide ((spec_l01Goes_v0 y0_7 y1_8 a0)<36)) then (bif (decide (0≤(spec_l01Goes_v0 y0_7 y1_8 a0))&&decide ((spec_l01Goes_v0 y0_7 y1_8 a0)<36)) then (some (.more ([.a (.i .i64 (i64.wrap (y1_8+(1:Int))))],[.row (r1_22.setIfInBounds (3+((spec_l01Goes_v0 y0_7 y1_8 a0).toNat*1)) (.int .i64 (i64.wrap ((num r1_22 (3+((spec_l01Goes_v0 y0_7 y1_8 a0).toNat*1)))+(i64.wrap ((num a1 (3+((y0_7).toNat*1)))*(i64.wrap (num a0 (((3+((((IntKind.i8.wrap ((num a1 0)+(num a1 1)))).tmod (2:Int)).toNat*180))+((y0_7).toNat*5))+((y1_8).toNat*1)))))))))) 108])))
         else (none))
        else (none)))
      else (none))
     else (none))
    else (none))
   else (none))
  else (some (.done ((.exit 2),([.a (.i .i64 (y1_8))],[.row r1_22 108])))))) (by kernel_rfl) ?_
 simp only [spec_l02Hour_g1,mapS_cond,mapS_more,mapS_done,mapS_none,spec_l02Hour_e1,spec_l02Hour_x1]
noncomputable def spec_l02Hour_t0 (a0 a1:Array Value):St:=(⟨.a (.w 0) :: .a (.w 1) :: .a (.u) :: .a (.u) :: .a (.w 2) :: .a (.w 22) :: .a (.i .i8 (((IntKind.i8.wrap ((num a1 0)+(num a1 1)))).tmod (2:Int))) :: .a (.i .i64 (0:Int))::us 3 (.a (.w 1) :: .a (.w 1) :: .a (.p 1 (0) 22) :: .a (.i .i8 (num a1 0)) :: .a (.w 1) :: .a (.w 1) :: .a (.p 1 (1) 22) :: .a (.i .i8 (num a1 1)) :: .a (.i .i8 (IntKind.i8.wrap ((num a1 1)+(1:Int)))) :: .a (.w 1) :: .a (.w 1) :: .a (.p 1 (2) 2) :: .a (.i .i64 (num a1 2)) :: .a (.w 1) :: .a (.w 1) :: .a (.p 1 (39) 2) :: .a (.i .i64 (num a1 39)) :: .a (.i .i64 (i64.wrap ((num a1 39)*(12:Int)))) :: .a (.g (((((zc prog 108).setIfInBounds 0 (.int .i8 (num a1 0))).setIfInBounds 1 (.int .i8 (IntKind.i8.wrap ((num a1 1)+(1:Int))))).setIfInBounds 2 (.int .i64 (num a1 2))).setIfInBounds 39 (.int .i64 (i64.wrap ((num a1 39)*(12:Int))))) 108) :: .a (.w 1) :: .a (.w 1) :: .a (.p 1 (0) 22) :: .a (.i .i8 (num a1 0)) :: .a (.w 1) :: .a (.w 1) :: .a (.p 1 (1) 22) :: .a (.i .i8 (num a1 1)) :: .a (.i .i8 (IntKind.i8.wrap ((num a1 0)+(num a1 1)))) :: .a (.i .i8 (((IntKind.i8.wrap ((num a1 0)+(num a1 1)))).tmod (2:Int)))::us 64 ([])),[.row a0 36,.row a1 108,.row (zc prog 108) 108,.no,.no,.no,.no,.no,.no,.no,.no,.no,.no,.no,.no,.no,.no,.no,.no,.no,.no,.no,.row (((((zc prog 108).setIfInBounds 0 (.int .i8 (num a1 0))).setIfInBounds 1 (.int .i8 (IntKind.i8.wrap ((num a1 1)+(1:Int))))).setIfInBounds 2 (.int .i64 (num a1 2))).setIfInBounds 39 (.int .i64 (i64.wrap ((num a1 39)*(12:Int))))) 108,.no,.no,.no,.no,.no,.no,.no,.no,.no,.no,.no,.no],[22]⟩:St)
noncomputable def spec_l02Hour_e0:Int×Array Value→LS
 | (y0_7,r0_22)=>([.a (.i .i64 (y0_7))],[.row r0_22 108])
noncomputable def spec_l02Hour_x0:Int×Array Value→Exit×LS
 | t=>((.exit 0),spec_l02Hour_e0 t)
noncomputable def spec_l02Hour_k1_0 (P:Program) (N:Nat) (a0 a1:Array Value) (y0_7:Int) (r0_22:Array Value) (z1_8:Int) (q1_22:Array Value):Option (Stp (Int×Array Value) (Int×Array Value)):=some (.more ((i64.wrap (y0_7+(1:Int))),q1_22))
theorem spec_l02Hour_k1_0_eq (N:Nat) (a0 a1:Array Value) (y0_7:Int) (r0_22:Array Value) (z1_8:Int) (q1_22:Array Value):(kBlock 2 (kBlock 1 (kSeq (veC prog spec_l02Hour_G N (cAt (codeOf Tryd.f123) [1,1,1,0,1,0,0,1,1]) (pAt (mkPlan (codeOf Tryd.f123) [([7],[22]),([8],[22])]).1 [1,1,1,0,1,0,1,1]) (Stp LS (Exit×LS))) (kBody 35 [7] [22])))) (.exit 2) (left (writes (cAt (codeOf Tryd.f123) [1,1,1,0,1,0,0,1,0,0,1,1,0,0])) [8] [22] (spec_l02Hour_t1 a0 a1 y0_7 r0_22) ([.a (.i .i64 (z1_8))],[.row q1_22 108]))=mapS spec_l02Hour_e0 spec_l02Hour_x0 (spec_l02Hour_k1_0 prog N a0 a1 y0_7 r0_22 z1_8 q1_22):=by
 refine Eq.trans (b:=(some (.more ([.a (.i .i64 (i64.wrap (y0_7+(1:Int))))],[.row q1_22 108])))) (by kernel_rfl) ?_
 simp only [spec_l02Hour_k1_0,mapS_cond,mapS_more,mapS_done,mapS_none,spec_l02Hour_e0,spec_l02Hour_x0]
theorem spec_l02Hour_n1 (N:Nat) (a0 a1:Array Value) (y0_7:Int) (r0_22:Array Value):bindX (iterO (stepV prog spec_l02Hour_G N (cAt (codeOf Tryd.f123) [1,1,1,0,1,0,0,1,0,0,1,1,0,0]) (pAt (mkPlan (codeOf Tryd.f123) [([7],[22]),([8],[22])]).1 [1,1,1,0,1,0,1,0,1,1,0]) [8] [22] (spec_l02Hour_t1 a0 a1 y0_7 r0_22)) N ([.a (.i .i64 (0:Int))],[.row r0_22 108])) (fun e s=>(kBlock 2 (kBlock 1 (kSeq (veC prog spec_l02Hour_G N (cAt (codeOf Tryd.f123) [1,1,1,0,1,0,0,1,1]) (pAt (mkPlan (codeOf Tryd.f123) [([7],[22]),([8],[22])]).1 [1,1,1,0,1,0,1,1]) (Stp LS (Exit×LS))) (kBody 35 [7] [22])))) e (left (writes (cAt (codeOf Tryd.f123) [1,1,1,0,1,0,0,1,0,0,1,1,0,0])) [8] [22] (spec_l02Hour_t1 a0 a1 y0_7 r0_22) s))=mapS spec_l02Hour_e0 spec_l02Hour_x0 (nodeX (iterO (spec_l02Hour_g1 prog a0 a1 y0_7 r0_22) N ((0:Int),r0_22)) (fun x=>spec_l02Hour_k1_0 prog N a0 a1 y0_7 r0_22 x.1 x.2)):=by
 refine (loop_node spec_l02Hour_e1 spec_l02Hour_x1 _ _ (spec_l02Hour_s1 N a0 a1 y0_7 r0_22) N ((0:Int),r0_22) _ (fun x=>mapS spec_l02Hour_e0 spec_l02Hour_x0 ((fun x=>spec_l02Hour_k1_0 prog N a0 a1 y0_7 r0_22 x.1 x.2) x)) ?_).trans (mapS_nodeX spec_l02Hour_e0 spec_l02Hour_x0 _ _).symm
 intro x;exact spec_l02Hour_k1_0_eq N a0 a1 y0_7 r0_22 x.1 x.2
noncomputable def spec_l02Hour_g0 (P : Program) (N : Nat) (a0 a1 : Array Value) : Int × Array Value → Option (Stp (Int × Array Value) (Int × Array Value))
 | (y0_7, r0_22) => bif decide (y0_7 < (36 : Int)) then (bif (spec_l01Wet_gd y0_7 a0) then (bif (!((spec_l01Wet_v0 y0_7 a0))) then (bif (decide (0 ≤ y0_7) && decide (y0_7 < 36)) then (bif (decide (0 ≤ y0_7) && decide (y0_7 < 36)) then (bif (decide (0 ≤ y0_7) && decide (y0_7 < 36)) then (some (.more ((i64.wrap (y0_7 + (1 : Int))), (r0_22.setIfInBounds (3 + ((y0_7).toNat * 1)) (.int .i64 (i64.wrap ((num r0_22 (3 + ((y0_7).toNat * 1))) + (i64.wrap ((num a1 (3 + ((y0_7).toNat * 1))) * (12 : Int))))))))))
       else (none))
      else (none))
     else (none))
    else (nodeX (iterO (spec_l02Hour_g1 P a0 a1 y0_7 r0_22) N ((0 : Int), r0_22)) (fun x => spec_l02Hour_k1_0 P N a0 a1 y0_7 r0_22 x.1 x.2)))
   else (none))
  else (some (.done (y0_7, r0_22)))
theorem spec_l02Hour_s0 (N:Nat) (a0 a1:Array Value):∀ t:Int×Array Value,stepV prog spec_l02Hour_G N (cAt (codeOf Tryd.f123) [1,1,1,0,1,0,0]) (pAt (mkPlan (codeOf Tryd.f123) [([7],[22]),([8],[22])]).1 [1,1,1,0,1,0]) [7] [22] (spec_l02Hour_t0 a0 a1) (spec_l02Hour_e0 t)=mapS spec_l02Hour_e0 spec_l02Hour_x0 (spec_l02Hour_g0 prog N a0 a1 t):=by
 rintro ⟨y0_7,r0_22⟩
 refine Eq.trans (b:=(bif decide (y0_7<(36:Int)) then (bif (spec_l01Wet_gd y0_7 a0) then (bif (!((spec_l01Wet_v0 y0_7 a0))) then (bif (decide (0≤y0_7)&&decide (y0_7<36)) then (bif (decide (0≤y0_7)&&decide (y0_7<36)) then (bif (decide (0≤y0_7)&&decide (y0_7<36)) then (some (.more ([.a (.i .i64 (i64.wrap (y0_7+(1:Int))))],[.row (r0_22.setIfInBounds (3+((y0_7).toNat*1)) (.int .i64 (i64.wrap ((num r0_22 (3+((y0_7).toNat*1)))+(i64.wrap ((num a1 (3+((y0_7).toNat*1)))*(12:Int))))))) 108])))
       else (none))
      else (none))
     else (none))
    else (bindX (iterO (stepV prog spec_l02Hour_G N (cAt (codeOf Tryd.f123) [1,1,1,0,1,0,0,1,0,0,1,1,0,0]) (pAt (mkPlan (codeOf Tryd.f123) [([7],[22]),([8],[22])]).1 [1,1,1,0,1,0,1,0,1,1,0]) [8] [22] (spec_l02Hour_t1 a0 a1 y0_7 r0_22)) N ([.a (.i .i64 (0:Int))],[.row r0_22 108])) (fun e s=>(kBlock 2 (kBlock 1 (kSeq (veC prog spec_l02Hour_G N (cAt (codeOf Tryd.f123) [1,1,1,0,1,0,0,1,1]) (pAt (mkPlan (codeOf Tryd.f123) [([7],[22]),([8],[22])]).1 [1,1,1,0,1,0,1,1]) (Stp LS (Exit×LS))) (kBody 35 [7] [22])))) e (left (writes (cAt (codeOf Tryd.f123) [1,1,1,0,1,0,0,1,0,0,1,1,0,0])) [8] [22] (spec_l02Hour_t1 a0 a1 y0_7 r0_22) s))))
   else (none))
  else (some (.done ((.exit 0),([.a (.i .i64 (y0_7))],[.row r0_22 108])))))) (by kernel_rfl) ?_
 simp only [spec_l02Hour_n1 N a0 a1 y0_7 r0_22,spec_l02Hour_g0,mapS_cond,mapS_more,mapS_done,mapS_none,spec_l02Hour_e0,spec_l02Hour_x0]
noncomputable def spec_l02Hour_k0_0 (P:Program) (N:Nat) (a0 a1:Array Value) (z0_7:Int) (q0_22:Array Value):Option (SV×Eff×Bool):=some (.a (.g q0_22 108),.none,true)
theorem spec_l02Hour_k0_0_eq (N:Nat) (a0 a1:Array Value) (z0_7:Int) (q0_22:Array Value):(kBlock 0 (kSeq (veC prog spec_l02Hour_G N (cAt (codeOf Tryd.f123) [1,1,1,1]) (pAt (mkPlan (codeOf Tryd.f123) [([7],[22]),([8],[22])]).1 [1,1,1,1]) (SV×Eff×Bool)) (finK prog [.row a0 36,.row a1 108] [.cell 4 108]))) (.exit 0) (left (writes (cAt (codeOf Tryd.f123) [1,1,1,0,1,0,0])) [7] [22] (spec_l02Hour_t0 a0 a1) ([.a (.i .i64 (z0_7))],[.row q0_22 108]))=spec_l02Hour_k0_0 prog N a0 a1 z0_7 q0_22:=by
 refine Eq.trans (b:=(some (.a (.g q0_22 108),.none,true))) (by kernel_rfl) ?_
 rfl
theorem spec_l02Hour_n0 (N:Nat) (a0 a1:Array Value):bindX (iterO (stepV prog spec_l02Hour_G N (cAt (codeOf Tryd.f123) [1,1,1,0,1,0,0]) (pAt (mkPlan (codeOf Tryd.f123) [([7],[22]),([8],[22])]).1 [1,1,1,0,1,0]) [7] [22] (spec_l02Hour_t0 a0 a1)) N ([.a (.i .i64 (0:Int))],[.row (((((zc prog 108).setIfInBounds 0 (.int .i8 (num a1 0))).setIfInBounds 1 (.int .i8 (IntKind.i8.wrap ((num a1 1)+(1:Int))))).setIfInBounds 2 (.int .i64 (num a1 2))).setIfInBounds 39 (.int .i64 (i64.wrap ((num a1 39)*(12:Int))))) 108])) (fun e s=>(kBlock 0 (kSeq (veC prog spec_l02Hour_G N (cAt (codeOf Tryd.f123) [1,1,1,1]) (pAt (mkPlan (codeOf Tryd.f123) [([7],[22]),([8],[22])]).1 [1,1,1,1]) (SV×Eff×Bool)) (finK prog [.row a0 36,.row a1 108] [.cell 4 108]))) e (left (writes (cAt (codeOf Tryd.f123) [1,1,1,0,1,0,0])) [7] [22] (spec_l02Hour_t0 a0 a1) s))=nodeX (iterO (spec_l02Hour_g0 prog N a0 a1) N ((0:Int),(((((zc prog 108).setIfInBounds 0 (.int .i8 (num a1 0))).setIfInBounds 1 (.int .i8 (IntKind.i8.wrap ((num a1 1)+(1:Int))))).setIfInBounds 2 (.int .i64 (num a1 2))).setIfInBounds 39 (.int .i64 (i64.wrap ((num a1 39)*(12:Int))))))) (fun x=>spec_l02Hour_k0_0 prog N a0 a1 x.1 x.2):=by
 refine loop_node spec_l02Hour_e0 spec_l02Hour_x0 _ _ (spec_l02Hour_s0 N a0 a1) N ((0:Int),(((((zc prog 108).setIfInBounds 0 (.int .i8 (num a1 0))).setIfInBounds 1 (.int .i8 (IntKind.i8.wrap ((num a1 1)+(1:Int))))).setIfInBounds 2 (.int .i64 (num a1 2))).setIfInBounds 39 (.int .i64 (i64.wrap ((num a1 39)*(12:Int)))))) _ _ ?_
 intro x;exact spec_l02Hour_k0_0_eq N a0 a1 x.1 x.2
theorem spec_l02Hour_ans (N:Nat) (a0 a1:Array Value):ansV prog spec_l02Hour_G N Tryd.f123 [([7],[22]),([8],[22])] [.w 0,.w 1] [.row a0 36,.row a1 108]=(nodeX (iterO (spec_l02Hour_g0 prog N a0 a1) N ((0:Int),(((((zc prog 108).setIfInBounds 0 (.int .i8 (num a1 0))).setIfInBounds 1 (.int .i8 (IntKind.i8.wrap ((num a1 1)+(1:Int))))).setIfInBounds 2 (.int .i64 (num a1 2))).setIfInBounds 39 (.int .i64 (i64.wrap ((num a1 39)*(12:Int))))))) (fun x=>spec_l02Hour_k0_0 prog N a0 a1 x.1 x.2)):=by
 refine Eq.trans (b:=(bindX (iterO (stepV prog spec_l02Hour_G N (cAt (codeOf Tryd.f123) [1,1,1,0,1,0,0]) (pAt (mkPlan (codeOf Tryd.f123) [([7],[22]),([8],[22])]).1 [1,1,1,0,1,0]) [7] [22] (spec_l02Hour_t0 a0 a1)) N ([.a (.i .i64 (0:Int))],[.row (((((zc prog 108).setIfInBounds 0 (.int .i8 (num a1 0))).setIfInBounds 1 (.int .i8 (IntKind.i8.wrap ((num a1 1)+(1:Int))))).setIfInBounds 2 (.int .i64 (num a1 2))).setIfInBounds 39 (.int .i64 (i64.wrap ((num a1 39)*(12:Int))))) 108])) (fun e s=>(kBlock 0 (kSeq (veC prog spec_l02Hour_G N (cAt (codeOf Tryd.f123) [1,1,1,1]) (pAt (mkPlan (codeOf Tryd.f123) [([7],[22]),([8],[22])]).1 [1,1,1,1]) (SV×Eff×Bool)) (finK prog [.row a0 36,.row a1 108] [.cell 4 108]))) e (left (writes (cAt (codeOf Tryd.f123) [1,1,1,0,1,0,0])) [7] [22] (spec_l02Hour_t0 a0 a1) s)))) (by kernel_rfl) ?_
 simp only [spec_l02Hour_n0 N a0 a1]
theorem dec2 {a b:Int} (h1:0≤a) (h2:a<b):(decide (0≤a)&&decide (a<b))=true:=by rw [decide_eq_true h1,decide_eq_true h2];rfl
noncomputable def adN (r:Array Value) (i:Nat) (m:Int):Array Value:=r.setIfInBounds i (.int .i64 (i64.wrap (num r i+m)))
noncomputable def tdS (X:Array Value):Int:=(IntKind.i8.wrap (num X 0+num X 1)).tmod 2
noncomputable def muF (S X:Array Value) (t:Int) (k w:Nat):Int:=i64.wrap (num X (3+k*1)*chW S t (k:Int) w)
noncomputable def wayF (S X:Array Value) (t:Int) (k:Nat) (r:Array Value) (w:Nat):Array Value:=bif decide (spec_l01Goes_v0 (k:Int) (w:Int) S<0) then adN r 39 (muF S X t k w) else adN r (3+(spec_l01Goes_v0 (k:Int) (w:Int) S).toNat*1) (muF S X t k w)
noncomputable def cellF (S X:Array Value) (t:Int) (r:Array Value) (k:Nat):Array Value:=bif spec_l01Wet_v0 (k:Int) S then folds (wayF S X t k) r 5 else adN r (3+k*1) (i64.wrap (num X (3+k*1)*12))
noncomputable def hourI (P:Program) (X:Array Value):Array Value:=((((zc P 108).setIfInBounds 0 (.int .i8 (num X 0))).setIfInBounds 1 (.int .i8 (IntKind.i8.wrap (num X 1+1)))).setIfInBounds 2 (.int .i64 (num X 2))).setIfInBounds 39 (.int .i64 (i64.wrap (num X 39*12)))
noncomputable def hourV (P:Program) (S X:Array Value):Array Value:=folds (cellF S X (tdS X)) (hourI P X) 36
theorem goes_range {S:Array Value} (h0:1≤num S 0∧num S 0≤6∧1≤num S 1∧num S 1≤6) {k:Nat} (hk:k<36) (hi:inC (num S 0) (num S 1) k=true) {w:Nat} (hw:w<5) (hn:¬ spec_l01Goes_v0 (k:Int) (w:Int) S<0):0≤spec_l01Goes_v0 (k:Int) (w:Int) S∧spec_l01Goes_v0 (k:Int) (w:Int) S<36:=by
 rw [goes_nice h0 hk hi w hw] at hn⊢
 exact gw_range h0 hk hi w hw (by omega)
theorem spec_l02Hour_main (a0 a1:Array Value) (h_a0:WT prog 36 a0) (h_a1:WT prog 108 a1) (hg:((okS a0&&(decide (0≤tdS a1)&&decide (tdS a1<2))))=true):ansV prog spec_l02Hour_G 1000 Tryd.f123 [([7],[22]),([8],[22])] [.w 0,.w 1] [.row a0 36,.row a1 108]=some (.a (.g (hourV prog a0 a1) 108),.none,true):=by
 rw [Bool.and_eq_true] at hg
 obtain ⟨hok,ht⟩:=hg
 have hdm:=okS_dims hok
 refine (spec_l02Hour_ans 1000 a0 a1).trans ?_
 have hT:(IntKind.i8.wrap (num a1 0+num a1 1)).tmod 2=tdS a1:=rfl
 have h:=iter_folds (g:=spec_l02Hour_g0 prog 1000 a0 a1) (fun r k=>((k:Int),r)) (cellF a0 a1 (tdS a1)) (m:=36) (t:=hourI prog a1) (x:=((36:Int),hourV prog a0 a1)) (N:=1000) (fun k s hk _=>by
  have h1:decide ((k:Int)<36)=true:=decide_eq_true (by omega)
  have h0:decide (0≤(k:Int))=true:=decide_eq_true (by omega)
  have h3:i64.wrap ((k:Int)+1)=((k+1:Nat):Int):=by rw [w64 (by omega)];omega
  obtain ⟨w1,w2⟩:=wet_in h_a0 hk
  unfold cellF
  cases hw:spec_l01Wet_v0 (k:Int) a0 with
  | false=>
   simp only [spec_l02Hour_g0,h1,h0,h3,w1,hw,Int.toNat_natCast,Bool.and_self,Bool.not_false,cond_true,cond_false]
   rfl
  | true=>
   rw [hw] at w2
   have hi:inC (num a0 0) (num a0 1) k=true:=(Bool.and_eq_true_iff.1 w2.symm).1
   have hin:=iter_folds (g:=spec_l02Hour_g1 prog a0 a1 (k:Int) s) (fun r w=>((w:Int),r)) (wayF a0 a1 (tdS a1) k) (m:=5) (t:=s) (x:=((5:Int),folds (wayF a0 a1 (tdS a1) k) s 5)) (N:=1000) (fun w r hw5 _=>by
    have e1:decide ((w:Int)<5)=true:=decide_eq_true (by omega)
    have e0:decide (0≤(w:Int))=true:=decide_eq_true (by omega)
    have e3:i64.wrap ((w:Int)+1)=((w+1:Nat):Int):=by rw [w64 (by omega)];omega
    have e4:i64.wrap (num a1 (3+k*1)*i64.wrap (num a0 (3+(tdS a1).toNat*180+k*5+w*1)))=muF a0 a1 (tdS a1) k w:=by unfold muF chW;rw [Int.toNat_natCast,Nat.mul_one w]
    unfold wayF
    by_cases hg:spec_l01Goes_v0 (k:Int) (w:Int) a0<0
    ·simp only [spec_l02Hour_g1,e1,e0,e3,h1,h0,hT,ht,Int.toNat_natCast,Bool.and_self,cond_true,decide_eq_true hg,e4]
     rfl
    ·obtain ⟨r1,r2⟩:=goes_range hdm hk hi hw5 hg
     simp only [spec_l02Hour_g1,e1,e0,e3,h1,h0,hT,ht,Int.toNat_natCast,Bool.and_self,cond_true,cond_false,decide_eq_false hg,dec2 r1 r2,e4]
     rfl) (by
    have e1:decide (((5:Nat):Int)<5)=false:=by decide
    simp only [spec_l02Hour_g1,e1,cond_false]
    rfl) (by omega)
   have hin':iterO (spec_l02Hour_g1 prog a0 a1 (k:Int) s) 1000 ((0:Int),s)=some ((5:Int),folds (wayF a0 a1 (tdS a1) k) s 5):=hin
   simp only [spec_l02Hour_g0,h1,w1,hw,Bool.not_true,cond_true,cond_false,hin',nodeX,spec_l02Hour_k1_0,h3]) (by
  have h1:decide (((36:Nat):Int)<36)=false:=by decide
  simp only [spec_l02Hour_g0,h1,cond_false]
  rfl) (by omega)
 have h':iterO (spec_l02Hour_g0 prog 1000 a0 a1) 1000 ((0:Int),hourI prog a1)=some ((36:Int),hourV prog a0 a1):=h
 unfold hourI at h'
 rw [h']
 rfl
noncomputable def spec_l02Hour_con:Con:=fun args h=>match args,h with
 | [.w 0,.w 1],[.row a0 36,.row a1 108]=>some (.a (.g (hourV prog a0 a1) 108),.none,(okS a0&&(decide (0≤tdS a1)&&decide (tdS a1<2))))
 | _,_=>none
theorem spec_l02Hour_enter:EntX prog 123:=entX_ok (fn:=Tryd.f123) (by kernel_rfl) (by kernel_rfl) (by kernel_rfl)
theorem spec_l02Hour_ok:ConOkX mn prog 123 spec_l02Hour_con:=(ansX_ok (N:=1000) (by kernel_rfl) (mkΓ_consX (con_okX spec_l01Wet_ok) spec_l01Wet_enter (mkΓ_consX (con_okX spec_l01Goes_ok) spec_l01Goes_enter mkΓ_nilX)) (fn:=Tryd.f123) (by kernel_rfl) (by kernel_rfl) [([7],[22]),([8],[22])]).of (by
 intro ρ h w args vals r e hA hH hr
 unfold spec_l02Hour_con at hr
 split at hr
 ·rename_i a0 a1
  obtain ⟨rfl,hg⟩:=Prod.mk.inj (Option.some.inj hr)
  obtain ⟨rfl,hg2⟩:=Prod.mk.inj hg
  exact spec_l02Hour_main a0 a1 (hH.wt 0 rfl) (hH.wt 1 rfl) hg2
 ·cases hr)
noncomputable def tdI (X:Array Value):Int:=(i64.wrap (i64.wrap (num X 0)+i64.wrap (num X 1))).tmod 2
noncomputable def flowF (S X:Array Value) (t:Int) (w:Nat) (r:Array Value) (k:Nat):Array Value:=bif leadI S (k:Int) w != -1 then adN r (3+(leadI S (k:Int) w).toNat*1) (muF S X t k w) else adN r 39 (muF S X t k w)
noncomputable def flowV (P:Program) (S X:Array Value) (w:Nat):Array Value:=folds (fun r k=>if inC (num S 0) (num S 1) k&&impl_isWater_v0 S (k:Int) then flowF S X (tdI X) w r k else r) (zc P 108) 36
noncomputable def togF (Y:Array Value) (r:Array Value) (k:Nat):Array Value:=adN r (3+k*1) (num Y (3+k*1))
noncomputable def togV (X Y:Array Value):Array Value:=adN (folds (togF Y) (adN X 2 (num Y 2)) 36) 39 (num Y 39)
noncomputable def restF (S:Array Value) (r:Array Value) (k:Nat):Array Value:=bif impl_isLand_v0 S (k:Int) then r.setIfInBounds (3+k*1) (.int .i64 (i64.wrap (num r (3+k*1)*12))) else r.setIfInBounds (3+k*1) (.int .i64 0)
noncomputable def rest39 (r:Array Value):Array Value:=r.setIfInBounds 39 (.int .i64 (i64.wrap (num r 39*12)))
noncomputable def restV (S X:Array Value):Array Value:=(rest39 (folds (restF S) X 36)).setIfInBounds 1 (.int .i8 (IntKind.i8.wrap (num (rest39 (folds (restF S) X 36)) 1+1)))
noncomputable def impl_flowBy_G:Cons:=(mkΓx [(131,con impl_tideIn_con),(133,con impl_leadsTo_con)] [(132,impl_eachWater_nc)] [(134,impl_eachWater_1_ic)])
noncomputable def impl_flowBy_t0 (a0 a1:Array Value) (a2:Int):St:=(⟨.a (.g a0 36) :: .a (.g a1 108) :: .a (.i .i64 (a2)) :: .a (.w 0) :: .a (.w 1) :: .a (.w 2) :: .a (.w 3) :: .a (.w 4) :: .a (.w 12)::us 3 (.a (.p 1 (0) 22) :: .a (.i .i8 (num a1 0)) :: .a (.i .i64 (i64.wrap (num a1 0))) :: .a (.p 1 (1) 22) :: .a (.i .i8 (num a1 1)) :: .a (.i .i64 (i64.wrap (num a1 1))) :: .a (.i .i64 (((i64.wrap ((i64.wrap (num a1 0))+(i64.wrap (num a1 1))))).tmod (2:Int))) :: .a (.g a0 36) :: .a (.c 134 [17])::us 35 ([])),[.row a0 36,.row a1 108,.row #[.int .i64 (a2)] 2,.row (zc prog 108) 108,.row (zc prog 108) 108,.no,.no,.no,.no,.no,.no,.no,.row #[.int .i64 (((i64.wrap ((i64.wrap (num a1 0))+(i64.wrap (num a1 1))))).tmod (2:Int))] 2,.no,.no,.no,.no,.row a0 36,.no,.no,.no,.no],[12]⟩:St)
noncomputable def impl_flowBy_e0:Array Value→BS
 | r0_4=>([.row r0_4 108]:BS)
noncomputable def impl_flowBy_x0:Empty→Exit×BS:=fun x=>nomatch x
noncomputable def impl_flowBy_g0 (P : Program) (a0 a1 : Array Value) (a2 : Int) (x0 : Int) : Array Value → Option (Stp (Array Value) Empty)
  | r0_4 => bif (decide (0 ≤ x0) && decide (x0 < 36)) then (bif (decide (0 ≤ (((i64.wrap ((i64.wrap (num a1 0)) + (i64.wrap (num a1 1))))).tmod (2 : Int))) && decide ((((i64.wrap ((i64.wrap (num a1 0)) + (i64.wrap (num a1 1))))).tmod (2 : Int)) < 2)) then (bif (decide (0 ≤ x0) && decide (x0 < 36)) then (bif (decide (0 ≤ a2) && decide (a2 < 5)) then (bif (decide (0 ≤ a2) && decide (a2 < 5)) then (bif ((leadI a0 x0 a2.toNat) != (-1 : Int)) then (bif (decide (0 ≤ (leadI a0 x0 a2.toNat)) && decide ((leadI a0 x0 a2.toNat) < 36)) then (bif (decide (0 ≤ (leadI a0 x0 a2.toNat)) && decide ((leadI a0 x0 a2.toNat) < 36)) then (some (.more (r0_4.setIfInBounds (3 + ((leadI a0 x0 a2.toNat).toNat * 1)) (.int .i64 (i64.wrap ((num r0_4 (3 + ((leadI a0 x0 a2.toNat).toNat * 1))) + (i64.wrap ((num a1 (3 + ((x0).toNat * 1))) * (i64.wrap (num a0 (((3 + ((((i64.wrap ((i64.wrap (num a1 0)) + (i64.wrap (num a1 1))))).tmod (2 : Int)).toNat * 180)) + ((x0).toNat * 5)) + ((a2).toNat * 1))))))))))))
                  else (none))
                else (none))
              else (some (.more (r0_4.setIfInBounds 39 (.int .i64 (i64.wrap ((num r0_4 39) + (i64.wrap ((num a1 (3 + ((x0).toNat * 1))) * (i64.wrap (num a0 (((3 + ((((i64.wrap ((i64.wrap (num a1 0)) + (i64.wrap (num a1 1))))).tmod (2 : Int)).toNat * 180)) + ((x0).toNat * 5)) + ((a2).toNat * 1)))))))))))))
            else (none))
          else (none))
        else (none))
      else (none))
    else (none)
theorem impl_flowBy_s0 (N:Nat) (a0 a1:Array Value) (a2:Int) (x0:Int):∀ t:Array Value,stepI prog impl_flowBy_G N (cAt (codeOf Tryd.f126) [1,1,1,0,1,0,0]) (pAt (mkPlan (codeOf Tryd.f126) [([],[4])]).1 [1,1,1,0,1,0]) 22 [4] [21] [(9,21)] (impl_flowBy_t0 a0 a1 a2) [.i .i64 (x0)] (impl_flowBy_e0 t)=mapS impl_flowBy_e0 impl_flowBy_x0 (impl_flowBy_g0 prog a0 a1 a2 x0 t):=by
 rintro r0_4
 refine Eq.trans (b:=(bif (decide (0≤x0)&&decide (x0<36)) then (bif (decide (0≤(((i64.wrap ((i64.wrap (num a1 0))+(i64.wrap (num a1 1))))).tmod (2:Int)))&&decide ((((i64.wrap ((i64.wrap (num a1 0))+(i64.wrap (num a1 1))))).tmod (2:Int))<2)) then (bif (decide (0≤x0)&&decide (x0<36)) then (bif (decide (0≤a2)&&decide (a2<5)) then (bif (decide (0≤a2)&&decide (a2<5)) then (bif ((leadI a0 x0 a2.toNat) != (-1:Int)) then (bif (decide (0≤(leadI a0 x0 a2.toNat))&&decide ((leadI a0 x0 a2.toNat)<36)) then (bif (decide (0≤(leadI a0 x0 a2.toNat))&&decide ((leadI a0 x0 a2.toNat)<36)) then (some (.more ([.row (r0_4.setIfInBounds (3+((leadI a0 x0 a2.toNat).toNat*1)) (.int .i64 (i64.wrap ((num r0_4 (3+((leadI a0 x0 a2.toNat).toNat*1)))+(i64.wrap ((num a1 (3+((x0).toNat*1)))*(i64.wrap (num a0 (((3+((((i64.wrap ((i64.wrap (num a1 0))+(i64.wrap (num a1 1))))).tmod (2:Int)).toNat*180))+((x0).toNat*5))+((a2).toNat*1)))))))))) 108]:BS)))
         else (none))
        else (none))
       else (some (.more ([.row (r0_4.setIfInBounds 39 (.int .i64 (i64.wrap ((num r0_4 39)+(i64.wrap ((num a1 (3+((x0).toNat*1)))*(i64.wrap (num a0 (((3+((((i64.wrap ((i64.wrap (num a1 0))+(i64.wrap (num a1 1))))).tmod (2:Int)).toNat*180))+((x0).toNat*5))+((a2).toNat*1)))))))))) 108]:BS))))
      else (none))
     else (none))
    else (none))
   else (none))
  else (none))) (by kernel_rfl) ?_
 simp only [impl_flowBy_g0,mapS_cond,mapS_more,mapS_done,mapS_none,impl_flowBy_e0,impl_flowBy_x0]
noncomputable def impl_flowBy_k0_n (P:Program) (N:Nat) (a0 a1:Array Value) (a2:Int) (q0_4:Array Value):Option (SV×Eff×Bool):=some (.a (.g q0_4 108),.none,true)
theorem impl_flowBy_k0_n_eq (N:Nat) (a0 a1:Array Value) (a2:Int) (q0_4:Array Value):(kBlock 0 (kSeq (veC prog impl_flowBy_G N (cAt (codeOf Tryd.f126) [1,1,1,1]) (pAt (mkPlan (codeOf Tryd.f126) [([],[4])]).1 [1,1,1,1]) (SV×Eff×Bool)) (finK prog [] [.cell 6 108]))) .normal (leftI [4] (impl_flowBy_t0 a0 a1 a2) ([.row q0_4 108]:BS))=impl_flowBy_k0_n prog N a0 a1 a2 q0_4:=by
 refine Eq.trans (b:=(some (.a (.g q0_4 108),.none,true))) (by kernel_rfl) ?_
 rfl
theorem impl_flowBy_n0 (N:Nat) (a0 a1:Array Value) (a2:Int):bindI (foldI (fun (x0:Int) (hb:BS)=>stepI prog impl_flowBy_G N (cAt (codeOf Tryd.f126) [1,1,1,0,1,0,0]) (pAt (mkPlan (codeOf Tryd.f126) [([],[4])]).1 [1,1,1,0,1,0]) 22 [4] [21] [(9,21)] (impl_flowBy_t0 a0 a1 a2) [.i .i64 (x0)] hb) ((cellsL (num a0 0) (num a0 1) 36).filter (impl_isWater_v0 a0)) ([.row (zc prog 108) 108]:BS)) (fun hb=>(kBlock 0 (kSeq (veC prog impl_flowBy_G N (cAt (codeOf Tryd.f126) [1,1,1,1]) (pAt (mkPlan (codeOf Tryd.f126) [([],[4])]).1 [1,1,1,1]) (SV×Eff×Bool)) (finK prog [] [.cell 6 108]))) .normal (leftI [4] (impl_flowBy_t0 a0 a1 a2) hb)) (fun e hb=>(kBlock 0 (kSeq (veC prog impl_flowBy_G N (cAt (codeOf Tryd.f126) [1,1,1,1]) (pAt (mkPlan (codeOf Tryd.f126) [([],[4])]).1 [1,1,1,1]) (SV×Eff×Bool)) (finK prog [] [.cell 6 108]))) e (leftI [4] (impl_flowBy_t0 a0 a1 a2) hb))=nodeI (foldI (impl_flowBy_g0 prog a0 a1 a2) ((cellsL (num a0 0) (num a0 1) 36).filter (impl_isWater_v0 a0)) (zc prog 108)) (fun x=>impl_flowBy_k0_n prog N a0 a1 a2 x) (fun x:Empty=>nomatch x):=by
 refine iter_node impl_flowBy_e0 impl_flowBy_x0 _ _ (fun y t=>impl_flowBy_s0 N a0 a1 a2 y t) _ (zc prog 108) _ _ _ _ ?_ ?_
 ·intro x;exact impl_flowBy_k0_n_eq N a0 a1 a2 x
 ·intro x;exact nomatch x
theorem impl_flowBy_ans (N:Nat) (a0 a1:Array Value) (a2:Int):ansV prog impl_flowBy_G N Tryd.f126 [([],[4])] [.g a0 36,.g a1 108,.i .i64 (a2)] []=(bif (decide (0≤num a0 0)&&decide (num a0 0≤6)&&(decide (0≤num a0 1)&&decide (num a0 1≤6))) then (nodeI (foldI (impl_flowBy_g0 prog a0 a1 a2) ((cellsL (num a0 0) (num a0 1) 36).filter (impl_isWater_v0 a0)) (zc prog 108)) (fun x=>impl_flowBy_k0_n prog N a0 a1 a2 x) (fun x:Empty=>nomatch x))
  else (none)):=by
 refine Eq.trans (b:=(bif (decide (0≤num a0 0)&&decide (num a0 0≤6)&&(decide (0≤num a0 1)&&decide (num a0 1≤6))) then (bindI (foldI (fun (x0:Int) (hb:BS)=>stepI prog impl_flowBy_G N (cAt (codeOf Tryd.f126) [1,1,1,0,1,0,0]) (pAt (mkPlan (codeOf Tryd.f126) [([],[4])]).1 [1,1,1,0,1,0]) 22 [4] [21] [(9,21)] (impl_flowBy_t0 a0 a1 a2) [.i .i64 (x0)] hb) ((cellsL (num a0 0) (num a0 1) 36).filter (impl_isWater_v0 a0)) ([.row (zc prog 108) 108]:BS)) (fun hb=>(kBlock 0 (kSeq (veC prog impl_flowBy_G N (cAt (codeOf Tryd.f126) [1,1,1,1]) (pAt (mkPlan (codeOf Tryd.f126) [([],[4])]).1 [1,1,1,1]) (SV×Eff×Bool)) (finK prog [] [.cell 6 108]))) .normal (leftI [4] (impl_flowBy_t0 a0 a1 a2) hb)) (fun e hb=>(kBlock 0 (kSeq (veC prog impl_flowBy_G N (cAt (codeOf Tryd.f126) [1,1,1,1]) (pAt (mkPlan (codeOf Tryd.f126) [([],[4])]).1 [1,1,1,1]) (SV×Eff×Bool)) (finK prog [] [.cell 6 108]))) e (leftI [4] (impl_flowBy_t0 a0 a1 a2) hb)))
  else (none))) (by kernel_rfl) ?_
 simp only [impl_flowBy_n0 N a0 a1 a2]
theorem impl_flowBy_main (a0 a1:Array Value) (a2:Int) (h_a0:WT prog 36 a0) (h_a1:WT prog 108 a1) (h_a2:i64.min≤a2∧a2≤i64.max) (hg:((okS a0&&((decide (0≤tdI a1)&&decide (tdI a1<2))&&(decide (0≤a2)&&decide (a2<5)))))=true):ansV prog impl_flowBy_G 1000 Tryd.f126 [([],[4])] [.g a0 36,.g a1 108,.i .i64 (a2)] []=some (.a (.g (flowV prog a0 a1 a2.toNat) 108),.none,true):=by
 rw [Bool.and_eq_true,Bool.and_eq_true] at hg
 obtain ⟨hok,ht,hw5⟩:=hg
 simp only [Bool.and_eq_true,decide_eq_true_eq] at hw5
 obtain ⟨w0,w5⟩:=hw5
 obtain ⟨w,rfl⟩:=Int.eq_ofNat_of_zero_le w0
 have hw:w<5:=by omega
 have hdm:=okS_dims hok
 refine (impl_flowBy_ans 1000 a0 a1 (w:Int)).trans ?_
 rw [okS_iter hok,cond_true,Int.toNat_natCast]
 have d1:decide (0≤(w:Int))=true:=decide_eq_true (by omega)
 have d2:decide ((w:Int)<5)=true:=decide_eq_true (by omega)
 have hT:(i64.wrap (i64.wrap (num a1 0)+i64.wrap (num a1 1))).tmod 2=tdI a1:=rfl
 have h:=foldI_cells (X:=Empty) (g:=impl_flowBy_g0 prog a0 a1 (w:Int)) (q:=impl_isWater_v0 a0) (flowF a0 a1 (tdI a1) w) (wd:=num a0 0) (hi:=num a0 1) (fun r k hk hi hq=>by
  have h1:decide ((k:Int)<36)=true:=decide_eq_true (by omega)
  have h0:decide (0≤(k:Int))=true:=decide_eq_true (by omega)
  have hmu:i64.wrap (num a1 (3+k*1)*i64.wrap (num a0 (3+(tdI a1).toNat*180+k*5+w*1)))=muF a0 a1 (tdI a1) k w:=by unfold muF chW;rw [Int.toNat_natCast,Nat.mul_one w]
  simp only [impl_flowBy_g0,h0,h1,d1,d2,hT,ht,Int.toNat_natCast,Bool.and_self,cond_true,hmu]
  unfold flowF
  cases hl:(leadI a0 (k:Int) w != -1) with
  | false=>simp only [cond_false];rfl
  | true=>
   have hr:0≤leadI a0 (k:Int) w∧leadI a0 (k:Int) w<36:=by
    rw [lead_gw hdm hk hi w hw] at hl⊢
    exact gw_range hdm hk hi w hw (by simpa using hl)
   simp only [cond_true,dec2 hr.1 hr.2]
   rfl) (zc prog 108)
 rw [h]
 rfl
noncomputable def impl_flowBy_con:Con:=fun args h=>match args,h with
 | [.g a0 36,.g a1 108,.i .i64 a2],[]=>some (.a (.g (flowV prog a0 a1 a2.toNat) 108),.none,(okS a0&&((decide (0≤tdI a1)&&decide (tdI a1<2))&&(decide (0≤a2)&&decide (a2<5)))))
 | _,_=>none
theorem impl_flowBy_enter:EntX prog 126:=entX_ok (fn:=Tryd.f126) (by kernel_rfl) (by kernel_rfl) (by kernel_rfl)
theorem impl_flowBy_ok:ConOkX mn prog 126 impl_flowBy_con:=(ansX_ok (N:=1000) (by kernel_rfl) (mkΓx_cX (con_okX impl_tideIn_ok) impl_tideIn_enter (mkΓx_cX (con_okX impl_leadsTo_ok) impl_leadsTo_enter (mkΓx_nX impl_eachWater_nok impl_eachWater_enter (mkΓx_iX impl_eachWater_1_iok impl_eachWater_1_enter mkΓx_nilX)))) (fn:=Tryd.f126) (by kernel_rfl) (by kernel_rfl) [([],[4])]).of (by
 intro ρ h w args vals r e hA hH hr
 unfold impl_flowBy_con at hr
 split at hr
 ·rename_i a0 a1 a2
  obtain ⟨rfl,hg⟩:=Prod.mk.inj (Option.some.inj hr)
  obtain ⟨rfl,hg2⟩:=Prod.mk.inj hg
  exact impl_flowBy_main a0 a1 a2 (hA.wt 0 rfl) (hA.wt 1 rfl) (hA.rng 2 rfl) hg2
 ·cases hr)
noncomputable def impl_resting_t0 (a0 a1:Array Value):St:=(⟨.a (.g a0 36) :: .a (.g a1 108) :: .a (.w 0) :: .a (.w 1) :: .a (.w 2) :: .a (.u) :: .a (.i .i64 (0:Int))::us 25 ([]),[.row a0 36,.row a1 108,.row (zc prog 108) 108],[]⟩:St)
noncomputable def impl_resting_e0:Int×Array Value→LS
 | (y0_6,r0_1)=>([.a (.i .i64 (y0_6))],[.row r0_1 108])
noncomputable def impl_resting_x0:Int×Array Value→Exit×LS
 | t=>((.exit 0),impl_resting_e0 t)
noncomputable def impl_resting_g0 (P : Program) (a0 a1 : Array Value) : Int × Array Value → Option (Stp (Int × Array Value) (Int × Array Value))
 | (y0_6, r0_1) => bif decide (y0_6 < (36 : Int)) then (bif decide (0 ≤ y0_6) then (bif (impl_isLand_v0 a0 y0_6) then (bif (decide (0 ≤ y0_6) && decide (y0_6 < 36)) then (bif (decide (0 ≤ y0_6) && decide (y0_6 < 36)) then (some (.more ((i64.wrap (y0_6 + (1 : Int))), (r0_1.setIfInBounds (3 + ((y0_6).toNat * 1)) (.int .i64 (i64.wrap ((num r0_1 (3 + ((y0_6).toNat * 1))) * (12 : Int))))))))
      else (none))
     else (none))
    else (bif (decide (0 ≤ y0_6) && decide (y0_6 < 36)) then (some (.more ((i64.wrap (y0_6 + (1 : Int))), (r0_1.setIfInBounds (3 + ((y0_6).toNat * 1)) (.int .i64 (0 : Int))))))
     else (none)))
   else (none))
  else (some (.done (y0_6, r0_1)))
theorem impl_resting_s0 (N:Nat) (a0 a1:Array Value):∀ t:Int×Array Value,stepV prog (mkΓ [(90,con impl_isLand_con)]) N (cAt (codeOf Tryd.f105) [1,0,1,0,0]) (pAt (mkPlan (codeOf Tryd.f105) [([6],[1])]).1 [1,0,1,0]) [6] [1] (impl_resting_t0 a0 a1) (impl_resting_e0 t)=mapS impl_resting_e0 impl_resting_x0 (impl_resting_g0 prog a0 a1 t):=by
 rintro ⟨y0_6,r0_1⟩
 refine Eq.trans (b:=(bif decide (y0_6<(36:Int)) then (bif decide (0≤y0_6) then (bif (impl_isLand_v0 a0 y0_6) then (bif (decide (0≤y0_6)&&decide (y0_6<36)) then (bif (decide (0≤y0_6)&&decide (y0_6<36)) then (some (.more ([.a (.i .i64 (i64.wrap (y0_6+(1:Int))))],[.row (r0_1.setIfInBounds (3+((y0_6).toNat*1)) (.int .i64 (i64.wrap ((num r0_1 (3+((y0_6).toNat*1)))*(12:Int))))) 108])))
      else (none))
     else (none))
    else (bif (decide (0≤y0_6)&&decide (y0_6<36)) then (some (.more ([.a (.i .i64 (i64.wrap (y0_6+(1:Int))))],[.row (r0_1.setIfInBounds (3+((y0_6).toNat*1)) (.int .i64 (0:Int))) 108])))
     else (none)))
   else (none))
  else (some (.done ((.exit 0),([.a (.i .i64 (y0_6))],[.row r0_1 108])))))) (by kernel_rfl) ?_
 simp only [impl_resting_g0,mapS_cond,mapS_more,mapS_done,mapS_none,impl_resting_e0,impl_resting_x0]
noncomputable def impl_resting_k0_0 (P:Program) (N:Nat) (a0 a1:Array Value) (z0_6:Int) (q0_1:Array Value):Option (SV×Eff×Bool):=some (.a (.g ((q0_1.setIfInBounds 39 (.int .i64 (i64.wrap ((num q0_1 39)*(12:Int))))).setIfInBounds 1 (.int .i8 (IntKind.i8.wrap ((num (q0_1.setIfInBounds 39 (.int .i64 (i64.wrap ((num q0_1 39)*(12:Int))))) 1)+(1:Int))))) 108),.none,true)
theorem impl_resting_k0_0_eq (N:Nat) (a0 a1:Array Value) (z0_6:Int) (q0_1:Array Value):(kBlock 0 (kSeq (veC prog (mkΓ [(90,con impl_isLand_con)]) N (cAt (codeOf Tryd.f105) [1,1]) (pAt (mkPlan (codeOf Tryd.f105) [([6],[1])]).1 [1,1]) (SV×Eff×Bool)) (finK prog [] [.cell 4 108]))) (.exit 0) (left (writes (cAt (codeOf Tryd.f105) [1,0,1,0,0])) [6] [1] (impl_resting_t0 a0 a1) ([.a (.i .i64 (z0_6))],[.row q0_1 108]))=impl_resting_k0_0 prog N a0 a1 z0_6 q0_1:=by
 refine Eq.trans (b:=(some (.a (.g ((q0_1.setIfInBounds 39 (.int .i64 (i64.wrap ((num q0_1 39)*(12:Int))))).setIfInBounds 1 (.int .i8 (IntKind.i8.wrap ((num (q0_1.setIfInBounds 39 (.int .i64 (i64.wrap ((num q0_1 39)*(12:Int))))) 1)+(1:Int))))) 108),.none,true))) (by kernel_rfl) ?_
 rfl
theorem impl_resting_n0 (N:Nat) (a0 a1:Array Value):bindX (iterO (stepV prog (mkΓ [(90,con impl_isLand_con)]) N (cAt (codeOf Tryd.f105) [1,0,1,0,0]) (pAt (mkPlan (codeOf Tryd.f105) [([6],[1])]).1 [1,0,1,0]) [6] [1] (impl_resting_t0 a0 a1)) N ([.a (.i .i64 (0:Int))],[.row a1 108])) (fun e s=>(kBlock 0 (kSeq (veC prog (mkΓ [(90,con impl_isLand_con)]) N (cAt (codeOf Tryd.f105) [1,1]) (pAt (mkPlan (codeOf Tryd.f105) [([6],[1])]).1 [1,1]) (SV×Eff×Bool)) (finK prog [] [.cell 4 108]))) e (left (writes (cAt (codeOf Tryd.f105) [1,0,1,0,0])) [6] [1] (impl_resting_t0 a0 a1) s))=nodeX (iterO (impl_resting_g0 prog a0 a1) N ((0:Int),a1)) (fun x=>impl_resting_k0_0 prog N a0 a1 x.1 x.2):=by
 refine loop_node impl_resting_e0 impl_resting_x0 _ _ (impl_resting_s0 N a0 a1) N ((0:Int),a1) _ _ ?_
 intro x;exact impl_resting_k0_0_eq N a0 a1 x.1 x.2
theorem impl_resting_ans (N:Nat) (a0 a1:Array Value):ansV prog (mkΓ [(90,con impl_isLand_con)]) N Tryd.f105 [([6],[1])] [.g a0 36,.g a1 108] []=(nodeX (iterO (impl_resting_g0 prog a0 a1) N ((0:Int),a1)) (fun x=>impl_resting_k0_0 prog N a0 a1 x.1 x.2)):=by
 refine Eq.trans (b:=(bindX (iterO (stepV prog (mkΓ [(90,con impl_isLand_con)]) N (cAt (codeOf Tryd.f105) [1,0,1,0,0]) (pAt (mkPlan (codeOf Tryd.f105) [([6],[1])]).1 [1,0,1,0]) [6] [1] (impl_resting_t0 a0 a1)) N ([.a (.i .i64 (0:Int))],[.row a1 108])) (fun e s=>(kBlock 0 (kSeq (veC prog (mkΓ [(90,con impl_isLand_con)]) N (cAt (codeOf Tryd.f105) [1,1]) (pAt (mkPlan (codeOf Tryd.f105) [([6],[1])]).1 [1,1]) (SV×Eff×Bool)) (finK prog [] [.cell 4 108]))) e (left (writes (cAt (codeOf Tryd.f105) [1,0,1,0,0])) [6] [1] (impl_resting_t0 a0 a1) s)))) (by kernel_rfl) ?_
 simp only [impl_resting_n0 N a0 a1]
theorem impl_resting_main (a0 a1:Array Value) (h_a0:WT prog 36 a0) (h_a1:WT prog 108 a1) (hg:(true)=true):ansV prog (mkΓ [(90,con impl_isLand_con)]) 1000 Tryd.f105 [([6],[1])] [.g a0 36,.g a1 108] []=some (.a (.g (restV a0 a1) 108),.none,true):=by
 refine (impl_resting_ans 1000 a0 a1).trans ?_
 have h:=iter_folds (g:=impl_resting_g0 prog a0 a1) (fun r k=>((k:Int),r)) (restF a0) (m:=36) (t:=a1) (x:=((36:Int),folds (restF a0) a1 36)) (N:=1000) (fun k s hk _=>by
  have h1:decide ((k:Int)<36)=true:=decide_eq_true (by omega)
  have h0:decide (0≤(k:Int))=true:=decide_eq_true (by omega)
  have h3:i64.wrap ((k:Int)+1)=((k+1:Nat):Int):=by rw [w64 (by omega)];omega
  unfold restF
  cases hl:impl_isLand_v0 a0 (k:Int) with
  | false=>simp only [impl_resting_g0,h1,h0,h3,hl,Int.toNat_natCast,Bool.and_self,cond_true,cond_false]
  | true=>simp only [impl_resting_g0,h1,h0,h3,hl,Int.toNat_natCast,Bool.and_self,cond_true,cond_false]) (by
  have h1:decide (((36:Nat):Int)<36)=false:=by decide
  simp only [impl_resting_g0,h1,cond_false]
  rfl) (by omega)
 have h':iterO (impl_resting_g0 prog a0 a1) 1000 ((0:Int),a1)=some ((36:Int),folds (restF a0) a1 36):=h
 rw [h']
 rfl
noncomputable def impl_resting_con:Con:=fun args h=>match args,h with
 | [.g a0 36,.g a1 108],[]=>some (.a (.g (restV a0 a1) 108),.none,true)
 | _,_=>none
theorem impl_resting_enter:EntX prog 105:=entX_ok (fn:=Tryd.f105) (by kernel_rfl) (by kernel_rfl) (by kernel_rfl)
theorem impl_resting_ok:ConOkX mn prog 105 impl_resting_con:=(ansX_ok (N:=1000) (by kernel_rfl) (mkΓ_consX (con_okX impl_isLand_ok) impl_isLand_enter mkΓ_nilX) (fn:=Tryd.f105) (by kernel_rfl) (by kernel_rfl) [([6],[1])]).of (by
 intro ρ h w args vals r e hA hH hr
 unfold impl_resting_con at hr
 split at hr
 ·rename_i a0 a1
  obtain ⟨rfl,hg⟩:=Prod.mk.inj (Option.some.inj hr)
  obtain ⟨rfl,hg2⟩:=Prod.mk.inj hg
  exact impl_resting_main a0 a1 (hA.wt 0 rfl) (hA.wt 1 rfl) hg2
 ·cases hr)
noncomputable def impl_together_t0 (a0 a1:Array Value):St:=(⟨.a (.g a0 108) :: .a (.g a1 108) :: .a (.w 0) :: .a (.w 1) :: .a (.w 2) :: .a (.u) :: .a (.u) :: .a (.p 0 (2) 2) :: .a (.i .i64 (num a0 2)) :: .a (.p 1 (2) 2) :: .a (.i .i64 (num a1 2)) :: .a (.i .i64 (i64.wrap ((num a0 2)+(num a1 2)))) :: .a (.p 0 (2) 2) :: .a (.p 1 (3) 29) :: .a (.g (a1.extract 3 (3+36)) 29) :: .a (.i .i64 (0:Int))::us 19 ([]),[.row (a0.setIfInBounds 2 (.int .i64 (i64.wrap ((num a0 2)+(num a1 2))))) 108,.row a1 108,.row (zc prog 108) 108],[0]⟩:St)
noncomputable def impl_together_e0:Int×Array Value→LS
 | (y0_15,r0_0)=>([.a (.i .i64 (y0_15))],[.row r0_0 108])
noncomputable def impl_together_x0:Int×Array Value→Exit×LS
 | t=>((.exit 0),impl_together_e0 t)
noncomputable def impl_together_g0 (P : Program) (a0 a1 : Array Value) : Int × Array Value → Option (Stp (Int × Array Value) (Int × Array Value))
 | (y0_15, r0_0) => bif decide (y0_15 < (36 : Int)) then (bif (decide (0 ≤ y0_15) && decide (y0_15 < 36)) then (bif (decide (0 ≤ y0_15) && decide (y0_15 < 36)) then (bif (decide (0 ≤ y0_15) && decide (y0_15 < 36)) then (some (.more ((i64.wrap (y0_15 + (1 : Int))), (r0_0.setIfInBounds (3 + ((y0_15).toNat * 1)) (.int .i64 (i64.wrap ((num r0_0 (3 + ((y0_15).toNat * 1))) + (num (a1.extract 3 (3 + 36)) ((y0_15).toNat * 1)))))))))
     else (none))
    else (none))
   else (none))
  else (some (.done (y0_15, r0_0)))
theorem impl_together_s0 (N:Nat) (a0 a1:Array Value):∀ t:Int×Array Value,stepV prog (mkΓ []) N (cAt (codeOf Tryd.f106) [1,1,0,1,0,0]) (pAt (mkPlan (codeOf Tryd.f106) [([15],[0])]).1 [1,1,0,1,0]) [15] [0] (impl_together_t0 a0 a1) (impl_together_e0 t)=mapS impl_together_e0 impl_together_x0 (impl_together_g0 prog a0 a1 t):=by
 rintro ⟨y0_15,r0_0⟩
 refine Eq.trans (b:=(bif decide (y0_15<(36:Int)) then (bif (decide (0≤y0_15)&&decide (y0_15<36)) then (bif (decide (0≤y0_15)&&decide (y0_15<36)) then (bif (decide (0≤y0_15)&&decide (y0_15<36)) then (some (.more ([.a (.i .i64 (i64.wrap (y0_15+(1:Int))))],[.row (r0_0.setIfInBounds (3+((y0_15).toNat*1)) (.int .i64 (i64.wrap ((num r0_0 (3+((y0_15).toNat*1)))+(num (a1.extract 3 (3+36)) ((y0_15).toNat*1)))))) 108])))
     else (none))
    else (none))
   else (none))
  else (some (.done ((.exit 0),([.a (.i .i64 (y0_15))],[.row r0_0 108])))))) (by kernel_rfl) ?_
 simp only [impl_together_g0,mapS_cond,mapS_more,mapS_done,mapS_none,impl_together_e0,impl_together_x0]
noncomputable def impl_together_k0_0 (P:Program) (N:Nat) (a0 a1:Array Value) (z0_15:Int) (q0_0:Array Value):Option (SV×Eff×Bool):=some (.a (.g (q0_0.setIfInBounds 39 (.int .i64 (i64.wrap ((num q0_0 39)+(num a1 39))))) 108),.none,true)
theorem impl_together_k0_0_eq (N:Nat) (a0 a1:Array Value) (z0_15:Int) (q0_0:Array Value):(kBlock 0 (kSeq (veC prog (mkΓ []) N (cAt (codeOf Tryd.f106) [1,1,1]) (pAt (mkPlan (codeOf Tryd.f106) [([15],[0])]).1 [1,1,1]) (SV×Eff×Bool)) (finK prog [] [.cell 4 108]))) (.exit 0) (left (writes (cAt (codeOf Tryd.f106) [1,1,0,1,0,0])) [15] [0] (impl_together_t0 a0 a1) ([.a (.i .i64 (z0_15))],[.row q0_0 108]))=impl_together_k0_0 prog N a0 a1 z0_15 q0_0:=by
 refine Eq.trans (b:=(some (.a (.g (q0_0.setIfInBounds 39 (.int .i64 (i64.wrap ((num q0_0 39)+(num a1 39))))) 108),.none,true))) (by kernel_rfl) ?_
 rfl
theorem impl_together_n0 (N:Nat) (a0 a1:Array Value):bindX (iterO (stepV prog (mkΓ []) N (cAt (codeOf Tryd.f106) [1,1,0,1,0,0]) (pAt (mkPlan (codeOf Tryd.f106) [([15],[0])]).1 [1,1,0,1,0]) [15] [0] (impl_together_t0 a0 a1)) N ([.a (.i .i64 (0:Int))],[.row (a0.setIfInBounds 2 (.int .i64 (i64.wrap ((num a0 2)+(num a1 2))))) 108])) (fun e s=>(kBlock 0 (kSeq (veC prog (mkΓ []) N (cAt (codeOf Tryd.f106) [1,1,1]) (pAt (mkPlan (codeOf Tryd.f106) [([15],[0])]).1 [1,1,1]) (SV×Eff×Bool)) (finK prog [] [.cell 4 108]))) e (left (writes (cAt (codeOf Tryd.f106) [1,1,0,1,0,0])) [15] [0] (impl_together_t0 a0 a1) s))=nodeX (iterO (impl_together_g0 prog a0 a1) N ((0:Int),(a0.setIfInBounds 2 (.int .i64 (i64.wrap ((num a0 2)+(num a1 2))))))) (fun x=>impl_together_k0_0 prog N a0 a1 x.1 x.2):=by
 refine loop_node impl_together_e0 impl_together_x0 _ _ (impl_together_s0 N a0 a1) N ((0:Int),(a0.setIfInBounds 2 (.int .i64 (i64.wrap ((num a0 2)+(num a1 2)))))) _ _ ?_
 intro x;exact impl_together_k0_0_eq N a0 a1 x.1 x.2
theorem impl_together_ans (N:Nat) (a0 a1:Array Value):ansV prog (mkΓ []) N Tryd.f106 [([15],[0])] [.g a0 108,.g a1 108] []=(nodeX (iterO (impl_together_g0 prog a0 a1) N ((0:Int),(a0.setIfInBounds 2 (.int .i64 (i64.wrap ((num a0 2)+(num a1 2))))))) (fun x=>impl_together_k0_0 prog N a0 a1 x.1 x.2)):=by
 refine Eq.trans (b:=(bindX (iterO (stepV prog (mkΓ []) N (cAt (codeOf Tryd.f106) [1,1,0,1,0,0]) (pAt (mkPlan (codeOf Tryd.f106) [([15],[0])]).1 [1,1,0,1,0]) [15] [0] (impl_together_t0 a0 a1)) N ([.a (.i .i64 (0:Int))],[.row (a0.setIfInBounds 2 (.int .i64 (i64.wrap ((num a0 2)+(num a1 2))))) 108])) (fun e s=>(kBlock 0 (kSeq (veC prog (mkΓ []) N (cAt (codeOf Tryd.f106) [1,1,1]) (pAt (mkPlan (codeOf Tryd.f106) [([15],[0])]).1 [1,1,1]) (SV×Eff×Bool)) (finK prog [] [.cell 4 108]))) e (left (writes (cAt (codeOf Tryd.f106) [1,1,0,1,0,0])) [15] [0] (impl_together_t0 a0 a1) s)))) (by kernel_rfl) ?_
 simp only [impl_together_n0 N a0 a1]
theorem impl_together_main (a0 a1:Array Value) (h_a0:WT prog 108 a0) (h_a1:WT prog 108 a1) (hg:(true)=true):ansV prog (mkΓ []) 1000 Tryd.f106 [([15],[0])] [.g a0 108,.g a1 108] []=some (.a (.g (togV a0 a1) 108),.none,true):=by
 have hz:a1.size=40:=by rw [h_a1.layLen];kernel_rfl
 refine (impl_together_ans 1000 a0 a1).trans ?_
 have h:=iter_folds (g:=impl_together_g0 prog a0 a1) (fun r k=>((k:Int),r)) (togF a1) (m:=36) (t:=adN a0 2 (num a1 2)) (x:=((36:Int),folds (togF a1) (adN a0 2 (num a1 2)) 36)) (N:=1000) (fun k s hk _=>by
  have h1:decide ((k:Int)<36)=true:=decide_eq_true (by omega)
  have h0:decide (0≤(k:Int))=true:=decide_eq_true (by omega)
  have h3:i64.wrap ((k:Int)+1)=((k+1:Nat):Int):=by rw [w64 (by omega)];omega
  have h5:=cell_num (T:=0) hz k hk
  simp only [impl_together_g0,h1,h0,h3,Int.toNat_natCast,Bool.and_self,cond_true,h5]
  rfl) (by
  have h1:decide (((36:Nat):Int)<36)=false:=by decide
  simp only [impl_together_g0,h1,cond_false]
  rfl) (by omega)
 have h':iterO (impl_together_g0 prog a0 a1) 1000 ((0:Int),adN a0 2 (num a1 2))=some ((36:Int),folds (togF a1) (adN a0 2 (num a1 2)) 36):=h
 show nodeX (iterO (impl_together_g0 prog a0 a1) 1000 ((0:Int),adN a0 2 (num a1 2))) _=_
 rw [h']
 unfold togV
 generalize folds (togF a1) (adN a0 2 (num a1 2)) 36=q
 rfl
noncomputable def impl_together_con:Con:=fun args h=>match args,h with
 | [.g a0 108,.g a1 108],[]=>some (.a (.g (togV a0 a1) 108),.none,true)
 | _,_=>none
theorem impl_together_enter:EntX prog 106:=entX_ok (fn:=Tryd.f106) (by kernel_rfl) (by kernel_rfl) (by kernel_rfl)
theorem impl_together_ok:ConOkX mn prog 106 impl_together_con:=(ansX_ok (N:=1000) (by kernel_rfl) mkΓ_nilX (fn:=Tryd.f106) (by kernel_rfl) (by kernel_rfl) [([15],[0])]).of (by
 intro ρ h w args vals r e hA hH hr
 unfold impl_together_con at hr
 split at hr
 ·rename_i a0 a1
  obtain ⟨rfl,hg⟩:=Prod.mk.inj (Option.some.inj hr)
  obtain ⟨rfl,hg2⟩:=Prod.mk.inj hg
  exact impl_together_main a0 a1 (hA.wt 0 rfl) (hA.wt 1 rfl) hg2
 ·cases hr)
end
end Go.Proofs.YtphmhgdedoeaeaaDoor
