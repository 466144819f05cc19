/- The bottle that is asked for. -/
import Derived.Test.YtnhilgpdgicgfaaProg
import Derived.Test.YtnhilgpdgicgfaaBdA
namespace Go.Proofs.Ytnhilgpdgicgfaa
open Go.ChangeShapes Go.WideShapes Go.ChangeAt Go.RowKit Ve Vc
open IntKind (i64)
set_option linter.unusedVariables false
set_option linter.unusedSimpArgs false
set_option maxRecDepth 100000
noncomputable section
variable {mn:Md}
noncomputable def spec_l02Bottle_G:Cons:=(mkΓ [(63,con spec_l01Dry_con),(64,con spec_l01Goes_con)])
noncomputable def spec_l02Bottle_t1 (a1 a2 a3 a4:Int) (a0:Array Value) (y0_1:Int) (y0_4:Int) (y0_13:Int) (m0_12:Nat) (y0_12:Array Value):St:=(⟨.a (.w 0) :: .a (.i .i64 (y0_1)) :: .a (.i .i64 (a2)) :: .a (.i .i64 (a3)) :: .a (.i .u32 (IntKind.u32.wrap ((IntKind.u32.wrap ((1664525:Int)*y0_4))+(1013904223:Int))))::us 5 (.a (.v (.slice none 0 0)) :: .a (.i .u32 (0:Int)) :: .a (.l 4) :: .a (.i .i64 (y0_13)) :: .a (.i .i64 (((i64.wrap (IntKind.u32.wrap (((IntKind.u32.wrap ((IntKind.u32.wrap ((1664525:Int)*y0_4))+(1013904223:Int)))).tdiv (65536:Int))))).tmod (12:Int))) :: .a (.w 16) :: .a (.i .i64 (0:Int)) :: .a (.i .i64 (i64.wrap (num (a0.extract ((3+((((i64.wrap (a2+y0_13))).tmod (2:Int)).toNat*180))+((y0_1).toNat*5)) (((3+((((i64.wrap (a2+y0_13))).tmod (2:Int)).toNat*180))+((y0_1).toNat*5))+5)) 0))) :: .a (.i .i64 (a1)) :: .a (.l 2) :: .a (.i .i64 (y0_13)) :: .a (.i .i64 (a3)) :: .a (.b (decide (y0_13<a3))) :: .a (.x) :: .a (.x) :: .a (.i .i64 (y0_1)) :: .a (.b (decide (y0_1 ≥ (0:Int)))) :: .a (.b (true)) :: .a (.w 0) :: .a (.i .i64 (y0_1)) :: .a (.b ((spec_l01Dry_v0 y0_1 a0))) :: .a (.b ((!((spec_l01Dry_v0 y0_1 a0))))) :: .a (.b ((!((spec_l01Dry_v0 y0_1 a0))))) :: .a (.i .u32 (y0_4)) :: .a (.i .u32 (IntKind.u32.wrap ((1664525:Int)*y0_4))) :: .a (.i .u32 (IntKind.u32.wrap ((IntKind.u32.wrap ((1664525:Int)*y0_4))+(1013904223:Int)))) :: .a (.i .u32 (IntKind.u32.wrap ((IntKind.u32.wrap ((1664525:Int)*y0_4))+(1013904223:Int)))) :: .a (.i .u32 (IntKind.u32.wrap (((IntKind.u32.wrap ((IntKind.u32.wrap ((1664525:Int)*y0_4))+(1013904223:Int)))).tdiv (65536:Int)))) :: .a (.i .i64 (i64.wrap (IntKind.u32.wrap (((IntKind.u32.wrap ((IntKind.u32.wrap ((1664525:Int)*y0_4))+(1013904223:Int)))).tdiv (65536:Int))))) :: .a (.i .i64 (((i64.wrap (IntKind.u32.wrap (((IntKind.u32.wrap ((IntKind.u32.wrap ((1664525:Int)*y0_4))+(1013904223:Int)))).tdiv (65536:Int))))).tmod (12:Int))) :: .a (.w 0) :: .a (.i .i64 (a2)) :: .a (.i .i64 (y0_13)) :: .a (.i .i64 (i64.wrap (a2+y0_13))) :: .a (.i .i64 (((i64.wrap (a2+y0_13))).tmod (2:Int))) :: .a (.i .i64 (y0_1)) :: .a (.w 0) :: .a (.p 0 (3) 35) :: .a (.p 0 ((3+((((i64.wrap (a2+y0_13))).tmod (2:Int)).toNat*180))) 34) :: .a (.p 0 (((3+((((i64.wrap (a2+y0_13))).tmod (2:Int)).toNat*180))+((y0_1).toNat*5))) 33) :: .a (.g (a0.extract ((3+((((i64.wrap (a2+y0_13))).tmod (2:Int)).toNat*180))+((y0_1).toNat*5)) (((3+((((i64.wrap (a2+y0_13))).tmod (2:Int)).toNat*180))+((y0_1).toNat*5))+5)) 33) :: .a (.p 16 (0) 5) :: .a (.i .u8 (num (a0.extract ((3+((((i64.wrap (a2+y0_13))).tmod (2:Int)).toNat*180))+((y0_1).toNat*5)) (((3+((((i64.wrap (a2+y0_13))).tmod (2:Int)).toNat*180))+((y0_1).toNat*5))+5)) 0)) :: .a (.i .i64 (i64.wrap (num (a0.extract ((3+((((i64.wrap (a2+y0_13))).tmod (2:Int)).toNat*180))+((y0_1).toNat*5)) (((3+((((i64.wrap (a2+y0_13))).tmod (2:Int)).toNat*180))+((y0_1).toNat*5))+5)) 0)))::xs 19 (.a (.u) :: .a (.u)::[])),[.row a0 37,.no,.sp,.no,.sl .own m0_12 y0_12 2,.no,.no,.no,.no,.no,.no,.no,.no,.no,.no,.no,.row (a0.extract ((3+((((i64.wrap (a2+y0_13))).tmod (2:Int)).toNat*180))+((y0_1).toNat*5)) (((3+((((i64.wrap (a2+y0_13))).tmod (2:Int)).toNat*180))+((y0_1).toNat*5))+5)) 33,.no],[16,4]⟩:St)
noncomputable def spec_l02Bottle_e1:Int×Int→LS
 | (y1_16,y1_17)=>([.a (.i .i64 (y1_16)),.a (.i .i64 (y1_17))],[])
noncomputable def spec_l02Bottle_x1:Int×Int→Exit×LS
 | t=>((.exit 2),spec_l02Bottle_e1 t)
noncomputable def spec_l02Bottle_g1 (P:Program) (a1 a2 a3 a4:Int) (a0:Array Value) (y0_1:Int) (y0_4:Int) (y0_13:Int) (m0_12:Nat) (y0_12:Array Value):Int×Int→Option (Stp (Int×Int) (Int×Int))
 | (y1_16,y1_17)=>bif decide (y1_17≤(((i64.wrap (IntKind.u32.wrap (((IntKind.u32.wrap ((IntKind.u32.wrap ((1664525:Int)*y0_4))+(1013904223:Int)))).tdiv (65536:Int))))).tmod (12:Int))) then (bif (decide (0≤(i64.wrap (y1_16+(1:Int))))&&decide ((i64.wrap (y1_16+(1:Int)))<5)) then (some (.more ((i64.wrap (y1_16+(1:Int))),(i64.wrap (y1_17+(i64.wrap (num (a0.extract ((3+((((i64.wrap (a2+y0_13))).tmod (2:Int)).toNat*180))+((y0_1).toNat*5)) (((3+((((i64.wrap (a2+y0_13))).tmod (2:Int)).toNat*180))+((y0_1).toNat*5))+5)) ((i64.wrap (y1_16+(1:Int))).toNat*1))))))))
   else (none))
  else (some (.done (y1_16,y1_17)))
theorem spec_l02Bottle_s1 (N:Nat) (a1 a2 a3 a4:Int) (a0:Array Value) (y0_1:Int) (y0_4:Int) (y0_13:Int) (m0_12:Nat) (y0_12:Array Value):∀ t:Int×Int,stepV Try.prog spec_l02Bottle_G N (cAt (codeOf Try.f34) [1,1,0,1,0,0,1,0,0,0,1,0,1,1,1,1,0,1,0,0]) (pAt (mkPlan (codeOf Try.f34) [([1,4,13],[1000012,2]),([16,17],[])]).1 [1,1,0,1,0,1,0,0,1,0,1,1,1,1,0,1,0]) [16,17] [] (spec_l02Bottle_t1 a1 a2 a3 a4 a0 y0_1 y0_4 y0_13 m0_12 y0_12) (spec_l02Bottle_e1 t)=mapS spec_l02Bottle_e1 spec_l02Bottle_x1 (spec_l02Bottle_g1 Try.prog a1 a2 a3 a4 a0 y0_1 y0_4 y0_13 m0_12 y0_12 t):=by
 rintro ⟨y1_16,y1_17⟩
 refine Eq.trans (b:=(bif decide (y1_17≤(((i64.wrap (IntKind.u32.wrap (((IntKind.u32.wrap ((IntKind.u32.wrap ((1664525:Int)*y0_4))+(1013904223:Int)))).tdiv (65536:Int))))).tmod (12:Int))) then (bif (decide (0≤(i64.wrap (y1_16+(1:Int))))&&decide ((i64.wrap (y1_16+(1:Int)))<5)) then (some (.more ([.a (.i .i64 (i64.wrap (y1_16+(1:Int)))),.a (.i .i64 (i64.wrap (y1_17+(i64.wrap (num (a0.extract ((3+((((i64.wrap (a2+y0_13))).tmod (2:Int)).toNat*180))+((y0_1).toNat*5)) (((3+((((i64.wrap (a2+y0_13))).tmod (2:Int)).toNat*180))+((y0_1).toNat*5))+5)) ((i64.wrap (y1_16+(1:Int))).toNat*1))))))],[])))
   else (none))
  else (some (.done ((.exit 2),([.a (.i .i64 (y1_16)),.a (.i .i64 (y1_17))],[])))))) (by kernel_rfl) ?_
 simp only [spec_l02Bottle_g1,mapS_cond,mapS_more,mapS_done,mapS_none,spec_l02Bottle_e1,spec_l02Bottle_x1]
noncomputable def spec_l02Bottle_t0 (a1 a2 a3 a4:Int) (a0:Array Value):St:=(⟨.a (.w 0) :: .a (.i .i64 (a1)) :: .a (.i .i64 (a2)) :: .a (.i .i64 (a3)) :: .a (.i .u32 (a4))::us 5 (.a (.v (.slice none 0 0)) :: .a (.i .u32 (0:Int)) :: .a (.l 4) :: .a (.i .i64 (0:Int))::us 4 (.a (.i .i64 (a1)) :: .a (.l 2)::us 55 ([]))),[.row a0 37,.no,.sp,.no,.sl .own 1 (#[.int .i64 (a1)]:Array Value) 2],[2]⟩:St)
noncomputable def spec_l02Bottle_e0:Int×Int×Int×Nat×Array Value→LS
 | (y0_1,y0_4,y0_13,m0_12,y0_12)=>([.a (.i .i64 (y0_1)),.a (.i .u32 (y0_4)),.a (.i .i64 (y0_13)),.a (.l 4)],[.sl .own m0_12 y0_12 2])
noncomputable def spec_l02Bottle_x0:Int×Int×Int×Nat×Array Value→Exit×LS
 | t=>((.exit 0),spec_l02Bottle_e0 t)
noncomputable def spec_l02Bottle_k1_0 (P:Program) (N:Nat) (a1 a2 a3 a4:Int) (a0:Array Value) (y0_1:Int) (y0_4:Int) (y0_13:Int) (m0_12:Nat) (y0_12:Array Value) (z1_16:Int) (z1_17:Int):Option (Stp (Int×Int×Int×Nat×Array Value) (Int×Int×Int×Nat×Array Value)):=bif (Nat.ble ((m0_12+1)*bytesOf Try.prog 2) 140737488355328) then (some (.more ((spec_l01Goes_v0 y0_1 z1_16 a0),(IntKind.u32.wrap ((IntKind.u32.wrap ((1664525:Int)*y0_4))+(1013904223:Int))),(i64.wrap (y0_13+(1:Int))),(m0_12+1),(y0_12++(#[.int .i64 (spec_l01Goes_v0 y0_1 z1_16 a0)]:Array Value)))))
  else (none)
theorem spec_l02Bottle_k1_0_eq (N:Nat) (a1 a2 a3 a4:Int) (a0:Array Value) (y0_1:Int) (y0_4:Int) (y0_13:Int) (m0_12:Nat) (y0_12:Array Value) (z1_16:Int) (z1_17:Int):(kBlock 2 (kSeq (veC Try.prog spec_l02Bottle_G N (cAt (codeOf Try.f34) [1,1,0,1,0,0,1,0,0,0,1,0,1,1,1,1,1]) (pAt (mkPlan (codeOf Try.f34) [([1,4,13],[1000012,2]),([16,17],[])]).1 [1,1,0,1,0,1,0,0,1,0,1,1,1,1,1]) (Stp LS (Exit×LS))) (kSeq (veC Try.prog spec_l02Bottle_G N (cAt (codeOf Try.f34) [1,1,0,1,0,0,1,0,0,1]) (pAt (mkPlan (codeOf Try.f34) [([1,4,13],[1000012,2]),([16,17],[])]).1 [1,1,0,1,0,1,0,1]) (Stp LS (Exit×LS))) (kBlock 1 (kSeq (veC Try.prog spec_l02Bottle_G N (cAt (codeOf Try.f34) [1,1,0,1,0,0,1,1]) (pAt (mkPlan (codeOf Try.f34) [([1,4,13],[1000012,2]),([16,17],[])]).1 [1,1,0,1,0,1,1]) (Stp LS (Exit×LS))) (kBodyG 4 [1,4,13] [] 12 2)))))) (.exit 2) (left (writes (cAt (codeOf Try.f34) [1,1,0,1,0,0,1,0,0,0,1,0,1,1,1,1,0,1,0,0])) [16,17] [] (spec_l02Bottle_t1 a1 a2 a3 a4 a0 y0_1 y0_4 y0_13 m0_12 y0_12) ([.a (.i .i64 (z1_16)),.a (.i .i64 (z1_17))],[]))=mapS spec_l02Bottle_e0 spec_l02Bottle_x0 (spec_l02Bottle_k1_0 Try.prog N a1 a2 a3 a4 a0 y0_1 y0_4 y0_13 m0_12 y0_12 z1_16 z1_17):=by
 refine Eq.trans (b:=(bif (Nat.ble ((m0_12+1)*bytesOf Try.prog 2) 140737488355328) then (some (.more ([.a (.i .i64 (spec_l01Goes_v0 y0_1 z1_16 a0)),.a (.i .u32 (IntKind.u32.wrap ((IntKind.u32.wrap ((1664525:Int)*y0_4))+(1013904223:Int)))),.a (.i .i64 (i64.wrap (y0_13+(1:Int)))),.a (.l 4)],[.sl .own (m0_12+1) (y0_12++(#[.int .i64 (spec_l01Goes_v0 y0_1 z1_16 a0)]:Array Value)) 2])))
  else (none))) (by kernel_rfl) ?_
 simp only [spec_l02Bottle_k1_0,mapS_cond,mapS_more,mapS_done,mapS_none,spec_l02Bottle_e0,spec_l02Bottle_x0]
theorem spec_l02Bottle_n1 (N:Nat) (a1 a2 a3 a4:Int) (a0:Array Value) (y0_1:Int) (y0_4:Int) (y0_13:Int) (m0_12:Nat) (y0_12:Array Value):bindX (iterO (stepV Try.prog spec_l02Bottle_G N (cAt (codeOf Try.f34) [1,1,0,1,0,0,1,0,0,0,1,0,1,1,1,1,0,1,0,0]) (pAt (mkPlan (codeOf Try.f34) [([1,4,13],[1000012,2]),([16,17],[])]).1 [1,1,0,1,0,1,0,0,1,0,1,1,1,1,0,1,0]) [16,17] [] (spec_l02Bottle_t1 a1 a2 a3 a4 a0 y0_1 y0_4 y0_13 m0_12 y0_12)) N ([.a (.i .i64 (0:Int)),.a (.i .i64 (i64.wrap (num (a0.extract ((3+((((i64.wrap (a2+y0_13))).tmod (2:Int)).toNat*180))+((y0_1).toNat*5)) (((3+((((i64.wrap (a2+y0_13))).tmod (2:Int)).toNat*180))+((y0_1).toNat*5))+5)) 0)))],[])) (fun e s=>(kBlock 2 (kSeq (veC Try.prog spec_l02Bottle_G N (cAt (codeOf Try.f34) [1,1,0,1,0,0,1,0,0,0,1,0,1,1,1,1,1]) (pAt (mkPlan (codeOf Try.f34) [([1,4,13],[1000012,2]),([16,17],[])]).1 [1,1,0,1,0,1,0,0,1,0,1,1,1,1,1]) (Stp LS (Exit×LS))) (kSeq (veC Try.prog spec_l02Bottle_G N (cAt (codeOf Try.f34) [1,1,0,1,0,0,1,0,0,1]) (pAt (mkPlan (codeOf Try.f34) [([1,4,13],[1000012,2]),([16,17],[])]).1 [1,1,0,1,0,1,0,1]) (Stp LS (Exit×LS))) (kBlock 1 (kSeq (veC Try.prog spec_l02Bottle_G N (cAt (codeOf Try.f34) [1,1,0,1,0,0,1,1]) (pAt (mkPlan (codeOf Try.f34) [([1,4,13],[1000012,2]),([16,17],[])]).1 [1,1,0,1,0,1,1]) (Stp LS (Exit×LS))) (kBodyG 4 [1,4,13] [] 12 2)))))) e (left (writes (cAt (codeOf Try.f34) [1,1,0,1,0,0,1,0,0,0,1,0,1,1,1,1,0,1,0,0])) [16,17] [] (spec_l02Bottle_t1 a1 a2 a3 a4 a0 y0_1 y0_4 y0_13 m0_12 y0_12) s))=mapS spec_l02Bottle_e0 spec_l02Bottle_x0 (nodeX (iterO (spec_l02Bottle_g1 Try.prog a1 a2 a3 a4 a0 y0_1 y0_4 y0_13 m0_12 y0_12) N ((0:Int),(i64.wrap (num (a0.extract ((3+((((i64.wrap (a2+y0_13))).tmod (2:Int)).toNat*180))+((y0_1).toNat*5)) (((3+((((i64.wrap (a2+y0_13))).tmod (2:Int)).toNat*180))+((y0_1).toNat*5))+5)) 0)))) (fun x=>spec_l02Bottle_k1_0 Try.prog N a1 a2 a3 a4 a0 y0_1 y0_4 y0_13 m0_12 y0_12 x.1 x.2)):=by
 rw [mapS_nodeX spec_l02Bottle_e0 spec_l02Bottle_x0]
 first
 | (have h:=loop_node (α:=Stp LS (Exit×LS)) spec_l02Bottle_e1 spec_l02Bottle_x1 _ _ (spec_l02Bottle_s1 N a1 a2 a3 a4 a0 y0_1 y0_4 y0_13 m0_12 y0_12) N ((0:Int),(i64.wrap (num (a0.extract ((3+((((i64.wrap (a2+y0_13))).tmod (2:Int)).toNat*180))+((y0_1).toNat*5)) (((3+((((i64.wrap (a2+y0_13))).tmod (2:Int)).toNat*180))+((y0_1).toNat*5))+5)) 0)));refine h _ _ ?_)
 | (have h:=loop_node (α:=Stp BS (Exit×BS)) spec_l02Bottle_e1 spec_l02Bottle_x1 _ _ (spec_l02Bottle_s1 N a1 a2 a3 a4 a0 y0_1 y0_4 y0_13 m0_12 y0_12) N ((0:Int),(i64.wrap (num (a0.extract ((3+((((i64.wrap (a2+y0_13))).tmod (2:Int)).toNat*180))+((y0_1).toNat*5)) (((3+((((i64.wrap (a2+y0_13))).tmod (2:Int)).toNat*180))+((y0_1).toNat*5))+5)) 0)));refine h _ _ ?_)
 | (have h:=loop_node (α:=Stp LS ((Exit×LS) ⊕ (SV×Eff×Bool))) spec_l02Bottle_e1 spec_l02Bottle_x1 _ _ (spec_l02Bottle_s1 N a1 a2 a3 a4 a0 y0_1 y0_4 y0_13 m0_12 y0_12) N ((0:Int),(i64.wrap (num (a0.extract ((3+((((i64.wrap (a2+y0_13))).tmod (2:Int)).toNat*180))+((y0_1).toNat*5)) (((3+((((i64.wrap (a2+y0_13))).tmod (2:Int)).toNat*180))+((y0_1).toNat*5))+5)) 0)));refine h _ _ ?_)
 intro x;exact spec_l02Bottle_k1_0_eq N a1 a2 a3 a4 a0 y0_1 y0_4 y0_13 m0_12 y0_12 x.1 x.2
noncomputable def spec_l02Bottle_g0 (P : Program) (N : Nat) (a1 a2 a3 a4 : Int) (a0 : Array Value) : Int × Int × Int × Nat × Array Value → Option (Stp (Int × Int × Int × Nat × Array Value) (Int × Int × Int × Nat × Array Value))
 | (y0_1, y0_4, y0_13, m0_12, y0_12) => bif decide (y0_13 < a3) then (bif decide (y0_1 ≥ (0 : Int)) then (bif decide (0 ≤ (IntKind.u64.wrap y0_1)) then (bif (!((spec_l01Dry_v0 y0_1 a0))) then (bif (decide (0 ≤ (((i64.wrap (a2 + y0_13))).tmod (2 : Int))) && decide ((((i64.wrap (a2 + y0_13))).tmod (2 : Int)) < 2)) then (bif (decide (0 ≤ y0_1) && decide (y0_1 < 36)) then (nodeX (iterO (spec_l02Bottle_g1 P a1 a2 a3 a4 a0 y0_1 y0_4 y0_13 m0_12 y0_12) N ((0 : Int), (i64.wrap (num (a0.extract ((3 + ((((i64.wrap (a2 + y0_13))).tmod (2 : Int)).toNat * 180)) + ((y0_1).toNat * 5)) (((3 + ((((i64.wrap (a2 + y0_13))).tmod (2 : Int)).toNat * 180)) + ((y0_1).toNat * 5)) + 5)) 0)))) (fun x => spec_l02Bottle_k1_0 P N a1 a2 a3 a4 a0 y0_1 y0_4 y0_13 m0_12 y0_12 x.1 x.2))
       else (none))
      else (none))
     else (bif (Nat.ble ((m0_12 + 1) * bytesOf Try.prog 2) 140737488355328) then (some (.more (y0_1, y0_4, (i64.wrap (y0_13 + (1 : Int))), (m0_12 + 1), (y0_12 ++ (#[.int .i64 (y0_1)] : Array Value)))))
      else (none)))
    else (none))
   else (bif (Nat.ble ((m0_12 + 1) * bytesOf Try.prog 2) 140737488355328) then (some (.more (y0_1, y0_4, (i64.wrap (y0_13 + (1 : Int))), (m0_12 + 1), (y0_12 ++ (#[.int .i64 (y0_1)] : Array Value)))))
    else (none)))
  else (some (.done (y0_1, y0_4, y0_13, m0_12, y0_12)))
theorem spec_l02Bottle_s0 (N:Nat) (a1 a2 a3 a4:Int) (a0:Array Value):∀ t:Int×Int×Int×Nat×Array Value,stepVG Try.prog spec_l02Bottle_G N (cAt (codeOf Try.f34) [1,1,0,1,0,0]) (pAt (mkPlan (codeOf Try.f34) [([1,4,13],[1000012,2]),([16,17],[])]).1 [1,1,0,1,0]) [1,4,13] [] 12 2 4 (spec_l02Bottle_t0 a1 a2 a3 a4 a0) (spec_l02Bottle_e0 t)=mapS spec_l02Bottle_e0 spec_l02Bottle_x0 (spec_l02Bottle_g0 Try.prog N a1 a2 a3 a4 a0 t):=by
 rintro ⟨y0_1,y0_4,y0_13,m0_12,y0_12⟩
 refine Eq.trans (b:=(bif decide (y0_13<a3) then (bif decide (y0_1 ≥ (0:Int)) then (bif decide (0≤(IntKind.u64.wrap y0_1)) then (bif (!((spec_l01Dry_v0 y0_1 a0))) then (bif (decide (0≤(((i64.wrap (a2+y0_13))).tmod (2:Int)))&&decide ((((i64.wrap (a2+y0_13))).tmod (2:Int))<2)) then (bif (decide (0≤y0_1)&&decide (y0_1<36)) then (bindX (iterO (stepV Try.prog spec_l02Bottle_G N (cAt (codeOf Try.f34) [1,1,0,1,0,0,1,0,0,0,1,0,1,1,1,1,0,1,0,0]) (pAt (mkPlan (codeOf Try.f34) [([1,4,13],[1000012,2]),([16,17],[])]).1 [1,1,0,1,0,1,0,0,1,0,1,1,1,1,0,1,0]) [16,17] [] (spec_l02Bottle_t1 a1 a2 a3 a4 a0 y0_1 y0_4 y0_13 m0_12 y0_12)) N ([.a (.i .i64 (0:Int)),.a (.i .i64 (i64.wrap (num (a0.extract ((3+((((i64.wrap (a2+y0_13))).tmod (2:Int)).toNat*180))+((y0_1).toNat*5)) (((3+((((i64.wrap (a2+y0_13))).tmod (2:Int)).toNat*180))+((y0_1).toNat*5))+5)) 0)))],[])) (fun e s=>(kBlock 2 (kSeq (veC Try.prog spec_l02Bottle_G N (cAt (codeOf Try.f34) [1,1,0,1,0,0,1,0,0,0,1,0,1,1,1,1,1]) (pAt (mkPlan (codeOf Try.f34) [([1,4,13],[1000012,2]),([16,17],[])]).1 [1,1,0,1,0,1,0,0,1,0,1,1,1,1,1]) (Stp LS (Exit×LS))) (kSeq (veC Try.prog spec_l02Bottle_G N (cAt (codeOf Try.f34) [1,1,0,1,0,0,1,0,0,1]) (pAt (mkPlan (codeOf Try.f34) [([1,4,13],[1000012,2]),([16,17],[])]).1 [1,1,0,1,0,1,0,1]) (Stp LS (Exit×LS))) (kBlock 1 (kSeq (veC Try.prog spec_l02Bottle_G N (cAt (codeOf Try.f34) [1,1,0,1,0,0,1,1]) (pAt (mkPlan (codeOf Try.f34) [([1,4,13],[1000012,2]),([16,17],[])]).1 [1,1,0,1,0,1,1]) (Stp LS (Exit×LS))) (kBodyG 4 [1,4,13] [] 12 2)))))) e (left (writes (cAt (codeOf Try.f34) [1,1,0,1,0,0,1,0,0,0,1,0,1,1,1,1,0,1,0,0])) [16,17] [] (spec_l02Bottle_t1 a1 a2 a3 a4 a0 y0_1 y0_4 y0_13 m0_12 y0_12) s)))
       else (none))
      else (none))
     else (bif (Nat.ble ((m0_12+1)*bytesOf Try.prog 2) 140737488355328) then (some (.more ([.a (.i .i64 (y0_1)),.a (.i .u32 (y0_4)),.a (.i .i64 (i64.wrap (y0_13+(1:Int)))),.a (.l 4)],[.sl .own (m0_12+1) (y0_12++(#[.int .i64 (y0_1)]:Array Value)) 2])))
      else (none)))
    else (none))
   else (bif (Nat.ble ((m0_12+1)*bytesOf Try.prog 2) 140737488355328) then (some (.more ([.a (.i .i64 (y0_1)),.a (.i .u32 (y0_4)),.a (.i .i64 (i64.wrap (y0_13+(1:Int)))),.a (.l 4)],[.sl .own (m0_12+1) (y0_12++(#[.int .i64 (y0_1)]:Array Value)) 2])))
    else (none)))
  else (some (.done ((.exit 0),([.a (.i .i64 (y0_1)),.a (.i .u32 (y0_4)),.a (.i .i64 (y0_13)),.a (.l 4)],[.sl .own m0_12 y0_12 2])))))) (by kernel_rfl) ?_
 simp only [spec_l02Bottle_n1 N a1 a2 a3 a4 a0 y0_1 y0_4 y0_13 m0_12 y0_12,spec_l02Bottle_g0,mapS_cond,mapS_more,mapS_done,mapS_none,spec_l02Bottle_e0,spec_l02Bottle_x0]
noncomputable def spec_l02Bottle_k0_0 (P:Program) (N:Nat) (a1 a2 a3 a4:Int) (a0:Array Value) (z0_1:Int) (z0_4:Int) (z0_13:Int) (p0_12:Nat) (z0_12:Array Value):Option (SV×Eff×Bool):=some (.t [.x,.i .u32 (z0_4)],.newS (some 0) p0_12 z0_12 2,true)
theorem spec_l02Bottle_k0_0_eq (N:Nat) (a1 a2 a3 a4:Int) (a0:Array Value) (z0_1:Int) (z0_4:Int) (z0_13:Int) (p0_12:Nat) (z0_12:Array Value):(kBlock 0 (kSeq (veC Try.prog spec_l02Bottle_G N (cAt (codeOf Try.f34) [1,1,1]) (pAt (mkPlan (codeOf Try.f34) [([1,4,13],[1000012,2]),([16,17],[])]).1 [1,1,1]) (SV×Eff×Bool)) (finK Try.prog [.row a0 37] [.tmp 10,.tmp 11]))) (.exit 0) (left (writes (cAt (codeOf Try.f34) [1,1,0,1,0,0])) [1,4,13,12] [4] (spec_l02Bottle_t0 a1 a2 a3 a4 a0) ([.a (.i .i64 (z0_1)),.a (.i .u32 (z0_4)),.a (.i .i64 (z0_13)),.a (.l 4)],[.sl .own p0_12 z0_12 2]))=spec_l02Bottle_k0_0 Try.prog N a1 a2 a3 a4 a0 z0_1 z0_4 z0_13 p0_12 z0_12:=by
 refine Eq.trans (b:=(some (.t [.x,.i .u32 (z0_4)],.newS (some 0) p0_12 z0_12 2,true))) (by kernel_rfl) ?_
 rfl
theorem spec_l02Bottle_n0 (N:Nat) (a1 a2 a3 a4:Int) (a0:Array Value):bindX (iterO (stepVG Try.prog spec_l02Bottle_G N (cAt (codeOf Try.f34) [1,1,0,1,0,0]) (pAt (mkPlan (codeOf Try.f34) [([1,4,13],[1000012,2]),([16,17],[])]).1 [1,1,0,1,0]) [1,4,13] [] 12 2 4 (spec_l02Bottle_t0 a1 a2 a3 a4 a0)) N ([.a (.i .i64 (a1)),.a (.i .u32 (a4)),.a (.i .i64 (0:Int)),.a (.l 4)],[.sl .own 1 (#[.int .i64 (a1)]:Array Value) 2])) (fun e s=>(kBlock 0 (kSeq (veC Try.prog spec_l02Bottle_G N (cAt (codeOf Try.f34) [1,1,1]) (pAt (mkPlan (codeOf Try.f34) [([1,4,13],[1000012,2]),([16,17],[])]).1 [1,1,1]) (SV×Eff×Bool)) (finK Try.prog [.row a0 37] [.tmp 10,.tmp 11]))) e (left (writes (cAt (codeOf Try.f34) [1,1,0,1,0,0])) [1,4,13,12] [4] (spec_l02Bottle_t0 a1 a2 a3 a4 a0) s))=nodeX (iterO (spec_l02Bottle_g0 Try.prog N a1 a2 a3 a4 a0) N (a1,a4,(0:Int),1,(#[.int .i64 (a1)]:Array Value))) (fun x=>spec_l02Bottle_k0_0 Try.prog N a1 a2 a3 a4 a0 x.1 x.2.1 x.2.2.1 x.2.2.2.1 x.2.2.2.2):=by
 refine loop_node spec_l02Bottle_e0 spec_l02Bottle_x0 _ _ (spec_l02Bottle_s0 N a1 a2 a3 a4 a0) N (a1,a4,(0:Int),1,(#[.int .i64 (a1)]:Array Value)) _ _ ?_
 intro x;exact spec_l02Bottle_k0_0_eq N a1 a2 a3 a4 a0 x.1 x.2.1 x.2.2.1 x.2.2.2.1 x.2.2.2.2
theorem spec_l02Bottle_ans (N:Nat) (a1 a2 a3 a4:Int) (a0:Array Value):ansV Try.prog spec_l02Bottle_G N Try.f34 [([1,4,13],[1000012,2]),([16,17],[])] [.w 0,.i .i64 (a1),.i .i64 (a2),.i .i64 (a3),.i .u32 (a4)] [.row a0 37]=(nodeX (iterO (spec_l02Bottle_g0 Try.prog N a1 a2 a3 a4 a0) N (a1,a4,(0:Int),1,(#[.int .i64 (a1)]:Array Value))) (fun x=>spec_l02Bottle_k0_0 Try.prog N a1 a2 a3 a4 a0 x.1 x.2.1 x.2.2.1 x.2.2.2.1 x.2.2.2.2)):=by
 refine Eq.trans (b:=(bindX (iterO (stepVG Try.prog spec_l02Bottle_G N (cAt (codeOf Try.f34) [1,1,0,1,0,0]) (pAt (mkPlan (codeOf Try.f34) [([1,4,13],[1000012,2]),([16,17],[])]).1 [1,1,0,1,0]) [1,4,13] [] 12 2 4 (spec_l02Bottle_t0 a1 a2 a3 a4 a0)) N ([.a (.i .i64 (a1)),.a (.i .u32 (a4)),.a (.i .i64 (0:Int)),.a (.l 4)],[.sl .own 1 (#[.int .i64 (a1)]:Array Value) 2])) (fun e s=>(kBlock 0 (kSeq (veC Try.prog spec_l02Bottle_G N (cAt (codeOf Try.f34) [1,1,1]) (pAt (mkPlan (codeOf Try.f34) [([1,4,13],[1000012,2]),([16,17],[])]).1 [1,1,1]) (SV×Eff×Bool)) (finK Try.prog [.row a0 37] [.tmp 10,.tmp 11]))) e (left (writes (cAt (codeOf Try.f34) [1,1,0,1,0,0])) [1,4,13,12] [4] (spec_l02Bottle_t0 a1 a2 a3 a4 a0) s)))) (by kernel_rfl) ?_
 simp only [spec_l02Bottle_n0 N a1 a2 a3 a4 a0]
theorem bytes_i64:bytesOf Try.prog 2=8:=by kernel_rfl
theorem spec_way (P':Program) {S:Array Value} (hS:WT Try.prog 37 S) (hok:okS S=true) {c:Nat} (hc:c<36) (hi:inC (num S 0) (num S 1) c=true) (hl:bitI (num S 2) c=false) {b:Int} (hb:0≤b∧b≤1) {k:Nat} (hk:k≤14) (s:Int) (u1 u3 u4:Int) (m:Nat) (D:Array Value) :
  iterO (spec_l02Bottle_g1 P' u1 b u3 u4 S (c:Int) s (k:Int) m D) 1000 ((0:Int),i64.wrap (num (S.extract (3+(((i64.wrap (b+(k:Int))).tmod (2:Int)).toNat*180)+((c:Int)).toNat*5) (3+(((i64.wrap (b+(k:Int))).tmod (2:Int)).toNat*180)+((c:Int)).toNat*5+5)) 0)) =
   some (((wF (chR S (tdB b k) c) (nbS (nxS s)):Nat):Int),sumW (chR S (tdB b k) c) (wF (chR S (tdB b k) c) (nbS (nxS s))+1)):=by
 obtain ⟨ht,ht2⟩:=td_two hb (k:=k) (by omega)
 have hsum:=fit_sum hok ht hc hi hl
 have hn:=nb_range (nx_range s)
 obtain ⟨hf,hw⟩:=wF_is (n:=nbS (nxS s)) hsum hn.2
 obtain ⟨hf1,-,hf3⟩:=List.find?_range_eq_some.1 hf
 have e1:S.extract (3+(((i64.wrap (b+(k:Int))).tmod (2:Int)).toNat*180)+((c:Int)).toNat*5) (3+(((i64.wrap (b+(k:Int))).tmod (2:Int)).toNat*180)+((c:Int)).toNat*5+5)=chR S (tdB b k) c:=by
  rw [ht2,Int.toNat_natCast,Int.toNat_natCast];rfl
 have e1':S.extract (3+(((i64.wrap (b+(k:Int))).tmod (2:Int)).toNat*180)+c*5) (3+(((i64.wrap (b+(k:Int))).tmod (2:Int)).toNat*180)+c*5+5)=chR S (tdB b k) c:=e1
 have enb:(i64.wrap (IntKind.u32.wrap ((IntKind.u32.wrap ((IntKind.u32.wrap ((1664525:Int)*s))+(1013904223:Int))).tdiv (65536:Int)))).tmod (12:Int)=nbS (nxS s):=nb_spec (nx_range s)
 rw [e1,sumW_one hS ht hc]
 generalize hwd:wF (chR S (tdB b k) c) (nbS (nxS s))=w at *
 refine iter_all (g:=spec_l02Bottle_g1 P' u1 b u3 u4 S (c:Int) s (k:Int) m D) (fun j=>((j:Int),sumW (chR S (tdB b k) c) (j+1))) (m:=w) (fun j hj=> ?_) ?_ (by omega)
 ·have h1:decide (sumW (chR S (tdB b k) c) (j+1) > nbS (nxS s))=false:=by simpa using hf3 j hj
  have h1':=of_decide_eq_false h1
  have h2:decide (sumW (chR S (tdB b k) c) (j+1)≤nbS (nxS s))=true:=decide_eq_true (by omega)
  have h3:i64.wrap ((j:Int)+1)=((j+1:Nat):Int):=by rw [IntWalk.i64_in _ (by omega)];omega
  have h4:(decide (0≤((j+1:Nat):Int))&&decide (((j+1:Nat):Int)<5))=true:=by rw [decide_eq_true (by omega),decide_eq_true (by omega)];rfl
  simp only [spec_l02Bottle_g1,enb,h2,h3,h4,Int.toNat_natCast,e1',cond_true]
  rfl
 ·have h1:sumW (chR S (tdB b k) c) (w+1) > nbS (nxS s):=by simpa using hf1
  have h2:decide (sumW (chR S (tdB b k) c) (w+1)≤nbS (nxS s))=false:=decide_eq_false (by omega)
  simp only [spec_l02Bottle_g1,enb,h2,cond_false]
theorem spec_l02Bottle_main (a1 a2 a3 a4:Int) (a0:Array Value) (h_a1:i64.min≤a1∧a1≤i64.max) (h_a2:i64.min≤a2∧a2≤i64.max) (h_a3:i64.min≤a3∧a3≤i64.max) (h_a4:IntKind.u32.min≤a4∧a4≤IntKind.u32.max) (h_a0:WT Try.prog 37 a0) (hg:(((okS a0)&&((spec_l01Is_v0 a1 a0)&&((decide (0≤a2)&&decide (a2≤1))&&(decide (0≤a3)&&decide (a3≤14))))))=true):ansV Try.prog spec_l02Bottle_G 1000 Try.f34 [([1,4,13],[1000012,2]),([16,17],[])] [.w 0,.i .i64 (a1),.i .i64 (a2),.i .i64 (a3),.i .u32 (a4)] [.row a0 37]=some (.t [.x,.i .u32 (rnB a0 a2 (a1,a4) a3.toNat).2],.newS (some 0) (a3.toNat+1) (arB a0 a2 (a1,a4) a3.toNat) 2,true):=by
 simp only [Bool.and_eq_true,decide_eq_true_eq] at hg
 obtain ⟨hok,his,hb,h0,h14⟩:=hg
 obtain ⟨h,rfl⟩:=Int.eq_ofNat_of_zero_le h0
 obtain ⟨hc0,hc35⟩:=is_range his
 obtain ⟨c,rfl⟩:=Int.eq_ofNat_of_zero_le hc0
 rw [Int.toNat_natCast]
 have hin:inB a0 (c:Int):=.inr ⟨c,rfl,by omega,by rw [← is_inC h_a0 (by omega)];exact his⟩
 have hrn:∀ k,k≤1000→_:=rnB_in hok hb (x:=((c:Int),a4)) hin (by have q:0≤a4∧a4≤4294967295:=h_a4;show 0≤a4∧a4<4294967296;omega)
 have hd:=okS_dims hok
 have hl:=iter_all (g:=spec_l02Bottle_g0 Try.prog 1000 (c:Int) a2 (h:Int) a4 a0) (fun k=>((rnB a0 a2 ((c:Int),a4) k).1,(rnB a0 a2 ((c:Int),a4) k).2,(k:Int),k+1,arB a0 a2 ((c:Int),a4) k)) (m:=h)
  (x:=((rnB a0 a2 ((c:Int),a4) h).1,(rnB a0 a2 ((c:Int),a4) h).2,(h:Int),h+1,arB a0 a2 ((c:Int),a4) h)) (N:=1000) (fun k hk=> ?_) ?_ (by omega)
 ·refine (spec_l02Bottle_ans 1000 (c:Int) a2 (h:Int) a4 a0).trans ?_
  have hl':iterO (spec_l02Bottle_g0 Try.prog 1000 (c:Int) a2 (h:Int) a4 a0) 1000 ((c:Int),a4,(0:Int),1,(#[.int .i64 (c:Int)]:Array Value))=_:=hl
  rw [hl']
  rfl
 ·obtain ⟨hin,hsd⟩:=hrn k (by omega)
  have hnext:rnB a0 a2 ((c:Int),a4) (k+1)=stB a0 (tdB a2 k) (rnB a0 a2 ((c:Int),a4) k):=rfl
  have harr:=fun v hv=>arB_next (S:=a0) (b:=a2) (x:=((c:Int),a4)) (j:=k) (v:=v) hv
  rw [hnext] at harr
  rw [hnext]
  generalize rnB a0 a2 ((c:Int),a4) k=y at *
  generalize arB a0 a2 ((c:Int),a4) (k+1)=D1 at *
  generalize arB a0 a2 ((c:Int),a4) k=D at *
  obtain ⟨yc,ys⟩:=y
  obtain ⟨ht,ht2⟩:=td_two hb (k:=k) (by omega)
  have h1:decide ((k:Int)<(h:Int))=true:=decide_eq_true (by omega)
  have h2:i64.wrap ((k:Int)+1)=((k+1:Nat):Int):=by rw [IntWalk.i64_in _ (by omega)];omega
  have h3:Nat.ble ((k+1+1)*bytesOf Try.prog 2) 140737488355328=true:=Nat.ble_eq_true_of_le (by rw [bytes_i64];omega)
  rcases hin with hm | ⟨q,hq,hq36,hqi⟩
  ·simp only at hm
   subst hm
   have h4:decide ((-1:Int) ≥ 0)=false:=by decide
   have h5:stB a0 (tdB a2 k) ((-1:Int),ys)=((-1:Int),ys):=rfl
   rw [h5] at harr⊢
   simp only [spec_l02Bottle_g0,h1,h2,h3,h4,cond_true,cond_false,harr (-1) rfl]
  ·simp only at hq
   subst hq
   have h4:decide ((q:Int) ≥ 0)=true:=decide_eq_true (by omega)
   have h5:decide (0≤IntKind.u64.wrap (q:Int))=true:=by rw [u64w hq36];exact decide_eq_true (by omega)
   have h6:((q:Int)==(-1:Int))=false:=beq_eq_false_iff_ne.2 (by omega)
   have h7:=dry_bit h_a0 (k:=q) hq36
   cases hbit:bitI (num a0 2) q with
   | true=>
    rw [hbit] at h7
    have h8:stB a0 (tdB a2 k) ((q:Int),ys)=((q:Int),ys):=by
     unfold stB;simp only [h6,cond_false,Int.toNat_natCast,hbit,cond_true]
    rw [h8] at harr⊢
    simp only [spec_l02Bottle_g0,h1,h2,h3,h4,h5,h7,Bool.not_true,cond_true,cond_false,harr (q:Int) rfl]
   | false=>
    rw [hbit] at h7
    have h8:stB a0 (tdB a2 k) ((q:Int),ys)=(gw a0 q (wF (chR a0 (tdB a2 k) q) (nbS (nxS ys))),nxS ys):=by
     unfold stB;simp only [h6,cond_false,Int.toNat_natCast,hbit]
    rw [h8] at harr⊢
    have h9:(decide (0≤(i64.wrap (a2+(k:Int))).tmod (2:Int))&&decide ((i64.wrap (a2+(k:Int))).tmod (2:Int)<2))=true:=by rw [ht2,decide_eq_true (by omega),decide_eq_true (by omega)];rfl
    have h10:(decide (0≤(q:Int))&&decide ((q:Int)<36))=true:=by rw [decide_eq_true (by omega),decide_eq_true (by omega)];rfl
    have hw:=spec_way Try.prog h_a0 hok hq36 hqi hbit hb (k:=k) (by omega) ys (c:Int) (h:Int) a4 (k+1) D
    have hw5:=(wF_is (n:=nbS (nxS ys)) (fit_sum hok ht hq36 hqi hbit) (nb_range (nx_range ys)).2).2
    have hgo:=goes_nice hd hq36 hqi _ hw5
    simp only [spec_l02Bottle_g0,h1,h4,h5,h7,h9,h10,Bool.not_false,cond_true]
    rw [hw]
    simp only [nodeX,spec_l02Bottle_k1_0,h2,h3,hgo,cond_true]
    rw [harr _ rfl,decide_eq_true (show (q:Int)<36 by omega)]
    rfl
 ·have h1:decide ((h:Int)<(h:Int))=false:=decide_eq_false (by omega)
  simp only [spec_l02Bottle_g0,h1,cond_false]
noncomputable def spec_l02Bottle_con:Con:=fun args h=>match args,h with
 | [.w 0,.i .i64 a1,.i .i64 a2,.i .i64 a3,.i .u32 a4],[.row a0 37]=>some (.t [.x,.i .u32 (rnB a0 a2 (a1,a4) a3.toNat).2],.newS (some 0) (a3.toNat+1) (arB a0 a2 (a1,a4) a3.toNat) 2,((okS a0)&&((spec_l01Is_v0 a1 a0)&&((decide (0≤a2)&&decide (a2≤1))&&(decide (0≤a3)&&decide (a3≤14))))))
 | _,_=>none
theorem spec_l02Bottle_enter:EntX Try.prog 34:=entX_ok (fn:=Try.f34) (by kernel_rfl) (by kernel_rfl) (by kernel_rfl)
theorem spec_l02Bottle_ok:ConOkX mn Try.prog 34 spec_l02Bottle_con:=(ansX_ok (N:=1000) (by kernel_rfl) (mkΓ_consX (con_okX spec_l01Dry_ok) spec_l01Dry_enter (mkΓ_consX (con_okX spec_l01Goes_ok) spec_l01Goes_enter mkΓ_nilX)) (fn:=Try.f34) (by kernel_rfl) (by kernel_rfl) [([1,4,13],[1000012,2]),([16,17],[])]).of (by
 intro ρ h w args vals r e hA hH hr
 unfold spec_l02Bottle_con at hr
 split at hr
 ·rename_i a1 a2 a3 a4 a0
  obtain ⟨rfl,hg⟩:=Prod.mk.inj (Option.some.inj hr)
  obtain ⟨rfl,hg2⟩:=Prod.mk.inj hg
  exact spec_l02Bottle_main a1 a2 a3 a4 a0 (hA.rng 1 rfl) (hA.rng 2 rfl) (hA.rng 3 rfl) (hA.rng 4 rfl) (hH.wt 0 rfl) hg2
 ·cases hr)
end
end Go.Proofs.Ytnhilgpdgicgfaa
