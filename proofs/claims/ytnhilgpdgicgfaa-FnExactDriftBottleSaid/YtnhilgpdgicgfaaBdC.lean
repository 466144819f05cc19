/- The bottle that is followed. -/
import Derived.Test.YtnhilgpdgicgfaaProg
import Derived.Test.YtnhilgpdgicgfaaBdB
namespace Go.Proofs.Ytnhilgpdgicgfaa
open Go.ChangeShapes Go.WideShapes Go.ChangeAt Go.RowKit Ve Vc
open IntKind (i64)
set_option linter.unusedVariables false
set_option linter.unusedSimpArgs false
set_option maxRecDepth 100000
noncomputable section
variable {mn:Md}
theorem impl_follow_enter:EntX Try.prog 37:=entX_ok (fn:=Try.f37) (by kernel_rfl) (by kernel_rfl) (by kernel_rfl)
theorem impl_drawing_1_enter:EntX Try.prog 71:=entX_ok (fn:=Try.f71) (by kernel_rfl) (by kernel_rfl) (by kernel_rfl)
noncomputable def impl_DriftBottle_X71 (N:Nat):Cons:=withX [] (mkΓ [])
theorem impl_DriftBottle_X71_ok (N:Nat):ConsOkX mn Try.prog (IConOkX mn Try.prog) (impl_DriftBottle_X71 N):=(withX_nil mkΓ_nilX)
noncomputable def impl_DriftBottle_X37 (N:Nat):Cons:=withX [(71,inlT Try.prog (impl_DriftBottle_X71 N) N Try.f71 [(35,[])])] (mkΓ [(68,con impl_isLand_con),(69,con impl_tideIn_con),(70,con impl_leadsTo_con)])
theorem impl_DriftBottle_X37_ok (N:Nat):ConsOkX mn Try.prog (IConOkX mn Try.prog) (impl_DriftBottle_X37 N):=(withX_c (inlT_ok (by kernel_rfl) (impl_DriftBottle_X71_ok N) (fn:=Try.f71) (by kernel_rfl) (by kernel_rfl) _) impl_drawing_1_enter (withX_nil (mkΓ_consX (con_okX impl_isLand_ok) impl_isLand_enter (mkΓ_consX (con_okX impl_tideIn_ok) impl_tideIn_enter (mkΓ_consX (con_okX impl_leadsTo_ok) impl_leadsTo_enter mkΓ_nilX)))))
noncomputable def impl_DriftBottle_G (N:Nat):Cons:=withX [(37,inlT Try.prog (impl_DriftBottle_X37 N) N Try.f37 [(18,[([25],[22,1]),([15,54],[22])])])] (mkΓ [(36,con impl_bottleCode_con),(38,impl_drawing_rc)])
theorem impl_DriftBottle_G_ok (N:Nat):ConsOkX mn Try.prog (IConOkX mn Try.prog) (impl_DriftBottle_G N):=(withX_c (inlT_ok (by kernel_rfl) (impl_DriftBottle_X37_ok N) (fn:=Try.f37) (by kernel_rfl) (by kernel_rfl) _) impl_follow_enter (withX_nil (mkΓ_consX (con_okX impl_bottleCode_ok) impl_bottleCode_enter (mkΓ_consX (conNC_ok (inlX_ok (by kernel_rfl) mkΓ_nilX (fn:=Try.f38) (by kernel_rfl) (by kernel_rfl) [])) impl_drawing_enter mkΓ_nilX))))
noncomputable def impl_DriftBottle_ki1 (N:Nat) (a0:Array Value) (a1 a2 a3 a4:Int):Exit→St→Option (SV×Eff×Bool):=(finI Try.prog [.row a0 37,.row #[.int .u32 (a4)] 29,.no,.no,.no,.no,.no,.no,.no,.no,.no,.no,.no,.no,.no,.one (.w 1) 69,.no,.no] [.tmp 10] (retI Try.prog (impl_DriftBottle_G N) (opsAt (cAt (codeOf Try.f12) [1,1,0])) 11 5 (⟨.a (.g a0 37) :: .a (.i .i64 (a1)) :: .a (.i .i64 (a2)) :: .a (.i .i64 (a3)) :: .a (.i .u32 (a4)) :: .a (.w 0)::us 3 (.a (.w 1) :: .a (.v (.slice none 0 0)) :: .a (.i .u32 (0:Int)) :: .a (.i .i64 (0:Int)) :: .a (.i .i64 (impl_bottleCode_v0 a0 a1 a2 a3)) :: .a (.u) :: .a (.g a0 37) :: .a (.i .i64 (a1)) :: .a (.i .i64 (a2)) :: .a (.i .i64 (a3)) :: .a (.i .i64 (impl_bottleCode_v0 a0 a1 a2 a3)) :: .a (.i .i64 (impl_bottleCode_v0 a0 a1 a2 a3)) :: .a (.b (((impl_bottleCode_v0 a0 a1 a2 a3) != (0:Int)))) :: .a (.u) :: .a (.g a0 37) :: .a (.i .i64 (a1)) :: .a (.i .i64 (a2)) :: .a (.i .i64 (a3)) :: .a (.c 71 [15])::us 3 ([])),[.row a0 37,.row #[.int .u32 (a4)] 29,.no,.no,.no,.no,.no,.no,.no,.no,.no,.no,.no,.no,.no,.one (.w 1) 69,.no,.no],[]⟩:St) (some 28) ((kSeq (veC Try.prog (impl_DriftBottle_G N) N (cAt (codeOf Try.f12) [1,1,1]) (pAt (mkPlan (codeOf Try.f12) []).1 [1,1,1]) (SV×Eff×Bool)) (finK Try.prog [] [.tmp 10,.tmp 11,.tmp 12])) .normal)))
noncomputable def impl_DriftBottlei1_t1j1 (a0:Array Value) (a1 a2 a3 a4:Int) (y0j1_25:Int) (r0j1_22:Array Value) (r0j1_1:Int):St:=(⟨.a (.g a0 37) :: .a (.i .i64 (a1)) :: .a (.i .i64 (a2)) :: .a (.i .i64 (a3)) :: .a (.c 71 [15]) :: .a (.w 18)::us 4 (.a (.v (.slice none 0 0)) :: .a (.l 22) :: .a (.i .i64 (y0j1_25)) :: .a (.i .i64 (num r0j1_22 ((y0j1_25).toNat*1))) :: .a (.i .i64 (i64.wrap (((IntKind.u32.wrap (((IntKind.u32.wrap ((IntKind.u32.wrap ((1664525:Int)*r0j1_1))+(1013904223:Int)))).tdiv (65536:Int)))).tmod (12:Int)))) :: .a (.i .i64 (0:Int)) :: .a (.x) :: .a (.x) :: .a (.i .i64 (a3)) :: .a (.i .i64 (i64.wrap (a3+(1:Int)))) :: .a (.l 22) :: .a (.l 22) :: .a (.i .i64 (a1)) :: .a (.q 22 (((0:Int).toNat*1)) 2) :: .a (.i .i64 (a3)) :: .a (.i .i64 (y0j1_25)) :: .a (.b (decide (y0j1_25<a3))) :: .a (.i .i64 (y0j1_25)) :: .a (.l 22) :: .a (.i .i64 (y0j1_25)) :: .a (.q 22 (((y0j1_25).toNat*1)) 2) :: .a (.i .i64 (num r0j1_22 ((y0j1_25).toNat*1))) :: .a (.i .i64 (num r0j1_22 ((y0j1_25).toNat*1))) :: .a (.b (((num r0j1_22 ((y0j1_25).toNat*1))==(-1:Int)))) :: .a (.b (false)) :: .a (.g a0 37) :: .a (.i .i64 (num r0j1_22 ((y0j1_25).toNat*1))) :: .a (.b ((impl_isLand_v0 a0 (num r0j1_22 ((y0j1_25).toNat*1))))) :: .a (.b ((impl_isLand_v0 a0 (num r0j1_22 ((y0j1_25).toNat*1)))))::xs 5 (.a (.c 71 [15]) :: .a (.i .i64 (i64.wrap (((IntKind.u32.wrap (((IntKind.u32.wrap ((IntKind.u32.wrap ((1664525:Int)*r0j1_1))+(1013904223:Int)))).tdiv (65536:Int)))).tmod (12:Int)))) :: .a (.i .i64 (a2)) :: .a (.i .i64 (y0j1_25)) :: .a (.i .i64 (((i64.wrap (a2+y0j1_25))).tmod (2:Int))) :: .a (.i .i64 (num r0j1_22 ((y0j1_25).toNat*1))) :: .a (.p 18 (3) 35) :: .a (.p 18 ((3+((((i64.wrap (a2+y0j1_25))).tmod (2:Int)).toNat*180))) 34) :: .a (.p 18 (((3+((((i64.wrap (a2+y0j1_25))).tmod (2:Int)).toNat*180))+((num r0j1_22 ((y0j1_25).toNat*1)).toNat*5))) 33) :: .a (.g (a0.extract ((3+((((i64.wrap (a2+y0j1_25))).tmod (2:Int)).toNat*180))+((num r0j1_22 ((y0j1_25).toNat*1)).toNat*5)) (((3+((((i64.wrap (a2+y0j1_25))).tmod (2:Int)).toNat*180))+((num r0j1_22 ((y0j1_25).toNat*1)).toNat*5))+5)) 33) :: .a (.i .i64 (0:Int))::xs 20 (.a (.u)::[]))),[.row a0 37,.row #[.int .u32 (IntKind.u32.wrap ((IntKind.u32.wrap ((1664525:Int)*r0j1_1))+(1013904223:Int)))] 29,.no,.no,.no,.no,.no,.no,.no,.no,.no,.no,.no,.no,.no,.one (.w 1) 69,.no,.no,.row a0 37,.no,.no,.no,.sl .own ((i64.wrap (a3+(1:Int))).toNat) r0j1_22 2,.no,.no,.no,.no,.no,.no,.no,.no,.no,.no,.no,.no,.no,.no,.no,.no,.no,.no,.no,.no,.no,.no,.no,.no,.no,.no,.no,.no,.no],[1,22,1]⟩:St)
noncomputable def impl_DriftBottlei1_e1j1 (a3:Int):Int×Int×Array Value→LS
 | (y1j1_15,y1j1_54,r1j1_22)=>([.a (.i .i64 (y1j1_15)),.a (.i .i64 (y1j1_54))],[.sl .own ((i64.wrap (a3+(1:Int))).toNat) r1j1_22 2])
noncomputable def impl_DriftBottlei1_x1j1 (a3:Int):(Stp (Int×Int×Array Value) (Int×Int×Array Value))→Exit×LS
 | .more t=>((.exit 1),(impl_DriftBottlei1_e1j1 a3) t)
 | .done t=>((.exit 2),(impl_DriftBottlei1_e1j1 a3) t)
noncomputable def impl_DriftBottlei1_g1j1 (P : Program) (a0 : Array Value) (a1 a2 a3 a4 : Int) (y0j1_25 : Int) (r0j1_22 : Array Value) (r0j1_1 : Int) : Int × Int × Array Value → Option (Stp (Int × Int × Array Value) (Stp (Int × Int × Array Value) (Int × Int × Array Value)))
 | (y1j1_15, y1j1_54, r1j1_22) => bif decide (y1j1_54 < (5 : Int)) then (bif (decide (0 ≤ y1j1_54) && decide (y1j1_54 < 5)) then (bif decide ((i64.wrap (y1j1_15 + (i64.wrap (num (a0.extract ((3 + ((((i64.wrap (a2 + y0j1_25))).tmod (2 : Int)).toNat * 180)) + ((num r0j1_22 ((y0j1_25).toNat * 1)).toNat * 5)) (((3 + ((((i64.wrap (a2 + y0j1_25))).tmod (2 : Int)).toNat * 180)) + ((num r0j1_22 ((y0j1_25).toNat * 1)).toNat * 5)) + 5)) ((y1j1_54).toNat * 1))))) > (i64.wrap (((IntKind.u32.wrap (((IntKind.u32.wrap ((IntKind.u32.wrap ((1664525 : Int) * r0j1_1)) + (1013904223 : Int)))).tdiv (65536 : Int)))).tmod (12 : Int)))) then (bif (decide (0 ≤ y1j1_54) && decide (y1j1_54 < 5)) then (bif (decide (0 ≤ (i64.wrap (y0j1_25 + (1 : Int)))) && decide ((i64.wrap (y0j1_25 + (1 : Int))) < (((i64.wrap (a3 + (1 : Int))).toNat) : Int))) then (some (.done (.more ((i64.wrap (y1j1_15 + (i64.wrap (num (a0.extract ((3 + ((((i64.wrap (a2 + y0j1_25))).tmod (2 : Int)).toNat * 180)) + ((num r0j1_22 ((y0j1_25).toNat * 1)).toNat * 5)) (((3 + ((((i64.wrap (a2 + y0j1_25))).tmod (2 : Int)).toNat * 180)) + ((num r0j1_22 ((y0j1_25).toNat * 1)).toNat * 5)) + 5)) ((y1j1_54).toNat * 1))))), y1j1_54, (r1j1_22.setIfInBounds ((i64.wrap (y0j1_25 + (1 : Int))).toNat * 1) (.int .i64 (leadI a0 (num r0j1_22 ((y0j1_25).toNat * 1)) y1j1_54.toNat)))))))
      else (none))
     else (none))
    else (some (.more ((i64.wrap (y1j1_15 + (i64.wrap (num (a0.extract ((3 + ((((i64.wrap (a2 + y0j1_25))).tmod (2 : Int)).toNat * 180)) + ((num r0j1_22 ((y0j1_25).toNat * 1)).toNat * 5)) (((3 + ((((i64.wrap (a2 + y0j1_25))).tmod (2 : Int)).toNat * 180)) + ((num r0j1_22 ((y0j1_25).toNat * 1)).toNat * 5)) + 5)) ((y1j1_54).toNat * 1))))), (i64.wrap (y1j1_54 + (1 : Int))), r1j1_22))))
   else (none))
  else (some (.done (.done (y1j1_15, y1j1_54, r1j1_22))))
theorem impl_DriftBottlei1_s1j1 (N:Nat) (a0:Array Value) (a1 a2 a3 a4:Int) (y0j1_25:Int) (r0j1_22:Array Value) (r0j1_1:Int):∀ t:Int×Int×Array Value,stepV Try.prog (impl_DriftBottle_X37 N) N (cAt (codeOf Try.f37) [1,0,1,1,1,0,1,0,0,1,1,0,0,1,1,1,1,1,0,0]) (pAt (mkPlan (codeOf Try.f37) [([25],[22,1]),([15,54],[22])]).1 [1,1,1,1,0,1,0,1,1,0,1,1,1,1,1,0]) [15,54] [22] (impl_DriftBottlei1_t1j1 a0 a1 a2 a3 a4 y0j1_25 r0j1_22 r0j1_1) ((impl_DriftBottlei1_e1j1 a3) t)=mapS (impl_DriftBottlei1_e1j1 a3) (impl_DriftBottlei1_x1j1 a3) (impl_DriftBottlei1_g1j1 Try.prog a0 a1 a2 a3 a4 y0j1_25 r0j1_22 r0j1_1 t):=by
 rintro ⟨y1j1_15,y1j1_54,r1j1_22⟩
 refine Eq.trans (b:=(bif decide (y1j1_54<(5:Int)) then (bif (decide (0≤y1j1_54)&&decide (y1j1_54<5)) then (bif decide ((i64.wrap (y1j1_15+(i64.wrap (num (a0.extract ((3+((((i64.wrap (a2+y0j1_25))).tmod (2:Int)).toNat*180))+((num r0j1_22 ((y0j1_25).toNat*1)).toNat*5)) (((3+((((i64.wrap (a2+y0j1_25))).tmod (2:Int)).toNat*180))+((num r0j1_22 ((y0j1_25).toNat*1)).toNat*5))+5)) ((y1j1_54).toNat*1))))) > (i64.wrap (((IntKind.u32.wrap (((IntKind.u32.wrap ((IntKind.u32.wrap ((1664525:Int)*r0j1_1))+(1013904223:Int)))).tdiv (65536:Int)))).tmod (12:Int)))) then (bif (decide (0≤y1j1_54)&&decide (y1j1_54<5)) then (bif (decide (0≤(i64.wrap (y0j1_25+(1:Int))))&&decide ((i64.wrap (y0j1_25+(1:Int)))<(((i64.wrap (a3+(1:Int))).toNat):Int))) then (some (.done ((.exit 1),([.a (.i .i64 (i64.wrap (y1j1_15+(i64.wrap (num (a0.extract ((3+((((i64.wrap (a2+y0j1_25))).tmod (2:Int)).toNat*180))+((num r0j1_22 ((y0j1_25).toNat*1)).toNat*5)) (((3+((((i64.wrap (a2+y0j1_25))).tmod (2:Int)).toNat*180))+((num r0j1_22 ((y0j1_25).toNat*1)).toNat*5))+5)) ((y1j1_54).toNat*1)))))),.a (.i .i64 (y1j1_54))],[.sl .own ((i64.wrap (a3+(1:Int))).toNat) (r1j1_22.setIfInBounds ((i64.wrap (y0j1_25+(1:Int))).toNat*1) (.int .i64 (leadI a0 (num r0j1_22 ((y0j1_25).toNat*1)) y1j1_54.toNat))) 2]))))
      else (none))
     else (none))
    else (some (.more ([.a (.i .i64 (i64.wrap (y1j1_15+(i64.wrap (num (a0.extract ((3+((((i64.wrap (a2+y0j1_25))).tmod (2:Int)).toNat*180))+((num r0j1_22 ((y0j1_25).toNat*1)).toNat*5)) (((3+((((i64.wrap (a2+y0j1_25))).tmod (2:Int)).toNat*180))+((num r0j1_22 ((y0j1_25).toNat*1)).toNat*5))+5)) ((y1j1_54).toNat*1)))))),.a (.i .i64 (i64.wrap (y1j1_54+(1:Int))))],[.sl .own ((i64.wrap (a3+(1:Int))).toNat) r1j1_22 2]))))
   else (none))
  else (some (.done ((.exit 2),([.a (.i .i64 (y1j1_15)),.a (.i .i64 (y1j1_54))],[.sl .own ((i64.wrap (a3+(1:Int))).toNat) r1j1_22 2])))))) (by kernel_rfl) ?_
 simp only [impl_DriftBottlei1_g1j1,mapS_cond,mapS_more,mapS_done,mapS_none,impl_DriftBottlei1_e1j1,impl_DriftBottlei1_x1j1]
noncomputable def impl_DriftBottlei1_t0j1 (a0:Array Value) (a1 a2 a3 a4:Int):St:=(⟨.a (.g a0 37) :: .a (.i .i64 (a1)) :: .a (.i .i64 (a2)) :: .a (.i .i64 (a3)) :: .a (.c 71 [15]) :: .a (.w 18)::us 4 (.a (.v (.slice none 0 0)) :: .a (.l 22)::us 6 (.a (.i .i64 (a3)) :: .a (.i .i64 (i64.wrap (a3+(1:Int)))) :: .a (.l 22) :: .a (.l 22) :: .a (.i .i64 (a1)) :: .a (.q 22 (((0:Int).toNat*1)) 2) :: .a (.i .i64 (a3)) :: .a (.i .i64 (0:Int))::us 50 ([]))),[.row a0 37,.row #[.int .u32 (a4)] 29,.no,.no,.no,.no,.no,.no,.no,.no,.no,.no,.no,.no,.no,.one (.w 1) 69,.no,.no,.row a0 37,.no,.no,.no,.sl .own ((i64.wrap (a3+(1:Int))).toNat) ((madeCells (zc Try.prog 2) ((i64.wrap (a3+(1:Int))).toNat*1)).setIfInBounds ((0:Int).toNat*1) (.int .i64 (a1))) 2,.no],[22]⟩:St)
noncomputable def impl_DriftBottlei1_e0j1 (a3:Int):Int×Array Value×Int→LS
 | (y0j1_25,r0j1_22,r0j1_1)=>([.a (.i .i64 (y0j1_25))],[.sl .own ((i64.wrap (a3+(1:Int))).toNat) r0j1_22 2,.row #[.int .u32 (r0j1_1)] 29])
noncomputable def impl_DriftBottlei1_x0j1 (a3:Int):Int×Array Value×Int→Exit×LS
 | t=>((.exit 0),(impl_DriftBottlei1_e0j1 a3) t)
noncomputable def impl_DriftBottlei1_k1j1_0 (P:Program) (N:Nat) (a0:Array Value) (a1 a2 a3 a4:Int) (y0j1_25:Int) (r0j1_22:Array Value) (r0j1_1:Int) (z1j1_15:Int) (z1j1_54:Int) (q1j1_22:Array Value):Option (Stp (Int×Array Value×Int) (Int×Array Value×Int)):=some (.more ((i64.wrap (y0j1_25+(1:Int))),q1j1_22,(IntKind.u32.wrap ((IntKind.u32.wrap ((1664525:Int)*r0j1_1))+(1013904223:Int)))))
theorem impl_DriftBottlei1_k1j1_0_eq (N:Nat) (a0:Array Value) (a1 a2 a3 a4:Int) (y0j1_25:Int) (r0j1_22:Array Value) (r0j1_1:Int) (z1j1_15:Int) (z1j1_54:Int) (q1j1_22:Array Value):(kBlock 2 (kBlock 1 (kSeq (veC Try.prog (impl_DriftBottle_X37 N) N (cAt (codeOf Try.f37) [1,0,1,1,1,0,1,0,0,1,1,1]) (pAt (mkPlan (codeOf Try.f37) [([25],[22,1]),([15,54],[22])]).1 [1,1,1,1,0,1,0,1,1,1]) (Stp LS (Exit×LS))) (kBody 24 [25] [22,1])))) (.exit 1) (left (writes (cAt (codeOf Try.f37) [1,0,1,1,1,0,1,0,0,1,1,0,0,1,1,1,1,1,0,0])) [15,54] [22] (impl_DriftBottlei1_t1j1 a0 a1 a2 a3 a4 y0j1_25 r0j1_22 r0j1_1) ([.a (.i .i64 (z1j1_15)),.a (.i .i64 (z1j1_54))],[.sl .own ((i64.wrap (a3+(1:Int))).toNat) q1j1_22 2]))=mapS (impl_DriftBottlei1_e0j1 a3) (impl_DriftBottlei1_x0j1 a3) (impl_DriftBottlei1_k1j1_0 Try.prog N a0 a1 a2 a3 a4 y0j1_25 r0j1_22 r0j1_1 z1j1_15 z1j1_54 q1j1_22):=by
 refine Eq.trans (b:=(some (.more ([.a (.i .i64 (i64.wrap (y0j1_25+(1:Int))))],[.sl .own ((i64.wrap (a3+(1:Int))).toNat) q1j1_22 2,.row #[.int .u32 (IntKind.u32.wrap ((IntKind.u32.wrap ((1664525:Int)*r0j1_1))+(1013904223:Int)))] 29])))) (by kernel_rfl) ?_
 simp only [impl_DriftBottlei1_k1j1_0,mapS_cond,mapS_more,mapS_done,mapS_none,impl_DriftBottlei1_e0j1,impl_DriftBottlei1_x0j1]
noncomputable def impl_DriftBottlei1_k1j1_1 (P:Program) (N:Nat) (a0:Array Value) (a1 a2 a3 a4:Int) (y0j1_25:Int) (r0j1_22:Array Value) (r0j1_1:Int) (z1j1_15:Int) (z1j1_54:Int) (q1j1_22:Array Value):Option (Stp (Int×Array Value×Int) (Int×Array Value×Int)):=some (.more ((i64.wrap (y0j1_25+(1:Int))),q1j1_22,(IntKind.u32.wrap ((IntKind.u32.wrap ((1664525:Int)*r0j1_1))+(1013904223:Int)))))
theorem impl_DriftBottlei1_k1j1_1_eq (N:Nat) (a0:Array Value) (a1 a2 a3 a4:Int) (y0j1_25:Int) (r0j1_22:Array Value) (r0j1_1:Int) (z1j1_15:Int) (z1j1_54:Int) (q1j1_22:Array Value):(kBlock 2 (kBlock 1 (kSeq (veC Try.prog (impl_DriftBottle_X37 N) N (cAt (codeOf Try.f37) [1,0,1,1,1,0,1,0,0,1,1,1]) (pAt (mkPlan (codeOf Try.f37) [([25],[22,1]),([15,54],[22])]).1 [1,1,1,1,0,1,0,1,1,1]) (Stp LS (Exit×LS))) (kBody 24 [25] [22,1])))) (.exit 2) (left (writes (cAt (codeOf Try.f37) [1,0,1,1,1,0,1,0,0,1,1,0,0,1,1,1,1,1,0,0])) [15,54] [22] (impl_DriftBottlei1_t1j1 a0 a1 a2 a3 a4 y0j1_25 r0j1_22 r0j1_1) ([.a (.i .i64 (z1j1_15)),.a (.i .i64 (z1j1_54))],[.sl .own ((i64.wrap (a3+(1:Int))).toNat) q1j1_22 2]))=mapS (impl_DriftBottlei1_e0j1 a3) (impl_DriftBottlei1_x0j1 a3) (impl_DriftBottlei1_k1j1_1 Try.prog N a0 a1 a2 a3 a4 y0j1_25 r0j1_22 r0j1_1 z1j1_15 z1j1_54 q1j1_22):=by
 refine Eq.trans (b:=(some (.more ([.a (.i .i64 (i64.wrap (y0j1_25+(1:Int))))],[.sl .own ((i64.wrap (a3+(1:Int))).toNat) q1j1_22 2,.row #[.int .u32 (IntKind.u32.wrap ((IntKind.u32.wrap ((1664525:Int)*r0j1_1))+(1013904223:Int)))] 29])))) (by kernel_rfl) ?_
 simp only [impl_DriftBottlei1_k1j1_1,mapS_cond,mapS_more,mapS_done,mapS_none,impl_DriftBottlei1_e0j1,impl_DriftBottlei1_x0j1]
theorem impl_DriftBottlei1_n1j1 (N:Nat) (a0:Array Value) (a1 a2 a3 a4:Int) (y0j1_25:Int) (r0j1_22:Array Value) (r0j1_1:Int):bindX (iterO (stepV Try.prog (impl_DriftBottle_X37 N) N (cAt (codeOf Try.f37) [1,0,1,1,1,0,1,0,0,1,1,0,0,1,1,1,1,1,0,0]) (pAt (mkPlan (codeOf Try.f37) [([25],[22,1]),([15,54],[22])]).1 [1,1,1,1,0,1,0,1,1,0,1,1,1,1,1,0]) [15,54] [22] (impl_DriftBottlei1_t1j1 a0 a1 a2 a3 a4 y0j1_25 r0j1_22 r0j1_1)) N ([.a (.i .i64 (0:Int)),.a (.i .i64 (0:Int))],[.sl .own ((i64.wrap (a3+(1:Int))).toNat) r0j1_22 2])) (fun e s=>(kBlock 2 (kBlock 1 (kSeq (veC Try.prog (impl_DriftBottle_X37 N) N (cAt (codeOf Try.f37) [1,0,1,1,1,0,1,0,0,1,1,1]) (pAt (mkPlan (codeOf Try.f37) [([25],[22,1]),([15,54],[22])]).1 [1,1,1,1,0,1,0,1,1,1]) (Stp LS (Exit×LS))) (kBody 24 [25] [22,1])))) e (left (writes (cAt (codeOf Try.f37) [1,0,1,1,1,0,1,0,0,1,1,0,0,1,1,1,1,1,0,0])) [15,54] [22] (impl_DriftBottlei1_t1j1 a0 a1 a2 a3 a4 y0j1_25 r0j1_22 r0j1_1) s))=mapS (impl_DriftBottlei1_e0j1 a3) (impl_DriftBottlei1_x0j1 a3) (nodeX (iterO (impl_DriftBottlei1_g1j1 Try.prog a0 a1 a2 a3 a4 y0j1_25 r0j1_22 r0j1_1) N ((0:Int),(0:Int),r0j1_22)) (st2 (fun x=>impl_DriftBottlei1_k1j1_0 Try.prog N a0 a1 a2 a3 a4 y0j1_25 r0j1_22 r0j1_1 x.1 x.2.1 x.2.2) (fun x=>impl_DriftBottlei1_k1j1_1 Try.prog N a0 a1 a2 a3 a4 y0j1_25 r0j1_22 r0j1_1 x.1 x.2.1 x.2.2))):=by
 rw [mapS_nodeX (impl_DriftBottlei1_e0j1 a3) (impl_DriftBottlei1_x0j1 a3)]
 first
 | (have h:=loop_node (α:=Stp LS (Exit×LS)) (impl_DriftBottlei1_e1j1 a3) (impl_DriftBottlei1_x1j1 a3) _ _ (impl_DriftBottlei1_s1j1 N a0 a1 a2 a3 a4 y0j1_25 r0j1_22 r0j1_1) N ((0:Int),(0:Int),r0j1_22);refine h _ _ ?_)
 | (have h:=loop_node (α:=Stp BS (Exit×BS)) (impl_DriftBottlei1_e1j1 a3) (impl_DriftBottlei1_x1j1 a3) _ _ (impl_DriftBottlei1_s1j1 N a0 a1 a2 a3 a4 y0j1_25 r0j1_22 r0j1_1) N ((0:Int),(0:Int),r0j1_22);refine h _ _ ?_)
 | (have h:=loop_node (α:=Stp LS ((Exit×LS) ⊕ (SV×Eff×Bool))) (impl_DriftBottlei1_e1j1 a3) (impl_DriftBottlei1_x1j1 a3) _ _ (impl_DriftBottlei1_s1j1 N a0 a1 a2 a3 a4 y0j1_25 r0j1_22 r0j1_1) N ((0:Int),(0:Int),r0j1_22);refine h _ _ ?_)
 intro x
 cases x with
 | more x=>exact impl_DriftBottlei1_k1j1_0_eq N a0 a1 a2 a3 a4 y0j1_25 r0j1_22 r0j1_1 x.1 x.2.1 x.2.2
 | done x=>exact impl_DriftBottlei1_k1j1_1_eq N a0 a1 a2 a3 a4 y0j1_25 r0j1_22 r0j1_1 x.1 x.2.1 x.2.2
noncomputable def impl_DriftBottlei1_g0j1 (P:Program) (N:Nat) (a0:Array Value) (a1 a2 a3 a4:Int):Int×Array Value×Int→Option (Stp (Int×Array Value×Int) (Int×Array Value×Int))
  | (y0j1_25,r0j1_22,r0j1_1)=>bif decide (y0j1_25<a3) then (bif (decide (0≤y0j1_25)&&decide (y0j1_25<(((i64.wrap (a3+(1:Int))).toNat):Int))) then (bif ((num r0j1_22 ((y0j1_25).toNat*1))==(-1:Int)) then (bif (decide (0≤(i64.wrap (y0j1_25+(1:Int))))&&decide ((i64.wrap (y0j1_25+(1:Int)))<(((i64.wrap (a3+(1:Int))).toNat):Int))) then (some (.more ((i64.wrap (y0j1_25+(1:Int))),(r0j1_22.setIfInBounds ((i64.wrap (y0j1_25+(1:Int))).toNat*1) (.int .i64 (num r0j1_22 ((y0j1_25).toNat*1)))),r0j1_1)))
          else (none))
        else (bif decide (0≤(num r0j1_22 ((y0j1_25).toNat*1))) then (bif (impl_isLand_v0 a0 (num r0j1_22 ((y0j1_25).toNat*1))) then (bif (decide (0≤(i64.wrap (y0j1_25+(1:Int))))&&decide ((i64.wrap (y0j1_25+(1:Int)))<(((i64.wrap (a3+(1:Int))).toNat):Int))) then (some (.more ((i64.wrap (y0j1_25+(1:Int))),(r0j1_22.setIfInBounds ((i64.wrap (y0j1_25+(1:Int))).toNat*1) (.int .i64 (num r0j1_22 ((y0j1_25).toNat*1)))),r0j1_1)))
              else (none))
            else (bif (decide (0≤(((i64.wrap (a2+y0j1_25))).tmod (2:Int)))&&decide ((((i64.wrap (a2+y0j1_25))).tmod (2:Int))<2)) then (bif (decide (0≤(num r0j1_22 ((y0j1_25).toNat*1)))&&decide ((num r0j1_22 ((y0j1_25).toNat*1))<36)) then (nodeX (iterO (impl_DriftBottlei1_g1j1 P a0 a1 a2 a3 a4 y0j1_25 r0j1_22 r0j1_1) N ((0:Int),(0:Int),r0j1_22)) (st2 (fun x=>impl_DriftBottlei1_k1j1_0 P N a0 a1 a2 a3 a4 y0j1_25 r0j1_22 r0j1_1 x.1 x.2.1 x.2.2) (fun x=>impl_DriftBottlei1_k1j1_1 P N a0 a1 a2 a3 a4 y0j1_25 r0j1_22 r0j1_1 x.1 x.2.1 x.2.2)))
                else (none))
              else (none)))
          else (none)))
      else (none))
    else (some (.done (y0j1_25,r0j1_22,r0j1_1)))
theorem impl_DriftBottlei1_s0j1 (N:Nat) (a0:Array Value) (a1 a2 a3 a4:Int):∀ t:Int×Array Value×Int,stepV Try.prog (impl_DriftBottle_X37 N) N (cAt (codeOf Try.f37) [1,0,1,1,1,0,1,0,0]) (pAt (mkPlan (codeOf Try.f37) [([25],[22,1]),([15,54],[22])]).1 [1,1,1,1,0,1,0]) [25] [22,1] (impl_DriftBottlei1_t0j1 a0 a1 a2 a3 a4) ((impl_DriftBottlei1_e0j1 a3) t)=mapS (impl_DriftBottlei1_e0j1 a3) (impl_DriftBottlei1_x0j1 a3) (impl_DriftBottlei1_g0j1 Try.prog N a0 a1 a2 a3 a4 t):=by
  rintro ⟨y0j1_25,r0j1_22,r0j1_1⟩
  refine Eq.trans (b:=(bif decide (y0j1_25<a3) then (bif (decide (0≤y0j1_25)&&decide (y0j1_25<(((i64.wrap (a3+(1:Int))).toNat):Int))) then (bif ((num r0j1_22 ((y0j1_25).toNat*1))==(-1:Int)) then (bif (decide (0≤(i64.wrap (y0j1_25+(1:Int))))&&decide ((i64.wrap (y0j1_25+(1:Int)))<(((i64.wrap (a3+(1:Int))).toNat):Int))) then (some (.more ([.a (.i .i64 (i64.wrap (y0j1_25+(1:Int))))],[.sl .own ((i64.wrap (a3+(1:Int))).toNat) (r0j1_22.setIfInBounds ((i64.wrap (y0j1_25+(1:Int))).toNat*1) (.int .i64 (num r0j1_22 ((y0j1_25).toNat*1)))) 2,.row #[.int .u32 (r0j1_1)] 29])))
          else (none))
        else (bif decide (0≤(num r0j1_22 ((y0j1_25).toNat*1))) then (bif (impl_isLand_v0 a0 (num r0j1_22 ((y0j1_25).toNat*1))) then (bif (decide (0≤(i64.wrap (y0j1_25+(1:Int))))&&decide ((i64.wrap (y0j1_25+(1:Int)))<(((i64.wrap (a3+(1:Int))).toNat):Int))) then (some (.more ([.a (.i .i64 (i64.wrap (y0j1_25+(1:Int))))],[.sl .own ((i64.wrap (a3+(1:Int))).toNat) (r0j1_22.setIfInBounds ((i64.wrap (y0j1_25+(1:Int))).toNat*1) (.int .i64 (num r0j1_22 ((y0j1_25).toNat*1)))) 2,.row #[.int .u32 (r0j1_1)] 29])))
              else (none))
            else (bif (decide (0≤(((i64.wrap (a2+y0j1_25))).tmod (2:Int)))&&decide ((((i64.wrap (a2+y0j1_25))).tmod (2:Int))<2)) then (bif (decide (0≤(num r0j1_22 ((y0j1_25).toNat*1)))&&decide ((num r0j1_22 ((y0j1_25).toNat*1))<36)) then (bindX (iterO (stepV Try.prog (impl_DriftBottle_X37 N) N (cAt (codeOf Try.f37) [1,0,1,1,1,0,1,0,0,1,1,0,0,1,1,1,1,1,0,0]) (pAt (mkPlan (codeOf Try.f37) [([25],[22,1]),([15,54],[22])]).1 [1,1,1,1,0,1,0,1,1,0,1,1,1,1,1,0]) [15,54] [22] (impl_DriftBottlei1_t1j1 a0 a1 a2 a3 a4 y0j1_25 r0j1_22 r0j1_1)) N ([.a (.i .i64 (0:Int)),.a (.i .i64 (0:Int))],[.sl .own ((i64.wrap (a3+(1:Int))).toNat) r0j1_22 2])) (fun e s=>(kBlock 2 (kBlock 1 (kSeq (veC Try.prog (impl_DriftBottle_X37 N) N (cAt (codeOf Try.f37) [1,0,1,1,1,0,1,0,0,1,1,1]) (pAt (mkPlan (codeOf Try.f37) [([25],[22,1]),([15,54],[22])]).1 [1,1,1,1,0,1,0,1,1,1]) (Stp LS (Exit×LS))) (kBody 24 [25] [22,1])))) e (left (writes (cAt (codeOf Try.f37) [1,0,1,1,1,0,1,0,0,1,1,0,0,1,1,1,1,1,0,0])) [15,54] [22] (impl_DriftBottlei1_t1j1 a0 a1 a2 a3 a4 y0j1_25 r0j1_22 r0j1_1) s)))
                else (none))
              else (none)))
          else (none)))
      else (none))
    else (some (.done ((.exit 0),([.a (.i .i64 (y0j1_25))],[.sl .own ((i64.wrap (a3+(1:Int))).toNat) r0j1_22 2,.row #[.int .u32 (r0j1_1)] 29])))))) (by kernel_rfl) ?_
  simp only [impl_DriftBottlei1_n1j1 N a0 a1 a2 a3 a4 y0j1_25 r0j1_22 r0j1_1,impl_DriftBottlei1_g0j1,mapS_cond,mapS_more,mapS_done,mapS_none,impl_DriftBottlei1_e0j1,impl_DriftBottlei1_x0j1]
noncomputable def impl_DriftBottlei1_k0j1_0 (P:Program) (N:Nat) (a0:Array Value) (a1 a2 a3 a4:Int) (z0j1_25:Int) (q0j1_22:Array Value) (q0j1_1:Int):Option (SV×Eff×Bool):=some (.t [.x,.i .u32 (q0j1_1),.i .i64 (0:Int)],.newS (some 0) ((i64.wrap (a3+(1:Int))).toNat) q0j1_22 2,true)
theorem impl_DriftBottlei1_k0j1_0_eq (N:Nat) (a0:Array Value) (a1 a2 a3 a4:Int) (z0j1_25:Int) (q0j1_22:Array Value) (q0j1_1:Int):(kBlock 0 (kSeq (veC Try.prog (impl_DriftBottle_X37 N) N (cAt (codeOf Try.f37) [1,0,1,1,1,1]) (pAt (mkPlan (codeOf Try.f37) [([25],[22,1]),([15,54],[22])]).1 [1,1,1,1,1]) (SV×Eff×Bool)) (kNoGoto (impl_DriftBottle_ki1 N a0 a1 a2 a3 a4)))) (.exit 0) (left (writes (cAt (codeOf Try.f37) [1,0,1,1,1,0,1,0,0])) [25] [22,1] (impl_DriftBottlei1_t0j1 a0 a1 a2 a3 a4) ([.a (.i .i64 (z0j1_25))],[.sl .own ((i64.wrap (a3+(1:Int))).toNat) q0j1_22 2,.row #[.int .u32 (q0j1_1)] 29]))=impl_DriftBottlei1_k0j1_0 Try.prog N a0 a1 a2 a3 a4 z0j1_25 q0j1_22 q0j1_1:=by
 refine Eq.trans (b:=(some (.t [.x,.i .u32 (q0j1_1),.i .i64 (0:Int)],.newS (some 0) ((i64.wrap (a3+(1:Int))).toNat) q0j1_22 2,true))) (by kernel_rfl) ?_
 rfl
theorem impl_DriftBottlei1_n0j1 (N:Nat) (a0:Array Value) (a1 a2 a3 a4:Int):bindX (iterO (stepV Try.prog (impl_DriftBottle_X37 N) N (cAt (codeOf Try.f37) [1,0,1,1,1,0,1,0,0]) (pAt (mkPlan (codeOf Try.f37) [([25],[22,1]),([15,54],[22])]).1 [1,1,1,1,0,1,0]) [25] [22,1] (impl_DriftBottlei1_t0j1 a0 a1 a2 a3 a4)) N ([.a (.i .i64 (0:Int))],[.sl .own ((i64.wrap (a3+(1:Int))).toNat) ((madeCells (zc Try.prog 2) ((i64.wrap (a3+(1:Int))).toNat*1)).setIfInBounds ((0:Int).toNat*1) (.int .i64 (a1))) 2,.row #[.int .u32 (a4)] 29])) (fun e s=>(kBlock 0 (kSeq (veC Try.prog (impl_DriftBottle_X37 N) N (cAt (codeOf Try.f37) [1,0,1,1,1,1]) (pAt (mkPlan (codeOf Try.f37) [([25],[22,1]),([15,54],[22])]).1 [1,1,1,1,1]) (SV×Eff×Bool)) (kNoGoto (impl_DriftBottle_ki1 N a0 a1 a2 a3 a4)))) e (left (writes (cAt (codeOf Try.f37) [1,0,1,1,1,0,1,0,0])) [25] [22,1] (impl_DriftBottlei1_t0j1 a0 a1 a2 a3 a4) s))=nodeX (iterO (impl_DriftBottlei1_g0j1 Try.prog N a0 a1 a2 a3 a4) N ((0:Int),((madeCells (zc Try.prog 2) ((i64.wrap (a3+(1:Int))).toNat*1)).setIfInBounds ((0:Int).toNat*1) (.int .i64 (a1))),a4)) (fun x=>impl_DriftBottlei1_k0j1_0 Try.prog N a0 a1 a2 a3 a4 x.1 x.2.1 x.2.2):=by
 refine loop_node (impl_DriftBottlei1_e0j1 a3) (impl_DriftBottlei1_x0j1 a3) _ _ (impl_DriftBottlei1_s0j1 N a0 a1 a2 a3 a4) N ((0:Int),((madeCells (zc Try.prog 2) ((i64.wrap (a3+(1:Int))).toNat*1)).setIfInBounds ((0:Int).toNat*1) (.int .i64 (a1))),a4) _ _ ?_
 intro x;exact impl_DriftBottlei1_k0j1_0_eq N a0 a1 a2 a3 a4 x.1 x.2.1 x.2.2
theorem impl_DriftBottle_ans (N:Nat) (a0:Array Value) (a1 a2 a3 a4:Int):ansV Try.prog (impl_DriftBottle_G N) N Try.f12 [] [.g a0 37,.i .i64 (a1),.i .i64 (a2),.i .i64 (a3),.i .u32 (a4)] []=(bif ((impl_bottleCode_v0 a0 a1 a2 a3) != (0:Int)) then (some (.t [.v (.slice none 0 0),.i .u32 (0:Int),.i .i64 (impl_bottleCode_v0 a0 a1 a2 a3)],.none,true))
  else (bif (decide (0≤(i64.wrap (a3+(1:Int))))&&((i64.wrap (a3+(1:Int)))==(i64.wrap (a3+(1:Int)))&&decide ((bytesOf Try.prog 2:Int)*(i64.wrap (a3+(1:Int)))≤281474976710656))) then (bif (decide (0≤(0:Int))&&decide ((0:Int)<(((i64.wrap (a3+(1:Int))).toNat):Int))) then (nodeX (iterO (impl_DriftBottlei1_g0j1 Try.prog N a0 a1 a2 a3 a4) N ((0:Int),((madeCells (zc Try.prog 2) ((i64.wrap (a3+(1:Int))).toNat*1)).setIfInBounds ((0:Int).toNat*1) (.int .i64 (a1))),a4)) (fun x=>impl_DriftBottlei1_k0j1_0 Try.prog N a0 a1 a2 a3 a4 x.1 x.2.1 x.2.2))
    else (none))
   else (none))):=by
 refine Eq.trans (b:=(bif ((impl_bottleCode_v0 a0 a1 a2 a3) != (0:Int)) then (some (.t [.v (.slice none 0 0),.i .u32 (0:Int),.i .i64 (impl_bottleCode_v0 a0 a1 a2 a3)],.none,true))
  else (bif (decide (0≤(i64.wrap (a3+(1:Int))))&&((i64.wrap (a3+(1:Int)))==(i64.wrap (a3+(1:Int)))&&decide ((bytesOf Try.prog 2:Int)*(i64.wrap (a3+(1:Int)))≤281474976710656))) then (bif (decide (0≤(0:Int))&&decide ((0:Int)<(((i64.wrap (a3+(1:Int))).toNat):Int))) then (bindX (iterO (stepV Try.prog (impl_DriftBottle_X37 N) N (cAt (codeOf Try.f37) [1,0,1,1,1,0,1,0,0]) (pAt (mkPlan (codeOf Try.f37) [([25],[22,1]),([15,54],[22])]).1 [1,1,1,1,0,1,0]) [25] [22,1] (impl_DriftBottlei1_t0j1 a0 a1 a2 a3 a4)) N ([.a (.i .i64 (0:Int))],[.sl .own ((i64.wrap (a3+(1:Int))).toNat) ((madeCells (zc Try.prog 2) ((i64.wrap (a3+(1:Int))).toNat*1)).setIfInBounds ((0:Int).toNat*1) (.int .i64 (a1))) 2,.row #[.int .u32 (a4)] 29])) (fun e s=>(kBlock 0 (kSeq (veC Try.prog (impl_DriftBottle_X37 N) N (cAt (codeOf Try.f37) [1,0,1,1,1,1]) (pAt (mkPlan (codeOf Try.f37) [([25],[22,1]),([15,54],[22])]).1 [1,1,1,1,1]) (SV×Eff×Bool)) (kNoGoto (impl_DriftBottle_ki1 N a0 a1 a2 a3 a4)))) e (left (writes (cAt (codeOf Try.f37) [1,0,1,1,1,0,1,0,0])) [25] [22,1] (impl_DriftBottlei1_t0j1 a0 a1 a2 a3 a4) s)))
    else (none))
   else (none)))) (by kernel_rfl) ?_
 simp only [impl_DriftBottlei1_n0j1 N a0 a1 a2 a3 a4]
theorem dbF_way (P':Program) {N:Nat} (hN:100<N) {S:Array Value} (hok:okS S=true) {c:Nat} (hc:c<36) (hi:inC (num S 0) (num S 1) c=true) (hl:bitI (num S 2) c=false) {b:Int} (hb:0≤b∧b≤1) {k h:Nat} (hk:k<h) (hh:h≤14) (s:Int) (u1 u4:Int) {r:Array Value} (hr:num r (k*1)=(c:Int)) :
  iterO (impl_DriftBottlei1_g1j1 P' S u1 b (h:Int) u4 (k:Int) r s) N ((0:Int),(0:Int),r) =
   some (.more (sumW (chR S (tdB b k) c) (wF (chR S (tdB b k) c) (nbS (nxS s))+1),((wF (chR S (tdB b k) c) (nbS (nxS s)):Nat):Int),r.setIfInBounds ((((k+1:Nat):Int)).toNat*1) (.int .i64 (gw S c (wF (chR S (tdB b k) c) (nbS (nxS s))))))):=by
 obtain ⟨ht,ht2⟩:=td_two hb (k:=k) (by omega)
 have hsum:=fit_sum hok ht hc hi hl
 have hn:=nb_range (nx_range s)
 obtain ⟨hf,hw⟩:=wF_is (n:=nbS (nxS s)) hsum hn.2
 have hled:=lead_gw (okS_dims hok) hc hi _ hw
 have e1:S.extract (3+(((i64.wrap (b+(k:Int))).tmod (2:Int)).toNat*180)+c*5) (3+(((i64.wrap (b+(k:Int))).tmod (2:Int)).toNat*180)+c*5+5)=chR S (tdB b k) c:=by
  rw [ht2,Int.toNat_natCast];rfl
 have enb:i64.wrap ((IntKind.u32.wrap ((IntKind.u32.wrap ((IntKind.u32.wrap ((1664525:Int)*s))+(1013904223:Int))).tdiv (65536:Int))).tmod (12:Int))=nbS (nxS s):=nb_impl (nx_range s)
 have hk1:i64.wrap ((k:Int)+1)=((k+1:Nat):Int):=by rw [IntWalk.i64_in _ (by omega)];omega
 have hh1:i64.wrap ((h:Int)+1)=((h+1:Nat):Int):=by rw [IntWalk.i64_in _ (by omega)];omega
 have hb1:(decide (0≤((k+1:Nat):Int))&&decide (((k+1:Nat):Int)<((h+1:Nat):Int)))=true:=by rw [decide_eq_true (by omega),decide_eq_true (by omega)];rfl
 have hs:∀ j:Nat,i64.wrap (sumW (chR S (tdB b k) c) j+i64.wrap (num (chR S (tdB b k) c) (j*1)))=sumW (chR S (tdB b k) c) (j+1):=fun j=>rfl
 have hit:=iter_find (g:=impl_DriftBottlei1_g1j1 P' S u1 b (h:Int) u4 (k:Int) r s) (fun j=>(sumW (chR S (tdB b k) c) j,(j:Int),r)) (fun j=>decide (sumW (chR S (tdB b k) c) (j+1) > nbS (nxS s))) 5 (N:=N) (by omega)
  (xd:=.done (sumW (chR S (tdB b k) c) 5,((5:Nat):Int),r)) (fun j=>.more (sumW (chR S (tdB b k) c) (j+1),(j:Int),r.setIfInBounds ((((k+1:Nat):Int)).toNat*1) (.int .i64 (leadI S (c:Int) j)))) (fun j hj hp=>by
   have h1:decide ((j:Int)<5)=true:=decide_eq_true (by omega)
   have h2:decide (0≤(j:Int))=true:=decide_eq_true (by omega)
   have h3:i64.wrap ((j:Int)+1)=((j+1:Nat):Int):=by rw [IntWalk.i64_in _ (by omega)];omega
   simp only [impl_DriftBottlei1_g1j1,h1,h2,h3,Bool.and_self,Int.toNat_natCast,hr,e1,enb,hs,hp,cond_true,cond_false]) (fun j hj hp=>by
   have h1:decide ((j:Int)<5)=true:=decide_eq_true (by omega)
   have h2:decide (0≤(j:Int))=true:=decide_eq_true (by omega)
   simp only [impl_DriftBottlei1_g1j1,h1,h2,Bool.and_self,Int.toNat_natCast,hr,e1,enb,hs,hp,hk1,hh1,hb1,cond_true]) (by
   have h1:decide (((5:Nat):Int)<5)=false:=by decide
   simp only [impl_DriftBottlei1_g1j1,h1,cond_false])
 rw [hf] at hit
 simp only [hled] at hit
 exact hit
theorem dbF_all (P':Program) {N:Nat} (hN:100<N) {S:Array Value} (hS:WT Try.prog 37 S) (hok:okS S=true) {c:Nat} (his:spec_l01Is_v0 (c:Int) S=true) (hc:c<36) {b:Int} (hb:0≤b∧b≤1) {h:Nat} (hh:h≤14) (s:Int) (hs:0≤s∧s<4294967296) (u1 u4:Int) :
  iterO (impl_DriftBottlei1_g0j1 P' N S u1 b (h:Int) u4) N ((0:Int),(madeCells (zc Try.prog 2) ((i64.wrap ((h:Int)+(1:Int))).toNat*1)).setIfInBounds ((0:Int).toNat*1) (.int .i64 (c:Int)),s) =
   some ((h:Int),arB S b ((c:Int),s) h,(rnB S b ((c:Int),s) h).2):=by
 have hin:inB S (c:Int):=.inr ⟨c,rfl,hc,by rw [← is_inC hS hc];exact his⟩
 have hrn:∀ k,k≤1000→_:=rnB_in hok hb (x:=((c:Int),s)) hin hs
 have hh1:i64.wrap ((h:Int)+1)=((h+1:Nat):Int):=by rw [IntWalk.i64_in _ (by omega)];omega
 have hl:=iter_all (g:=impl_DriftBottlei1_g0j1 P' N S u1 b (h:Int) u4) (fun k=>((k:Int),ptB S b ((c:Int),s) (h+1) k,(rnB S b ((c:Int),s) k).2)) (m:=h)
  (x:=((h:Int),ptB S b ((c:Int),s) (h+1) h,(rnB S b ((c:Int),s) h).2)) (N:=N) (fun k hk=> ?_) ?_ (by omega)
 ·rw [hh1,Int.toNat_natCast,show (.int .i64 (c:Int):Value) = .int .i64 (((c:Int),s):Int×Int).1 from rfl,ptB_zero (S:=S) (b:=b) (x:=((c:Int),s)) (by omega),← ptB_all]
  exact hl
 ·obtain ⟨hin,hsd⟩:=hrn k (by omega)
  have hnext:rnB S b ((c:Int),s) (k+1)=stB S (tdB b k) (rnB S b ((c:Int),s) k):=rfl
  have hnum:=ptB_num (S:=S) (b:=b) (x:=((c:Int),s)) (m:=h+1) (j:=k) (i:=k) (Nat.le_refl _) (by omega)
  have harr:=fun v hv=>ptB_next (S:=S) (b:=b) (x:=((c:Int),s)) (m:=h+1) (j:=k) (by omega) (v:=v) hv
  rw [hnext] at harr
  simp only [hnext]
  generalize rnB S b ((c:Int),s) k=y at *
  generalize ptB S b ((c:Int),s) (h+1) (k+1)=D1 at *
  generalize ptB S b ((c:Int),s) (h+1) k=D at *
  obtain ⟨yc,ys⟩:=y
  obtain ⟨ht,ht2⟩:=td_two hb (k:=k) (by omega)
  have h1:decide ((k:Int)<(h:Int))=true:=decide_eq_true (by omega)
  have h2:i64.wrap ((k:Int)+1)=((k+1:Nat):Int):=by rw [IntWalk.i64_in _ (by omega)];omega
  have h3:decide (0≤(k:Int))=true:=decide_eq_true (by omega)
  have h3':decide ((k:Int)<((h+1:Nat):Int))=true:=decide_eq_true (by omega)
  have hb1:(decide (0≤((k+1:Nat):Int))&&decide (((k+1:Nat):Int)<((h+1:Nat):Int)))=true:=by rw [decide_eq_true (by omega),decide_eq_true (by omega)];rfl
  rcases hin with hm | ⟨q,hq,hq36,hqi⟩
  ·simp only at hm
   subst hm
   have h4:((-1:Int)==(-1:Int))=true:=rfl
   have h5:stB S (tdB b k) ((-1:Int),ys)=((-1:Int),ys):=rfl
   rw [h5] at harr⊢
   have h6:=harr (-1) rfl
   simp only [Int.toNat_natCast] at hnum h6
   simp only [impl_DriftBottlei1_g0j1,h1,h2,h3,h3',h4,hh1,hb1,Bool.and_self,Int.toNat_natCast,hnum,h6,cond_true]
  ·simp only at hq
   subst hq
   have h4:((q:Int)==(-1:Int))=false:=beq_eq_false_iff_ne.2 (by omega)
   have h5:decide (0≤(q:Int))=true:=decide_eq_true (by omega)
   have h5':decide ((q:Int)<36)=true:=decide_eq_true (by omega)
   have h7:=isLand_bit (S:=S) (k:=q) hq36
   cases hbit:bitI (num S 2) q with
   | true=>
    rw [hbit] at h7
    have h8:stB S (tdB b k) ((q:Int),ys)=((q:Int),ys):=by
     unfold stB;simp only [h4,cond_false,Int.toNat_natCast,hbit,cond_true]
    rw [h8] at harr⊢
    have h6:=harr (q:Int) rfl
    simp only [Int.toNat_natCast] at hnum h6
    simp only [impl_DriftBottlei1_g0j1,h1,h2,h3,h3',h4,h5,h7,hh1,hb1,Bool.and_self,Int.toNat_natCast,hnum,h6,cond_true,cond_false]
   | false=>
    rw [hbit] at h7
    have h8:stB S (tdB b k) ((q:Int),ys)=(gw S q (wF (chR S (tdB b k) q) (nbS (nxS ys))),nxS ys):=by
     unfold stB;simp only [h4,cond_false,Int.toNat_natCast,hbit]
    rw [h8] at harr⊢
    have h9:(decide (0≤(i64.wrap (b+(k:Int))).tmod (2:Int))&&decide ((i64.wrap (b+(k:Int))).tmod (2:Int)<2))=true:=by rw [ht2,decide_eq_true (by omega),decide_eq_true (by omega)];rfl
    have hw:=dbF_way P' hN hok hq36 hqi hbit hb hk hh ys u1 u4 (r:=D) hnum
    have h6:=harr _ rfl
    simp only [impl_DriftBottlei1_g0j1,h1,h3,h3',h4,h5,h5',h7,h9,hh1,Bool.and_self,Int.toNat_natCast,hnum,cond_true,cond_false]
    rw [hw]
    simp only [nodeX,st2,impl_DriftBottlei1_k1j1_0,h2,h6]
    rfl
 ·have h1:decide ((h:Int)<(h:Int))=false:=decide_eq_false (by omega)
  simp only [impl_DriftBottlei1_g0j1,h1,cond_false]
theorem impl_DriftBottle_main0 (a0:Array Value) (a1 a2 a3 a4:Int) (h_a0:WT Try.prog 37 a0) (h_a1:i64.min≤a1∧a1≤i64.max) (h_a2:i64.min≤a2∧a2≤i64.max) (h_a3:i64.min≤a3∧a3≤i64.max) (h_a4:IntKind.u32.min≤a4∧a4≤IntKind.u32.max) (hc0:(((impl_bottleCode_v0 a0 a1 a2 a3) != (0:Int)))=false) (hg:(((okS a0)&&((spec_l01Is_v0 a1 a0)&&((decide (0≤a2)&&decide (a2≤1))&&(decide (0≤a3)&&decide (a3≤14))))))=true):ansV Try.prog (impl_DriftBottle_G 1000) 1000 Try.f12 [] [.g a0 37,.i .i64 (a1),.i .i64 (a2),.i .i64 (a3),.i .u32 (a4)] []=some (.t [.x,.i .u32 (rnB a0 a2 (a1,a4) a3.toNat).2,.i .i64 (0:Int)],.newS (some 0) (a3.toNat+1) (arB a0 a2 (a1,a4) a3.toNat) 2,true):=by
 simp only [Bool.and_eq_true,decide_eq_true_eq] at hg
 obtain ⟨hok,his,hb,h0,h14⟩:=hg
 obtain ⟨h,rfl⟩:=Int.eq_ofNat_of_zero_le h0
 obtain ⟨hc0',hc35⟩:=is_range his
 obtain ⟨c,rfl⟩:=Int.eq_ofNat_of_zero_le hc0'
 have hs:0≤a4∧a4<4294967296:=by have q:0≤a4∧a4≤4294967295:=h_a4;omega
 have hl:=dbF_all Try.prog (N:=1000) (by omega) h_a0 hok his (by omega) hb (h:=h) (by omega) a4 hs (c:Int) a4
 have hh1:i64.wrap ((h:Int)+1)=((h+1:Nat):Int):=by rw [IntWalk.i64_in _ (by omega)];omega
 refine (impl_DriftBottle_ans 1000 a0 (c:Int) a2 (h:Int) a4).trans ?_
 rw [hc0,hl]
 rw [hh1,bytes_i64,Int.toNat_natCast,Int.toNat_natCast,decide_eq_true (show (0:Int)≤((h+1:Nat):Int) by omega),decide_eq_true (show ((8:Nat):Int)*((h+1:Nat):Int)≤281474976710656 by omega),decide_eq_true (show (0:Int)<((h+1:Nat):Int) by omega),beq_self_eq_true]
 simp only [nodeX,impl_DriftBottlei1_k0j1_0,hh1,Int.toNat_natCast]
 rfl
theorem impl_DriftBottle_main1 (a0:Array Value) (a1 a2 a3 a4:Int) (h_a0:WT Try.prog 37 a0) (h_a1:i64.min≤a1∧a1≤i64.max) (h_a2:i64.min≤a2∧a2≤i64.max) (h_a3:i64.min≤a3∧a3≤i64.max) (h_a4:IntKind.u32.min≤a4∧a4≤IntKind.u32.max) (hc0:(((impl_bottleCode_v0 a0 a1 a2 a3) != (0:Int)))=true) (hg:(true)=true):ansV Try.prog (impl_DriftBottle_G 1000) 1000 Try.f12 [] [.g a0 37,.i .i64 (a1),.i .i64 (a2),.i .i64 (a3),.i .u32 (a4)] []=some (.t [.v (.slice none 0 0),.i .u32 (0:Int),.i .i64 (impl_bottleCode_v0 a0 a1 a2 a3)],.none,true):=by
 refine (impl_DriftBottle_ans 1000 a0 a1 a2 a3 a4).trans ?_
 rw [hc0]
 rfl
noncomputable def impl_DriftBottle_scon:SCon:=fun args h=>match args,h with
 | [.g a0 37,.i .i64 a1,.i .i64 a2,.i .i64 a3,.i .u32 a4],[]=>.two (((impl_bottleCode_v0 a0 a1 a2 a3) != (0:Int))) (.one (some (.t [.x,.i .u32 (0:Int),.i .i64 (impl_bottleCode_v0 a0 a1 a2 a3)],.newS (some 0) 0 (#[]:Array Value) 2,true))) (.one (some (.t [.x,.i .u32 (rnB a0 a2 (a1,a4) a3.toNat).2,.i .i64 (0:Int)],.newS (some 0) (a3.toNat+1) (arB a0 a2 (a1,a4) a3.toNat) 2,((okS a0)&&((spec_l01Is_v0 a1 a0)&&((decide (0≤a2)&&decide (a2≤1))&&(decide (0≤a3)&&decide (a3≤14))))))))
 | _,_=>.one none
theorem impl_DriftBottle_enter:EntX Try.prog 12:=entX_ok (fn:=Try.f12) (by kernel_rfl) (by kernel_rfl) (by kernel_rfl)
theorem impl_DriftBottle_sok:ConOkX mn Try.prog 12 (fun args h=>wayRes (impl_DriftBottle_scon args h)):=by
 intro ρ h w args vals r e hn hr hA hH
 dsimp only at hr
 unfold impl_DriftBottle_scon at hr
 split at hr
 ·rename_i a0 a1 a2 a3 a4
  simp only [wayRes] at hr
  cases hc0:(((impl_bottleCode_v0 a0 a1 a2 a3) != (0:Int)))
  ·rw [hc0] at hr
   simp only [wayRes,cond_true,cond_false] at hr
   obtain ⟨rfl,hg⟩:=Prod.mk.inj (Option.some.inj hr)
   obtain ⟨rfl,hg2⟩:=Prod.mk.inj hg
   exact ((ansX_ok (N:=1000) (by kernel_rfl) (impl_DriftBottle_G_ok 1000) (fn:=Try.f12) (by kernel_rfl) (by kernel_rfl) [])) ρ _ w _ vals _ _ hn ((impl_DriftBottle_main0 a0 a1 a2 a3 a4 (hA.wt 0 rfl) (hA.rng 1 rfl) (hA.rng 2 rfl) (hA.rng 3 rfl) (hA.rng 4 rfl) hc0 hg2)) hA hH
  ·rw [hc0] at hr
   simp only [wayRes,cond_true,cond_false] at hr
   obtain ⟨rfl,hg⟩:=Prod.mk.inj (Option.some.inj hr)
   obtain ⟨rfl,hg2⟩:=Prod.mk.inj hg
   exact (ConOkX.nil (ansX_ok (N:=1000) (by kernel_rfl) (impl_DriftBottle_G_ok 1000) (fn:=Try.f12) (by kernel_rfl) (by kernel_rfl) []) 0 2) ρ _ w _ vals _ _ hn (congrArg (nilN 0 2) (impl_DriftBottle_main1 a0 a1 a2 a3 a4 (hA.wt 0 rfl) (hA.rng 1 rfl) (hA.rng 2 rfl) (hA.rng 3 rfl) (hA.rng 4 rfl) hc0 hg2)) hA hH
 ·simp only [wayRes] at hr
  cases hr
end
end Go.Proofs.Ytnhilgpdgicgfaa
