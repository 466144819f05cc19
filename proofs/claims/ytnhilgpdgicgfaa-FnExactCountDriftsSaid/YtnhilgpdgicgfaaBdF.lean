/- Bottles are counted: what is done. -/
import Derived.Test.YtnhilgpdgicgfaaProg
import Derived.Test.YtnhilgpdgicgfaaBdE
namespace Go.Proofs.Ytnhilgpdgicgfaa
open Go.ChangeShapes Go.WideShapes Go.ChangeAt Go.RowKit Ve Vc
open IntKind (i64)
set_option linter.unusedVariables false
set_option linter.unusedSimpArgs false
set_option maxRecDepth 100000
noncomputable section
variable {mn:Md}
noncomputable def impl_CountDrifts_X71 (N:Nat):Cons:=withX [] (mkΓ [])
theorem impl_CountDrifts_X71_ok (N:Nat):ConsOkX mn Try.prog (IConOkX mn Try.prog) (impl_CountDrifts_X71 N):=(withX_nil mkΓ_nilX)
noncomputable def impl_CountDrifts_X37 (N:Nat):Cons:=withX [(71,inlT Try.prog (impl_CountDrifts_X71 N) N Try.f71 [(45,[])])] (mkΓ [(68,con impl_isLand_con),(69,con impl_tideIn_con),(70,con impl_leadsTo_con)])
theorem impl_CountDrifts_X37_ok (N:Nat):ConsOkX mn Try.prog (IConOkX mn Try.prog) (impl_CountDrifts_X37 N):=(withX_c (inlT_ok (by kernel_rfl) (impl_CountDrifts_X71_ok N) (fn:=Try.f71) (by kernel_rfl) (by kernel_rfl) _) impl_drawing_1_enter (withX_nil (mkΓ_consX (con_okX impl_isLand_ok) impl_isLand_enter (mkΓ_consX (con_okX impl_tideIn_ok) impl_tideIn_enter (mkΓ_consX (con_okX impl_leadsTo_ok) impl_leadsTo_enter mkΓ_nilX)))))
noncomputable def impl_CountDrifts_G (N:Nat):Cons:=withX [(37,inlT Try.prog (impl_CountDrifts_X37 N) N Try.f37 [(28,[([25],[32,1]),([15,54],[32])])])] (mkΓ [(36,con impl_bottleCode_con),(38,impl_drawing_rc),(40,con impl_hasBottles_con)])
theorem impl_CountDrifts_G_ok (N:Nat):ConsOkX mn Try.prog (IConOkX mn Try.prog) (impl_CountDrifts_G N):=(withX_c (inlT_ok (by kernel_rfl) (impl_CountDrifts_X37_ok N) (fn:=Try.f37) (by kernel_rfl) (by kernel_rfl) _) impl_follow_enter (withX_nil (mkΓ_consX (con_okX impl_bottleCode_ok) impl_bottleCode_enter (mkΓ_consX (conNC_ok (inlX_ok (by kernel_rfl) mkΓ_nilX (fn:=Try.f38) (by kernel_rfl) (by kernel_rfl) [])) impl_drawing_enter (mkΓ_consX (con_okX impl_hasBottles_ok) impl_hasBottles_enter mkΓ_nilX)))))
noncomputable def impl_CountDrifts_ki1 (N:Nat) (a0:Array Value) (a1 a2 a3 a4 a5:Int) (y0_18:Int) (y0_36:Int) (r0_1:Int) (r0_15:Array Value):Exit→St→Option (Stp LS (Exit×LS)):=(finI Try.prog [.row a0 37,.row #[.int .u32 (r0_1)] 29,.row (zc Try.prog 42) 42,.no,.no,.no,.no,.no,.no,.no,.no,.no,.no,.no,.no,.row r0_15 42,.one (.w 1) 69,.no,.no,.no,.no,.no,.no,.no,.no,.no,.no,.no] [.tmp 10] (retI Try.prog (impl_CountDrifts_G N) (opsAt (cAt (codeOf Try.f17) [1,1,1,1,1,1,0,1,0,0,1,1,0,0,0])) 18 5 (⟨.a (.g a0 37) :: .a (.i .i64 (a1)) :: .a (.i .i64 (a2)) :: .a (.i .i64 (a3)) :: .a (.i .u32 (a4)) :: .a (.i .i64 (a5)) :: .a (.w 0)::us 3 (.a (.w 1) :: .a (.u) :: .a (.w 2) :: .a (.i .i64 (0:Int)) :: .a (.i .u32 (0:Int)) :: .a (.i .i64 (0:Int)) :: .a (.i .i64 (impl_bottleCode_v0 a0 a1 a2 a3)) :: .a (.w 15) :: .a (.i .i64 (y0_18)) :: .a (.c 71 [16]) :: .a (.x) :: .a (.g a0 37) :: .a (.i .i64 (a1)) :: .a (.i .i64 (a2)) :: .a (.i .i64 (a3)) :: .a (.i .i64 (impl_bottleCode_v0 a0 a1 a2 a3)) :: .a (.i .i64 (impl_bottleCode_v0 a0 a1 a2 a3)) :: .a (.b (((impl_bottleCode_v0 a0 a1 a2 a3) != (0:Int)))) :: .a (.u) :: .a (.u) :: .a (.i .i64 (a5)) :: .a (.b ((impl_hasBottles_v0 a5 (2000:Int)))) :: .a (.b ((!((impl_hasBottles_v0 a5 (2000:Int)))))) :: .a (.u) :: .a (.c 71 [16]) :: .a (.i .i64 (a5)) :: .a (.i .i64 (y0_36)) :: .a (.b (decide (y0_36<a5))) :: .a (.g a0 37) :: .a (.i .i64 (a1)) :: .a (.i .i64 (a2)) :: .a (.i .i64 (a3)) :: .a (.c 71 [16])::xs 14 (us 3 ([]))),[.row a0 37,.row #[.int .u32 (r0_1)] 29,.row (zc Try.prog 42) 42,.no,.no,.no,.no,.no,.no,.no,.no,.no,.no,.no,.no,.row r0_15 42,.one (.w 1) 69,.no,.no,.no,.no,.no,.no,.no,.no,.no,.no,.no],[1,15]⟩:St) (some 43) ((kSeq (veC Try.prog (impl_CountDrifts_G N) N (cAt (codeOf Try.f17) [1,1,1,1,1,1,0,1,0,0,1,1,0,0,1]) (pAt (mkPlan (codeOf Try.f17) [([18,36],[1,15])]).1 [1,1,1,1,1,1,0,1,0,1,1,0,1]) (Stp LS (Exit×LS))) (kBlock 1 (kSeq (veC Try.prog (impl_CountDrifts_G N) N (cAt (codeOf Try.f17) [1,1,1,1,1,1,0,1,0,0,1,1,1]) (pAt (mkPlan (codeOf Try.f17) [([18,36],[1,15])]).1 [1,1,1,1,1,1,0,1,0,1,1,1]) (Stp LS (Exit×LS))) (kBody 18 [18,36] [1,15])))) .normal)))
noncomputable def impl_CountDriftsi1_t1j1 (a0:Array Value) (a1 a2 a3 a4 a5:Int) (y0_18:Int) (y0_36:Int) (r0_1:Int) (r0_15:Array Value) (y0j1_25:Int) (r0j1_32:Array Value) (r0j1_1:Int):St:=(⟨.a (.g a0 37) :: .a (.i .i64 (a1)) :: .a (.i .i64 (a2)) :: .a (.i .i64 (a3)) :: .a (.c 71 [16]) :: .a (.w 28)::us 4 (.a (.v (.slice none 0 0)) :: .a (.l 32) :: .a (.i .i64 (y0j1_25)) :: .a (.i .i64 (num r0j1_32 ((y0j1_25).toNat*1))) :: .a (.i .i64 (i64.wrap (((IntKind.u32.wrap (((IntKind.u32.wrap ((IntKind.u32.wrap ((1664525:Int)*r0j1_1))+(1013904223:Int)))).tdiv (65536:Int)))).tmod (12:Int)))) :: .a (.i .i64 (0:Int)) :: .a (.x) :: .a (.x) :: .a (.i .i64 (a3)) :: .a (.i .i64 (i64.wrap (a3+(1:Int)))) :: .a (.l 32) :: .a (.l 32) :: .a (.i .i64 (a1)) :: .a (.q 32 (((0:Int).toNat*1)) 2) :: .a (.i .i64 (a3)) :: .a (.i .i64 (y0j1_25)) :: .a (.b (decide (y0j1_25<a3))) :: .a (.i .i64 (y0j1_25)) :: .a (.l 32) :: .a (.i .i64 (y0j1_25)) :: .a (.q 32 (((y0j1_25).toNat*1)) 2) :: .a (.i .i64 (num r0j1_32 ((y0j1_25).toNat*1))) :: .a (.i .i64 (num r0j1_32 ((y0j1_25).toNat*1))) :: .a (.b (((num r0j1_32 ((y0j1_25).toNat*1))==(-1:Int)))) :: .a (.b (false)) :: .a (.g a0 37) :: .a (.i .i64 (num r0j1_32 ((y0j1_25).toNat*1))) :: .a (.b ((impl_isLand_v0 a0 (num r0j1_32 ((y0j1_25).toNat*1))))) :: .a (.b ((impl_isLand_v0 a0 (num r0j1_32 ((y0j1_25).toNat*1)))))::xs 5 (.a (.c 71 [16]) :: .a (.i .i64 (i64.wrap (((IntKind.u32.wrap (((IntKind.u32.wrap ((IntKind.u32.wrap ((1664525:Int)*r0j1_1))+(1013904223:Int)))).tdiv (65536:Int)))).tmod (12:Int)))) :: .a (.i .i64 (a2)) :: .a (.i .i64 (y0j1_25)) :: .a (.i .i64 (((i64.wrap (a2+y0j1_25))).tmod (2:Int))) :: .a (.i .i64 (num r0j1_32 ((y0j1_25).toNat*1))) :: .a (.p 28 (3) 35) :: .a (.p 28 ((3+((((i64.wrap (a2+y0j1_25))).tmod (2:Int)).toNat*180))) 34) :: .a (.p 28 (((3+((((i64.wrap (a2+y0j1_25))).tmod (2:Int)).toNat*180))+((num r0j1_32 ((y0j1_25).toNat*1)).toNat*5))) 33) :: .a (.g (a0.extract ((3+((((i64.wrap (a2+y0j1_25))).tmod (2:Int)).toNat*180))+((num r0j1_32 ((y0j1_25).toNat*1)).toNat*5)) (((3+((((i64.wrap (a2+y0j1_25))).tmod (2:Int)).toNat*180))+((num r0j1_32 ((y0j1_25).toNat*1)).toNat*5))+5)) 33) :: .a (.i .i64 (0:Int))::xs 20 (.a (.u)::[]))),[.row a0 37,.row #[.int .u32 (IntKind.u32.wrap ((IntKind.u32.wrap ((1664525:Int)*r0j1_1))+(1013904223:Int)))] 29,.row (zc Try.prog 42) 42,.no,.no,.no,.no,.no,.no,.no,.no,.no,.no,.no,.no,.row r0_15 42,.one (.w 1) 69,.no,.no,.no,.no,.no,.no,.no,.no,.no,.no,.no,.row a0 37,.no,.no,.no,.sl .own ((i64.wrap (a3+(1:Int))).toNat) r0j1_32 2,.no,.no,.no,.no,.no,.no,.no,.no,.no,.no,.no,.no,.no,.no,.no,.no,.no,.no,.no,.no,.no,.no,.no,.no,.no,.no,.no,.no,.no],[1,32,1]⟩:St)
noncomputable def impl_CountDriftsi1_e1j1 (a3:Int):Int×Int×Array Value→LS
 | (y1j1_15,y1j1_54,r1j1_32)=>([.a (.i .i64 (y1j1_15)),.a (.i .i64 (y1j1_54))],[.sl .own ((i64.wrap (a3+(1:Int))).toNat) r1j1_32 2])
noncomputable def impl_CountDriftsi1_x1j1 (a3:Int):(Stp (Int×Int×Array Value) (Int×Int×Array Value))→Exit×LS
 | .more t=>((.exit 1),(impl_CountDriftsi1_e1j1 a3) t)
 | .done t=>((.exit 2),(impl_CountDriftsi1_e1j1 a3) t)
noncomputable def impl_CountDriftsi1_g1j1 (P : Program) (a0 : Array Value) (a1 a2 a3 a4 a5 : Int) (y0_18 : Int) (y0_36 : Int) (r0_1 : Int) (r0_15 : Array Value) (y0j1_25 : Int) (r0j1_32 : Array Value) (r0j1_1 : Int) : Int × Int × Array Value → Option (Stp (Int × Int × Array Value) (Stp (Int × Int × Array Value) (Int × Int × Array Value)))
 | (y1j1_15, y1j1_54, r1j1_32) => bif decide (y1j1_54 < (5 : Int)) then (bif (decide (0 ≤ y1j1_54) && decide (y1j1_54 < 5)) then (bif decide ((i64.wrap (y1j1_15 + (i64.wrap (num (a0.extract ((3 + ((((i64.wrap (a2 + y0j1_25))).tmod (2 : Int)).toNat * 180)) + ((num r0j1_32 ((y0j1_25).toNat * 1)).toNat * 5)) (((3 + ((((i64.wrap (a2 + y0j1_25))).tmod (2 : Int)).toNat * 180)) + ((num r0j1_32 ((y0j1_25).toNat * 1)).toNat * 5)) + 5)) ((y1j1_54).toNat * 1))))) > (i64.wrap (((IntKind.u32.wrap (((IntKind.u32.wrap ((IntKind.u32.wrap ((1664525 : Int) * r0j1_1)) + (1013904223 : Int)))).tdiv (65536 : Int)))).tmod (12 : Int)))) then (bif (decide (0 ≤ y1j1_54) && decide (y1j1_54 < 5)) then (bif (decide (0 ≤ (i64.wrap (y0j1_25 + (1 : Int)))) && decide ((i64.wrap (y0j1_25 + (1 : Int))) < (((i64.wrap (a3 + (1 : Int))).toNat) : Int))) then (some (.done (.more ((i64.wrap (y1j1_15 + (i64.wrap (num (a0.extract ((3 + ((((i64.wrap (a2 + y0j1_25))).tmod (2 : Int)).toNat * 180)) + ((num r0j1_32 ((y0j1_25).toNat * 1)).toNat * 5)) (((3 + ((((i64.wrap (a2 + y0j1_25))).tmod (2 : Int)).toNat * 180)) + ((num r0j1_32 ((y0j1_25).toNat * 1)).toNat * 5)) + 5)) ((y1j1_54).toNat * 1))))), y1j1_54, (r1j1_32.setIfInBounds ((i64.wrap (y0j1_25 + (1 : Int))).toNat * 1) (.int .i64 (leadI a0 (num r0j1_32 ((y0j1_25).toNat * 1)) y1j1_54.toNat)))))))
      else (none))
     else (none))
    else (some (.more ((i64.wrap (y1j1_15 + (i64.wrap (num (a0.extract ((3 + ((((i64.wrap (a2 + y0j1_25))).tmod (2 : Int)).toNat * 180)) + ((num r0j1_32 ((y0j1_25).toNat * 1)).toNat * 5)) (((3 + ((((i64.wrap (a2 + y0j1_25))).tmod (2 : Int)).toNat * 180)) + ((num r0j1_32 ((y0j1_25).toNat * 1)).toNat * 5)) + 5)) ((y1j1_54).toNat * 1))))), (i64.wrap (y1j1_54 + (1 : Int))), r1j1_32))))
   else (none))
  else (some (.done (.done (y1j1_15, y1j1_54, r1j1_32))))
theorem impl_CountDriftsi1_s1j1 (N:Nat) (a0:Array Value) (a1 a2 a3 a4 a5:Int) (y0_18:Int) (y0_36:Int) (r0_1:Int) (r0_15:Array Value) (y0j1_25:Int) (r0j1_32:Array Value) (r0j1_1:Int):∀ t:Int×Int×Array Value,stepV Try.prog (impl_CountDrifts_X37 N) N (cAt (codeOf Try.f37) [1,0,1,1,1,0,1,0,0,1,1,0,0,1,1,1,1,1,0,0]) (pAt (mkPlan (codeOf Try.f37) [([25],[32,1]),([15,54],[32])]).1 [1,1,1,1,0,1,0,1,1,0,1,1,1,1,1,0]) [15,54] [32] (impl_CountDriftsi1_t1j1 a0 a1 a2 a3 a4 a5 y0_18 y0_36 r0_1 r0_15 y0j1_25 r0j1_32 r0j1_1) ((impl_CountDriftsi1_e1j1 a3) t)=mapS (impl_CountDriftsi1_e1j1 a3) (impl_CountDriftsi1_x1j1 a3) (impl_CountDriftsi1_g1j1 Try.prog a0 a1 a2 a3 a4 a5 y0_18 y0_36 r0_1 r0_15 y0j1_25 r0j1_32 r0j1_1 t):=by
 rintro ⟨y1j1_15,y1j1_54,r1j1_32⟩
 refine Eq.trans (b:=(bif decide (y1j1_54<(5:Int)) then (bif (decide (0≤y1j1_54)&&decide (y1j1_54<5)) then (bif decide ((i64.wrap (y1j1_15+(i64.wrap (num (a0.extract ((3+((((i64.wrap (a2+y0j1_25))).tmod (2:Int)).toNat*180))+((num r0j1_32 ((y0j1_25).toNat*1)).toNat*5)) (((3+((((i64.wrap (a2+y0j1_25))).tmod (2:Int)).toNat*180))+((num r0j1_32 ((y0j1_25).toNat*1)).toNat*5))+5)) ((y1j1_54).toNat*1))))) > (i64.wrap (((IntKind.u32.wrap (((IntKind.u32.wrap ((IntKind.u32.wrap ((1664525:Int)*r0j1_1))+(1013904223:Int)))).tdiv (65536:Int)))).tmod (12:Int)))) then (bif (decide (0≤y1j1_54)&&decide (y1j1_54<5)) then (bif (decide (0≤(i64.wrap (y0j1_25+(1:Int))))&&decide ((i64.wrap (y0j1_25+(1:Int)))<(((i64.wrap (a3+(1:Int))).toNat):Int))) then (some (.done ((.exit 1),([.a (.i .i64 (i64.wrap (y1j1_15+(i64.wrap (num (a0.extract ((3+((((i64.wrap (a2+y0j1_25))).tmod (2:Int)).toNat*180))+((num r0j1_32 ((y0j1_25).toNat*1)).toNat*5)) (((3+((((i64.wrap (a2+y0j1_25))).tmod (2:Int)).toNat*180))+((num r0j1_32 ((y0j1_25).toNat*1)).toNat*5))+5)) ((y1j1_54).toNat*1)))))),.a (.i .i64 (y1j1_54))],[.sl .own ((i64.wrap (a3+(1:Int))).toNat) (r1j1_32.setIfInBounds ((i64.wrap (y0j1_25+(1:Int))).toNat*1) (.int .i64 (leadI a0 (num r0j1_32 ((y0j1_25).toNat*1)) y1j1_54.toNat))) 2]))))
      else (none))
     else (none))
    else (some (.more ([.a (.i .i64 (i64.wrap (y1j1_15+(i64.wrap (num (a0.extract ((3+((((i64.wrap (a2+y0j1_25))).tmod (2:Int)).toNat*180))+((num r0j1_32 ((y0j1_25).toNat*1)).toNat*5)) (((3+((((i64.wrap (a2+y0j1_25))).tmod (2:Int)).toNat*180))+((num r0j1_32 ((y0j1_25).toNat*1)).toNat*5))+5)) ((y1j1_54).toNat*1)))))),.a (.i .i64 (i64.wrap (y1j1_54+(1:Int))))],[.sl .own ((i64.wrap (a3+(1:Int))).toNat) r1j1_32 2]))))
   else (none))
  else (some (.done ((.exit 2),([.a (.i .i64 (y1j1_15)),.a (.i .i64 (y1j1_54))],[.sl .own ((i64.wrap (a3+(1:Int))).toNat) r1j1_32 2])))))) (by kernel_rfl) ?_
 simp only [impl_CountDriftsi1_g1j1,mapS_cond,mapS_more,mapS_done,mapS_none,impl_CountDriftsi1_e1j1,impl_CountDriftsi1_x1j1]
noncomputable def impl_CountDriftsi1_t0j1 (a0:Array Value) (a1 a2 a3 a4 a5:Int) (y0_18:Int) (y0_36:Int) (r0_1:Int) (r0_15:Array Value):St:=(⟨.a (.g a0 37) :: .a (.i .i64 (a1)) :: .a (.i .i64 (a2)) :: .a (.i .i64 (a3)) :: .a (.c 71 [16]) :: .a (.w 28)::us 4 (.a (.v (.slice none 0 0)) :: .a (.l 32)::us 6 (.a (.i .i64 (a3)) :: .a (.i .i64 (i64.wrap (a3+(1:Int)))) :: .a (.l 32) :: .a (.l 32) :: .a (.i .i64 (a1)) :: .a (.q 32 (((0:Int).toNat*1)) 2) :: .a (.i .i64 (a3)) :: .a (.i .i64 (0:Int))::us 50 ([]))),[.row a0 37,.row #[.int .u32 (r0_1)] 29,.row (zc Try.prog 42) 42,.no,.no,.no,.no,.no,.no,.no,.no,.no,.no,.no,.no,.row r0_15 42,.one (.w 1) 69,.no,.no,.no,.no,.no,.no,.no,.no,.no,.no,.no,.row a0 37,.no,.no,.no,.sl .own ((i64.wrap (a3+(1:Int))).toNat) ((madeCells (zc Try.prog 2) ((i64.wrap (a3+(1:Int))).toNat*1)).setIfInBounds ((0:Int).toNat*1) (.int .i64 (a1))) 2,.no],[32]⟩:St)
noncomputable def impl_CountDriftsi1_e0j1 (a3:Int):Int×Array Value×Int→LS
 | (y0j1_25,r0j1_32,r0j1_1)=>([.a (.i .i64 (y0j1_25))],[.sl .own ((i64.wrap (a3+(1:Int))).toNat) r0j1_32 2,.row #[.int .u32 (r0j1_1)] 29])
noncomputable def impl_CountDriftsi1_x0j1 (a3:Int):Int×Array Value×Int→Exit×LS
 | t=>((.exit 0),(impl_CountDriftsi1_e0j1 a3) t)
noncomputable def impl_CountDriftsi1_k1j1_0 (P:Program) (N:Nat) (a0:Array Value) (a1 a2 a3 a4 a5:Int) (y0_18:Int) (y0_36:Int) (r0_1:Int) (r0_15:Array Value) (y0j1_25:Int) (r0j1_32:Array Value) (r0j1_1:Int) (z1j1_15:Int) (z1j1_54:Int) (q1j1_32:Array Value):Option (Stp (Int×Array Value×Int) (Int×Array Value×Int)):=some (.more ((i64.wrap (y0j1_25+(1:Int))),q1j1_32,(IntKind.u32.wrap ((IntKind.u32.wrap ((1664525:Int)*r0j1_1))+(1013904223:Int)))))
theorem impl_CountDriftsi1_k1j1_0_eq (N:Nat) (a0:Array Value) (a1 a2 a3 a4 a5:Int) (y0_18:Int) (y0_36:Int) (r0_1:Int) (r0_15:Array Value) (y0j1_25:Int) (r0j1_32:Array Value) (r0j1_1:Int) (z1j1_15:Int) (z1j1_54:Int) (q1j1_32:Array Value):(kBlock 2 (kBlock 1 (kSeq (veC Try.prog (impl_CountDrifts_X37 N) N (cAt (codeOf Try.f37) [1,0,1,1,1,0,1,0,0,1,1,1]) (pAt (mkPlan (codeOf Try.f37) [([25],[32,1]),([15,54],[32])]).1 [1,1,1,1,0,1,0,1,1,1]) (Stp LS (Exit×LS))) (kBody 34 [25] [32,1])))) (.exit 1) (left (writes (cAt (codeOf Try.f37) [1,0,1,1,1,0,1,0,0,1,1,0,0,1,1,1,1,1,0,0])) [15,54] [32] (impl_CountDriftsi1_t1j1 a0 a1 a2 a3 a4 a5 y0_18 y0_36 r0_1 r0_15 y0j1_25 r0j1_32 r0j1_1) ([.a (.i .i64 (z1j1_15)),.a (.i .i64 (z1j1_54))],[.sl .own ((i64.wrap (a3+(1:Int))).toNat) q1j1_32 2]))=mapS (impl_CountDriftsi1_e0j1 a3) (impl_CountDriftsi1_x0j1 a3) (impl_CountDriftsi1_k1j1_0 Try.prog N a0 a1 a2 a3 a4 a5 y0_18 y0_36 r0_1 r0_15 y0j1_25 r0j1_32 r0j1_1 z1j1_15 z1j1_54 q1j1_32):=by
 refine Eq.trans (b:=(some (.more ([.a (.i .i64 (i64.wrap (y0j1_25+(1:Int))))],[.sl .own ((i64.wrap (a3+(1:Int))).toNat) q1j1_32 2,.row #[.int .u32 (IntKind.u32.wrap ((IntKind.u32.wrap ((1664525:Int)*r0j1_1))+(1013904223:Int)))] 29])))) (by kernel_rfl) ?_
 simp only [impl_CountDriftsi1_k1j1_0,mapS_cond,mapS_more,mapS_done,mapS_none,impl_CountDriftsi1_e0j1,impl_CountDriftsi1_x0j1]
noncomputable def impl_CountDriftsi1_k1j1_1 (P:Program) (N:Nat) (a0:Array Value) (a1 a2 a3 a4 a5:Int) (y0_18:Int) (y0_36:Int) (r0_1:Int) (r0_15:Array Value) (y0j1_25:Int) (r0j1_32:Array Value) (r0j1_1:Int) (z1j1_15:Int) (z1j1_54:Int) (q1j1_32:Array Value):Option (Stp (Int×Array Value×Int) (Int×Array Value×Int)):=some (.more ((i64.wrap (y0j1_25+(1:Int))),q1j1_32,(IntKind.u32.wrap ((IntKind.u32.wrap ((1664525:Int)*r0j1_1))+(1013904223:Int)))))
theorem impl_CountDriftsi1_k1j1_1_eq (N:Nat) (a0:Array Value) (a1 a2 a3 a4 a5:Int) (y0_18:Int) (y0_36:Int) (r0_1:Int) (r0_15:Array Value) (y0j1_25:Int) (r0j1_32:Array Value) (r0j1_1:Int) (z1j1_15:Int) (z1j1_54:Int) (q1j1_32:Array Value):(kBlock 2 (kBlock 1 (kSeq (veC Try.prog (impl_CountDrifts_X37 N) N (cAt (codeOf Try.f37) [1,0,1,1,1,0,1,0,0,1,1,1]) (pAt (mkPlan (codeOf Try.f37) [([25],[32,1]),([15,54],[32])]).1 [1,1,1,1,0,1,0,1,1,1]) (Stp LS (Exit×LS))) (kBody 34 [25] [32,1])))) (.exit 2) (left (writes (cAt (codeOf Try.f37) [1,0,1,1,1,0,1,0,0,1,1,0,0,1,1,1,1,1,0,0])) [15,54] [32] (impl_CountDriftsi1_t1j1 a0 a1 a2 a3 a4 a5 y0_18 y0_36 r0_1 r0_15 y0j1_25 r0j1_32 r0j1_1) ([.a (.i .i64 (z1j1_15)),.a (.i .i64 (z1j1_54))],[.sl .own ((i64.wrap (a3+(1:Int))).toNat) q1j1_32 2]))=mapS (impl_CountDriftsi1_e0j1 a3) (impl_CountDriftsi1_x0j1 a3) (impl_CountDriftsi1_k1j1_1 Try.prog N a0 a1 a2 a3 a4 a5 y0_18 y0_36 r0_1 r0_15 y0j1_25 r0j1_32 r0j1_1 z1j1_15 z1j1_54 q1j1_32):=by
 refine Eq.trans (b:=(some (.more ([.a (.i .i64 (i64.wrap (y0j1_25+(1:Int))))],[.sl .own ((i64.wrap (a3+(1:Int))).toNat) q1j1_32 2,.row #[.int .u32 (IntKind.u32.wrap ((IntKind.u32.wrap ((1664525:Int)*r0j1_1))+(1013904223:Int)))] 29])))) (by kernel_rfl) ?_
 simp only [impl_CountDriftsi1_k1j1_1,mapS_cond,mapS_more,mapS_done,mapS_none,impl_CountDriftsi1_e0j1,impl_CountDriftsi1_x0j1]
theorem impl_CountDriftsi1_n1j1 (N:Nat) (a0:Array Value) (a1 a2 a3 a4 a5:Int) (y0_18:Int) (y0_36:Int) (r0_1:Int) (r0_15:Array Value) (y0j1_25:Int) (r0j1_32:Array Value) (r0j1_1:Int):bindX (iterO (stepV Try.prog (impl_CountDrifts_X37 N) N (cAt (codeOf Try.f37) [1,0,1,1,1,0,1,0,0,1,1,0,0,1,1,1,1,1,0,0]) (pAt (mkPlan (codeOf Try.f37) [([25],[32,1]),([15,54],[32])]).1 [1,1,1,1,0,1,0,1,1,0,1,1,1,1,1,0]) [15,54] [32] (impl_CountDriftsi1_t1j1 a0 a1 a2 a3 a4 a5 y0_18 y0_36 r0_1 r0_15 y0j1_25 r0j1_32 r0j1_1)) N ([.a (.i .i64 (0:Int)),.a (.i .i64 (0:Int))],[.sl .own ((i64.wrap (a3+(1:Int))).toNat) r0j1_32 2])) (fun e s=>(kBlock 2 (kBlock 1 (kSeq (veC Try.prog (impl_CountDrifts_X37 N) N (cAt (codeOf Try.f37) [1,0,1,1,1,0,1,0,0,1,1,1]) (pAt (mkPlan (codeOf Try.f37) [([25],[32,1]),([15,54],[32])]).1 [1,1,1,1,0,1,0,1,1,1]) (Stp LS (Exit×LS))) (kBody 34 [25] [32,1])))) e (left (writes (cAt (codeOf Try.f37) [1,0,1,1,1,0,1,0,0,1,1,0,0,1,1,1,1,1,0,0])) [15,54] [32] (impl_CountDriftsi1_t1j1 a0 a1 a2 a3 a4 a5 y0_18 y0_36 r0_1 r0_15 y0j1_25 r0j1_32 r0j1_1) s))=mapS (impl_CountDriftsi1_e0j1 a3) (impl_CountDriftsi1_x0j1 a3) (nodeX (iterO (impl_CountDriftsi1_g1j1 Try.prog a0 a1 a2 a3 a4 a5 y0_18 y0_36 r0_1 r0_15 y0j1_25 r0j1_32 r0j1_1) N ((0:Int),(0:Int),r0j1_32)) (st2 (fun x=>impl_CountDriftsi1_k1j1_0 Try.prog N a0 a1 a2 a3 a4 a5 y0_18 y0_36 r0_1 r0_15 y0j1_25 r0j1_32 r0j1_1 x.1 x.2.1 x.2.2) (fun x=>impl_CountDriftsi1_k1j1_1 Try.prog N a0 a1 a2 a3 a4 a5 y0_18 y0_36 r0_1 r0_15 y0j1_25 r0j1_32 r0j1_1 x.1 x.2.1 x.2.2))):=by
 rw [mapS_nodeX (impl_CountDriftsi1_e0j1 a3) (impl_CountDriftsi1_x0j1 a3)]
 first
 | (have h:=loop_node (α:=Stp LS (Exit×LS)) (impl_CountDriftsi1_e1j1 a3) (impl_CountDriftsi1_x1j1 a3) _ _ (impl_CountDriftsi1_s1j1 N a0 a1 a2 a3 a4 a5 y0_18 y0_36 r0_1 r0_15 y0j1_25 r0j1_32 r0j1_1) N ((0:Int),(0:Int),r0j1_32);refine h _ _ ?_)
 | (have h:=loop_node (α:=Stp BS (Exit×BS)) (impl_CountDriftsi1_e1j1 a3) (impl_CountDriftsi1_x1j1 a3) _ _ (impl_CountDriftsi1_s1j1 N a0 a1 a2 a3 a4 a5 y0_18 y0_36 r0_1 r0_15 y0j1_25 r0j1_32 r0j1_1) N ((0:Int),(0:Int),r0j1_32);refine h _ _ ?_)
 | (have h:=loop_node (α:=Stp LS ((Exit×LS) ⊕ (SV×Eff×Bool))) (impl_CountDriftsi1_e1j1 a3) (impl_CountDriftsi1_x1j1 a3) _ _ (impl_CountDriftsi1_s1j1 N a0 a1 a2 a3 a4 a5 y0_18 y0_36 r0_1 r0_15 y0j1_25 r0j1_32 r0j1_1) N ((0:Int),(0:Int),r0j1_32);refine h _ _ ?_)
 intro x
 cases x with
 | more x=>exact impl_CountDriftsi1_k1j1_0_eq N a0 a1 a2 a3 a4 a5 y0_18 y0_36 r0_1 r0_15 y0j1_25 r0j1_32 r0j1_1 x.1 x.2.1 x.2.2
 | done x=>exact impl_CountDriftsi1_k1j1_1_eq N a0 a1 a2 a3 a4 a5 y0_18 y0_36 r0_1 r0_15 y0j1_25 r0j1_32 r0j1_1 x.1 x.2.1 x.2.2
noncomputable def impl_CountDriftsi1_g0j1 (P:Program) (N:Nat) (a0:Array Value) (a1 a2 a3 a4 a5:Int) (y0_18:Int) (y0_36:Int) (r0_1:Int) (r0_15:Array Value):Int×Array Value×Int→Option (Stp (Int×Array Value×Int) (Int×Array Value×Int))
  | (y0j1_25,r0j1_32,r0j1_1)=>bif decide (y0j1_25<a3) then (bif (decide (0≤y0j1_25)&&decide (y0j1_25<(((i64.wrap (a3+(1:Int))).toNat):Int))) then (bif ((num r0j1_32 ((y0j1_25).toNat*1))==(-1:Int)) then (bif (decide (0≤(i64.wrap (y0j1_25+(1:Int))))&&decide ((i64.wrap (y0j1_25+(1:Int)))<(((i64.wrap (a3+(1:Int))).toNat):Int))) then (some (.more ((i64.wrap (y0j1_25+(1:Int))),(r0j1_32.setIfInBounds ((i64.wrap (y0j1_25+(1:Int))).toNat*1) (.int .i64 (num r0j1_32 ((y0j1_25).toNat*1)))),r0j1_1)))
          else (none))
        else (bif decide (0≤(num r0j1_32 ((y0j1_25).toNat*1))) then (bif (impl_isLand_v0 a0 (num r0j1_32 ((y0j1_25).toNat*1))) then (bif (decide (0≤(i64.wrap (y0j1_25+(1:Int))))&&decide ((i64.wrap (y0j1_25+(1:Int)))<(((i64.wrap (a3+(1:Int))).toNat):Int))) then (some (.more ((i64.wrap (y0j1_25+(1:Int))),(r0j1_32.setIfInBounds ((i64.wrap (y0j1_25+(1:Int))).toNat*1) (.int .i64 (num r0j1_32 ((y0j1_25).toNat*1)))),r0j1_1)))
              else (none))
            else (bif (decide (0≤(((i64.wrap (a2+y0j1_25))).tmod (2:Int)))&&decide ((((i64.wrap (a2+y0j1_25))).tmod (2:Int))<2)) then (bif (decide (0≤(num r0j1_32 ((y0j1_25).toNat*1)))&&decide ((num r0j1_32 ((y0j1_25).toNat*1))<36)) then (nodeX (iterO (impl_CountDriftsi1_g1j1 P a0 a1 a2 a3 a4 a5 y0_18 y0_36 r0_1 r0_15 y0j1_25 r0j1_32 r0j1_1) N ((0:Int),(0:Int),r0j1_32)) (st2 (fun x=>impl_CountDriftsi1_k1j1_0 P N a0 a1 a2 a3 a4 a5 y0_18 y0_36 r0_1 r0_15 y0j1_25 r0j1_32 r0j1_1 x.1 x.2.1 x.2.2) (fun x=>impl_CountDriftsi1_k1j1_1 P N a0 a1 a2 a3 a4 a5 y0_18 y0_36 r0_1 r0_15 y0j1_25 r0j1_32 r0j1_1 x.1 x.2.1 x.2.2)))
                else (none))
              else (none)))
          else (none)))
      else (none))
    else (some (.done (y0j1_25,r0j1_32,r0j1_1)))
theorem impl_CountDriftsi1_s0j1 (N:Nat) (a0:Array Value) (a1 a2 a3 a4 a5:Int) (y0_18:Int) (y0_36:Int) (r0_1:Int) (r0_15:Array Value):∀ t:Int×Array Value×Int,stepV Try.prog (impl_CountDrifts_X37 N) N (cAt (codeOf Try.f37) [1,0,1,1,1,0,1,0,0]) (pAt (mkPlan (codeOf Try.f37) [([25],[32,1]),([15,54],[32])]).1 [1,1,1,1,0,1,0]) [25] [32,1] (impl_CountDriftsi1_t0j1 a0 a1 a2 a3 a4 a5 y0_18 y0_36 r0_1 r0_15) ((impl_CountDriftsi1_e0j1 a3) t)=mapS (impl_CountDriftsi1_e0j1 a3) (impl_CountDriftsi1_x0j1 a3) (impl_CountDriftsi1_g0j1 Try.prog N a0 a1 a2 a3 a4 a5 y0_18 y0_36 r0_1 r0_15 t):=by
  rintro ⟨y0j1_25,r0j1_32,r0j1_1⟩
  refine Eq.trans (b:=(bif decide (y0j1_25<a3) then (bif (decide (0≤y0j1_25)&&decide (y0j1_25<(((i64.wrap (a3+(1:Int))).toNat):Int))) then (bif ((num r0j1_32 ((y0j1_25).toNat*1))==(-1:Int)) then (bif (decide (0≤(i64.wrap (y0j1_25+(1:Int))))&&decide ((i64.wrap (y0j1_25+(1:Int)))<(((i64.wrap (a3+(1:Int))).toNat):Int))) then (some (.more ([.a (.i .i64 (i64.wrap (y0j1_25+(1:Int))))],[.sl .own ((i64.wrap (a3+(1:Int))).toNat) (r0j1_32.setIfInBounds ((i64.wrap (y0j1_25+(1:Int))).toNat*1) (.int .i64 (num r0j1_32 ((y0j1_25).toNat*1)))) 2,.row #[.int .u32 (r0j1_1)] 29])))
          else (none))
        else (bif decide (0≤(num r0j1_32 ((y0j1_25).toNat*1))) then (bif (impl_isLand_v0 a0 (num r0j1_32 ((y0j1_25).toNat*1))) then (bif (decide (0≤(i64.wrap (y0j1_25+(1:Int))))&&decide ((i64.wrap (y0j1_25+(1:Int)))<(((i64.wrap (a3+(1:Int))).toNat):Int))) then (some (.more ([.a (.i .i64 (i64.wrap (y0j1_25+(1:Int))))],[.sl .own ((i64.wrap (a3+(1:Int))).toNat) (r0j1_32.setIfInBounds ((i64.wrap (y0j1_25+(1:Int))).toNat*1) (.int .i64 (num r0j1_32 ((y0j1_25).toNat*1)))) 2,.row #[.int .u32 (r0j1_1)] 29])))
              else (none))
            else (bif (decide (0≤(((i64.wrap (a2+y0j1_25))).tmod (2:Int)))&&decide ((((i64.wrap (a2+y0j1_25))).tmod (2:Int))<2)) then (bif (decide (0≤(num r0j1_32 ((y0j1_25).toNat*1)))&&decide ((num r0j1_32 ((y0j1_25).toNat*1))<36)) then (bindX (iterO (stepV Try.prog (impl_CountDrifts_X37 N) N (cAt (codeOf Try.f37) [1,0,1,1,1,0,1,0,0,1,1,0,0,1,1,1,1,1,0,0]) (pAt (mkPlan (codeOf Try.f37) [([25],[32,1]),([15,54],[32])]).1 [1,1,1,1,0,1,0,1,1,0,1,1,1,1,1,0]) [15,54] [32] (impl_CountDriftsi1_t1j1 a0 a1 a2 a3 a4 a5 y0_18 y0_36 r0_1 r0_15 y0j1_25 r0j1_32 r0j1_1)) N ([.a (.i .i64 (0:Int)),.a (.i .i64 (0:Int))],[.sl .own ((i64.wrap (a3+(1:Int))).toNat) r0j1_32 2])) (fun e s=>(kBlock 2 (kBlock 1 (kSeq (veC Try.prog (impl_CountDrifts_X37 N) N (cAt (codeOf Try.f37) [1,0,1,1,1,0,1,0,0,1,1,1]) (pAt (mkPlan (codeOf Try.f37) [([25],[32,1]),([15,54],[32])]).1 [1,1,1,1,0,1,0,1,1,1]) (Stp LS (Exit×LS))) (kBody 34 [25] [32,1])))) e (left (writes (cAt (codeOf Try.f37) [1,0,1,1,1,0,1,0,0,1,1,0,0,1,1,1,1,1,0,0])) [15,54] [32] (impl_CountDriftsi1_t1j1 a0 a1 a2 a3 a4 a5 y0_18 y0_36 r0_1 r0_15 y0j1_25 r0j1_32 r0j1_1) s)))
                else (none))
              else (none)))
          else (none)))
      else (none))
    else (some (.done ((.exit 0),([.a (.i .i64 (y0j1_25))],[.sl .own ((i64.wrap (a3+(1:Int))).toNat) r0j1_32 2,.row #[.int .u32 (r0j1_1)] 29])))))) (by kernel_rfl) ?_
  simp only [impl_CountDriftsi1_n1j1 N a0 a1 a2 a3 a4 a5 y0_18 y0_36 r0_1 r0_15 y0j1_25 r0j1_32 r0j1_1,impl_CountDriftsi1_g0j1,mapS_cond,mapS_more,mapS_done,mapS_none,impl_CountDriftsi1_e0j1,impl_CountDriftsi1_x0j1]
noncomputable def impl_CountDrifts_t0 (a0:Array Value) (a1 a2 a3 a4 a5:Int):St:=(⟨.a (.g a0 37) :: .a (.i .i64 (a1)) :: .a (.i .i64 (a2)) :: .a (.i .i64 (a3)) :: .a (.i .u32 (a4)) :: .a (.i .i64 (a5)) :: .a (.w 0)::us 3 (.a (.w 1) :: .a (.u) :: .a (.w 2) :: .a (.i .i64 (0:Int)) :: .a (.i .u32 (0:Int)) :: .a (.i .i64 (0:Int)) :: .a (.i .i64 (impl_bottleCode_v0 a0 a1 a2 a3)) :: .a (.w 15) :: .a (.i .i64 (0:Int)) :: .a (.c 71 [16]) :: .a (.u) :: .a (.g a0 37) :: .a (.i .i64 (a1)) :: .a (.i .i64 (a2)) :: .a (.i .i64 (a3)) :: .a (.i .i64 (impl_bottleCode_v0 a0 a1 a2 a3)) :: .a (.i .i64 (impl_bottleCode_v0 a0 a1 a2 a3)) :: .a (.b (((impl_bottleCode_v0 a0 a1 a2 a3) != (0:Int)))) :: .a (.u) :: .a (.u) :: .a (.i .i64 (a5)) :: .a (.b ((impl_hasBottles_v0 a5 (2000:Int)))) :: .a (.b ((!((impl_hasBottles_v0 a5 (2000:Int)))))) :: .a (.u) :: .a (.c 71 [16]) :: .a (.i .i64 (a5)) :: .a (.i .i64 (0:Int))::us 23 ([])),[.row a0 37,.row #[.int .u32 (a4)] 29,.row (zc Try.prog 42) 42,.no,.no,.no,.no,.no,.no,.no,.no,.no,.no,.no,.no,.row (zc Try.prog 42) 42,.one (.w 1) 69,.no],[]⟩:St)
noncomputable def impl_CountDrifts_e0:Int×Int×Int×Array Value→LS
 | (y0_18,y0_36,r0_1,r0_15)=>([.a (.i .i64 (y0_18)),.a (.i .i64 (y0_36))],[.row #[.int .u32 (r0_1)] 29,.row r0_15 42])
noncomputable def impl_CountDrifts_x0:Int×Int×Int×Array Value→Exit×LS
 | t=>((.exit 0),impl_CountDrifts_e0 t)
noncomputable def impl_CountDriftsi1_k0j1_0 (P:Program) (N:Nat) (a0:Array Value) (a1 a2 a3 a4 a5:Int) (y0_18:Int) (y0_36:Int) (r0_1:Int) (r0_15:Array Value) (z0j1_25:Int) (q0j1_32:Array Value) (q0j1_1:Int):Option (Stp (Int×Int×Int×Array Value) (Int×Int×Int×Array Value)):=bif (decide (0≤a3)&&decide (a3<(((i64.wrap (a3+(1:Int))).toNat):Int))) then (bif ((num q0j1_32 ((a3).toNat*1))==(-1:Int)) then (some (.more ((i64.wrap (y0_18+(1:Int))),(i64.wrap (y0_36+(1:Int))),q0j1_1,r0_15)))
   else (bif (decide (0≤(num q0j1_32 ((a3).toNat*1)))&&decide ((num q0j1_32 ((a3).toNat*1))<36)) then (bif (decide (0≤(num q0j1_32 ((a3).toNat*1)))&&decide ((num q0j1_32 ((a3).toNat*1))<36)) then (some (.more (y0_18,(i64.wrap (y0_36+(1:Int))),q0j1_1,(r0_15.setIfInBounds ((num q0j1_32 ((a3).toNat*1)).toNat*1) (.int .i64 (i64.wrap ((num r0_15 ((num q0j1_32 ((a3).toNat*1)).toNat*1))+(1:Int))))))))
     else (none))
    else (none)))
  else (none)
theorem impl_CountDriftsi1_k0j1_0_eq (N:Nat) (a0:Array Value) (a1 a2 a3 a4 a5:Int) (y0_18:Int) (y0_36:Int) (r0_1:Int) (r0_15:Array Value) (z0j1_25:Int) (q0j1_32:Array Value) (q0j1_1:Int):(kBlock 0 (kSeq (veC Try.prog (impl_CountDrifts_X37 N) N (cAt (codeOf Try.f37) [1,0,1,1,1,1]) (pAt (mkPlan (codeOf Try.f37) [([25],[32,1]),([15,54],[32])]).1 [1,1,1,1,1]) (Stp LS (Exit×LS))) (kNoGoto (impl_CountDrifts_ki1 N a0 a1 a2 a3 a4 a5 y0_18 y0_36 r0_1 r0_15)))) (.exit 0) (left (writes (cAt (codeOf Try.f37) [1,0,1,1,1,0,1,0,0])) [25] [32,1] (impl_CountDriftsi1_t0j1 a0 a1 a2 a3 a4 a5 y0_18 y0_36 r0_1 r0_15) ([.a (.i .i64 (z0j1_25))],[.sl .own ((i64.wrap (a3+(1:Int))).toNat) q0j1_32 2,.row #[.int .u32 (q0j1_1)] 29]))=mapS impl_CountDrifts_e0 impl_CountDrifts_x0 (impl_CountDriftsi1_k0j1_0 Try.prog N a0 a1 a2 a3 a4 a5 y0_18 y0_36 r0_1 r0_15 z0j1_25 q0j1_32 q0j1_1):=by
 refine Eq.trans (b:=(bif (decide (0≤a3)&&decide (a3<(((i64.wrap (a3+(1:Int))).toNat):Int))) then (bif ((num q0j1_32 ((a3).toNat*1))==(-1:Int)) then (some (.more ([.a (.i .i64 (i64.wrap (y0_18+(1:Int)))),.a (.i .i64 (i64.wrap (y0_36+(1:Int))))],[.row #[.int .u32 (q0j1_1)] 29,.row r0_15 42])))
   else (bif (decide (0≤(num q0j1_32 ((a3).toNat*1)))&&decide ((num q0j1_32 ((a3).toNat*1))<36)) then (bif (decide (0≤(num q0j1_32 ((a3).toNat*1)))&&decide ((num q0j1_32 ((a3).toNat*1))<36)) then (some (.more ([.a (.i .i64 (y0_18)),.a (.i .i64 (i64.wrap (y0_36+(1:Int))))],[.row #[.int .u32 (q0j1_1)] 29,.row (r0_15.setIfInBounds ((num q0j1_32 ((a3).toNat*1)).toNat*1) (.int .i64 (i64.wrap ((num r0_15 ((num q0j1_32 ((a3).toNat*1)).toNat*1))+(1:Int))))) 42])))
     else (none))
    else (none)))
  else (none))) (by kernel_rfl) ?_
 simp only [impl_CountDriftsi1_k0j1_0,mapS_cond,mapS_more,mapS_done,mapS_none,impl_CountDrifts_e0,impl_CountDrifts_x0]
theorem impl_CountDriftsi1_n0j1 (N:Nat) (a0:Array Value) (a1 a2 a3 a4 a5:Int) (y0_18:Int) (y0_36:Int) (r0_1:Int) (r0_15:Array Value):bindX (iterO (stepV Try.prog (impl_CountDrifts_X37 N) N (cAt (codeOf Try.f37) [1,0,1,1,1,0,1,0,0]) (pAt (mkPlan (codeOf Try.f37) [([25],[32,1]),([15,54],[32])]).1 [1,1,1,1,0,1,0]) [25] [32,1] (impl_CountDriftsi1_t0j1 a0 a1 a2 a3 a4 a5 y0_18 y0_36 r0_1 r0_15)) N ([.a (.i .i64 (0:Int))],[.sl .own ((i64.wrap (a3+(1:Int))).toNat) ((madeCells (zc Try.prog 2) ((i64.wrap (a3+(1:Int))).toNat*1)).setIfInBounds ((0:Int).toNat*1) (.int .i64 (a1))) 2,.row #[.int .u32 (r0_1)] 29])) (fun e s=>(kBlock 0 (kSeq (veC Try.prog (impl_CountDrifts_X37 N) N (cAt (codeOf Try.f37) [1,0,1,1,1,1]) (pAt (mkPlan (codeOf Try.f37) [([25],[32,1]),([15,54],[32])]).1 [1,1,1,1,1]) (Stp LS (Exit×LS))) (kNoGoto (impl_CountDrifts_ki1 N a0 a1 a2 a3 a4 a5 y0_18 y0_36 r0_1 r0_15)))) e (left (writes (cAt (codeOf Try.f37) [1,0,1,1,1,0,1,0,0])) [25] [32,1] (impl_CountDriftsi1_t0j1 a0 a1 a2 a3 a4 a5 y0_18 y0_36 r0_1 r0_15) s))=mapS impl_CountDrifts_e0 impl_CountDrifts_x0 (nodeX (iterO (impl_CountDriftsi1_g0j1 Try.prog N a0 a1 a2 a3 a4 a5 y0_18 y0_36 r0_1 r0_15) N ((0:Int),((madeCells (zc Try.prog 2) ((i64.wrap (a3+(1:Int))).toNat*1)).setIfInBounds ((0:Int).toNat*1) (.int .i64 (a1))),r0_1)) (fun x=>impl_CountDriftsi1_k0j1_0 Try.prog N a0 a1 a2 a3 a4 a5 y0_18 y0_36 r0_1 r0_15 x.1 x.2.1 x.2.2)):=by
 rw [mapS_nodeX impl_CountDrifts_e0 impl_CountDrifts_x0]
 first
 | (have h:=loop_node (α:=Stp LS (Exit×LS)) (impl_CountDriftsi1_e0j1 a3) (impl_CountDriftsi1_x0j1 a3) _ _ (impl_CountDriftsi1_s0j1 N a0 a1 a2 a3 a4 a5 y0_18 y0_36 r0_1 r0_15) N ((0:Int),((madeCells (zc Try.prog 2) ((i64.wrap (a3+(1:Int))).toNat*1)).setIfInBounds ((0:Int).toNat*1) (.int .i64 (a1))),r0_1);refine h _ _ ?_)
 | (have h:=loop_node (α:=Stp BS (Exit×BS)) (impl_CountDriftsi1_e0j1 a3) (impl_CountDriftsi1_x0j1 a3) _ _ (impl_CountDriftsi1_s0j1 N a0 a1 a2 a3 a4 a5 y0_18 y0_36 r0_1 r0_15) N ((0:Int),((madeCells (zc Try.prog 2) ((i64.wrap (a3+(1:Int))).toNat*1)).setIfInBounds ((0:Int).toNat*1) (.int .i64 (a1))),r0_1);refine h _ _ ?_)
 | (have h:=loop_node (α:=Stp LS ((Exit×LS) ⊕ (SV×Eff×Bool))) (impl_CountDriftsi1_e0j1 a3) (impl_CountDriftsi1_x0j1 a3) _ _ (impl_CountDriftsi1_s0j1 N a0 a1 a2 a3 a4 a5 y0_18 y0_36 r0_1 r0_15) N ((0:Int),((madeCells (zc Try.prog 2) ((i64.wrap (a3+(1:Int))).toNat*1)).setIfInBounds ((0:Int).toNat*1) (.int .i64 (a1))),r0_1);refine h _ _ ?_)
 intro x;exact impl_CountDriftsi1_k0j1_0_eq N a0 a1 a2 a3 a4 a5 y0_18 y0_36 r0_1 r0_15 x.1 x.2.1 x.2.2
noncomputable def impl_CountDrifts_g0 (P : Program) (N : Nat) (a0 : Array Value) (a1 a2 a3 a4 a5 : Int) : Int × Int × Int × Array Value → Option (Stp (Int × Int × Int × Array Value) (Int × Int × Int × Array Value))
 | (y0_18, y0_36, r0_1, r0_15) => bif decide (y0_36 < a5) then (bif (decide (0 ≤ (i64.wrap (a3 + (1 : Int)))) && ((i64.wrap (a3 + (1 : Int))) == (i64.wrap (a3 + (1 : Int))) && decide ((bytesOf Try.prog 2 : Int) * (i64.wrap (a3 + (1 : Int))) ≤ 281474976710656))) then (bif (decide (0 ≤ (0 : Int)) && decide ((0 : Int) < (((i64.wrap (a3 + (1 : Int))).toNat) : Int))) then (nodeX (iterO (impl_CountDriftsi1_g0j1 P N a0 a1 a2 a3 a4 a5 y0_18 y0_36 r0_1 r0_15) N ((0 : Int), ((madeCells (zc Try.prog 2) ((i64.wrap (a3 + (1 : Int))).toNat * 1)).setIfInBounds ((0 : Int).toNat * 1) (.int .i64 (a1))), r0_1)) (fun x => impl_CountDriftsi1_k0j1_0 P N a0 a1 a2 a3 a4 a5 y0_18 y0_36 r0_1 r0_15 x.1 x.2.1 x.2.2))
    else (none))
   else (none))
  else (some (.done (y0_18, y0_36, r0_1, r0_15)))
theorem impl_CountDrifts_s0 (N:Nat) (a0:Array Value) (a1 a2 a3 a4 a5:Int):∀ t:Int×Int×Int×Array Value,stepV Try.prog (impl_CountDrifts_G N) N (cAt (codeOf Try.f17) [1,1,1,1,1,1,0,1,0,0]) (pAt (mkPlan (codeOf Try.f17) [([18,36],[1,15])]).1 [1,1,1,1,1,1,0,1,0]) [18,36] [1,15] (impl_CountDrifts_t0 a0 a1 a2 a3 a4 a5) (impl_CountDrifts_e0 t)=mapS impl_CountDrifts_e0 impl_CountDrifts_x0 (impl_CountDrifts_g0 Try.prog N a0 a1 a2 a3 a4 a5 t):=by
 rintro ⟨y0_18,y0_36,r0_1,r0_15⟩
 refine Eq.trans (b:=(bif decide (y0_36<a5) then (bif (decide (0≤(i64.wrap (a3+(1:Int))))&&((i64.wrap (a3+(1:Int)))==(i64.wrap (a3+(1:Int)))&&decide ((bytesOf Try.prog 2:Int)*(i64.wrap (a3+(1:Int)))≤281474976710656))) then (bif (decide (0≤(0:Int))&&decide ((0:Int)<(((i64.wrap (a3+(1:Int))).toNat):Int))) then (bindX (iterO (stepV Try.prog (impl_CountDrifts_X37 N) N (cAt (codeOf Try.f37) [1,0,1,1,1,0,1,0,0]) (pAt (mkPlan (codeOf Try.f37) [([25],[32,1]),([15,54],[32])]).1 [1,1,1,1,0,1,0]) [25] [32,1] (impl_CountDriftsi1_t0j1 a0 a1 a2 a3 a4 a5 y0_18 y0_36 r0_1 r0_15)) N ([.a (.i .i64 (0:Int))],[.sl .own ((i64.wrap (a3+(1:Int))).toNat) ((madeCells (zc Try.prog 2) ((i64.wrap (a3+(1:Int))).toNat*1)).setIfInBounds ((0:Int).toNat*1) (.int .i64 (a1))) 2,.row #[.int .u32 (r0_1)] 29])) (fun e s=>(kBlock 0 (kSeq (veC Try.prog (impl_CountDrifts_X37 N) N (cAt (codeOf Try.f37) [1,0,1,1,1,1]) (pAt (mkPlan (codeOf Try.f37) [([25],[32,1]),([15,54],[32])]).1 [1,1,1,1,1]) (Stp LS (Exit×LS))) (kNoGoto (impl_CountDrifts_ki1 N a0 a1 a2 a3 a4 a5 y0_18 y0_36 r0_1 r0_15)))) e (left (writes (cAt (codeOf Try.f37) [1,0,1,1,1,0,1,0,0])) [25] [32,1] (impl_CountDriftsi1_t0j1 a0 a1 a2 a3 a4 a5 y0_18 y0_36 r0_1 r0_15) s)))
    else (none))
   else (none))
  else (some (.done ((.exit 0),([.a (.i .i64 (y0_18)),.a (.i .i64 (y0_36))],[.row #[.int .u32 (r0_1)] 29,.row r0_15 42])))))) (by kernel_rfl) ?_
 simp only [impl_CountDriftsi1_n0j1 N a0 a1 a2 a3 a4 a5 y0_18 y0_36 r0_1 r0_15,impl_CountDrifts_g0,mapS_cond,mapS_more,mapS_done,mapS_none,impl_CountDrifts_e0,impl_CountDrifts_x0]
noncomputable def impl_CountDrifts_k0_0 (P:Program) (N:Nat) (a0:Array Value) (a1 a2 a3 a4 a5:Int) (z0_18:Int) (z0_36:Int) (q0_1:Int) (q0_15:Array Value):Option (SV×Eff×Bool):=some (.t [.g q0_15 42,.i .i64 (z0_18),.i .u32 (q0_1),.i .i64 (0:Int)],.none,true)
theorem impl_CountDrifts_k0_0_eq (N:Nat) (a0:Array Value) (a1 a2 a3 a4 a5:Int) (z0_18:Int) (z0_36:Int) (q0_1:Int) (q0_15:Array Value):(kBlock 0 (kSeq (veC Try.prog (impl_CountDrifts_G N) N (cAt (codeOf Try.f17) [1,1,1,1,1,1,1]) (pAt (mkPlan (codeOf Try.f17) [([18,36],[1,15])]).1 [1,1,1,1,1,1,1]) (SV×Eff×Bool)) (finK Try.prog [] [.cell 12 42,.tmp 13,.tmp 14,.tmp 15]))) (.exit 0) (left (writes (cAt (codeOf Try.f17) [1,1,1,1,1,1,0,1,0,0])) [18,36] [1,15] (impl_CountDrifts_t0 a0 a1 a2 a3 a4 a5) ([.a (.i .i64 (z0_18)),.a (.i .i64 (z0_36))],[.row #[.int .u32 (q0_1)] 29,.row q0_15 42]))=impl_CountDrifts_k0_0 Try.prog N a0 a1 a2 a3 a4 a5 z0_18 z0_36 q0_1 q0_15:=by
 refine Eq.trans (b:=(some (.t [.g q0_15 42,.i .i64 (z0_18),.i .u32 (q0_1),.i .i64 (0:Int)],.none,true))) (by kernel_rfl) ?_
 rfl
theorem impl_CountDrifts_n0 (N:Nat) (a0:Array Value) (a1 a2 a3 a4 a5:Int):bindX (iterO (stepV Try.prog (impl_CountDrifts_G N) N (cAt (codeOf Try.f17) [1,1,1,1,1,1,0,1,0,0]) (pAt (mkPlan (codeOf Try.f17) [([18,36],[1,15])]).1 [1,1,1,1,1,1,0,1,0]) [18,36] [1,15] (impl_CountDrifts_t0 a0 a1 a2 a3 a4 a5)) N ([.a (.i .i64 (0:Int)),.a (.i .i64 (0:Int))],[.row #[.int .u32 (a4)] 29,.row (zc Try.prog 42) 42])) (fun e s=>(kBlock 0 (kSeq (veC Try.prog (impl_CountDrifts_G N) N (cAt (codeOf Try.f17) [1,1,1,1,1,1,1]) (pAt (mkPlan (codeOf Try.f17) [([18,36],[1,15])]).1 [1,1,1,1,1,1,1]) (SV×Eff×Bool)) (finK Try.prog [] [.cell 12 42,.tmp 13,.tmp 14,.tmp 15]))) e (left (writes (cAt (codeOf Try.f17) [1,1,1,1,1,1,0,1,0,0])) [18,36] [1,15] (impl_CountDrifts_t0 a0 a1 a2 a3 a4 a5) s))=nodeX (iterO (impl_CountDrifts_g0 Try.prog N a0 a1 a2 a3 a4 a5) N ((0:Int),(0:Int),a4,(zc Try.prog 42))) (fun x=>impl_CountDrifts_k0_0 Try.prog N a0 a1 a2 a3 a4 a5 x.1 x.2.1 x.2.2.1 x.2.2.2):=by
 refine loop_node impl_CountDrifts_e0 impl_CountDrifts_x0 _ _ (impl_CountDrifts_s0 N a0 a1 a2 a3 a4 a5) N ((0:Int),(0:Int),a4,(zc Try.prog 42)) _ _ ?_
 intro x;exact impl_CountDrifts_k0_0_eq N a0 a1 a2 a3 a4 a5 x.1 x.2.1 x.2.2.1 x.2.2.2
theorem impl_CountDrifts_ans (N:Nat) (a0:Array Value) (a1 a2 a3 a4 a5:Int):ansV Try.prog (impl_CountDrifts_G N) N Try.f17 [([18,36],[1,15])] [.g a0 37,.i .i64 (a1),.i .i64 (a2),.i .i64 (a3),.i .u32 (a4),.i .i64 (a5)] []=(bif ((impl_bottleCode_v0 a0 a1 a2 a3) != (0:Int)) then (some (.t [.g (zc Try.prog 42) 42,.i .i64 (0:Int),.i .u32 (0:Int),.i .i64 (impl_bottleCode_v0 a0 a1 a2 a3)],.none,true))
  else (bif (!((impl_hasBottles_v0 a5 (2000:Int)))) then (some (.t [.g (zc Try.prog 42) 42,.i .i64 (0:Int),.i .u32 (0:Int),.i .i64 (2:Int)],.none,true))
   else (nodeX (iterO (impl_CountDrifts_g0 Try.prog N a0 a1 a2 a3 a4 a5) N ((0:Int),(0:Int),a4,(zc Try.prog 42))) (fun x=>impl_CountDrifts_k0_0 Try.prog N a0 a1 a2 a3 a4 a5 x.1 x.2.1 x.2.2.1 x.2.2.2)))):=by
 refine Eq.trans (b:=(bif ((impl_bottleCode_v0 a0 a1 a2 a3) != (0:Int)) then (some (.t [.g (zc Try.prog 42) 42,.i .i64 (0:Int),.i .u32 (0:Int),.i .i64 (impl_bottleCode_v0 a0 a1 a2 a3)],.none,true))
  else (bif (!((impl_hasBottles_v0 a5 (2000:Int)))) then (some (.t [.g (zc Try.prog 42) 42,.i .i64 (0:Int),.i .u32 (0:Int),.i .i64 (2:Int)],.none,true))
   else (bindX (iterO (stepV Try.prog (impl_CountDrifts_G N) N (cAt (codeOf Try.f17) [1,1,1,1,1,1,0,1,0,0]) (pAt (mkPlan (codeOf Try.f17) [([18,36],[1,15])]).1 [1,1,1,1,1,1,0,1,0]) [18,36] [1,15] (impl_CountDrifts_t0 a0 a1 a2 a3 a4 a5)) N ([.a (.i .i64 (0:Int)),.a (.i .i64 (0:Int))],[.row #[.int .u32 (a4)] 29,.row (zc Try.prog 42) 42])) (fun e s=>(kBlock 0 (kSeq (veC Try.prog (impl_CountDrifts_G N) N (cAt (codeOf Try.f17) [1,1,1,1,1,1,1]) (pAt (mkPlan (codeOf Try.f17) [([18,36],[1,15])]).1 [1,1,1,1,1,1,1]) (SV×Eff×Bool)) (finK Try.prog [] [.cell 12 42,.tmp 13,.tmp 14,.tmp 15]))) e (left (writes (cAt (codeOf Try.f17) [1,1,1,1,1,1,0,1,0,0])) [18,36] [1,15] (impl_CountDrifts_t0 a0 a1 a2 a3 a4 a5) s)))))) (by kernel_rfl) ?_
 simp only [impl_CountDrifts_n0 N a0 a1 a2 a3 a4 a5]
theorem cdF_way (P':Program) {N:Nat} (hN:100<N) {S:Array Value} (hok:okS S=true) {c:Nat} (hc:c<36) (hi:inC (num S 0) (num S 1) c=true) (hl:bitI (num S 2) c=false) {b:Int} (hb:0≤b∧b≤1) {k h:Nat} (hk:k<h) (hh:h≤14) (s:Int) (u1 u4 u5 v1 v2 v3:Int) (D0:Array Value) {r:Array Value} (hr:num r (k*1)=(c:Int)) :
  iterO (impl_CountDriftsi1_g1j1 P' S u1 b (h:Int) u4 u5 v1 v2 v3 D0 (k:Int) r s) N ((0:Int),(0:Int),r) =
   some (.more (sumW (chR S (tdB b k) c) (wF (chR S (tdB b k) c) (nbS (nxS s))+1),((wF (chR S (tdB b k) c) (nbS (nxS s)):Nat):Int),r.setIfInBounds ((((k+1:Nat):Int)).toNat*1) (.int .i64 (gw S c (wF (chR S (tdB b k) c) (nbS (nxS s))))))):=by
 obtain ⟨ht,ht2⟩:=td_two hb (k:=k) (by omega)
 have hsum:=fit_sum hok ht hc hi hl
 have hn:=nb_range (nx_range s)
 obtain ⟨hf,hw⟩:=wF_is (n:=nbS (nxS s)) hsum hn.2
 have hled:=lead_gw (okS_dims hok) hc hi _ hw
 have e1:S.extract (3+(((i64.wrap (b+(k:Int))).tmod (2:Int)).toNat*180)+c*5) (3+(((i64.wrap (b+(k:Int))).tmod (2:Int)).toNat*180)+c*5+5)=chR S (tdB b k) c:=by
  rw [ht2,Int.toNat_natCast];rfl
 have enb:i64.wrap ((IntKind.u32.wrap ((IntKind.u32.wrap ((IntKind.u32.wrap ((1664525:Int)*s))+(1013904223:Int))).tdiv (65536:Int))).tmod (12:Int))=nbS (nxS s):=nb_impl (nx_range s)
 have hk1:i64.wrap ((k:Int)+1)=((k+1:Nat):Int):=by rw [IntWalk.i64_in _ (by omega)];omega
 have hh1:i64.wrap ((h:Int)+1)=((h+1:Nat):Int):=by rw [IntWalk.i64_in _ (by omega)];omega
 have hb1:(decide (0≤((k+1:Nat):Int))&&decide (((k+1:Nat):Int)<((h+1:Nat):Int)))=true:=by rw [decide_eq_true (by omega),decide_eq_true (by omega)];rfl
 have hs:∀ j:Nat,i64.wrap (sumW (chR S (tdB b k) c) j+i64.wrap (num (chR S (tdB b k) c) (j*1)))=sumW (chR S (tdB b k) c) (j+1):=fun j=>rfl
 have hit:=iter_find (g:=impl_CountDriftsi1_g1j1 P' S u1 b (h:Int) u4 u5 v1 v2 v3 D0 (k:Int) r s) (fun j=>(sumW (chR S (tdB b k) c) j,(j:Int),r)) (fun j=>decide (sumW (chR S (tdB b k) c) (j+1) > nbS (nxS s))) 5 (N:=N) (by omega)
  (xd:=.done (sumW (chR S (tdB b k) c) 5,((5:Nat):Int),r)) (fun j=>.more (sumW (chR S (tdB b k) c) (j+1),(j:Int),r.setIfInBounds ((((k+1:Nat):Int)).toNat*1) (.int .i64 (leadI S (c:Int) j)))) (fun j hj hp=>by
   have h1:decide ((j:Int)<5)=true:=decide_eq_true (by omega)
   have h2:decide (0≤(j:Int))=true:=decide_eq_true (by omega)
   have h3:i64.wrap ((j:Int)+1)=((j+1:Nat):Int):=by rw [IntWalk.i64_in _ (by omega)];omega
   simp only [impl_CountDriftsi1_g1j1,h1,h2,h3,Bool.and_self,Int.toNat_natCast,hr,e1,enb,hs,hp,cond_true,cond_false]) (fun j hj hp=>by
   have h1:decide ((j:Int)<5)=true:=decide_eq_true (by omega)
   have h2:decide (0≤(j:Int))=true:=decide_eq_true (by omega)
   simp only [impl_CountDriftsi1_g1j1,h1,h2,Bool.and_self,Int.toNat_natCast,hr,e1,enb,hs,hp,hk1,hh1,hb1,cond_true]) (by
   have h1:decide (((5:Nat):Int)<5)=false:=by decide
   simp only [impl_CountDriftsi1_g1j1,h1,cond_false])
 rw [hf] at hit
 simp only [hled] at hit
 exact hit
theorem cdF_all (P':Program) {N:Nat} (hN:100<N) {S:Array Value} (hS:WT Try.prog 37 S) (hok:okS S=true) {c:Nat} (his:spec_l01Is_v0 (c:Int) S=true) (hc:c<36) {b:Int} (hb:0≤b∧b≤1) {h:Nat} (hh:h≤14) (s:Int) (hs:0≤s∧s<4294967296) (u1 u4 u5 v1 v2 v3:Int) (D0:Array Value) :
  iterO (impl_CountDriftsi1_g0j1 P' N S u1 b (h:Int) u4 u5 v1 v2 v3 D0) N ((0:Int),(madeCells (zc Try.prog 2) ((i64.wrap ((h:Int)+(1:Int))).toNat*1)).setIfInBounds ((0:Int).toNat*1) (.int .i64 (c:Int)),s) =
   some ((h:Int),arB S b ((c:Int),s) h,(rnB S b ((c:Int),s) h).2):=by
 have hin:inB S (c:Int):=.inr ⟨c,rfl,hc,by rw [← is_inC hS hc];exact his⟩
 have hrn:∀ k,k≤1000→_:=rnB_in hok hb (x:=((c:Int),s)) hin hs
 have hh1:i64.wrap ((h:Int)+1)=((h+1:Nat):Int):=by rw [IntWalk.i64_in _ (by omega)];omega
 have hl:=iter_all (g:=impl_CountDriftsi1_g0j1 P' N S u1 b (h:Int) u4 u5 v1 v2 v3 D0) (fun k=>((k:Int),ptB S b ((c:Int),s) (h+1) k,(rnB S b ((c:Int),s) k).2)) (m:=h)
  (x:=((h:Int),ptB S b ((c:Int),s) (h+1) h,(rnB S b ((c:Int),s) h).2)) (N:=N) (fun k hk=> ?_) ?_ (by omega)
 ·rw [hh1,Int.toNat_natCast,show (.int .i64 (c:Int):Value) = .int .i64 (((c:Int),s):Int×Int).1 from rfl,ptB_zero (S:=S) (b:=b) (x:=((c:Int),s)) (by omega),← ptB_all]
  exact hl
 ·obtain ⟨hin,hsd⟩:=hrn k (by omega)
  have hnext:rnB S b ((c:Int),s) (k+1)=stB S (tdB b k) (rnB S b ((c:Int),s) k):=rfl
  have hnum:=ptB_num (S:=S) (b:=b) (x:=((c:Int),s)) (m:=h+1) (j:=k) (i:=k) (Nat.le_refl _) (by omega)
  have harr:=fun v hv=>ptB_next (S:=S) (b:=b) (x:=((c:Int),s)) (m:=h+1) (j:=k) (by omega) (v:=v) hv
  rw [hnext] at harr
  simp only [hnext]
  generalize rnB S b ((c:Int),s) k=y at *
  generalize ptB S b ((c:Int),s) (h+1) (k+1)=D1 at *
  generalize ptB S b ((c:Int),s) (h+1) k=D at *
  obtain ⟨yc,ys⟩:=y
  obtain ⟨ht,ht2⟩:=td_two hb (k:=k) (by omega)
  have h1:decide ((k:Int)<(h:Int))=true:=decide_eq_true (by omega)
  have h2:i64.wrap ((k:Int)+1)=((k+1:Nat):Int):=by rw [IntWalk.i64_in _ (by omega)];omega
  have h3:decide (0≤(k:Int))=true:=decide_eq_true (by omega)
  have h3':decide ((k:Int)<((h+1:Nat):Int))=true:=decide_eq_true (by omega)
  have hb1:(decide (0≤((k+1:Nat):Int))&&decide (((k+1:Nat):Int)<((h+1:Nat):Int)))=true:=by rw [decide_eq_true (by omega),decide_eq_true (by omega)];rfl
  rcases hin with hm | ⟨q,hq,hq36,hqi⟩
  ·simp only at hm
   subst hm
   have h4:((-1:Int)==(-1:Int))=true:=rfl
   have h5:stB S (tdB b k) ((-1:Int),ys)=((-1:Int),ys):=rfl
   rw [h5] at harr⊢
   have h6:=harr (-1) rfl
   simp only [Int.toNat_natCast] at hnum h6
   simp only [impl_CountDriftsi1_g0j1,h1,h2,h3,h3',h4,hh1,hb1,Bool.and_self,Int.toNat_natCast,hnum,h6,cond_true]
  ·simp only at hq
   subst hq
   have h4:((q:Int)==(-1:Int))=false:=beq_eq_false_iff_ne.2 (by omega)
   have h5:decide (0≤(q:Int))=true:=decide_eq_true (by omega)
   have h5':decide ((q:Int)<36)=true:=decide_eq_true (by omega)
   have h7:=isLand_bit (S:=S) (k:=q) hq36
   cases hbit:bitI (num S 2) q with
   | true=>
    rw [hbit] at h7
    have h8:stB S (tdB b k) ((q:Int),ys)=((q:Int),ys):=by
     unfold stB;simp only [h4,cond_false,Int.toNat_natCast,hbit,cond_true]
    rw [h8] at harr⊢
    have h6:=harr (q:Int) rfl
    simp only [Int.toNat_natCast] at hnum h6
    simp only [impl_CountDriftsi1_g0j1,h1,h2,h3,h3',h4,h5,h7,hh1,hb1,Bool.and_self,Int.toNat_natCast,hnum,h6,cond_true,cond_false]
   | false=>
    rw [hbit] at h7
    have h8:stB S (tdB b k) ((q:Int),ys)=(gw S q (wF (chR S (tdB b k) q) (nbS (nxS ys))),nxS ys):=by
     unfold stB;simp only [h4,cond_false,Int.toNat_natCast,hbit]
    rw [h8] at harr⊢
    have h9:(decide (0≤(i64.wrap (b+(k:Int))).tmod (2:Int))&&decide ((i64.wrap (b+(k:Int))).tmod (2:Int)<2))=true:=by rw [ht2,decide_eq_true (by omega),decide_eq_true (by omega)];rfl
    have hw:=cdF_way P' hN hok hq36 hqi hbit hb hk hh ys u1 u4 u5 v1 v2 v3 D0 (r:=D) hnum
    have h6:=harr _ rfl
    simp only [impl_CountDriftsi1_g0j1,h1,h3,h3',h4,h5,h5',h7,h9,hh1,Bool.and_self,Int.toNat_natCast,hnum,cond_true,cond_false]
    rw [hw]
    simp only [nodeX,st2,impl_CountDriftsi1_k1j1_0,h2,h6]
    rfl
 ·have h1:decide ((h:Int)<(h:Int))=false:=decide_eq_false (by omega)
  simp only [impl_CountDriftsi1_g0j1,h1,cond_false]
theorem impl_CountDrifts_main (a0:Array Value) (a1 a2 a3 a4 a5:Int) (h_a0:WT Try.prog 37 a0) (h_a1:i64.min≤a1∧a1≤i64.max) (h_a2:i64.min≤a2∧a2≤i64.max) (h_a3:i64.min≤a3∧a3≤i64.max) (h_a4:IntKind.u32.min≤a4∧a4≤IntKind.u32.max) (h_a5:i64.min≤a5∧a5≤i64.max) (hg:(true)=true):ansV Try.prog (impl_CountDrifts_G 3000) 3000 Try.f17 [([18,36],[1,15])] [.g a0 37,.i .i64 (a1),.i .i64 (a2),.i .i64 (a3),.i .u32 (a4),.i .i64 (a5)] []=some (.t [.g (ccA a0 a1 a2 a3 a4 a5) 42,.i .i64 (ccG a0 a1 a2 a3 a4 a5),.i .u32 (ccS a0 a1 a2 a3 a4 a5),.i .i64 (ccD a0 a1 a2 a3 a4 a5)],.none,true):=by
 refine (impl_CountDrifts_ans 3000 a0 a1 a2 a3 a4 a5).trans ?_
 rw [bottle_begun,show impl_hasBottles_v0 a5 (2000:Int)=spec_l00In_v0 a5 (1:Int) (2000:Int) from rfl]
 unfold ccA ccG ccS ccD
 cases hz:((spec_l02Begun_v0 a1 a2 a3 a0) != (0:Int)) with
 | true=>simp only [cond_true,cond_false,hz,bne_iff_ne.1 hz]
 | false=>
  have h0:(spec_l02Begun_v0 a1 a2 a3 a0)=0:=by simpa using hz
  cases hi:spec_l00In_v0 a5 (1:Int) (2000:Int) with
  | false=>
   have h2n:((2:Int) != (0:Int))=true:=rfl
   simp only [cond_true,cond_false,Bool.not_false,h0,h2n,bne_self_eq_false]
  | true=>
   obtain ⟨hok,hb,c,h,rfl,hc,his,hin,rfl,hh⟩:=begun_cell h_a0 hz
   have hr5:=in_range hi
   obtain ⟨n,rfl⟩:=Int.eq_ofNat_of_zero_le (show 0≤a5 by omega)
   have hs:0≤a4∧a4<4294967296:=by have q:0≤a4∧a4≤4294967295:=h_a4;omega
   have hsd:=cn_seed hok hb hin hh hs
   have hw1:i64.wrap ((h:Int)+1 - 1)=(h:Int):=by rw [IntWalk.i64_in _ (by omega)];omega
   have hb1:decide (0≤a2)=true:=decide_eq_true hb.1
   have hb2:decide (a2≤1)=true:=decide_eq_true hb.2
   have hh1:decide ((h:Int)≤14)=true:=decide_eq_true (by omega)
   simp only [Int.toNat_natCast]
   have hh1':i64.wrap ((h:Int)+1)=((h+1:Nat):Int):=by rw [IntWalk.i64_in _ (by omega)];omega
   have hmk:(decide (0≤((h+1:Nat):Int))&&(((h+1:Nat):Int)==((h+1:Nat):Int)&&decide ((bytesOf Try.prog 2:Int)*((h+1:Nat):Int)≤281474976710656)))=true:=by
    rw [bytes_i64,decide_eq_true (show (0:Int)≤((h+1:Nat):Int) by omega),decide_eq_true (show ((8:Nat):Int)*((h+1:Nat):Int)≤281474976710656 by omega),beq_self_eq_true];rfl
   have hl:=iter_all (g:=impl_CountDrifts_g0 Try.prog 3000 a0 (c:Int) a2 (h:Int) a4 (n:Int)) (fun k=>((cnB a0 (c:Int) a2 h a4 k).2.1,(k:Int),(cnB a0 (c:Int) a2 h a4 k).2.2,(cnB a0 (c:Int) a2 h a4 k).1)) (m:=n)
    (x:=((cnB a0 (c:Int) a2 h a4 n).2.1,(n:Int),(cnB a0 (c:Int) a2 h a4 n).2.2,(cnB a0 (c:Int) a2 h a4 n).1)) (N:=3000) (fun k hk=>by
    have hsk:=hsd k
    have hnx:cnB a0 (c:Int) a2 h a4 (k+1)=ctB a0 (c:Int) a2 h (cnB a0 (c:Int) a2 h a4 k):=rfl
    rw [hnx]
    generalize cnB a0 (c:Int) a2 h a4 k=y at *
    obtain ⟨yD,yg,ys⟩:=y
    simp only at hsk
    have hend:=(rnB_in hok hb (x:=((c:Int),ys)) hin hsk h (by omega)).1
    have har:=arB_num (S:=a0) (b:=a2) (x:=((c:Int),ys)) (j:=h) (i:=h) (Nat.le_refl _)
    have h1:decide ((k:Int)<(n:Int))=true:=decide_eq_true (by omega)
    have h2:i64.wrap ((k:Int)+1)=((k+1:Nat):Int):=by rw [IntWalk.i64_in _ (by omega)];omega
    have h3:decide (0≤(h:Int))=true:=decide_eq_true (by omega)
    have h4:decide ((h:Int)<((h+1:Nat):Int))=true:=decide_eq_true (by omega)
    unfold ctB
    simp only at har hend⊢
    have hfl:=cdF_all Try.prog (N:=3000) (by omega) h_a0 hok his hc hb hh ys hsk (c:Int) a4 (n:Int) yg (k:Int) ys yD
    rw [hh1'] at hfl
    have h00:decide ((0:Int)<((h+1:Nat):Int))=true:=decide_eq_true (by omega)
    have h01:decide ((0:Int)≤0)=true:=rfl
    have har':num (arB a0 a2 ((c:Int),ys) h) ((h:Int).toNat*1)=(rnB a0 a2 ((c:Int),ys) h).1:=by rw [Int.toNat_natCast];exact har
    rcases hend with he | ⟨q,he,hq,_⟩
    ·rw [he] at har'⊢
     have h6:((-1:Int)==(-1:Int))=true:=rfl
     simp only [impl_CountDrifts_g0,h1,hh1',hmk,h00,h01,Bool.and_self,cond_true]
     rw [hfl]
     simp only [nodeX,impl_CountDriftsi1_k0j1_0,h2,hh1',Int.toNat_natCast (h+1),h3,h4,har',h6,Bool.and_self,cond_true]
     rw [h00];rfl
    ·rw [he] at har'⊢
     have h6:((q:Int)==(-1:Int))=false:=beq_eq_false_iff_ne.2 (by omega)
     have h7:decide (0≤(q:Int))=true:=decide_eq_true (by omega)
     have h8:decide ((q:Int)<36)=true:=decide_eq_true (by omega)
     simp only [impl_CountDrifts_g0,h1,hh1',hmk,h00,h01,Bool.and_self,cond_true]
     rw [hfl]
     simp only [nodeX,impl_CountDriftsi1_k0j1_0,h2,hh1',Int.toNat_natCast (h+1),h3,h4,har',h6,h7,h8,Bool.and_self,cond_true,cond_false]
     rw [h00];rfl) (by
    have h1:decide ((n:Int)<(n:Int))=false:=decide_eq_false (by omega)
    simp only [impl_CountDrifts_g0,h1,cond_false]) (by omega)
   have hl':iterO (impl_CountDrifts_g0 Try.prog 3000 a0 (c:Int) a2 (h:Int) a4 (n:Int)) 3000 ((0:Int),(0:Int),a4,zc Try.prog 42)=_:=hl
   rw [h0,hl']
   rfl
noncomputable def impl_CountDrifts_con:Con:=fun args h=>match args,h with
 | [.g a0 37,.i .i64 a1,.i .i64 a2,.i .i64 a3,.i .u32 a4,.i .i64 a5],[]=>some (.t [.g (ccA a0 a1 a2 a3 a4 a5) 42,.i .i64 (ccG a0 a1 a2 a3 a4 a5),.i .u32 (ccS a0 a1 a2 a3 a4 a5),.i .i64 (ccD a0 a1 a2 a3 a4 a5)],.none,true)
 | _,_=>none
theorem impl_CountDrifts_enter:EntX Try.prog 17:=entX_ok (fn:=Try.f17) (by kernel_rfl) (by kernel_rfl) (by kernel_rfl)
theorem impl_CountDrifts_ok:ConOkX mn Try.prog 17 impl_CountDrifts_con:=(ansX_ok (N:=3000) (by kernel_rfl) (impl_CountDrifts_G_ok 3000) (fn:=Try.f17) (by kernel_rfl) (by kernel_rfl) [([18,36],[1,15])]).of (by
 intro ρ h w args vals r e hA hH hr
 unfold impl_CountDrifts_con at hr
 split at hr
 ·rename_i a0 a1 a2 a3 a4 a5
  obtain ⟨rfl,hg⟩:=Prod.mk.inj (Option.some.inj hr)
  obtain ⟨rfl,hg2⟩:=Prod.mk.inj hg
  exact impl_CountDrifts_main a0 a1 a2 a3 a4 a5 (hA.wt 0 rfl) (hA.rng 1 rfl) (hA.rng 2 rfl) (hA.rng 3 rfl) (hA.rng 4 rfl) (hA.rng 5 rfl) hg2
 ·cases hr)
end
end Go.Proofs.Ytnhilgpdgicgfaa
