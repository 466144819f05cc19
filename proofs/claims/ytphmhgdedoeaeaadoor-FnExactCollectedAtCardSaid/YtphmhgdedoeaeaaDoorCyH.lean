/- What each visit collects: both sides. -/
import Derived.Test.YtphmhgdedoeaeaaDoorProg
import Derived.Test.YtphmhgdedoeaeaaDoorCyD
namespace Go.Proofs.YtphmhgdedoeaeaaDoor
open Go.ChangeShapes Go.WideShapes Go.ChangeAt Go.RowKit Ve Vc
open Tryd (prog)
open IntKind (i64)
set_option linter.unusedVariables false
set_option linter.unusedSimpArgs false
set_option maxRecDepth 100000
noncomputable section
variable {F:Vc.Fd}
noncomputable def colC (P:Program) (S:Array Value) (c b:Int) (k e:Nat):Nat→Array Value
 | 0=>#[]
 | v+1=>colC P S c b k e v++shareW (partI P S c b k (e*v) e) (12^(e*v+e))
theorem shareW_size (p w:Int):(shareW p w).size=2:=rfl
theorem colC_size (S:Array Value) (c b:Int) (k e:Nat):∀ n,(colC prog S c b k e n).size=n*2
 | 0=>rfl
 | n+1=>by rw [colC,Array.size_append,colC_size S c b k e n,shareW_size];omega
theorem colC_at (S:Array Value) (c b:Int) (k e:Nat):∀ (n v:Nat),v<n→(colC prog S c b k e n).extract (v*2) (v*2+2)=shareW (partI prog S c b k (e*v) e) (12^(e*v+e))
 | 0,v,hv=>by omega
 | n+1,v,hv=>by
  have hz:=colC_size S c b k e n
  by_cases h:v<n
  ·rw [← colC_at S c b k e n v h,colC]
   refine Array.ext_getElem? fun i=> ?_
   rw [Array.getElem?_extract,Array.getElem?_extract,Array.size_append,hz,shareW_size]
   by_cases hi:i<min (v*2+2) (n*2) - v*2
   ·rw [if_pos (by omega),if_pos hi,Array.getElem?_append,if_pos (by omega)]
   ·rw [if_neg (by omega),if_neg hi]
  ·obtain rfl:v=n:=by omega
   rw [colC]
   refine Array.ext_getElem? fun i=> ?_
   rw [Array.getElem?_extract,Array.size_append,hz,shareW_size]
   by_cases hi:i<2
   ·rw [if_pos (by omega),Array.getElem?_append,if_neg (by omega),hz,show v*2+i - v*2=i by omega]
   ·rw [if_neg (by omega),Array.getElem?_eq_none (by rw [shareW_size];omega)]
theorem bytes_share:bytesOf prog 41=16:=by kernel_rfl
theorem visits {e n:Nat} (he:e≤14) (hn:n≤14):i64.wrap ((e:Int)*(n:Int))=((e*n:Nat):Int):=by
 have h:=Nat.mul_le_mul he hn
 rw [← Int.natCast_mul,IntWalk.i64_in _ (by omega)]
noncomputable def w0impl_CollectedAt_G:Cons:=(mkΓ [(54,conG impl_codeOf_con),(55,con impl_recordOf_con),(60,conG impl_beachError_con0),(62,con impl_record_shareSince_con),(70,con impl_isEvery_con),(71,con impl_hasHours_con)])
theorem w0impl_CollectedAt_ans (N:Nat) (a0:Array Value) (a1 a2 a3 a4 a5:Int) (g_e0 g_e1 g_e2 g_e3 g_e4:Addr):ansV prog w0impl_CollectedAt_G N Tryd.f39 [([53],[])] [.g a0 36,.i .i64 (a1),.i .i64 (a2),.i .i64 (a3),.i .i64 (a4),.i .i64 (a5)] [.gl 0 184 g_e0 101973,.gl 1 184 g_e1 93330,.gl 3 184 g_e2 112315,.gl 2 184 g_e3 124718,.gl 4 184 g_e4 94254]=(bif (impl_isEvery_v0 a4) then (bif (impl_hasHours_v0 a5) then (bif (okS a0&&(bl a0 a1 a2 a3 (decide ((i64.wrap (a4*a5))≤(14:Int)))&&(spec_l01Dry_v0 a1 a0))) then (some (.t [.v (.slice none 0 0),.i .i64 (4:Int)],.none,true))
    else (none))
   else (bif (okS a0&&(bl a0 a1 a2 a3 false&&(spec_l01Dry_v0 a1 a0))) then (some (.t [.v (.slice none 0 0),.i .i64 (4:Int)],.none,true))
    else (none)))
  else (bif (okS a0&&(bl a0 a1 a2 a3 false&&(spec_l01Dry_v0 a1 a0))) then (some (.t [.v (.slice none 0 0),.i .i64 (4:Int)],.none,true))
   else (none))):=by kernel_rfl
noncomputable def w1impl_CollectedAt_G:Cons:=(mkΓ [(54,conG impl_codeOf_con),(55,con impl_recordOf_con),(60,conG impl_beachError_con1),(62,con impl_record_shareSince_con),(70,con impl_isEvery_con),(71,con impl_hasHours_con)])
noncomputable def w1impl_CollectedAt_t0 (a0:Array Value) (a1 a2 a3 a4 a5:Int) (g_e0 g_e1 g_e2 g_e3 g_e4:Addr):St:=(⟨.a (.g a0 36) :: .a (.i .i64 (a1)) :: .a (.i .i64 (a2)) :: .a (.i .i64 (a3)) :: .a (.i .i64 (a4)) :: .a (.i .i64 (a5)) :: .a (.w 5)::us 5 (.a (.v (.slice none 0 0)) :: .a (.i .i64 (0:Int)) :: .a (.b (decide ((i64.wrap (a4*a5))≤(14:Int)))) :: .a (.v (.nilIface)) :: .a (.l 14) :: .a (.l 17) :: .a (.u) :: .a (.u) :: .a (.i .i64 (a4)) :: .a (.b ((impl_isEvery_v0 a4))) :: .a (.b (true)) :: .a (.i .i64 (a5)) :: .a (.b ((impl_hasHours_v0 a5))) :: .a (.b ((impl_hasHours_v0 a5))) :: .a (.b (true)) :: .a (.i .i64 (a4)) :: .a (.i .i64 (a5)) :: .a (.i .i64 (i64.wrap (a4*a5))) :: .a (.b (decide ((i64.wrap (a4*a5))≤(14:Int)))) :: .a (.b (decide ((i64.wrap (a4*a5))≤(14:Int)))) :: .a (.g a0 36) :: .a (.i .i64 (a1)) :: .a (.i .i64 (a2)) :: .a (.i .i64 (a3)) :: .a (.b (decide ((i64.wrap (a4*a5))≤(14:Int)))) :: .a (.v (.nilIface)) :: .a (.v (.nilIface)) :: .a (.b (false)) :: .a (.u) :: .a (.u) :: .a (.g a0 36) :: .a (.i .i64 (a1)) :: .a (.i .i64 (a2)) :: .a (.i .i64 (a4)) :: .a (.i .i64 (a5)) :: .a (.i .i64 (i64.wrap (a4*a5))) :: .a (.l 14) :: .a (.i .i64 (a5)) :: .a (.l 17) :: .a (.l 17) :: .a (.i .i64 ((a5.toNat):Int)) :: .a (.i .i64 (0:Int))::us 17 ([])),[.gl 0 184 g_e0 101973,.gl 1 184 g_e1 93330,.gl 3 184 g_e2 112315,.gl 2 184 g_e3 124718,.gl 4 184 g_e4 94254,.row a0 36,.no,.no,.no,.no,.no,.no,.no,.no,.sl .own (((i64.wrap (a4*a5)).toNat+1)) (recC prog a0 a1 a2 (i64.wrap (a4*a5)).toNat) 29,.no,.no,.sl .own (a5.toNat) (madeCells (zc prog 41) (a5.toNat*2)) 41,.no],[]⟩:St)
noncomputable def w1impl_CollectedAt_e0 (a5:Int):Int×Array Value→LS
 | (y0_53,r0_17)=>([.a (.i .i64 (y0_53))],[.sl .own (a5.toNat) r0_17 41])
noncomputable def w1impl_CollectedAt_x0 (a5:Int):Int×Array Value→Exit×LS
 | t=>((.exit 0),(w1impl_CollectedAt_e0 a5) t)
noncomputable def w1impl_CollectedAt_g0 (P : Program) (a0 : Array Value) (a1 a2 a3 a4 a5 : Int) (g_e0 g_e1 g_e2 g_e3 g_e4 : Addr) : Int × Array Value → Option (Stp (Int × Array Value) (Int × Array Value))
 | (y0_53, r0_17) => bif decide (y0_53 < ((a5.toNat) : Int)) then (bif ((((decide (0 ≤ (i64.wrap (y0_53 * a4))) && decide ((i64.wrap (y0_53 * a4)) ≤ (i64.wrap ((i64.wrap (y0_53 * a4)) + a4)))) && (decide ((i64.wrap ((i64.wrap (y0_53 * a4)) + a4)) ≤ 14) && decide ((i64.wrap ((i64.wrap (y0_53 * a4)) + a4)) < ((((i64.wrap (a4 * a5)).toNat + 1)) : Int)))) && (decide (0 ≤ a3) && decide (a3 < 36))) && impl_shareOf_gd (num (subV ((recC prog a0 a1 a2 (i64.wrap (a4 * a5)).toNat).extract ((i64.wrap ((i64.wrap (y0_53 * a4)) + a4)).toNat * 36) ((i64.wrap ((i64.wrap (y0_53 * a4)) + a4)).toNat * 36 + 36)) ((recC prog a0 a1 a2 (i64.wrap (a4 * a5)).toNat).extract ((i64.wrap (y0_53 * a4)).toNat * 36) ((i64.wrap (y0_53 * a4)).toNat * 36 + 36)) (12 ^ ((i64.wrap ((i64.wrap (y0_53 * a4)) + a4)) - (i64.wrap (y0_53 * a4))).toNat)) a3.toNat) (12 ^ (i64.wrap ((i64.wrap (y0_53 * a4)) + a4)).toNat)) then (bif (decide (0 ≤ y0_53) && decide (y0_53 < ((a5.toNat) : Int))) then (some (.more ((i64.wrap (y0_53 + (1 : Int))), (spl r0_17 ((y0_53).toNat * 2) (impl_shareOf_v0 (num (subV ((recC prog a0 a1 a2 (i64.wrap (a4 * a5)).toNat).extract ((i64.wrap ((i64.wrap (y0_53 * a4)) + a4)).toNat * 36) ((i64.wrap ((i64.wrap (y0_53 * a4)) + a4)).toNat * 36 + 36)) ((recC prog a0 a1 a2 (i64.wrap (a4 * a5)).toNat).extract ((i64.wrap (y0_53 * a4)).toNat * 36) ((i64.wrap (y0_53 * a4)).toNat * 36 + 36)) (12 ^ ((i64.wrap ((i64.wrap (y0_53 * a4)) + a4)) - (i64.wrap (y0_53 * a4))).toNat)) a3.toNat) (12 ^ (i64.wrap ((i64.wrap (y0_53 * a4)) + a4)).toNat)).toList))))
    else (none))
   else (none))
  else (some (.done (y0_53, r0_17)))
theorem w1impl_CollectedAt_s0 (N:Nat) (a0:Array Value) (a1 a2 a3 a4 a5:Int) (g_e0 g_e1 g_e2 g_e3 g_e4:Addr):∀ t:Int×Array Value,stepV prog w1impl_CollectedAt_G N (cAt (codeOf Tryd.f39) [1,1,1,1,1,0,1,0,0]) (pAt (mkPlan (codeOf Tryd.f39) [([53],[17])]).1 [1,1,1,1,1,0,1,0]) [53] [17] (w1impl_CollectedAt_t0 a0 a1 a2 a3 a4 a5 g_e0 g_e1 g_e2 g_e3 g_e4) ((w1impl_CollectedAt_e0 a5) t)=mapS (w1impl_CollectedAt_e0 a5) (w1impl_CollectedAt_x0 a5) (w1impl_CollectedAt_g0 prog a0 a1 a2 a3 a4 a5 g_e0 g_e1 g_e2 g_e3 g_e4 t):=by
 rintro ⟨y0_53,r0_17⟩
 refine Eq.trans (b:=(bif decide (y0_53<((a5.toNat):Int)) then (bif ((((decide (0≤(i64.wrap (y0_53*a4)))&&decide ((i64.wrap (y0_53*a4))≤(i64.wrap ((i64.wrap (y0_53*a4))+a4))))&&(decide ((i64.wrap ((i64.wrap (y0_53*a4))+a4))≤14)&&decide ((i64.wrap ((i64.wrap (y0_53*a4))+a4))<((((i64.wrap (a4*a5)).toNat+1)):Int))))&&(decide (0≤a3)&&decide (a3<36)))&&impl_shareOf_gd (num (subV ((recC prog a0 a1 a2 (i64.wrap (a4*a5)).toNat).extract ((i64.wrap ((i64.wrap (y0_53*a4))+a4)).toNat*36) ((i64.wrap ((i64.wrap (y0_53*a4))+a4)).toNat*36+36)) ((recC prog a0 a1 a2 (i64.wrap (a4*a5)).toNat).extract ((i64.wrap (y0_53*a4)).toNat*36) ((i64.wrap (y0_53*a4)).toNat*36+36)) (12^((i64.wrap ((i64.wrap (y0_53*a4))+a4)) - (i64.wrap (y0_53*a4))).toNat)) a3.toNat) (12^(i64.wrap ((i64.wrap (y0_53*a4))+a4)).toNat)) then (bif (decide (0≤y0_53)&&decide (y0_53<((a5.toNat):Int))) then (some (.more ([.a (.i .i64 (i64.wrap (y0_53+(1:Int))))],[.sl .own (a5.toNat) (spl r0_17 ((y0_53).toNat*2) (impl_shareOf_v0 (num (subV ((recC prog a0 a1 a2 (i64.wrap (a4*a5)).toNat).extract ((i64.wrap ((i64.wrap (y0_53*a4))+a4)).toNat*36) ((i64.wrap ((i64.wrap (y0_53*a4))+a4)).toNat*36+36)) ((recC prog a0 a1 a2 (i64.wrap (a4*a5)).toNat).extract ((i64.wrap (y0_53*a4)).toNat*36) ((i64.wrap (y0_53*a4)).toNat*36+36)) (12^((i64.wrap ((i64.wrap (y0_53*a4))+a4)) - (i64.wrap (y0_53*a4))).toNat)) a3.toNat) (12^(i64.wrap ((i64.wrap (y0_53*a4))+a4)).toNat)).toList) 41])))
    else (none))
   else (none))
  else (some (.done ((.exit 0),([.a (.i .i64 (y0_53))],[.sl .own (a5.toNat) r0_17 41])))))) (by kernel_rfl) ?_
 simp only [w1impl_CollectedAt_g0,mapS_cond,mapS_more,mapS_done,mapS_none,w1impl_CollectedAt_e0,w1impl_CollectedAt_x0]
noncomputable def w1impl_CollectedAt_k0_0 (P:Program) (N:Nat) (a0:Array Value) (a1 a2 a3 a4 a5:Int) (g_e0 g_e1 g_e2 g_e3 g_e4:Addr) (z0_53:Int) (q0_17:Array Value):Option (SV×Eff×Bool):=some (.t [.x,.i .i64 (0:Int)],.newS (some 0) (a5.toNat) q0_17 41,true)
theorem w1impl_CollectedAt_k0_0_eq (N:Nat) (a0:Array Value) (a1 a2 a3 a4 a5:Int) (g_e0 g_e1 g_e2 g_e3 g_e4:Addr) (z0_53:Int) (q0_17:Array Value):(kBlock 0 (kSeq (veC prog w1impl_CollectedAt_G N (cAt (codeOf Tryd.f39) [1,1,1,1,1,1]) (pAt (mkPlan (codeOf Tryd.f39) [([53],[17])]).1 [1,1,1,1,1,1]) (SV×Eff×Bool)) (finK prog [.gl 0 184 g_e0 101973,.gl 1 184 g_e1 93330,.gl 3 184 g_e2 112315,.gl 2 184 g_e3 124718,.gl 4 184 g_e4 94254] [.tmp 12,.tmp 13]))) (.exit 0) (left (writes (cAt (codeOf Tryd.f39) [1,1,1,1,1,0,1,0,0])) [53] [17] (w1impl_CollectedAt_t0 a0 a1 a2 a3 a4 a5 g_e0 g_e1 g_e2 g_e3 g_e4) ([.a (.i .i64 (z0_53))],[.sl .own (a5.toNat) q0_17 41]))=w1impl_CollectedAt_k0_0 prog N a0 a1 a2 a3 a4 a5 g_e0 g_e1 g_e2 g_e3 g_e4 z0_53 q0_17:=by
 refine Eq.trans (b:=(some (.t [.x,.i .i64 (0:Int)],.newS (some 0) (a5.toNat) q0_17 41,true))) (by kernel_rfl) ?_
 rfl
theorem w1impl_CollectedAt_n0 (N:Nat) (a0:Array Value) (a1 a2 a3 a4 a5:Int) (g_e0 g_e1 g_e2 g_e3 g_e4:Addr):bindX (iterO (stepV prog w1impl_CollectedAt_G N (cAt (codeOf Tryd.f39) [1,1,1,1,1,0,1,0,0]) (pAt (mkPlan (codeOf Tryd.f39) [([53],[17])]).1 [1,1,1,1,1,0,1,0]) [53] [17] (w1impl_CollectedAt_t0 a0 a1 a2 a3 a4 a5 g_e0 g_e1 g_e2 g_e3 g_e4)) N ([.a (.i .i64 (0:Int))],[.sl .own (a5.toNat) (madeCells (zc prog 41) (a5.toNat*2)) 41])) (fun e s=>(kBlock 0 (kSeq (veC prog w1impl_CollectedAt_G N (cAt (codeOf Tryd.f39) [1,1,1,1,1,1]) (pAt (mkPlan (codeOf Tryd.f39) [([53],[17])]).1 [1,1,1,1,1,1]) (SV×Eff×Bool)) (finK prog [.gl 0 184 g_e0 101973,.gl 1 184 g_e1 93330,.gl 3 184 g_e2 112315,.gl 2 184 g_e3 124718,.gl 4 184 g_e4 94254] [.tmp 12,.tmp 13]))) e (left (writes (cAt (codeOf Tryd.f39) [1,1,1,1,1,0,1,0,0])) [53] [17] (w1impl_CollectedAt_t0 a0 a1 a2 a3 a4 a5 g_e0 g_e1 g_e2 g_e3 g_e4) s))=nodeX (iterO (w1impl_CollectedAt_g0 prog a0 a1 a2 a3 a4 a5 g_e0 g_e1 g_e2 g_e3 g_e4) N ((0:Int),(madeCells (zc prog 41) (a5.toNat*2)))) (fun x=>w1impl_CollectedAt_k0_0 prog N a0 a1 a2 a3 a4 a5 g_e0 g_e1 g_e2 g_e3 g_e4 x.1 x.2):=by
 refine loop_node (w1impl_CollectedAt_e0 a5) (w1impl_CollectedAt_x0 a5) _ _ (w1impl_CollectedAt_s0 N a0 a1 a2 a3 a4 a5 g_e0 g_e1 g_e2 g_e3 g_e4) N ((0:Int),(madeCells (zc prog 41) (a5.toNat*2))) _ _ ?_
 intro x;exact w1impl_CollectedAt_k0_0_eq N a0 a1 a2 a3 a4 a5 g_e0 g_e1 g_e2 g_e3 g_e4 x.1 x.2
noncomputable def w1impl_CollectedAt_t0v1 (a0:Array Value) (a1 a2 a3 a4 a5:Int) (g_e0 g_e1 g_e2 g_e3 g_e4:Addr):St:=(⟨.a (.g a0 36) :: .a (.i .i64 (a1)) :: .a (.i .i64 (a2)) :: .a (.i .i64 (a3)) :: .a (.i .i64 (a4)) :: .a (.i .i64 (a5)) :: .a (.w 5)::us 5 (.a (.v (.slice none 0 0)) :: .a (.i .i64 (0:Int)) :: .a (.b (false)) :: .a (.v (.nilIface)) :: .a (.l 14) :: .a (.l 17) :: .a (.u) :: .a (.u) :: .a (.i .i64 (a4)) :: .a (.b ((impl_isEvery_v0 a4))) :: .a (.b (true)) :: .a (.i .i64 (a5)) :: .a (.b ((impl_hasHours_v0 a5))) :: .a (.b ((impl_hasHours_v0 a5))) :: .a (.b (false))::us 4 (.a (.b (false)) :: .a (.g a0 36) :: .a (.i .i64 (a1)) :: .a (.i .i64 (a2)) :: .a (.i .i64 (a3)) :: .a (.b (false)) :: .a (.v (.nilIface)) :: .a (.v (.nilIface)) :: .a (.b (false)) :: .a (.u) :: .a (.u) :: .a (.g a0 36) :: .a (.i .i64 (a1)) :: .a (.i .i64 (a2)) :: .a (.i .i64 (a4)) :: .a (.i .i64 (a5)) :: .a (.i .i64 (i64.wrap (a4*a5))) :: .a (.l 14) :: .a (.i .i64 (a5)) :: .a (.l 17) :: .a (.l 17) :: .a (.i .i64 ((a5.toNat):Int)) :: .a (.i .i64 (0:Int))::us 17 ([]))),[.gl 0 184 g_e0 101973,.gl 1 184 g_e1 93330,.gl 3 184 g_e2 112315,.gl 2 184 g_e3 124718,.gl 4 184 g_e4 94254,.row a0 36,.no,.no,.no,.no,.no,.no,.no,.no,.sl .own (((i64.wrap (a4*a5)).toNat+1)) (recC prog a0 a1 a2 (i64.wrap (a4*a5)).toNat) 29,.no,.no,.sl .own (a5.toNat) (madeCells (zc prog 41) (a5.toNat*2)) 41,.no],[]⟩:St)
noncomputable def w1impl_CollectedAt_e0v1 (a5:Int):Int×Array Value→LS
 | (y0v1_53,r0v1_17)=>([.a (.i .i64 (y0v1_53))],[.sl .own (a5.toNat) r0v1_17 41])
noncomputable def w1impl_CollectedAt_x0v1 (a5:Int):Int×Array Value→Exit×LS
 | t=>((.exit 0),(w1impl_CollectedAt_e0v1 a5) t)
noncomputable def w1impl_CollectedAt_g0v1 (P : Program) (a0 : Array Value) (a1 a2 a3 a4 a5 : Int) (g_e0 g_e1 g_e2 g_e3 g_e4 : Addr) : Int × Array Value → Option (Stp (Int × Array Value) (Int × Array Value))
 | (y0v1_53, r0v1_17) => bif decide (y0v1_53 < ((a5.toNat) : Int)) then (bif ((((decide (0 ≤ (i64.wrap (y0v1_53 * a4))) && decide ((i64.wrap (y0v1_53 * a4)) ≤ (i64.wrap ((i64.wrap (y0v1_53 * a4)) + a4)))) && (decide ((i64.wrap ((i64.wrap (y0v1_53 * a4)) + a4)) ≤ 14) && decide ((i64.wrap ((i64.wrap (y0v1_53 * a4)) + a4)) < ((((i64.wrap (a4 * a5)).toNat + 1)) : Int)))) && (decide (0 ≤ a3) && decide (a3 < 36))) && impl_shareOf_gd (num (subV ((recC prog a0 a1 a2 (i64.wrap (a4 * a5)).toNat).extract ((i64.wrap ((i64.wrap (y0v1_53 * a4)) + a4)).toNat * 36) ((i64.wrap ((i64.wrap (y0v1_53 * a4)) + a4)).toNat * 36 + 36)) ((recC prog a0 a1 a2 (i64.wrap (a4 * a5)).toNat).extract ((i64.wrap (y0v1_53 * a4)).toNat * 36) ((i64.wrap (y0v1_53 * a4)).toNat * 36 + 36)) (12 ^ ((i64.wrap ((i64.wrap (y0v1_53 * a4)) + a4)) - (i64.wrap (y0v1_53 * a4))).toNat)) a3.toNat) (12 ^ (i64.wrap ((i64.wrap (y0v1_53 * a4)) + a4)).toNat)) then (bif (decide (0 ≤ y0v1_53) && decide (y0v1_53 < ((a5.toNat) : Int))) then (some (.more ((i64.wrap (y0v1_53 + (1 : Int))), (spl r0v1_17 ((y0v1_53).toNat * 2) (impl_shareOf_v0 (num (subV ((recC prog a0 a1 a2 (i64.wrap (a4 * a5)).toNat).extract ((i64.wrap ((i64.wrap (y0v1_53 * a4)) + a4)).toNat * 36) ((i64.wrap ((i64.wrap (y0v1_53 * a4)) + a4)).toNat * 36 + 36)) ((recC prog a0 a1 a2 (i64.wrap (a4 * a5)).toNat).extract ((i64.wrap (y0v1_53 * a4)).toNat * 36) ((i64.wrap (y0v1_53 * a4)).toNat * 36 + 36)) (12 ^ ((i64.wrap ((i64.wrap (y0v1_53 * a4)) + a4)) - (i64.wrap (y0v1_53 * a4))).toNat)) a3.toNat) (12 ^ (i64.wrap ((i64.wrap (y0v1_53 * a4)) + a4)).toNat)).toList))))
    else (none))
   else (none))
  else (some (.done (y0v1_53, r0v1_17)))
theorem w1impl_CollectedAt_s0v1 (N:Nat) (a0:Array Value) (a1 a2 a3 a4 a5:Int) (g_e0 g_e1 g_e2 g_e3 g_e4:Addr):∀ t:Int×Array Value,stepV prog w1impl_CollectedAt_G N (cAt (codeOf Tryd.f39) [1,1,1,1,1,0,1,0,0]) (pAt (mkPlan (codeOf Tryd.f39) [([53],[17])]).1 [1,1,1,1,1,0,1,0]) [53] [17] (w1impl_CollectedAt_t0v1 a0 a1 a2 a3 a4 a5 g_e0 g_e1 g_e2 g_e3 g_e4) ((w1impl_CollectedAt_e0v1 a5) t)=mapS (w1impl_CollectedAt_e0v1 a5) (w1impl_CollectedAt_x0v1 a5) (w1impl_CollectedAt_g0v1 prog a0 a1 a2 a3 a4 a5 g_e0 g_e1 g_e2 g_e3 g_e4 t):=by
 rintro ⟨y0v1_53,r0v1_17⟩
 refine Eq.trans (b:=(bif decide (y0v1_53<((a5.toNat):Int)) then (bif ((((decide (0≤(i64.wrap (y0v1_53*a4)))&&decide ((i64.wrap (y0v1_53*a4))≤(i64.wrap ((i64.wrap (y0v1_53*a4))+a4))))&&(decide ((i64.wrap ((i64.wrap (y0v1_53*a4))+a4))≤14)&&decide ((i64.wrap ((i64.wrap (y0v1_53*a4))+a4))<((((i64.wrap (a4*a5)).toNat+1)):Int))))&&(decide (0≤a3)&&decide (a3<36)))&&impl_shareOf_gd (num (subV ((recC prog a0 a1 a2 (i64.wrap (a4*a5)).toNat).extract ((i64.wrap ((i64.wrap (y0v1_53*a4))+a4)).toNat*36) ((i64.wrap ((i64.wrap (y0v1_53*a4))+a4)).toNat*36+36)) ((recC prog a0 a1 a2 (i64.wrap (a4*a5)).toNat).extract ((i64.wrap (y0v1_53*a4)).toNat*36) ((i64.wrap (y0v1_53*a4)).toNat*36+36)) (12^((i64.wrap ((i64.wrap (y0v1_53*a4))+a4)) - (i64.wrap (y0v1_53*a4))).toNat)) a3.toNat) (12^(i64.wrap ((i64.wrap (y0v1_53*a4))+a4)).toNat)) then (bif (decide (0≤y0v1_53)&&decide (y0v1_53<((a5.toNat):Int))) then (some (.more ([.a (.i .i64 (i64.wrap (y0v1_53+(1:Int))))],[.sl .own (a5.toNat) (spl r0v1_17 ((y0v1_53).toNat*2) (impl_shareOf_v0 (num (subV ((recC prog a0 a1 a2 (i64.wrap (a4*a5)).toNat).extract ((i64.wrap ((i64.wrap (y0v1_53*a4))+a4)).toNat*36) ((i64.wrap ((i64.wrap (y0v1_53*a4))+a4)).toNat*36+36)) ((recC prog a0 a1 a2 (i64.wrap (a4*a5)).toNat).extract ((i64.wrap (y0v1_53*a4)).toNat*36) ((i64.wrap (y0v1_53*a4)).toNat*36+36)) (12^((i64.wrap ((i64.wrap (y0v1_53*a4))+a4)) - (i64.wrap (y0v1_53*a4))).toNat)) a3.toNat) (12^(i64.wrap ((i64.wrap (y0v1_53*a4))+a4)).toNat)).toList) 41])))
    else (none))
   else (none))
  else (some (.done ((.exit 0),([.a (.i .i64 (y0v1_53))],[.sl .own (a5.toNat) r0v1_17 41])))))) (by kernel_rfl) ?_
 simp only [w1impl_CollectedAt_g0v1,mapS_cond,mapS_more,mapS_done,mapS_none,w1impl_CollectedAt_e0v1,w1impl_CollectedAt_x0v1]
noncomputable def w1impl_CollectedAt_k0v1_0 (P:Program) (N:Nat) (a0:Array Value) (a1 a2 a3 a4 a5:Int) (g_e0 g_e1 g_e2 g_e3 g_e4:Addr) (z0v1_53:Int) (q0v1_17:Array Value):Option (SV×Eff×Bool):=some (.t [.x,.i .i64 (0:Int)],.newS (some 0) (a5.toNat) q0v1_17 41,true)
theorem w1impl_CollectedAt_k0v1_0_eq (N:Nat) (a0:Array Value) (a1 a2 a3 a4 a5:Int) (g_e0 g_e1 g_e2 g_e3 g_e4:Addr) (z0v1_53:Int) (q0v1_17:Array Value):(kBlock 0 (kSeq (veC prog w1impl_CollectedAt_G N (cAt (codeOf Tryd.f39) [1,1,1,1,1,1]) (pAt (mkPlan (codeOf Tryd.f39) [([53],[17])]).1 [1,1,1,1,1,1]) (SV×Eff×Bool)) (finK prog [.gl 0 184 g_e0 101973,.gl 1 184 g_e1 93330,.gl 3 184 g_e2 112315,.gl 2 184 g_e3 124718,.gl 4 184 g_e4 94254] [.tmp 12,.tmp 13]))) (.exit 0) (left (writes (cAt (codeOf Tryd.f39) [1,1,1,1,1,0,1,0,0])) [53] [17] (w1impl_CollectedAt_t0v1 a0 a1 a2 a3 a4 a5 g_e0 g_e1 g_e2 g_e3 g_e4) ([.a (.i .i64 (z0v1_53))],[.sl .own (a5.toNat) q0v1_17 41]))=w1impl_CollectedAt_k0v1_0 prog N a0 a1 a2 a3 a4 a5 g_e0 g_e1 g_e2 g_e3 g_e4 z0v1_53 q0v1_17:=by
 refine Eq.trans (b:=(some (.t [.x,.i .i64 (0:Int)],.newS (some 0) (a5.toNat) q0v1_17 41,true))) (by kernel_rfl) ?_
 rfl
theorem w1impl_CollectedAt_n0v1 (N:Nat) (a0:Array Value) (a1 a2 a3 a4 a5:Int) (g_e0 g_e1 g_e2 g_e3 g_e4:Addr):bindX (iterO (stepV prog w1impl_CollectedAt_G N (cAt (codeOf Tryd.f39) [1,1,1,1,1,0,1,0,0]) (pAt (mkPlan (codeOf Tryd.f39) [([53],[17])]).1 [1,1,1,1,1,0,1,0]) [53] [17] (w1impl_CollectedAt_t0v1 a0 a1 a2 a3 a4 a5 g_e0 g_e1 g_e2 g_e3 g_e4)) N ([.a (.i .i64 (0:Int))],[.sl .own (a5.toNat) (madeCells (zc prog 41) (a5.toNat*2)) 41])) (fun e s=>(kBlock 0 (kSeq (veC prog w1impl_CollectedAt_G N (cAt (codeOf Tryd.f39) [1,1,1,1,1,1]) (pAt (mkPlan (codeOf Tryd.f39) [([53],[17])]).1 [1,1,1,1,1,1]) (SV×Eff×Bool)) (finK prog [.gl 0 184 g_e0 101973,.gl 1 184 g_e1 93330,.gl 3 184 g_e2 112315,.gl 2 184 g_e3 124718,.gl 4 184 g_e4 94254] [.tmp 12,.tmp 13]))) e (left (writes (cAt (codeOf Tryd.f39) [1,1,1,1,1,0,1,0,0])) [53] [17] (w1impl_CollectedAt_t0v1 a0 a1 a2 a3 a4 a5 g_e0 g_e1 g_e2 g_e3 g_e4) s))=nodeX (iterO (w1impl_CollectedAt_g0v1 prog a0 a1 a2 a3 a4 a5 g_e0 g_e1 g_e2 g_e3 g_e4) N ((0:Int),(madeCells (zc prog 41) (a5.toNat*2)))) (fun x=>w1impl_CollectedAt_k0v1_0 prog N a0 a1 a2 a3 a4 a5 g_e0 g_e1 g_e2 g_e3 g_e4 x.1 x.2):=by
 refine loop_node (w1impl_CollectedAt_e0v1 a5) (w1impl_CollectedAt_x0v1 a5) _ _ (w1impl_CollectedAt_s0v1 N a0 a1 a2 a3 a4 a5 g_e0 g_e1 g_e2 g_e3 g_e4) N ((0:Int),(madeCells (zc prog 41) (a5.toNat*2))) _ _ ?_
 intro x;exact w1impl_CollectedAt_k0v1_0_eq N a0 a1 a2 a3 a4 a5 g_e0 g_e1 g_e2 g_e3 g_e4 x.1 x.2
noncomputable def w1impl_CollectedAt_t0v2 (a0:Array Value) (a1 a2 a3 a4 a5:Int) (g_e0 g_e1 g_e2 g_e3 g_e4:Addr):St:=(⟨.a (.g a0 36) :: .a (.i .i64 (a1)) :: .a (.i .i64 (a2)) :: .a (.i .i64 (a3)) :: .a (.i .i64 (a4)) :: .a (.i .i64 (a5)) :: .a (.w 5)::us 5 (.a (.v (.slice none 0 0)) :: .a (.i .i64 (0:Int)) :: .a (.b (false)) :: .a (.v (.nilIface)) :: .a (.l 14) :: .a (.l 17) :: .a (.u) :: .a (.u) :: .a (.i .i64 (a4)) :: .a (.b ((impl_isEvery_v0 a4))) :: .a (.b (false)) :: .a (.u) :: .a (.u) :: .a (.b (false)) :: .a (.b (false))::us 4 (.a (.b (false)) :: .a (.g a0 36) :: .a (.i .i64 (a1)) :: .a (.i .i64 (a2)) :: .a (.i .i64 (a3)) :: .a (.b (false)) :: .a (.v (.nilIface)) :: .a (.v (.nilIface)) :: .a (.b (false)) :: .a (.u) :: .a (.u) :: .a (.g a0 36) :: .a (.i .i64 (a1)) :: .a (.i .i64 (a2)) :: .a (.i .i64 (a4)) :: .a (.i .i64 (a5)) :: .a (.i .i64 (i64.wrap (a4*a5))) :: .a (.l 14) :: .a (.i .i64 (a5)) :: .a (.l 17) :: .a (.l 17) :: .a (.i .i64 ((a5.toNat):Int)) :: .a (.i .i64 (0:Int))::us 17 ([]))),[.gl 0 184 g_e0 101973,.gl 1 184 g_e1 93330,.gl 3 184 g_e2 112315,.gl 2 184 g_e3 124718,.gl 4 184 g_e4 94254,.row a0 36,.no,.no,.no,.no,.no,.no,.no,.no,.sl .own (((i64.wrap (a4*a5)).toNat+1)) (recC prog a0 a1 a2 (i64.wrap (a4*a5)).toNat) 29,.no,.no,.sl .own (a5.toNat) (madeCells (zc prog 41) (a5.toNat*2)) 41,.no],[]⟩:St)
noncomputable def w1impl_CollectedAt_e0v2 (a5:Int):Int×Array Value→LS
 | (y0v2_53,r0v2_17)=>([.a (.i .i64 (y0v2_53))],[.sl .own (a5.toNat) r0v2_17 41])
noncomputable def w1impl_CollectedAt_x0v2 (a5:Int):Int×Array Value→Exit×LS
 | t=>((.exit 0),(w1impl_CollectedAt_e0v2 a5) t)
noncomputable def w1impl_CollectedAt_g0v2 (P : Program) (a0 : Array Value) (a1 a2 a3 a4 a5 : Int) (g_e0 g_e1 g_e2 g_e3 g_e4 : Addr) : Int × Array Value → Option (Stp (Int × Array Value) (Int × Array Value))
 | (y0v2_53, r0v2_17) => bif decide (y0v2_53 < ((a5.toNat) : Int)) then (bif ((((decide (0 ≤ (i64.wrap (y0v2_53 * a4))) && decide ((i64.wrap (y0v2_53 * a4)) ≤ (i64.wrap ((i64.wrap (y0v2_53 * a4)) + a4)))) && (decide ((i64.wrap ((i64.wrap (y0v2_53 * a4)) + a4)) ≤ 14) && decide ((i64.wrap ((i64.wrap (y0v2_53 * a4)) + a4)) < ((((i64.wrap (a4 * a5)).toNat + 1)) : Int)))) && (decide (0 ≤ a3) && decide (a3 < 36))) && impl_shareOf_gd (num (subV ((recC prog a0 a1 a2 (i64.wrap (a4 * a5)).toNat).extract ((i64.wrap ((i64.wrap (y0v2_53 * a4)) + a4)).toNat * 36) ((i64.wrap ((i64.wrap (y0v2_53 * a4)) + a4)).toNat * 36 + 36)) ((recC prog a0 a1 a2 (i64.wrap (a4 * a5)).toNat).extract ((i64.wrap (y0v2_53 * a4)).toNat * 36) ((i64.wrap (y0v2_53 * a4)).toNat * 36 + 36)) (12 ^ ((i64.wrap ((i64.wrap (y0v2_53 * a4)) + a4)) - (i64.wrap (y0v2_53 * a4))).toNat)) a3.toNat) (12 ^ (i64.wrap ((i64.wrap (y0v2_53 * a4)) + a4)).toNat)) then (bif (decide (0 ≤ y0v2_53) && decide (y0v2_53 < ((a5.toNat) : Int))) then (some (.more ((i64.wrap (y0v2_53 + (1 : Int))), (spl r0v2_17 ((y0v2_53).toNat * 2) (impl_shareOf_v0 (num (subV ((recC prog a0 a1 a2 (i64.wrap (a4 * a5)).toNat).extract ((i64.wrap ((i64.wrap (y0v2_53 * a4)) + a4)).toNat * 36) ((i64.wrap ((i64.wrap (y0v2_53 * a4)) + a4)).toNat * 36 + 36)) ((recC prog a0 a1 a2 (i64.wrap (a4 * a5)).toNat).extract ((i64.wrap (y0v2_53 * a4)).toNat * 36) ((i64.wrap (y0v2_53 * a4)).toNat * 36 + 36)) (12 ^ ((i64.wrap ((i64.wrap (y0v2_53 * a4)) + a4)) - (i64.wrap (y0v2_53 * a4))).toNat)) a3.toNat) (12 ^ (i64.wrap ((i64.wrap (y0v2_53 * a4)) + a4)).toNat)).toList))))
    else (none))
   else (none))
  else (some (.done (y0v2_53, r0v2_17)))
theorem w1impl_CollectedAt_s0v2 (N:Nat) (a0:Array Value) (a1 a2 a3 a4 a5:Int) (g_e0 g_e1 g_e2 g_e3 g_e4:Addr):∀ t:Int×Array Value,stepV prog w1impl_CollectedAt_G N (cAt (codeOf Tryd.f39) [1,1,1,1,1,0,1,0,0]) (pAt (mkPlan (codeOf Tryd.f39) [([53],[17])]).1 [1,1,1,1,1,0,1,0]) [53] [17] (w1impl_CollectedAt_t0v2 a0 a1 a2 a3 a4 a5 g_e0 g_e1 g_e2 g_e3 g_e4) ((w1impl_CollectedAt_e0v2 a5) t)=mapS (w1impl_CollectedAt_e0v2 a5) (w1impl_CollectedAt_x0v2 a5) (w1impl_CollectedAt_g0v2 prog a0 a1 a2 a3 a4 a5 g_e0 g_e1 g_e2 g_e3 g_e4 t):=by
 rintro ⟨y0v2_53,r0v2_17⟩
 refine Eq.trans (b:=(bif decide (y0v2_53<((a5.toNat):Int)) then (bif ((((decide (0≤(i64.wrap (y0v2_53*a4)))&&decide ((i64.wrap (y0v2_53*a4))≤(i64.wrap ((i64.wrap (y0v2_53*a4))+a4))))&&(decide ((i64.wrap ((i64.wrap (y0v2_53*a4))+a4))≤14)&&decide ((i64.wrap ((i64.wrap (y0v2_53*a4))+a4))<((((i64.wrap (a4*a5)).toNat+1)):Int))))&&(decide (0≤a3)&&decide (a3<36)))&&impl_shareOf_gd (num (subV ((recC prog a0 a1 a2 (i64.wrap (a4*a5)).toNat).extract ((i64.wrap ((i64.wrap (y0v2_53*a4))+a4)).toNat*36) ((i64.wrap ((i64.wrap (y0v2_53*a4))+a4)).toNat*36+36)) ((recC prog a0 a1 a2 (i64.wrap (a4*a5)).toNat).extract ((i64.wrap (y0v2_53*a4)).toNat*36) ((i64.wrap (y0v2_53*a4)).toNat*36+36)) (12^((i64.wrap ((i64.wrap (y0v2_53*a4))+a4)) - (i64.wrap (y0v2_53*a4))).toNat)) a3.toNat) (12^(i64.wrap ((i64.wrap (y0v2_53*a4))+a4)).toNat)) then (bif (decide (0≤y0v2_53)&&decide (y0v2_53<((a5.toNat):Int))) then (some (.more ([.a (.i .i64 (i64.wrap (y0v2_53+(1:Int))))],[.sl .own (a5.toNat) (spl r0v2_17 ((y0v2_53).toNat*2) (impl_shareOf_v0 (num (subV ((recC prog a0 a1 a2 (i64.wrap (a4*a5)).toNat).extract ((i64.wrap ((i64.wrap (y0v2_53*a4))+a4)).toNat*36) ((i64.wrap ((i64.wrap (y0v2_53*a4))+a4)).toNat*36+36)) ((recC prog a0 a1 a2 (i64.wrap (a4*a5)).toNat).extract ((i64.wrap (y0v2_53*a4)).toNat*36) ((i64.wrap (y0v2_53*a4)).toNat*36+36)) (12^((i64.wrap ((i64.wrap (y0v2_53*a4))+a4)) - (i64.wrap (y0v2_53*a4))).toNat)) a3.toNat) (12^(i64.wrap ((i64.wrap (y0v2_53*a4))+a4)).toNat)).toList) 41])))
    else (none))
   else (none))
  else (some (.done ((.exit 0),([.a (.i .i64 (y0v2_53))],[.sl .own (a5.toNat) r0v2_17 41])))))) (by kernel_rfl) ?_
 simp only [w1impl_CollectedAt_g0v2,mapS_cond,mapS_more,mapS_done,mapS_none,w1impl_CollectedAt_e0v2,w1impl_CollectedAt_x0v2]
noncomputable def w1impl_CollectedAt_k0v2_0 (P:Program) (N:Nat) (a0:Array Value) (a1 a2 a3 a4 a5:Int) (g_e0 g_e1 g_e2 g_e3 g_e4:Addr) (z0v2_53:Int) (q0v2_17:Array Value):Option (SV×Eff×Bool):=some (.t [.x,.i .i64 (0:Int)],.newS (some 0) (a5.toNat) q0v2_17 41,true)
theorem w1impl_CollectedAt_k0v2_0_eq (N:Nat) (a0:Array Value) (a1 a2 a3 a4 a5:Int) (g_e0 g_e1 g_e2 g_e3 g_e4:Addr) (z0v2_53:Int) (q0v2_17:Array Value):(kBlock 0 (kSeq (veC prog w1impl_CollectedAt_G N (cAt (codeOf Tryd.f39) [1,1,1,1,1,1]) (pAt (mkPlan (codeOf Tryd.f39) [([53],[17])]).1 [1,1,1,1,1,1]) (SV×Eff×Bool)) (finK prog [.gl 0 184 g_e0 101973,.gl 1 184 g_e1 93330,.gl 3 184 g_e2 112315,.gl 2 184 g_e3 124718,.gl 4 184 g_e4 94254] [.tmp 12,.tmp 13]))) (.exit 0) (left (writes (cAt (codeOf Tryd.f39) [1,1,1,1,1,0,1,0,0])) [53] [17] (w1impl_CollectedAt_t0v2 a0 a1 a2 a3 a4 a5 g_e0 g_e1 g_e2 g_e3 g_e4) ([.a (.i .i64 (z0v2_53))],[.sl .own (a5.toNat) q0v2_17 41]))=w1impl_CollectedAt_k0v2_0 prog N a0 a1 a2 a3 a4 a5 g_e0 g_e1 g_e2 g_e3 g_e4 z0v2_53 q0v2_17:=by
 refine Eq.trans (b:=(some (.t [.x,.i .i64 (0:Int)],.newS (some 0) (a5.toNat) q0v2_17 41,true))) (by kernel_rfl) ?_
 rfl
theorem w1impl_CollectedAt_n0v2 (N:Nat) (a0:Array Value) (a1 a2 a3 a4 a5:Int) (g_e0 g_e1 g_e2 g_e3 g_e4:Addr):bindX (iterO (stepV prog w1impl_CollectedAt_G N (cAt (codeOf Tryd.f39) [1,1,1,1,1,0,1,0,0]) (pAt (mkPlan (codeOf Tryd.f39) [([53],[17])]).1 [1,1,1,1,1,0,1,0]) [53] [17] (w1impl_CollectedAt_t0v2 a0 a1 a2 a3 a4 a5 g_e0 g_e1 g_e2 g_e3 g_e4)) N ([.a (.i .i64 (0:Int))],[.sl .own (a5.toNat) (madeCells (zc prog 41) (a5.toNat*2)) 41])) (fun e s=>(kBlock 0 (kSeq (veC prog w1impl_CollectedAt_G N (cAt (codeOf Tryd.f39) [1,1,1,1,1,1]) (pAt (mkPlan (codeOf Tryd.f39) [([53],[17])]).1 [1,1,1,1,1,1]) (SV×Eff×Bool)) (finK prog [.gl 0 184 g_e0 101973,.gl 1 184 g_e1 93330,.gl 3 184 g_e2 112315,.gl 2 184 g_e3 124718,.gl 4 184 g_e4 94254] [.tmp 12,.tmp 13]))) e (left (writes (cAt (codeOf Tryd.f39) [1,1,1,1,1,0,1,0,0])) [53] [17] (w1impl_CollectedAt_t0v2 a0 a1 a2 a3 a4 a5 g_e0 g_e1 g_e2 g_e3 g_e4) s))=nodeX (iterO (w1impl_CollectedAt_g0v2 prog a0 a1 a2 a3 a4 a5 g_e0 g_e1 g_e2 g_e3 g_e4) N ((0:Int),(madeCells (zc prog 41) (a5.toNat*2)))) (fun x=>w1impl_CollectedAt_k0v2_0 prog N a0 a1 a2 a3 a4 a5 g_e0 g_e1 g_e2 g_e3 g_e4 x.1 x.2):=by
 refine loop_node (w1impl_CollectedAt_e0v2 a5) (w1impl_CollectedAt_x0v2 a5) _ _ (w1impl_CollectedAt_s0v2 N a0 a1 a2 a3 a4 a5 g_e0 g_e1 g_e2 g_e3 g_e4) N ((0:Int),(madeCells (zc prog 41) (a5.toNat*2))) _ _ ?_
 intro x;exact w1impl_CollectedAt_k0v2_0_eq N a0 a1 a2 a3 a4 a5 g_e0 g_e1 g_e2 g_e3 g_e4 x.1 x.2
theorem w1impl_CollectedAt_ans (N:Nat) (a0:Array Value) (a1 a2 a3 a4 a5:Int) (g_e0 g_e1 g_e2 g_e3 g_e4:Addr):ansV prog w1impl_CollectedAt_G N Tryd.f39 [([53],[17])] [.g a0 36,.i .i64 (a1),.i .i64 (a2),.i .i64 (a3),.i .i64 (a4),.i .i64 (a5)] [.gl 0 184 g_e0 101973,.gl 1 184 g_e1 93330,.gl 3 184 g_e2 112315,.gl 2 184 g_e3 124718,.gl 4 184 g_e4 94254]=(bif (impl_isEvery_v0 a4) then (bif (impl_hasHours_v0 a5) then (bif (okS a0&&(bl a0 a1 a2 a3 (decide ((i64.wrap (a4*a5))≤(14:Int)))&&((!(spec_l01Dry_v0 a1 a0))&&(spec_l01Dry_v0 a3 a0)))) then (bif (okS a0&&((spec_l01Is_v0 a1 a0&&spec_l00In_v0 a2 0 1)&&spec_l00In_v0 (i64.wrap (a4*a5)) 0 14)) then (bif (decide (0≤a5)&&(a5==a5&&decide ((bytesOf prog 41:Int)*a5≤281474976710656))) then (nodeX (iterO (w1impl_CollectedAt_g0 prog a0 a1 a2 a3 a4 a5 g_e0 g_e1 g_e2 g_e3 g_e4) N ((0:Int),(madeCells (zc prog 41) (a5.toNat*2)))) (fun x=>w1impl_CollectedAt_k0_0 prog N a0 a1 a2 a3 a4 a5 g_e0 g_e1 g_e2 g_e3 g_e4 x.1 x.2))
            else (none))
          else (none))
        else (none))
      else (bif (okS a0&&(bl a0 a1 a2 a3 false&&((!(spec_l01Dry_v0 a1 a0))&&(spec_l01Dry_v0 a3 a0)))) then (bif (okS a0&&((spec_l01Is_v0 a1 a0&&spec_l00In_v0 a2 0 1)&&spec_l00In_v0 (i64.wrap (a4*a5)) 0 14)) then (bif (decide (0≤a5)&&(a5==a5&&decide ((bytesOf prog 41:Int)*a5≤281474976710656))) then (nodeX (iterO (w1impl_CollectedAt_g0v1 prog a0 a1 a2 a3 a4 a5 g_e0 g_e1 g_e2 g_e3 g_e4) N ((0:Int),(madeCells (zc prog 41) (a5.toNat*2)))) (fun x=>w1impl_CollectedAt_k0v1_0 prog N a0 a1 a2 a3 a4 a5 g_e0 g_e1 g_e2 g_e3 g_e4 x.1 x.2))
            else (none))
          else (none))
        else (none)))
    else (bif (okS a0&&(bl a0 a1 a2 a3 false&&((!(spec_l01Dry_v0 a1 a0))&&(spec_l01Dry_v0 a3 a0)))) then (bif (okS a0&&((spec_l01Is_v0 a1 a0&&spec_l00In_v0 a2 0 1)&&spec_l00In_v0 (i64.wrap (a4*a5)) 0 14)) then (bif (decide (0≤a5)&&(a5==a5&&decide ((bytesOf prog 41:Int)*a5≤281474976710656))) then (nodeX (iterO (w1impl_CollectedAt_g0v2 prog a0 a1 a2 a3 a4 a5 g_e0 g_e1 g_e2 g_e3 g_e4) N ((0:Int),(madeCells (zc prog 41) (a5.toNat*2)))) (fun x=>w1impl_CollectedAt_k0v2_0 prog N a0 a1 a2 a3 a4 a5 g_e0 g_e1 g_e2 g_e3 g_e4 x.1 x.2))
          else (none))
        else (none))
      else (none))):=by
  refine Eq.trans (b:=(bif (impl_isEvery_v0 a4) then (bif (impl_hasHours_v0 a5) then (bif (okS a0&&(bl a0 a1 a2 a3 (decide ((i64.wrap (a4*a5))≤(14:Int)))&&((!(spec_l01Dry_v0 a1 a0))&&(spec_l01Dry_v0 a3 a0)))) then (bif (okS a0&&((spec_l01Is_v0 a1 a0&&spec_l00In_v0 a2 0 1)&&spec_l00In_v0 (i64.wrap (a4*a5)) 0 14)) then (bif (decide (0≤a5)&&(a5==a5&&decide ((bytesOf prog 41:Int)*a5≤281474976710656))) then (bindX (iterO (stepV prog w1impl_CollectedAt_G N (cAt (codeOf Tryd.f39) [1,1,1,1,1,0,1,0,0]) (pAt (mkPlan (codeOf Tryd.f39) [([53],[17])]).1 [1,1,1,1,1,0,1,0]) [53] [17] (w1impl_CollectedAt_t0 a0 a1 a2 a3 a4 a5 g_e0 g_e1 g_e2 g_e3 g_e4)) N ([.a (.i .i64 (0:Int))],[.sl .own (a5.toNat) (madeCells (zc prog 41) (a5.toNat*2)) 41])) (fun e s=>(kBlock 0 (kSeq (veC prog w1impl_CollectedAt_G N (cAt (codeOf Tryd.f39) [1,1,1,1,1,1]) (pAt (mkPlan (codeOf Tryd.f39) [([53],[17])]).1 [1,1,1,1,1,1]) (SV×Eff×Bool)) (finK prog [.gl 0 184 g_e0 101973,.gl 1 184 g_e1 93330,.gl 3 184 g_e2 112315,.gl 2 184 g_e3 124718,.gl 4 184 g_e4 94254] [.tmp 12,.tmp 13]))) e (left (writes (cAt (codeOf Tryd.f39) [1,1,1,1,1,0,1,0,0])) [53] [17] (w1impl_CollectedAt_t0 a0 a1 a2 a3 a4 a5 g_e0 g_e1 g_e2 g_e3 g_e4) s)))
            else (none))
          else (none))
        else (none))
      else (bif (okS a0&&(bl a0 a1 a2 a3 false&&((!(spec_l01Dry_v0 a1 a0))&&(spec_l01Dry_v0 a3 a0)))) then (bif (okS a0&&((spec_l01Is_v0 a1 a0&&spec_l00In_v0 a2 0 1)&&spec_l00In_v0 (i64.wrap (a4*a5)) 0 14)) then (bif (decide (0≤a5)&&(a5==a5&&decide ((bytesOf prog 41:Int)*a5≤281474976710656))) then (bindX (iterO (stepV prog w1impl_CollectedAt_G N (cAt (codeOf Tryd.f39) [1,1,1,1,1,0,1,0,0]) (pAt (mkPlan (codeOf Tryd.f39) [([53],[17])]).1 [1,1,1,1,1,0,1,0]) [53] [17] (w1impl_CollectedAt_t0v1 a0 a1 a2 a3 a4 a5 g_e0 g_e1 g_e2 g_e3 g_e4)) N ([.a (.i .i64 (0:Int))],[.sl .own (a5.toNat) (madeCells (zc prog 41) (a5.toNat*2)) 41])) (fun e s=>(kBlock 0 (kSeq (veC prog w1impl_CollectedAt_G N (cAt (codeOf Tryd.f39) [1,1,1,1,1,1]) (pAt (mkPlan (codeOf Tryd.f39) [([53],[17])]).1 [1,1,1,1,1,1]) (SV×Eff×Bool)) (finK prog [.gl 0 184 g_e0 101973,.gl 1 184 g_e1 93330,.gl 3 184 g_e2 112315,.gl 2 184 g_e3 124718,.gl 4 184 g_e4 94254] [.tmp 12,.tmp 13]))) e (left (writes (cAt (codeOf Tryd.f39) [1,1,1,1,1,0,1,0,0])) [53] [17] (w1impl_CollectedAt_t0v1 a0 a1 a2 a3 a4 a5 g_e0 g_e1 g_e2 g_e3 g_e4) s)))
            else (none))
          else (none))
        else (none)))
    else (bif (okS a0&&(bl a0 a1 a2 a3 false&&((!(spec_l01Dry_v0 a1 a0))&&(spec_l01Dry_v0 a3 a0)))) then (bif (okS a0&&((spec_l01Is_v0 a1 a0&&spec_l00In_v0 a2 0 1)&&spec_l00In_v0 (i64.wrap (a4*a5)) 0 14)) then (bif (decide (0≤a5)&&(a5==a5&&decide ((bytesOf prog 41:Int)*a5≤281474976710656))) then (bindX (iterO (stepV prog w1impl_CollectedAt_G N (cAt (codeOf Tryd.f39) [1,1,1,1,1,0,1,0,0]) (pAt (mkPlan (codeOf Tryd.f39) [([53],[17])]).1 [1,1,1,1,1,0,1,0]) [53] [17] (w1impl_CollectedAt_t0v2 a0 a1 a2 a3 a4 a5 g_e0 g_e1 g_e2 g_e3 g_e4)) N ([.a (.i .i64 (0:Int))],[.sl .own (a5.toNat) (madeCells (zc prog 41) (a5.toNat*2)) 41])) (fun e s=>(kBlock 0 (kSeq (veC prog w1impl_CollectedAt_G N (cAt (codeOf Tryd.f39) [1,1,1,1,1,1]) (pAt (mkPlan (codeOf Tryd.f39) [([53],[17])]).1 [1,1,1,1,1,1]) (SV×Eff×Bool)) (finK prog [.gl 0 184 g_e0 101973,.gl 1 184 g_e1 93330,.gl 3 184 g_e2 112315,.gl 2 184 g_e3 124718,.gl 4 184 g_e4 94254] [.tmp 12,.tmp 13]))) e (left (writes (cAt (codeOf Tryd.f39) [1,1,1,1,1,0,1,0,0])) [53] [17] (w1impl_CollectedAt_t0v2 a0 a1 a2 a3 a4 a5 g_e0 g_e1 g_e2 g_e3 g_e4) s)))
          else (none))
        else (none))
      else (none)))) (by kernel_rfl) ?_
  simp only [w1impl_CollectedAt_n0 N a0 a1 a2 a3 a4 a5 g_e0 g_e1 g_e2 g_e3 g_e4,w1impl_CollectedAt_n0v1 N a0 a1 a2 a3 a4 a5 g_e0 g_e1 g_e2 g_e3 g_e4,w1impl_CollectedAt_n0v2 N a0 a1 a2 a3 a4 a5 g_e0 g_e1 g_e2 g_e3 g_e4]
noncomputable def w2impl_CollectedAt_G:Cons:=(mkΓ [(54,conG impl_codeOf_con),(55,con impl_recordOf_con),(60,conG impl_beachError_con2),(62,con impl_record_shareSince_con),(70,con impl_isEvery_con),(71,con impl_hasHours_con)])
theorem w2impl_CollectedAt_ans (N:Nat) (a0:Array Value) (a1 a2 a3 a4 a5:Int) (g_e0 g_e1 g_e2 g_e3 g_e4:Addr):ansV prog w2impl_CollectedAt_G N Tryd.f39 [([53],[])] [.g a0 36,.i .i64 (a1),.i .i64 (a2),.i .i64 (a3),.i .i64 (a4),.i .i64 (a5)] [.gl 0 184 g_e0 101973,.gl 1 184 g_e1 93330,.gl 3 184 g_e2 112315,.gl 2 184 g_e3 124718,.gl 4 184 g_e4 94254]=(bif (impl_isEvery_v0 a4) then (bif (impl_hasHours_v0 a5) then (bif (okS a0&&(bl a0 a1 a2 a3 (decide ((i64.wrap (a4*a5))≤(14:Int)))&&((!(spec_l01Dry_v0 a1 a0))&&((!(spec_l01Dry_v0 a3 a0)))))) then (some (.t [.v (.slice none 0 0),.i .i64 (4:Int)],.none,true))
    else (none))
   else (bif (okS a0&&(bl a0 a1 a2 a3 false&&((!(spec_l01Dry_v0 a1 a0))&&((!(spec_l01Dry_v0 a3 a0)))))) then (some (.t [.v (.slice none 0 0),.i .i64 (4:Int)],.none,true))
    else (none)))
  else (bif (okS a0&&(bl a0 a1 a2 a3 false&&((!(spec_l01Dry_v0 a1 a0))&&((!(spec_l01Dry_v0 a3 a0)))))) then (some (.t [.v (.slice none 0 0),.i .i64 (4:Int)],.none,true))
   else (none))):=by kernel_rfl
noncomputable def w3impl_CollectedAt_G:Cons:=(mkΓ [(54,conG impl_codeOf_con),(55,con impl_recordOf_con),(60,conG impl_beachError_con3),(62,con impl_record_shareSince_con),(70,con impl_isEvery_con),(71,con impl_hasHours_con)])
theorem w3impl_CollectedAt_ans (N:Nat) (a0:Array Value) (a1 a2 a3 a4 a5:Int) (g_e0 g_e1 g_e2 g_e3 g_e4:Addr):ansV prog w3impl_CollectedAt_G N Tryd.f39 [([53],[])] [.g a0 36,.i .i64 (a1),.i .i64 (a2),.i .i64 (a3),.i .i64 (a4),.i .i64 (a5)] [.gl 0 184 g_e0 101973,.gl 1 184 g_e1 93330,.gl 3 184 g_e2 112315,.gl 2 184 g_e3 124718,.gl 4 184 g_e4 94254]=(bif (impl_isEvery_v0 a4) then (bif (impl_hasHours_v0 a5) then (bif (okS a0&&((!(bl a0 a1 a2 a3 (decide ((i64.wrap (a4*a5))≤(14:Int))))))) then (some (.t [.v (.slice none 0 0),.i .i64 (2:Int)],.none,true))
    else (none))
   else (bif (okS a0&&((!(bl a0 a1 a2 a3 false)))) then (some (.t [.v (.slice none 0 0),.i .i64 (2:Int)],.none,true))
    else (none)))
  else (bif (okS a0&&((!(bl a0 a1 a2 a3 false)))) then (some (.t [.v (.slice none 0 0),.i .i64 (2:Int)],.none,true))
   else (none))):=by kernel_rfl
noncomputable def w4impl_CollectedAt_G:Cons:=(mkΓ [(54,conG impl_codeOf_con),(55,con impl_recordOf_con),(60,conG impl_beachError_con4),(62,con impl_record_shareSince_con),(70,con impl_isEvery_con),(71,con impl_hasHours_con)])
theorem w4impl_CollectedAt_ans (N:Nat) (a0:Array Value) (a1 a2 a3 a4 a5:Int) (g_e0 g_e1 g_e2 g_e3 g_e4:Addr):ansV prog w4impl_CollectedAt_G N Tryd.f39 [([53],[])] [.g a0 36,.i .i64 (a1),.i .i64 (a2),.i .i64 (a3),.i .i64 (a4),.i .i64 (a5)] [.gl 0 184 g_e0 101973,.gl 1 184 g_e1 93330,.gl 3 184 g_e2 112315,.gl 2 184 g_e3 124718,.gl 4 184 g_e4 94254]=(bif (impl_isEvery_v0 a4) then (bif (impl_hasHours_v0 a5) then (bif (!(okS a0)) then (some (.t [.v (.slice none 0 0),.i .i64 (1:Int)],.none,true))
    else (none))
   else (bif (!(okS a0)) then (some (.t [.v (.slice none 0 0),.i .i64 (1:Int)],.none,true))
    else (none)))
  else (bif (!(okS a0)) then (some (.t [.v (.slice none 0 0),.i .i64 (1:Int)],.none,true))
   else (none))):=by kernel_rfl
theorem impl_CollectedAt_main0 (a0:Array Value) (a1 a2 a3 a4 a5:Int) (g_e0 g_e1 g_e2 g_e3 g_e4:Addr) (h_a0:WT prog 36 a0) (h_a1:i64.min≤a1∧a1≤i64.max) (h_a2:i64.min≤a2∧a2≤i64.max) (h_a3:i64.min≤a3∧a3≤i64.max) (h_a4:i64.min≤a4∧a4≤i64.max) (h_a5:i64.min≤a5∧a5≤i64.max) (hc0:(okS a0)=false) (hg:(true)=true):ansV prog w4impl_CollectedAt_G 1000 Tryd.f39 [([53],[])] [.g a0 36,.i .i64 (a1),.i .i64 (a2),.i .i64 (a3),.i .i64 (a4),.i .i64 (a5)] [.gl 0 184 g_e0 101973,.gl 1 184 g_e1 93330,.gl 3 184 g_e2 112315,.gl 2 184 g_e3 124718,.gl 4 184 g_e4 94254]=some (.t [.v (.slice none 0 0),.i .i64 (1:Int)],.none,true):=by
 refine (w4impl_CollectedAt_ans 1000 a0 a1 a2 a3 a4 a5 g_e0 g_e1 g_e2 g_e3 g_e4).trans ?_
 cases impl_isEvery_v0 a4<;>cases impl_hasHours_v0 a5<;>simp only [hc0,Bool.and_self,Bool.and_true,Bool.true_and,Bool.and_false,Bool.false_and,Bool.not_false,Bool.not_true,cond_true,cond_false]
theorem impl_CollectedAt_main1 (a0:Array Value) (a1 a2 a3 a4 a5:Int) (g_e0 g_e1 g_e2 g_e3 g_e4:Addr) (h_a0:WT prog 36 a0) (h_a1:i64.min≤a1∧a1≤i64.max) (h_a2:i64.min≤a2∧a2≤i64.max) (h_a3:i64.min≤a3∧a3≤i64.max) (h_a4:i64.min≤a4∧a4≤i64.max) (h_a5:i64.min≤a5∧a5≤i64.max) (hc0:(okS a0)=true) (hc1:(bl a0 a1 a2 a3 (spec_l00In_v0 a4 1 14&&(spec_l00In_v0 a5 0 14&&decide (i64.wrap (a4*a5)≤(14:Int)))))=false) (hg:(true)=true):ansV prog w3impl_CollectedAt_G 1000 Tryd.f39 [([53],[])] [.g a0 36,.i .i64 (a1),.i .i64 (a2),.i .i64 (a3),.i .i64 (a4),.i .i64 (a5)] [.gl 0 184 g_e0 101973,.gl 1 184 g_e1 93330,.gl 3 184 g_e2 112315,.gl 2 184 g_e3 124718,.gl 4 184 g_e4 94254]=some (.t [.v (.slice none 0 0),.i .i64 (2:Int)],.none,true):=by
 refine (w3impl_CollectedAt_ans 1000 a0 a1 a2 a3 a4 a5 g_e0 g_e1 g_e2 g_e3 g_e4).trans ?_
 cases h4:spec_l00In_v0 a4 1 14 with
 | false=>
  simp only [h4,Bool.false_and] at hc1
  simp only [every_eq14,h4,hc0,hc1,Bool.and_self,Bool.and_true,Bool.true_and,Bool.and_false,Bool.false_and,Bool.not_false,Bool.not_true,cond_true,cond_false]
 | true=>
  cases h5:spec_l00In_v0 a5 0 14 with
  | false=>
   simp only [h4,h5,Bool.false_and,Bool.and_false] at hc1
   simp only [every_eq14,hours_eq14,h4,h5,hc0,hc1,Bool.and_self,Bool.and_true,Bool.true_and,Bool.and_false,Bool.false_and,Bool.not_false,Bool.not_true,cond_true,cond_false]
  | true=>
   simp only [h4,h5,Bool.true_and] at hc1
   simp only [every_eq14,hours_eq14,h4,h5,hc0,hc1,Bool.and_self,Bool.and_true,Bool.true_and,Bool.and_false,Bool.false_and,Bool.not_false,Bool.not_true,cond_true,cond_false]
theorem impl_CollectedAt_main2 (a0:Array Value) (a1 a2 a3 a4 a5:Int) (g_e0 g_e1 g_e2 g_e3 g_e4:Addr) (h_a0:WT prog 36 a0) (h_a1:i64.min≤a1∧a1≤i64.max) (h_a2:i64.min≤a2∧a2≤i64.max) (h_a3:i64.min≤a3∧a3≤i64.max) (h_a4:i64.min≤a4∧a4≤i64.max) (h_a5:i64.min≤a5∧a5≤i64.max) (hc0:(okS a0)=true) (hc1:(bl a0 a1 a2 a3 (spec_l00In_v0 a4 1 14&&(spec_l00In_v0 a5 0 14&&decide (i64.wrap (a4*a5)≤(14:Int)))))=true) (hc2:(spec_l01Dry_v0 a1 a0)=false) (hc3:(spec_l01Dry_v0 a3 a0)=false) (hg:(true)=true):ansV prog w2impl_CollectedAt_G 1000 Tryd.f39 [([53],[])] [.g a0 36,.i .i64 (a1),.i .i64 (a2),.i .i64 (a3),.i .i64 (a4),.i .i64 (a5)] [.gl 0 184 g_e0 101973,.gl 1 184 g_e1 93330,.gl 3 184 g_e2 112315,.gl 2 184 g_e3 124718,.gl 4 184 g_e4 94254]=some (.t [.v (.slice none 0 0),.i .i64 (4:Int)],.none,true):=by
 refine (w2impl_CollectedAt_ans 1000 a0 a1 a2 a3 a4 a5 g_e0 g_e1 g_e2 g_e3 g_e4).trans ?_
 have hf:=(bl_of hc1).2.2.1
 rw [Bool.and_eq_true,Bool.and_eq_true] at hf
 simp only [hf.1,hf.2.1,hf.2.2,Bool.and_self] at hc1
 simp only [every_eq14,hours_eq14,hf.1,hf.2.1,hf.2.2,hc0,hc1,hc2,hc3,Bool.and_self,Bool.and_true,Bool.true_and,Bool.and_false,Bool.false_and,Bool.not_false,Bool.not_true,cond_true,cond_false]
theorem impl_CollectedAt_main3 (a0:Array Value) (a1 a2 a3 a4 a5:Int) (g_e0 g_e1 g_e2 g_e3 g_e4:Addr) (h_a0:WT prog 36 a0) (h_a1:i64.min≤a1∧a1≤i64.max) (h_a2:i64.min≤a2∧a2≤i64.max) (h_a3:i64.min≤a3∧a3≤i64.max) (h_a4:i64.min≤a4∧a4≤i64.max) (h_a5:i64.min≤a5∧a5≤i64.max) (hc0:(okS a0)=true) (hc1:(bl a0 a1 a2 a3 (spec_l00In_v0 a4 1 14&&(spec_l00In_v0 a5 0 14&&decide (i64.wrap (a4*a5)≤(14:Int)))))=true) (hc2:(spec_l01Dry_v0 a1 a0)=false) (hc3:(spec_l01Dry_v0 a3 a0)=true) (hg:(true)=true):ansV prog w1impl_CollectedAt_G 1000 Tryd.f39 [([53],[17])] [.g a0 36,.i .i64 (a1),.i .i64 (a2),.i .i64 (a3),.i .i64 (a4),.i .i64 (a5)] [.gl 0 184 g_e0 101973,.gl 1 184 g_e1 93330,.gl 3 184 g_e2 112315,.gl 2 184 g_e3 124718,.gl 4 184 g_e4 94254]=some (.t [.x,.i .i64 (0:Int)],.newS (some 0) a5.toNat (colC prog a0 a1 a2 a3.toNat a4.toNat a5.toNat) 41,true):=by
 refine (w1impl_CollectedAt_ans 1000 a0 a1 a2 a3 a4 a5 g_e0 g_e1 g_e2 g_e3 g_e4).trans ?_
 have hf:=(bl_of hc1).2.2.1
 rw [Bool.and_eq_true,Bool.and_eq_true] at hf
 simp only [hf.1,hf.2.1,hf.2.2,Bool.and_self] at hc1
 simp only [every_eq14,hours_eq14,hf.1,hf.2.1,hf.2.2,hc0,hc1,hc2,hc3,Bool.and_self,Bool.and_true,Bool.true_and,Bool.and_false,Bool.false_and,Bool.not_false,Bool.not_true,cond_true,cond_false]
 obtain ⟨q1,q2,_,q4⟩:=bl_of hc1
 have r4:=in_range hf.1
 have r5:=in_range hf.2.1
 have r6:=of_decide_eq_true hf.2.2
 have r3:=is_range q4
 obtain ⟨k,rfl⟩:=Int.eq_ofNat_of_zero_le r3.1
 obtain ⟨e,rfl⟩:=Int.eq_ofNat_of_zero_le (show 0≤a4 by omega)
 obtain ⟨n,rfl⟩:=Int.eq_ofNat_of_zero_le r5.1
 have hen:=visits (e:=e) (n:=n) (by omega) (by omega)
 rw [hen] at r6
 have hle:e*n≤14:=by omega
 have gb:(decide (0≤(n:Int))&&((n:Int)==(n:Int)&&decide ((bytesOf prog 41:Int)*(n:Int)≤281474976710656)))=true:=by
  rw [bytes_share,decide_eq_true (show 0≤(n:Int) by omega),beq_self_eq_true,decide_eq_true (show (((16:Nat)):Int)*(n:Int)≤281474976710656 by omega)];rfl
 rw [gb]
 simp only [hen,q1,q2,in_of (x:=((e*n:Nat):Int)) (a:=0) (b:=14) (by omega),cond_true,Bool.and_self,Int.toNat_natCast]
 have hq:∀ q:Array Value,iterO (w1impl_CollectedAt_g0 prog a0 a1 a2 (k:Int) (e:Int) (n:Int) g_e0 g_e1 g_e2 g_e3 g_e4) 1000 ((0:Int),madeCells (zc prog 41) (n*2))=some ((n:Int),q)→nodeX (iterO (w1impl_CollectedAt_g0 prog a0 a1 a2 (k:Int) (e:Int) (n:Int) g_e0 g_e1 g_e2 g_e3 g_e4) 1000 ((0:Int),madeCells (zc prog 41) (n*2))) (fun x=>w1impl_CollectedAt_k0_0 prog 1000 a0 a1 a2 (k:Int) (e:Int) (n:Int) g_e0 g_e1 g_e2 g_e3 g_e4 x.1 x.2)=some (.t [.x,.i .i64 0],.newS (some 0) n q 41,true):=fun q e=>by rw [e];rfl
 refine hq _ ?_
 have hz:(zc prog 41).size=2:=by kernel_rfl
 have hs:(colC prog a0 a1 a2 k e n).size=(madeCells (zc prog 41) (n*2)).size:=by rw [colC_size,size_madeCells]
 have hcz:=colC_size a0 a1 a2 k e n
 have hcat:=colC_at a0 a1 a2 k e n
 have hF:∀ (v:Nat) (s:Array Value),v<n→w1impl_CollectedAt_g0 prog a0 a1 a2 (k:Int) (e:Int) (n:Int) g_e0 g_e1 g_e2 g_e3 g_e4 ((v:Int),s)=some (.more (((v+1:Nat):Int),spl s (v*2) (shareW (partI prog a0 a1 a2 k (e*v) e) (12^(e*v+e))).toList)):=fun v s hv=>by
  have hm:e*v+e≤14:=Nat.le_trans (Nat.le_of_eq (Nat.mul_succ e v).symm) (Nat.le_trans (Nat.mul_le_mul_left e hv) hle)
  have e1:i64.wrap ((v:Int)*(e:Int))=((e*v:Nat):Int):=by rw [Int.mul_comm];exact visits (by omega) (by omega)
  have e2:i64.wrap (((e*v:Nat):Int)+(e:Int))=((e*v+e:Nat):Int):=by rw [w64 (by omega)];omega
  have e3:(((e*v+e:Nat):Int) - ((e*v:Nat):Int)).toNat=e:=by omega
  have e4:i64.wrap ((v:Int)+1)=((v+1:Nat):Int):=by rw [w64 (by omega)];omega
  obtain ⟨p0,p1,p2⟩:=part_in h_a0 hc0 q1 q2 (k:=k) (before:=e*v) (d:=e) (by omega) hm
  have sh:=share_eq p0 (pow12_pos (e*v+e))
  have e5:num (subV (byV prog a0 a1 a2 (e*v+e)) (byV prog a0 a1 a2 (e*v)) (12^e)) k=partI prog a0 a1 a2 k (e*v) e:=by rw [subV_num _ _ _ (byV_size _ _ _ _) (by omega),p2]
  have l1:e*v+e≤e*n:=by rw [← Nat.mul_succ];exact Nat.mul_le_mul_left e hv
  have g1:decide ((v:Int)<(n:Int))=true:=decide_eq_true (by omega)
  have g2:decide (0≤((e*v:Nat):Int))=true:=decide_eq_true (by omega)
  have g3:decide (((e*v:Nat):Int)≤((e*v+e:Nat):Int))=true:=decide_eq_true (by omega)
  have g4:decide (((e*v+e:Nat):Int)≤14)=true:=decide_eq_true (by omega)
  have g5:decide (((e*v+e:Nat):Int)<((e*n:Nat):Int)+1)=true:=decide_eq_true (by omega)
  have g6:decide (0≤(k:Int))=true:=decide_eq_true (by omega)
  have g7:decide ((k:Int)<36)=true:=decide_eq_true (by omega)
  have g8:decide (0≤(v:Int))=true:=decide_eq_true (by omega)
  simp only [w1impl_CollectedAt_g0,hen,e1,e2,e3,e4,e5,g1,g2,g3,g4,g5,g6,g7,g8,recC_at a0 a1 a2 (e*n) (e*v+e) l1,recC_at a0 a1 a2 (e*n) (e*v) (by omega),sh.1,sh.2.1,Int.toNat_natCast,Bool.and_self,cond_true]
  rfl
 generalize madeCells (zc prog 41) (n*2)=Z at hs⊢
 generalize hW:(fun v=>shareW (partI prog a0 a1 a2 k (e*v) e) (12^(e*v+e)))=W
 have hF':∀ (v:Nat) (s:Array Value),v<n→w1impl_CollectedAt_g0 prog a0 a1 a2 (k:Int) (e:Int) (n:Int) g_e0 g_e1 g_e2 g_e3 g_e4 ((v:Int),s)=some (.more (((v+1:Nat):Int),spl s (v*2) (W v).toList)):=fun v s hv=>by rw [← hW];exact hF v s hv
 have hcat':∀ v,v<n→(colC prog a0 a1 a2 k e n).extract (v*2) (v*2+2)=W v:=fun v hv=>by rw [← hW];exact hcat v hv
 generalize colC prog a0 a1 a2 k e n=D at hs hcz hcat'⊢
 have h:=iter_all (g:=w1impl_CollectedAt_g0 prog a0 a1 a2 (k:Int) (e:Int) (n:Int) g_e0 g_e1 g_e2 g_e3 g_e4) (fun v=>((v:Int),upto D Z (v*2))) (m:=n) (x:=((n:Int),upto D Z (n*2))) (N:=1000) (fun v hv=>by
  rw [hF' v _ hv,upto_spl hs (by have:(v+1)*2≤n*2:=Nat.mul_le_mul_right _ hv;omega) (hcat' v hv).symm,show v*2+2=(v+1)*2 by omega]) (by
  have g1:decide ((n:Int)<(n:Int))=false:=decide_eq_false (by omega)
  simp only [w1impl_CollectedAt_g0,g1,Int.toNat_natCast,cond_false]) (by omega)
 rw [upto_all hs hcz] at h
 simp only [Nat.zero_mul,upto_zero hs] at h
 exact h
theorem impl_CollectedAt_main4 (a0:Array Value) (a1 a2 a3 a4 a5:Int) (g_e0 g_e1 g_e2 g_e3 g_e4:Addr) (h_a0:WT prog 36 a0) (h_a1:i64.min≤a1∧a1≤i64.max) (h_a2:i64.min≤a2∧a2≤i64.max) (h_a3:i64.min≤a3∧a3≤i64.max) (h_a4:i64.min≤a4∧a4≤i64.max) (h_a5:i64.min≤a5∧a5≤i64.max) (hc0:(okS a0)=true) (hc1:(bl a0 a1 a2 a3 (spec_l00In_v0 a4 1 14&&(spec_l00In_v0 a5 0 14&&decide (i64.wrap (a4*a5)≤(14:Int)))))=true) (hc2:(spec_l01Dry_v0 a1 a0)=true) (hg:(true)=true):ansV prog w0impl_CollectedAt_G 1000 Tryd.f39 [([53],[])] [.g a0 36,.i .i64 (a1),.i .i64 (a2),.i .i64 (a3),.i .i64 (a4),.i .i64 (a5)] [.gl 0 184 g_e0 101973,.gl 1 184 g_e1 93330,.gl 3 184 g_e2 112315,.gl 2 184 g_e3 124718,.gl 4 184 g_e4 94254]=some (.t [.v (.slice none 0 0),.i .i64 (4:Int)],.none,true):=by
 refine (w0impl_CollectedAt_ans 1000 a0 a1 a2 a3 a4 a5 g_e0 g_e1 g_e2 g_e3 g_e4).trans ?_
 have hf:=(bl_of hc1).2.2.1
 rw [Bool.and_eq_true,Bool.and_eq_true] at hf
 simp only [hf.1,hf.2.1,hf.2.2,Bool.and_self] at hc1
 simp only [every_eq14,hours_eq14,hf.1,hf.2.1,hf.2.2,hc0,hc1,hc2,Bool.and_self,Bool.and_true,Bool.true_and,Bool.and_false,Bool.false_and,Bool.not_false,Bool.not_true,cond_true,cond_false]
noncomputable def impl_CollectedAt_scon:SCon:=fun args h=>match args,h with
 | [.g a0 36,.i .i64 a1,.i .i64 a2,.i .i64 a3,.i .i64 a4,.i .i64 a5],[.gl 0 184 g_e0 101973,.gl 1 184 g_e1 93330,.gl 3 184 g_e2 112315,.gl 2 184 g_e3 124718,.gl 4 184 g_e4 94254]=>.two (okS a0) (.two (bl a0 a1 a2 a3 (spec_l00In_v0 a4 1 14&&(spec_l00In_v0 a5 0 14&&decide (i64.wrap (a4*a5)≤(14:Int))))) (.two (spec_l01Dry_v0 a1 a0) (.one (some (.t [.x,.i .i64 (4:Int)],.newS (some 0) 0 (#[]:Array Value) 41,true))) (.two (spec_l01Dry_v0 a3 a0) (.one (some (.t [.x,.i .i64 (0:Int)],.newS (some 0) a5.toNat (colC prog a0 a1 a2 a3.toNat a4.toNat a5.toNat) 41,true))) (.one (some (.t [.x,.i .i64 (4:Int)],.newS (some 0) 0 (#[]:Array Value) 41,true))))) (.one (some (.t [.x,.i .i64 (2:Int)],.newS (some 0) 0 (#[]:Array Value) 41,true)))) (.one (some (.t [.x,.i .i64 (1:Int)],.newS (some 0) 0 (#[]:Array Value) 41,true)))
 | _,_=>.one none
theorem impl_CollectedAt_enter:EntX prog 39:=entX_ok (fn:=Tryd.f39) (by kernel_rfl) (by kernel_rfl) (by kernel_rfl)
theorem impl_CollectedAt_sok:ConOkX (md F) prog 39 (fun args h=>wayRes (impl_CollectedAt_scon args h)):=by
 intro ρ h w args vals r e hn hr hA hH
 dsimp only at hr
 unfold impl_CollectedAt_scon at hr
 split at hr
 ·rename_i a0 a1 a2 a3 a4 a5 g_e0 g_e1 g_e2 g_e3 g_e4
  simp only [wayRes] at hr
  cases hc0:(okS a0)
  ·rw [hc0] at hr
   simp only [wayRes,cond_true,cond_false] at hr
   obtain ⟨rfl,hg⟩:=Prod.mk.inj (Option.some.inj hr)
   obtain ⟨rfl,hg2⟩:=Prod.mk.inj hg
   exact (ConOkX.nil (ansX_ok (N:=1000) (by kernel_rfl) (mkΓ_consX (conG_okX impl_codeOf_ok) impl_codeOf_enter (mkΓ_consX (con_okX impl_recordOf_ok) impl_recordOf_enter (mkΓ_consX (conG_okX impl_beachError_ok4) impl_beachError_enter (mkΓ_consX (con_okX impl_record_shareSince_ok) impl_record_shareSince_enter (mkΓ_consX (con_okX impl_isEvery_ok) impl_isEvery_enter (mkΓ_consX (con_okX impl_hasHours_ok) impl_hasHours_enter mkΓ_nilX)))))) (fn:=Tryd.f39) (by kernel_rfl) (by kernel_rfl) [([53],[])]) 0 41) ρ _ w _ vals _ _ hn (congrArg (nilN 0 41) (impl_CollectedAt_main0 a0 a1 a2 a3 a4 a5 g_e0 g_e1 g_e2 g_e3 g_e4 (hA.wt 0 rfl) (hA.rng 1 rfl) (hA.rng 2 rfl) (hA.rng 3 rfl) (hA.rng 4 rfl) (hA.rng 5 rfl) hc0 hg2)) hA hH
  ·rw [hc0] at hr
   simp only [wayRes,cond_true,cond_false] at hr
   cases hc1:(bl a0 a1 a2 a3 (spec_l00In_v0 a4 1 14&&(spec_l00In_v0 a5 0 14&&decide (i64.wrap (a4*a5)≤(14:Int)))))
   ·rw [hc1] at hr
    simp only [wayRes,cond_true,cond_false] at hr
    obtain ⟨rfl,hg⟩:=Prod.mk.inj (Option.some.inj hr)
    obtain ⟨rfl,hg2⟩:=Prod.mk.inj hg
    exact (ConOkX.nil (ansX_ok (N:=1000) (by kernel_rfl) (mkΓ_consX (conG_okX impl_codeOf_ok) impl_codeOf_enter (mkΓ_consX (con_okX impl_recordOf_ok) impl_recordOf_enter (mkΓ_consX (conG_okX impl_beachError_ok3) impl_beachError_enter (mkΓ_consX (con_okX impl_record_shareSince_ok) impl_record_shareSince_enter (mkΓ_consX (con_okX impl_isEvery_ok) impl_isEvery_enter (mkΓ_consX (con_okX impl_hasHours_ok) impl_hasHours_enter mkΓ_nilX)))))) (fn:=Tryd.f39) (by kernel_rfl) (by kernel_rfl) [([53],[])]) 0 41) ρ _ w _ vals _ _ hn (congrArg (nilN 0 41) (impl_CollectedAt_main1 a0 a1 a2 a3 a4 a5 g_e0 g_e1 g_e2 g_e3 g_e4 (hA.wt 0 rfl) (hA.rng 1 rfl) (hA.rng 2 rfl) (hA.rng 3 rfl) (hA.rng 4 rfl) (hA.rng 5 rfl) hc0 hc1 hg2)) hA hH
   ·rw [hc1] at hr
    simp only [wayRes,cond_true,cond_false] at hr
    cases hc2:(spec_l01Dry_v0 a1 a0)
    ·rw [hc2] at hr
     simp only [wayRes,cond_true,cond_false] at hr
     cases hc3:(spec_l01Dry_v0 a3 a0)
     ·rw [hc3] at hr
      simp only [wayRes,cond_true,cond_false] at hr
      obtain ⟨rfl,hg⟩:=Prod.mk.inj (Option.some.inj hr)
      obtain ⟨rfl,hg2⟩:=Prod.mk.inj hg
      exact (ConOkX.nil (ansX_ok (N:=1000) (by kernel_rfl) (mkΓ_consX (conG_okX impl_codeOf_ok) impl_codeOf_enter (mkΓ_consX (con_okX impl_recordOf_ok) impl_recordOf_enter (mkΓ_consX (conG_okX impl_beachError_ok2) impl_beachError_enter (mkΓ_consX (con_okX impl_record_shareSince_ok) impl_record_shareSince_enter (mkΓ_consX (con_okX impl_isEvery_ok) impl_isEvery_enter (mkΓ_consX (con_okX impl_hasHours_ok) impl_hasHours_enter mkΓ_nilX)))))) (fn:=Tryd.f39) (by kernel_rfl) (by kernel_rfl) [([53],[])]) 0 41) ρ _ w _ vals _ _ hn (congrArg (nilN 0 41) (impl_CollectedAt_main2 a0 a1 a2 a3 a4 a5 g_e0 g_e1 g_e2 g_e3 g_e4 (hA.wt 0 rfl) (hA.rng 1 rfl) (hA.rng 2 rfl) (hA.rng 3 rfl) (hA.rng 4 rfl) (hA.rng 5 rfl) hc0 hc1 hc2 hc3 hg2)) hA hH
     ·rw [hc3] at hr
      simp only [wayRes,cond_true,cond_false] at hr
      obtain ⟨rfl,hg⟩:=Prod.mk.inj (Option.some.inj hr)
      obtain ⟨rfl,hg2⟩:=Prod.mk.inj hg
      exact ((ansX_ok (N:=1000) (by kernel_rfl) (mkΓ_consX (conG_okX impl_codeOf_ok) impl_codeOf_enter (mkΓ_consX (con_okX impl_recordOf_ok) impl_recordOf_enter (mkΓ_consX (conG_okX impl_beachError_ok1) impl_beachError_enter (mkΓ_consX (con_okX impl_record_shareSince_ok) impl_record_shareSince_enter (mkΓ_consX (con_okX impl_isEvery_ok) impl_isEvery_enter (mkΓ_consX (con_okX impl_hasHours_ok) impl_hasHours_enter mkΓ_nilX)))))) (fn:=Tryd.f39) (by kernel_rfl) (by kernel_rfl) [([53],[17])])) ρ _ w _ vals _ _ hn ((impl_CollectedAt_main3 a0 a1 a2 a3 a4 a5 g_e0 g_e1 g_e2 g_e3 g_e4 (hA.wt 0 rfl) (hA.rng 1 rfl) (hA.rng 2 rfl) (hA.rng 3 rfl) (hA.rng 4 rfl) (hA.rng 5 rfl) hc0 hc1 hc2 hc3 hg2)) hA hH
    ·rw [hc2] at hr
     simp only [wayRes,cond_true,cond_false] at hr
     obtain ⟨rfl,hg⟩:=Prod.mk.inj (Option.some.inj hr)
     obtain ⟨rfl,hg2⟩:=Prod.mk.inj hg
     exact (ConOkX.nil (ansX_ok (N:=1000) (by kernel_rfl) (mkΓ_consX (conG_okX impl_codeOf_ok) impl_codeOf_enter (mkΓ_consX (con_okX impl_recordOf_ok) impl_recordOf_enter (mkΓ_consX (conG_okX impl_beachError_ok0) impl_beachError_enter (mkΓ_consX (con_okX impl_record_shareSince_ok) impl_record_shareSince_enter (mkΓ_consX (con_okX impl_isEvery_ok) impl_isEvery_enter (mkΓ_consX (con_okX impl_hasHours_ok) impl_hasHours_enter mkΓ_nilX)))))) (fn:=Tryd.f39) (by kernel_rfl) (by kernel_rfl) [([53],[])]) 0 41) ρ _ w _ vals _ _ hn (congrArg (nilN 0 41) (impl_CollectedAt_main4 a0 a1 a2 a3 a4 a5 g_e0 g_e1 g_e2 g_e3 g_e4 (hA.wt 0 rfl) (hA.rng 1 rfl) (hA.rng 2 rfl) (hA.rng 3 rfl) (hA.rng 4 rfl) (hA.rng 5 rfl) hc0 hc1 hc2 hg2)) hA hH
 ·simp only [wayRes] at hr
  cases hr
noncomputable def colN (a0:Array Value) (a1 a2 a3 a4 a5:Int):Nat:=(bif okS a0 then (bif bl a0 a1 a2 a3 (spec_l00In_v0 a4 1 14&&(spec_l00In_v0 a5 0 14&&decide (i64.wrap (a4*a5)≤(14:Int)))) then (bif spec_l01Dry_v0 a1 a0 then 0 else (bif spec_l01Dry_v0 a3 a0 then a5.toNat else 0)) else 0) else 0)
noncomputable def colD (a0:Array Value) (a1 a2 a3 a4 a5:Int):Array Value:=(bif okS a0 then (bif bl a0 a1 a2 a3 (spec_l00In_v0 a4 1 14&&(spec_l00In_v0 a5 0 14&&decide (i64.wrap (a4*a5)≤(14:Int)))) then (bif spec_l01Dry_v0 a1 a0 then (#[]:Array Value) else (bif spec_l01Dry_v0 a3 a0 then (colC prog a0 a1 a2 a3.toNat a4.toNat a5.toNat) else (#[]:Array Value))) else (#[]:Array Value)) else (#[]:Array Value))
noncomputable def colE (a0:Array Value) (a1 a2 a3 a4 a5:Int):Int:=(bif okS a0 then (bif bl a0 a1 a2 a3 (spec_l00In_v0 a4 1 14&&(spec_l00In_v0 a5 0 14&&decide (i64.wrap (a4*a5)≤(14:Int)))) then (bif spec_l01Dry_v0 a1 a0 then (4:Int) else (bif spec_l01Dry_v0 a3 a0 then (0:Int) else (4:Int))) else (2:Int)) else (1:Int))
theorem colN_le (a0:Array Value) (a1 a2 a3 a4 a5:Int):colN a0 a1 a2 a3 a4 a5≤14:=by
 unfold colN
 cases okS a0 with
 | false=>exact Nat.zero_le _
 | true=>
  cases hb:bl a0 a1 a2 a3 (spec_l00In_v0 a4 1 14&&(spec_l00In_v0 a5 0 14&&decide (i64.wrap (a4*a5)≤(14:Int)))) with
  | false=>exact Nat.zero_le _
  | true=>
   have hf:=(bl_of hb).2.2.1
   rw [Bool.and_eq_true,Bool.and_eq_true] at hf
   have r5:=in_range hf.2.1
   cases spec_l01Dry_v0 a1 a0<;>cases spec_l01Dry_v0 a3 a0<;>simp only [cond_true,cond_false]<;>omega
theorem colD_size (a0:Array Value) (a1 a2 a3 a4 a5:Int):(colD a0 a1 a2 a3 a4 a5).size=colN a0 a1 a2 a3 a4 a5*2:=by
 unfold colD colN
 cases okS a0<;>cases bl a0 a1 a2 a3 (spec_l00In_v0 a4 1 14&&(spec_l00In_v0 a5 0 14&&decide (i64.wrap (a4*a5)≤(14:Int))))<;>cases spec_l01Dry_v0 a1 a0<;>cases spec_l01Dry_v0 a3 a0<;>simp only [cond_true,cond_false,Nat.zero_mul]<;>first | rfl | exact colC_size ..
noncomputable def impl_CollectedAt_con:Con:=fun args h=>match args,h with
 | [.g a0 36,.i .i64 a1,.i .i64 a2,.i .i64 a3,.i .i64 a4,.i .i64 a5],[.gl 0 184 g_e0 101973,.gl 1 184 g_e1 93330,.gl 3 184 g_e2 112315,.gl 2 184 g_e3 124718,.gl 4 184 g_e4 94254]=>some (.t [.x,.i .i64 (colE a0 a1 a2 a3 a4 a5)],.newS (some 0) (colN a0 a1 a2 a3 a4 a5) (colD a0 a1 a2 a3 a4 a5) 41,true)
 | _,_=>none
theorem impl_CollectedAt_ok:ConOkX (md F) prog 39 impl_CollectedAt_con:=ConOkX.of impl_CollectedAt_sok (by
 intro ρ h w args vals r e hA hH hr
 unfold impl_CollectedAt_con at hr
 split at hr
 ·rename_i a0 a1 a2 a3 a4 a5 g_e0 g_e1 g_e2 g_e3 g_e4
  obtain ⟨rfl,hg⟩:=Prod.mk.inj (Option.some.inj hr)
  obtain ⟨rfl,hg2⟩:=Prod.mk.inj hg
  show wayRes (impl_CollectedAt_scon _ _)=_
  unfold impl_CollectedAt_scon
  simp only [wayRes]
  unfold colN colD colE
  cases (okS a0)<;>cases (bl a0 a1 a2 a3 (spec_l00In_v0 a4 1 14&&(spec_l00In_v0 a5 0 14&&decide (i64.wrap (a4*a5)≤(14:Int)))))<;>cases (spec_l01Dry_v0 a1 a0)<;>cases (spec_l01Dry_v0 a3 a0)<;>simp only [cond_true,cond_false]
 ·cases hr)
noncomputable def spec_CollectedAt_G:Cons:=(mkΓ [(58,con spec_l03Beach_con),(59,con spec_l03Part_con),(69,con spec_l00In_con)])
noncomputable def spec_CollectedAt_t0 (a0:Array Value) (a1 a2 a3 a4 a5:Int):St:=(⟨.a (.g a0 36) :: .a (.i .i64 (a1)) :: .a (.i .i64 (a2)) :: .a (.i .i64 (a3)) :: .a (.i .i64 (a4)) :: .a (.i .i64 (a5)) :: .a (.w 0)::us 5 (.a (.v (.slice none 0 0)) :: .a (.i .i64 (0:Int)) :: .a (.b (decide ((i64.wrap (a4*a5))≤(14:Int)))) :: .a (.i .i64 (spec_l03Beach_v0 a1 a2 a3 (decide ((i64.wrap (a4*a5))≤(14:Int))) a0)) :: .a (.l 5) :: .a (.i .i64 (1:Int)) :: .a (.i .i64 (a4)) :: .a (.b ((spec_l00In_v0 a4 (1:Int) (14:Int)))) :: .a (.b (true)) :: .a (.i .i64 (a5)) :: .a (.b ((spec_l00In_v0 a5 (0:Int) (14:Int)))) :: .a (.b ((spec_l00In_v0 a5 (0:Int) (14:Int)))) :: .a (.b ((spec_l00In_v0 a5 (0:Int) (14:Int)))) :: .a (.b (true)) :: .a (.i .i64 (a4)) :: .a (.i .i64 (a5)) :: .a (.i .i64 (i64.wrap (a4*a5))) :: .a (.b (decide ((i64.wrap (a4*a5))≤(14:Int)))) :: .a (.b (decide ((i64.wrap (a4*a5))≤(14:Int)))) :: .a (.i .i64 (a1)) :: .a (.i .i64 (a2)) :: .a (.i .i64 (a3)) :: .a (.b (decide ((i64.wrap (a4*a5))≤(14:Int)))) :: .a (.i .i64 (spec_l03Beach_v0 a1 a2 a3 (decide ((i64.wrap (a4*a5))≤(14:Int))) a0)) :: .a (.i .i64 (spec_l03Beach_v0 a1 a2 a3 (decide ((i64.wrap (a4*a5))≤(14:Int))) a0)) :: .a (.b (((spec_l03Beach_v0 a1 a2 a3 (decide ((i64.wrap (a4*a5))≤(14:Int))) a0) != (0:Int)))) :: .a (.u) :: .a (.u) :: .a (.l 3)::us 21 ([])),[.row a0 36,.no,.no,.sp,.no,.sl .own 0 (#[]:Array Value) 41],[3]⟩:St)
noncomputable def spec_CollectedAt_e0:Int×Nat×Array Value→LS
 | (y0_17,m0_16,y0_16)=>([.a (.i .i64 (y0_17)),.a (.l 5)],[.sl .own m0_16 y0_16 41])
noncomputable def spec_CollectedAt_x0:Int×Nat×Array Value→Exit×LS
 | t=>((.exit 0),spec_CollectedAt_e0 t)
noncomputable def spec_CollectedAt_g0 (P : Program) (a0 : Array Value) (a1 a2 a3 a4 a5 : Int) : Int × Nat × Array Value → Option (Stp (Int × Nat × Array Value) (Int × Nat × Array Value))
 | (y0_17, m0_16, y0_16) => bif decide (y0_17 ≤ a5) then (bif ((okS a0 && (spec_l01Is_v0 a1 a0 && spec_l00In_v0 a2 0 1)) && ((decide (0 ≤ a3) && decide (a3 ≤ 35)) && (decide (1 ≤ (i64.wrap ((i64.wrap (a4 * (i64.wrap (y0_17 - (1 : Int))))) + (1 : Int)))) && (decide ((i64.wrap ((i64.wrap (a4 * (i64.wrap (y0_17 - (1 : Int))))) + (1 : Int))) ≤ (i64.wrap (a4 * y0_17))) && decide ((i64.wrap (a4 * y0_17)) ≤ 14))))) then (bif (Nat.ble ((m0_16 + 1) * bytesOf prog 41) 140737488355328) then (some (.more ((i64.wrap (y0_17 + (1 : Int))), (m0_16 + 1), (y0_16 ++ (spl (#[.int .i64 (0 : Int), .int .i64 (0 : Int)] : Array Value) 0 (shareW (partI prog a0 a1 a2 a3.toNat ((i64.wrap ((i64.wrap (a4 * (i64.wrap (y0_17 - (1 : Int))))) + (1 : Int))).toNat - 1) ((i64.wrap (a4 * y0_17)).toNat - ((i64.wrap ((i64.wrap (a4 * (i64.wrap (y0_17 - (1 : Int))))) + (1 : Int))).toNat - 1))) (12 ^ (i64.wrap (a4 * y0_17)).toNat)).toList)))))
    else (none))
   else (none))
  else (some (.done (y0_17, m0_16, y0_16)))
theorem spec_CollectedAt_s0 (N:Nat) (a0:Array Value) (a1 a2 a3 a4 a5:Int):∀ t:Int×Nat×Array Value,stepVG prog spec_CollectedAt_G N (cAt (codeOf Tryd.f38) [1,1,1,1,1,0,1,0,0]) (pAt (mkPlan (codeOf Tryd.f38) [([17],[1000016,41])]).1 [1,1,1,1,1,0,1,0]) [17] [] 16 41 5 (spec_CollectedAt_t0 a0 a1 a2 a3 a4 a5) (spec_CollectedAt_e0 t)=mapS spec_CollectedAt_e0 spec_CollectedAt_x0 (spec_CollectedAt_g0 prog a0 a1 a2 a3 a4 a5 t):=by
 rintro ⟨y0_17,m0_16,y0_16⟩
 refine Eq.trans (b:=(bif decide (y0_17≤a5) then (bif ((okS a0&&(spec_l01Is_v0 a1 a0&&spec_l00In_v0 a2 0 1))&&((decide (0≤a3)&&decide (a3≤35))&&(decide (1≤(i64.wrap ((i64.wrap (a4*(i64.wrap (y0_17 - (1:Int)))))+(1:Int))))&&(decide ((i64.wrap ((i64.wrap (a4*(i64.wrap (y0_17 - (1:Int)))))+(1:Int)))≤(i64.wrap (a4*y0_17)))&&decide ((i64.wrap (a4*y0_17))≤14))))) then (bif (Nat.ble ((m0_16+1)*bytesOf prog 41) 140737488355328) then (some (.more ([.a (.i .i64 (i64.wrap (y0_17+(1:Int)))),.a (.l 5)],[.sl .own (m0_16+1) (y0_16++(spl (#[.int .i64 (0:Int),.int .i64 (0:Int)]:Array Value) 0 (shareW (partI prog a0 a1 a2 a3.toNat ((i64.wrap ((i64.wrap (a4*(i64.wrap (y0_17 - (1:Int)))))+(1:Int))).toNat - 1) ((i64.wrap (a4*y0_17)).toNat - ((i64.wrap ((i64.wrap (a4*(i64.wrap (y0_17 - (1:Int)))))+(1:Int))).toNat - 1))) (12^(i64.wrap (a4*y0_17)).toNat)).toList)) 41])))
    else (none))
   else (none))
  else (some (.done ((.exit 0),([.a (.i .i64 (y0_17)),.a (.l 5)],[.sl .own m0_16 y0_16 41])))))) (by kernel_rfl) ?_
 simp only [spec_CollectedAt_g0,mapS_cond,mapS_more,mapS_done,mapS_none,spec_CollectedAt_e0,spec_CollectedAt_x0]
noncomputable def spec_CollectedAt_k0_0 (P:Program) (N:Nat) (a0:Array Value) (a1 a2 a3 a4 a5:Int) (z0_17:Int) (p0_16:Nat) (z0_16:Array Value):Option (SV×Eff×Bool):=some (.t [.x,.i .i64 (0:Int)],.newS (some 0) p0_16 z0_16 41,true)
theorem spec_CollectedAt_k0_0_eq (N:Nat) (a0:Array Value) (a1 a2 a3 a4 a5:Int) (z0_17:Int) (p0_16:Nat) (z0_16:Array Value):(kBlock 0 (kSeq (veC prog spec_CollectedAt_G N (cAt (codeOf Tryd.f38) [1,1,1,1,1,1]) (pAt (mkPlan (codeOf Tryd.f38) [([17],[1000016,41])]).1 [1,1,1,1,1,1]) (SV×Eff×Bool)) (finK prog [] [.tmp 12,.tmp 13]))) (.exit 0) (left (writes (cAt (codeOf Tryd.f38) [1,1,1,1,1,0,1,0,0])) [17,16] [5] (spec_CollectedAt_t0 a0 a1 a2 a3 a4 a5) ([.a (.i .i64 (z0_17)),.a (.l 5)],[.sl .own p0_16 z0_16 41]))=spec_CollectedAt_k0_0 prog N a0 a1 a2 a3 a4 a5 z0_17 p0_16 z0_16:=by
 refine Eq.trans (b:=(some (.t [.x,.i .i64 (0:Int)],.newS (some 0) p0_16 z0_16 41,true))) (by kernel_rfl) ?_
 rfl
theorem spec_CollectedAt_n0 (N:Nat) (a0:Array Value) (a1 a2 a3 a4 a5:Int):bindX (iterO (stepVG prog spec_CollectedAt_G N (cAt (codeOf Tryd.f38) [1,1,1,1,1,0,1,0,0]) (pAt (mkPlan (codeOf Tryd.f38) [([17],[1000016,41])]).1 [1,1,1,1,1,0,1,0]) [17] [] 16 41 5 (spec_CollectedAt_t0 a0 a1 a2 a3 a4 a5)) N ([.a (.i .i64 (1:Int)),.a (.l 5)],[.sl .own 0 (#[]:Array Value) 41])) (fun e s=>(kBlock 0 (kSeq (veC prog spec_CollectedAt_G N (cAt (codeOf Tryd.f38) [1,1,1,1,1,1]) (pAt (mkPlan (codeOf Tryd.f38) [([17],[1000016,41])]).1 [1,1,1,1,1,1]) (SV×Eff×Bool)) (finK prog [] [.tmp 12,.tmp 13]))) e (left (writes (cAt (codeOf Tryd.f38) [1,1,1,1,1,0,1,0,0])) [17,16] [5] (spec_CollectedAt_t0 a0 a1 a2 a3 a4 a5) s))=nodeX (iterO (spec_CollectedAt_g0 prog a0 a1 a2 a3 a4 a5) N ((1:Int),0,(#[]:Array Value))) (fun x=>spec_CollectedAt_k0_0 prog N a0 a1 a2 a3 a4 a5 x.1 x.2.1 x.2.2):=by
 refine loop_node spec_CollectedAt_e0 spec_CollectedAt_x0 _ _ (spec_CollectedAt_s0 N a0 a1 a2 a3 a4 a5) N ((1:Int),0,(#[]:Array Value)) _ _ ?_
 intro x;exact spec_CollectedAt_k0_0_eq N a0 a1 a2 a3 a4 a5 x.1 x.2.1 x.2.2
noncomputable def spec_CollectedAt_t0v1 (a0:Array Value) (a1 a2 a3 a4 a5:Int):St:=(⟨.a (.g a0 36) :: .a (.i .i64 (a1)) :: .a (.i .i64 (a2)) :: .a (.i .i64 (a3)) :: .a (.i .i64 (a4)) :: .a (.i .i64 (a5)) :: .a (.w 0)::us 5 (.a (.v (.slice none 0 0)) :: .a (.i .i64 (0:Int)) :: .a (.b (false)) :: .a (.i .i64 (spec_l03Beach_v0 a1 a2 a3 false a0)) :: .a (.l 5) :: .a (.i .i64 (1:Int)) :: .a (.i .i64 (a4)) :: .a (.b ((spec_l00In_v0 a4 (1:Int) (14:Int)))) :: .a (.b (true)) :: .a (.i .i64 (a5)) :: .a (.b ((spec_l00In_v0 a5 (0:Int) (14:Int)))) :: .a (.b ((spec_l00In_v0 a5 (0:Int) (14:Int)))) :: .a (.b ((spec_l00In_v0 a5 (0:Int) (14:Int)))) :: .a (.b (false))::us 4 (.a (.b (false)) :: .a (.i .i64 (a1)) :: .a (.i .i64 (a2)) :: .a (.i .i64 (a3)) :: .a (.b (false)) :: .a (.i .i64 (spec_l03Beach_v0 a1 a2 a3 false a0)) :: .a (.i .i64 (spec_l03Beach_v0 a1 a2 a3 false a0)) :: .a (.b (((spec_l03Beach_v0 a1 a2 a3 false a0) != (0:Int)))) :: .a (.u) :: .a (.u) :: .a (.l 3)::us 21 ([]))),[.row a0 36,.no,.no,.sp,.no,.sl .own 0 (#[]:Array Value) 41],[3]⟩:St)
noncomputable def spec_CollectedAt_e0v1:Int×Nat×Array Value→LS
 | (y0v1_17,m0v1_16,y0v1_16)=>([.a (.i .i64 (y0v1_17)),.a (.l 5)],[.sl .own m0v1_16 y0v1_16 41])
noncomputable def spec_CollectedAt_x0v1:Int×Nat×Array Value→Exit×LS
 | t=>((.exit 0),spec_CollectedAt_e0v1 t)
noncomputable def spec_CollectedAt_g0v1 (P : Program) (a0 : Array Value) (a1 a2 a3 a4 a5 : Int) : Int × Nat × Array Value → Option (Stp (Int × Nat × Array Value) (Int × Nat × Array Value))
 | (y0v1_17, m0v1_16, y0v1_16) => bif decide (y0v1_17 ≤ a5) then (bif ((okS a0 && (spec_l01Is_v0 a1 a0 && spec_l00In_v0 a2 0 1)) && ((decide (0 ≤ a3) && decide (a3 ≤ 35)) && (decide (1 ≤ (i64.wrap ((i64.wrap (a4 * (i64.wrap (y0v1_17 - (1 : Int))))) + (1 : Int)))) && (decide ((i64.wrap ((i64.wrap (a4 * (i64.wrap (y0v1_17 - (1 : Int))))) + (1 : Int))) ≤ (i64.wrap (a4 * y0v1_17))) && decide ((i64.wrap (a4 * y0v1_17)) ≤ 14))))) then (bif (Nat.ble ((m0v1_16 + 1) * bytesOf prog 41) 140737488355328) then (some (.more ((i64.wrap (y0v1_17 + (1 : Int))), (m0v1_16 + 1), (y0v1_16 ++ (spl (#[.int .i64 (0 : Int), .int .i64 (0 : Int)] : Array Value) 0 (shareW (partI prog a0 a1 a2 a3.toNat ((i64.wrap ((i64.wrap (a4 * (i64.wrap (y0v1_17 - (1 : Int))))) + (1 : Int))).toNat - 1) ((i64.wrap (a4 * y0v1_17)).toNat - ((i64.wrap ((i64.wrap (a4 * (i64.wrap (y0v1_17 - (1 : Int))))) + (1 : Int))).toNat - 1))) (12 ^ (i64.wrap (a4 * y0v1_17)).toNat)).toList)))))
    else (none))
   else (none))
  else (some (.done (y0v1_17, m0v1_16, y0v1_16)))
theorem spec_CollectedAt_s0v1 (N:Nat) (a0:Array Value) (a1 a2 a3 a4 a5:Int):∀ t:Int×Nat×Array Value,stepVG prog spec_CollectedAt_G N (cAt (codeOf Tryd.f38) [1,1,1,1,1,0,1,0,0]) (pAt (mkPlan (codeOf Tryd.f38) [([17],[1000016,41])]).1 [1,1,1,1,1,0,1,0]) [17] [] 16 41 5 (spec_CollectedAt_t0v1 a0 a1 a2 a3 a4 a5) (spec_CollectedAt_e0v1 t)=mapS spec_CollectedAt_e0v1 spec_CollectedAt_x0v1 (spec_CollectedAt_g0v1 prog a0 a1 a2 a3 a4 a5 t):=by
 rintro ⟨y0v1_17,m0v1_16,y0v1_16⟩
 refine Eq.trans (b:=(bif decide (y0v1_17≤a5) then (bif ((okS a0&&(spec_l01Is_v0 a1 a0&&spec_l00In_v0 a2 0 1))&&((decide (0≤a3)&&decide (a3≤35))&&(decide (1≤(i64.wrap ((i64.wrap (a4*(i64.wrap (y0v1_17 - (1:Int)))))+(1:Int))))&&(decide ((i64.wrap ((i64.wrap (a4*(i64.wrap (y0v1_17 - (1:Int)))))+(1:Int)))≤(i64.wrap (a4*y0v1_17)))&&decide ((i64.wrap (a4*y0v1_17))≤14))))) then (bif (Nat.ble ((m0v1_16+1)*bytesOf prog 41) 140737488355328) then (some (.more ([.a (.i .i64 (i64.wrap (y0v1_17+(1:Int)))),.a (.l 5)],[.sl .own (m0v1_16+1) (y0v1_16++(spl (#[.int .i64 (0:Int),.int .i64 (0:Int)]:Array Value) 0 (shareW (partI prog a0 a1 a2 a3.toNat ((i64.wrap ((i64.wrap (a4*(i64.wrap (y0v1_17 - (1:Int)))))+(1:Int))).toNat - 1) ((i64.wrap (a4*y0v1_17)).toNat - ((i64.wrap ((i64.wrap (a4*(i64.wrap (y0v1_17 - (1:Int)))))+(1:Int))).toNat - 1))) (12^(i64.wrap (a4*y0v1_17)).toNat)).toList)) 41])))
    else (none))
   else (none))
  else (some (.done ((.exit 0),([.a (.i .i64 (y0v1_17)),.a (.l 5)],[.sl .own m0v1_16 y0v1_16 41])))))) (by kernel_rfl) ?_
 simp only [spec_CollectedAt_g0v1,mapS_cond,mapS_more,mapS_done,mapS_none,spec_CollectedAt_e0v1,spec_CollectedAt_x0v1]
noncomputable def spec_CollectedAt_k0v1_0 (P:Program) (N:Nat) (a0:Array Value) (a1 a2 a3 a4 a5:Int) (z0v1_17:Int) (p0v1_16:Nat) (z0v1_16:Array Value):Option (SV×Eff×Bool):=some (.t [.x,.i .i64 (0:Int)],.newS (some 0) p0v1_16 z0v1_16 41,true)
theorem spec_CollectedAt_k0v1_0_eq (N:Nat) (a0:Array Value) (a1 a2 a3 a4 a5:Int) (z0v1_17:Int) (p0v1_16:Nat) (z0v1_16:Array Value):(kBlock 0 (kSeq (veC prog spec_CollectedAt_G N (cAt (codeOf Tryd.f38) [1,1,1,1,1,1]) (pAt (mkPlan (codeOf Tryd.f38) [([17],[1000016,41])]).1 [1,1,1,1,1,1]) (SV×Eff×Bool)) (finK prog [] [.tmp 12,.tmp 13]))) (.exit 0) (left (writes (cAt (codeOf Tryd.f38) [1,1,1,1,1,0,1,0,0])) [17,16] [5] (spec_CollectedAt_t0v1 a0 a1 a2 a3 a4 a5) ([.a (.i .i64 (z0v1_17)),.a (.l 5)],[.sl .own p0v1_16 z0v1_16 41]))=spec_CollectedAt_k0v1_0 prog N a0 a1 a2 a3 a4 a5 z0v1_17 p0v1_16 z0v1_16:=by
 refine Eq.trans (b:=(some (.t [.x,.i .i64 (0:Int)],.newS (some 0) p0v1_16 z0v1_16 41,true))) (by kernel_rfl) ?_
 rfl
theorem spec_CollectedAt_n0v1 (N:Nat) (a0:Array Value) (a1 a2 a3 a4 a5:Int):bindX (iterO (stepVG prog spec_CollectedAt_G N (cAt (codeOf Tryd.f38) [1,1,1,1,1,0,1,0,0]) (pAt (mkPlan (codeOf Tryd.f38) [([17],[1000016,41])]).1 [1,1,1,1,1,0,1,0]) [17] [] 16 41 5 (spec_CollectedAt_t0v1 a0 a1 a2 a3 a4 a5)) N ([.a (.i .i64 (1:Int)),.a (.l 5)],[.sl .own 0 (#[]:Array Value) 41])) (fun e s=>(kBlock 0 (kSeq (veC prog spec_CollectedAt_G N (cAt (codeOf Tryd.f38) [1,1,1,1,1,1]) (pAt (mkPlan (codeOf Tryd.f38) [([17],[1000016,41])]).1 [1,1,1,1,1,1]) (SV×Eff×Bool)) (finK prog [] [.tmp 12,.tmp 13]))) e (left (writes (cAt (codeOf Tryd.f38) [1,1,1,1,1,0,1,0,0])) [17,16] [5] (spec_CollectedAt_t0v1 a0 a1 a2 a3 a4 a5) s))=nodeX (iterO (spec_CollectedAt_g0v1 prog a0 a1 a2 a3 a4 a5) N ((1:Int),0,(#[]:Array Value))) (fun x=>spec_CollectedAt_k0v1_0 prog N a0 a1 a2 a3 a4 a5 x.1 x.2.1 x.2.2):=by
 refine loop_node spec_CollectedAt_e0v1 spec_CollectedAt_x0v1 _ _ (spec_CollectedAt_s0v1 N a0 a1 a2 a3 a4 a5) N ((1:Int),0,(#[]:Array Value)) _ _ ?_
 intro x;exact spec_CollectedAt_k0v1_0_eq N a0 a1 a2 a3 a4 a5 x.1 x.2.1 x.2.2
noncomputable def spec_CollectedAt_t0v2 (a0:Array Value) (a1 a2 a3 a4 a5:Int):St:=(⟨.a (.g a0 36) :: .a (.i .i64 (a1)) :: .a (.i .i64 (a2)) :: .a (.i .i64 (a3)) :: .a (.i .i64 (a4)) :: .a (.i .i64 (a5)) :: .a (.w 0)::us 5 (.a (.v (.slice none 0 0)) :: .a (.i .i64 (0:Int)) :: .a (.b (false)) :: .a (.i .i64 (spec_l03Beach_v0 a1 a2 a3 false a0)) :: .a (.l 5) :: .a (.i .i64 (1:Int)) :: .a (.i .i64 (a4)) :: .a (.b ((spec_l00In_v0 a4 (1:Int) (14:Int)))) :: .a (.b (false)) :: .a (.u) :: .a (.u) :: .a (.b (false)) :: .a (.b (false)) :: .a (.b (false))::us 4 (.a (.b (false)) :: .a (.i .i64 (a1)) :: .a (.i .i64 (a2)) :: .a (.i .i64 (a3)) :: .a (.b (false)) :: .a (.i .i64 (spec_l03Beach_v0 a1 a2 a3 false a0)) :: .a (.i .i64 (spec_l03Beach_v0 a1 a2 a3 false a0)) :: .a (.b (((spec_l03Beach_v0 a1 a2 a3 false a0) != (0:Int)))) :: .a (.u) :: .a (.u) :: .a (.l 3)::us 21 ([]))),[.row a0 36,.no,.no,.sp,.no,.sl .own 0 (#[]:Array Value) 41],[3]⟩:St)
noncomputable def spec_CollectedAt_e0v2:Int×Nat×Array Value→LS
 | (y0v2_17,m0v2_16,y0v2_16)=>([.a (.i .i64 (y0v2_17)),.a (.l 5)],[.sl .own m0v2_16 y0v2_16 41])
noncomputable def spec_CollectedAt_x0v2:Int×Nat×Array Value→Exit×LS
 | t=>((.exit 0),spec_CollectedAt_e0v2 t)
noncomputable def spec_CollectedAt_g0v2 (P : Program) (a0 : Array Value) (a1 a2 a3 a4 a5 : Int) : Int × Nat × Array Value → Option (Stp (Int × Nat × Array Value) (Int × Nat × Array Value))
 | (y0v2_17, m0v2_16, y0v2_16) => bif decide (y0v2_17 ≤ a5) then (bif ((okS a0 && (spec_l01Is_v0 a1 a0 && spec_l00In_v0 a2 0 1)) && ((decide (0 ≤ a3) && decide (a3 ≤ 35)) && (decide (1 ≤ (i64.wrap ((i64.wrap (a4 * (i64.wrap (y0v2_17 - (1 : Int))))) + (1 : Int)))) && (decide ((i64.wrap ((i64.wrap (a4 * (i64.wrap (y0v2_17 - (1 : Int))))) + (1 : Int))) ≤ (i64.wrap (a4 * y0v2_17))) && decide ((i64.wrap (a4 * y0v2_17)) ≤ 14))))) then (bif (Nat.ble ((m0v2_16 + 1) * bytesOf prog 41) 140737488355328) then (some (.more ((i64.wrap (y0v2_17 + (1 : Int))), (m0v2_16 + 1), (y0v2_16 ++ (spl (#[.int .i64 (0 : Int), .int .i64 (0 : Int)] : Array Value) 0 (shareW (partI prog a0 a1 a2 a3.toNat ((i64.wrap ((i64.wrap (a4 * (i64.wrap (y0v2_17 - (1 : Int))))) + (1 : Int))).toNat - 1) ((i64.wrap (a4 * y0v2_17)).toNat - ((i64.wrap ((i64.wrap (a4 * (i64.wrap (y0v2_17 - (1 : Int))))) + (1 : Int))).toNat - 1))) (12 ^ (i64.wrap (a4 * y0v2_17)).toNat)).toList)))))
    else (none))
   else (none))
  else (some (.done (y0v2_17, m0v2_16, y0v2_16)))
theorem spec_CollectedAt_s0v2 (N:Nat) (a0:Array Value) (a1 a2 a3 a4 a5:Int):∀ t:Int×Nat×Array Value,stepVG prog spec_CollectedAt_G N (cAt (codeOf Tryd.f38) [1,1,1,1,1,0,1,0,0]) (pAt (mkPlan (codeOf Tryd.f38) [([17],[1000016,41])]).1 [1,1,1,1,1,0,1,0]) [17] [] 16 41 5 (spec_CollectedAt_t0v2 a0 a1 a2 a3 a4 a5) (spec_CollectedAt_e0v2 t)=mapS spec_CollectedAt_e0v2 spec_CollectedAt_x0v2 (spec_CollectedAt_g0v2 prog a0 a1 a2 a3 a4 a5 t):=by
 rintro ⟨y0v2_17,m0v2_16,y0v2_16⟩
 refine Eq.trans (b:=(bif decide (y0v2_17≤a5) then (bif ((okS a0&&(spec_l01Is_v0 a1 a0&&spec_l00In_v0 a2 0 1))&&((decide (0≤a3)&&decide (a3≤35))&&(decide (1≤(i64.wrap ((i64.wrap (a4*(i64.wrap (y0v2_17 - (1:Int)))))+(1:Int))))&&(decide ((i64.wrap ((i64.wrap (a4*(i64.wrap (y0v2_17 - (1:Int)))))+(1:Int)))≤(i64.wrap (a4*y0v2_17)))&&decide ((i64.wrap (a4*y0v2_17))≤14))))) then (bif (Nat.ble ((m0v2_16+1)*bytesOf prog 41) 140737488355328) then (some (.more ([.a (.i .i64 (i64.wrap (y0v2_17+(1:Int)))),.a (.l 5)],[.sl .own (m0v2_16+1) (y0v2_16++(spl (#[.int .i64 (0:Int),.int .i64 (0:Int)]:Array Value) 0 (shareW (partI prog a0 a1 a2 a3.toNat ((i64.wrap ((i64.wrap (a4*(i64.wrap (y0v2_17 - (1:Int)))))+(1:Int))).toNat - 1) ((i64.wrap (a4*y0v2_17)).toNat - ((i64.wrap ((i64.wrap (a4*(i64.wrap (y0v2_17 - (1:Int)))))+(1:Int))).toNat - 1))) (12^(i64.wrap (a4*y0v2_17)).toNat)).toList)) 41])))
    else (none))
   else (none))
  else (some (.done ((.exit 0),([.a (.i .i64 (y0v2_17)),.a (.l 5)],[.sl .own m0v2_16 y0v2_16 41])))))) (by kernel_rfl) ?_
 simp only [spec_CollectedAt_g0v2,mapS_cond,mapS_more,mapS_done,mapS_none,spec_CollectedAt_e0v2,spec_CollectedAt_x0v2]
noncomputable def spec_CollectedAt_k0v2_0 (P:Program) (N:Nat) (a0:Array Value) (a1 a2 a3 a4 a5:Int) (z0v2_17:Int) (p0v2_16:Nat) (z0v2_16:Array Value):Option (SV×Eff×Bool):=some (.t [.x,.i .i64 (0:Int)],.newS (some 0) p0v2_16 z0v2_16 41,true)
theorem spec_CollectedAt_k0v2_0_eq (N:Nat) (a0:Array Value) (a1 a2 a3 a4 a5:Int) (z0v2_17:Int) (p0v2_16:Nat) (z0v2_16:Array Value):(kBlock 0 (kSeq (veC prog spec_CollectedAt_G N (cAt (codeOf Tryd.f38) [1,1,1,1,1,1]) (pAt (mkPlan (codeOf Tryd.f38) [([17],[1000016,41])]).1 [1,1,1,1,1,1]) (SV×Eff×Bool)) (finK prog [] [.tmp 12,.tmp 13]))) (.exit 0) (left (writes (cAt (codeOf Tryd.f38) [1,1,1,1,1,0,1,0,0])) [17,16] [5] (spec_CollectedAt_t0v2 a0 a1 a2 a3 a4 a5) ([.a (.i .i64 (z0v2_17)),.a (.l 5)],[.sl .own p0v2_16 z0v2_16 41]))=spec_CollectedAt_k0v2_0 prog N a0 a1 a2 a3 a4 a5 z0v2_17 p0v2_16 z0v2_16:=by
 refine Eq.trans (b:=(some (.t [.x,.i .i64 (0:Int)],.newS (some 0) p0v2_16 z0v2_16 41,true))) (by kernel_rfl) ?_
 rfl
theorem spec_CollectedAt_n0v2 (N:Nat) (a0:Array Value) (a1 a2 a3 a4 a5:Int):bindX (iterO (stepVG prog spec_CollectedAt_G N (cAt (codeOf Tryd.f38) [1,1,1,1,1,0,1,0,0]) (pAt (mkPlan (codeOf Tryd.f38) [([17],[1000016,41])]).1 [1,1,1,1,1,0,1,0]) [17] [] 16 41 5 (spec_CollectedAt_t0v2 a0 a1 a2 a3 a4 a5)) N ([.a (.i .i64 (1:Int)),.a (.l 5)],[.sl .own 0 (#[]:Array Value) 41])) (fun e s=>(kBlock 0 (kSeq (veC prog spec_CollectedAt_G N (cAt (codeOf Tryd.f38) [1,1,1,1,1,1]) (pAt (mkPlan (codeOf Tryd.f38) [([17],[1000016,41])]).1 [1,1,1,1,1,1]) (SV×Eff×Bool)) (finK prog [] [.tmp 12,.tmp 13]))) e (left (writes (cAt (codeOf Tryd.f38) [1,1,1,1,1,0,1,0,0])) [17,16] [5] (spec_CollectedAt_t0v2 a0 a1 a2 a3 a4 a5) s))=nodeX (iterO (spec_CollectedAt_g0v2 prog a0 a1 a2 a3 a4 a5) N ((1:Int),0,(#[]:Array Value))) (fun x=>spec_CollectedAt_k0v2_0 prog N a0 a1 a2 a3 a4 a5 x.1 x.2.1 x.2.2):=by
 refine loop_node spec_CollectedAt_e0v2 spec_CollectedAt_x0v2 _ _ (spec_CollectedAt_s0v2 N a0 a1 a2 a3 a4 a5) N ((1:Int),0,(#[]:Array Value)) _ _ ?_
 intro x;exact spec_CollectedAt_k0v2_0_eq N a0 a1 a2 a3 a4 a5 x.1 x.2.1 x.2.2
theorem spec_CollectedAt_ans (N:Nat) (a0:Array Value) (a1 a2 a3 a4 a5:Int):ansV prog spec_CollectedAt_G N Tryd.f38 [([17],[1000016,41])] [.g a0 36,.i .i64 (a1),.i .i64 (a2),.i .i64 (a3),.i .i64 (a4),.i .i64 (a5)] []=(bif (spec_l00In_v0 a4 (1:Int) (14:Int)) then (bif (spec_l00In_v0 a5 (0:Int) (14:Int)) then (bif (spec_l03Beach_gd a1 a2 a3 (decide ((i64.wrap (a4*a5))≤(14:Int))) a0) then (bif ((spec_l03Beach_v0 a1 a2 a3 (decide ((i64.wrap (a4*a5))≤(14:Int))) a0) != (0:Int)) then (some (.t [.x,.i .i64 (spec_l03Beach_v0 a1 a2 a3 (decide ((i64.wrap (a4*a5))≤(14:Int))) a0)],.newS (some 0) 0 (#[]:Array Value) 41,true))
     else (nodeX (iterO (spec_CollectedAt_g0 prog a0 a1 a2 a3 a4 a5) N ((1:Int),0,(#[]:Array Value))) (fun x=>spec_CollectedAt_k0_0 prog N a0 a1 a2 a3 a4 a5 x.1 x.2.1 x.2.2)))
    else (none))
   else (bif (spec_l03Beach_gd a1 a2 a3 false a0) then (bif ((spec_l03Beach_v0 a1 a2 a3 false a0) != (0:Int)) then (some (.t [.x,.i .i64 (spec_l03Beach_v0 a1 a2 a3 false a0)],.newS (some 0) 0 (#[]:Array Value) 41,true))
     else (nodeX (iterO (spec_CollectedAt_g0v1 prog a0 a1 a2 a3 a4 a5) N ((1:Int),0,(#[]:Array Value))) (fun x=>spec_CollectedAt_k0v1_0 prog N a0 a1 a2 a3 a4 a5 x.1 x.2.1 x.2.2)))
    else (none)))
  else (bif (spec_l03Beach_gd a1 a2 a3 false a0) then (bif ((spec_l03Beach_v0 a1 a2 a3 false a0) != (0:Int)) then (some (.t [.x,.i .i64 (spec_l03Beach_v0 a1 a2 a3 false a0)],.newS (some 0) 0 (#[]:Array Value) 41,true))
    else (nodeX (iterO (spec_CollectedAt_g0v2 prog a0 a1 a2 a3 a4 a5) N ((1:Int),0,(#[]:Array Value))) (fun x=>spec_CollectedAt_k0v2_0 prog N a0 a1 a2 a3 a4 a5 x.1 x.2.1 x.2.2)))
   else (none))):=by
 refine Eq.trans (b:=(bif (spec_l00In_v0 a4 (1:Int) (14:Int)) then (bif (spec_l00In_v0 a5 (0:Int) (14:Int)) then (bif (spec_l03Beach_gd a1 a2 a3 (decide ((i64.wrap (a4*a5))≤(14:Int))) a0) then (bif ((spec_l03Beach_v0 a1 a2 a3 (decide ((i64.wrap (a4*a5))≤(14:Int))) a0) != (0:Int)) then (some (.t [.x,.i .i64 (spec_l03Beach_v0 a1 a2 a3 (decide ((i64.wrap (a4*a5))≤(14:Int))) a0)],.newS (some 0) 0 (#[]:Array Value) 41,true))
     else (bindX (iterO (stepVG prog spec_CollectedAt_G N (cAt (codeOf Tryd.f38) [1,1,1,1,1,0,1,0,0]) (pAt (mkPlan (codeOf Tryd.f38) [([17],[1000016,41])]).1 [1,1,1,1,1,0,1,0]) [17] [] 16 41 5 (spec_CollectedAt_t0 a0 a1 a2 a3 a4 a5)) N ([.a (.i .i64 (1:Int)),.a (.l 5)],[.sl .own 0 (#[]:Array Value) 41])) (fun e s=>(kBlock 0 (kSeq (veC prog spec_CollectedAt_G N (cAt (codeOf Tryd.f38) [1,1,1,1,1,1]) (pAt (mkPlan (codeOf Tryd.f38) [([17],[1000016,41])]).1 [1,1,1,1,1,1]) (SV×Eff×Bool)) (finK prog [] [.tmp 12,.tmp 13]))) e (left (writes (cAt (codeOf Tryd.f38) [1,1,1,1,1,0,1,0,0])) [17,16] [5] (spec_CollectedAt_t0 a0 a1 a2 a3 a4 a5) s))))
    else (none))
   else (bif (spec_l03Beach_gd a1 a2 a3 false a0) then (bif ((spec_l03Beach_v0 a1 a2 a3 false a0) != (0:Int)) then (some (.t [.x,.i .i64 (spec_l03Beach_v0 a1 a2 a3 false a0)],.newS (some 0) 0 (#[]:Array Value) 41,true))
     else (bindX (iterO (stepVG prog spec_CollectedAt_G N (cAt (codeOf Tryd.f38) [1,1,1,1,1,0,1,0,0]) (pAt (mkPlan (codeOf Tryd.f38) [([17],[1000016,41])]).1 [1,1,1,1,1,0,1,0]) [17] [] 16 41 5 (spec_CollectedAt_t0v1 a0 a1 a2 a3 a4 a5)) N ([.a (.i .i64 (1:Int)),.a (.l 5)],[.sl .own 0 (#[]:Array Value) 41])) (fun e s=>(kBlock 0 (kSeq (veC prog spec_CollectedAt_G N (cAt (codeOf Tryd.f38) [1,1,1,1,1,1]) (pAt (mkPlan (codeOf Tryd.f38) [([17],[1000016,41])]).1 [1,1,1,1,1,1]) (SV×Eff×Bool)) (finK prog [] [.tmp 12,.tmp 13]))) e (left (writes (cAt (codeOf Tryd.f38) [1,1,1,1,1,0,1,0,0])) [17,16] [5] (spec_CollectedAt_t0v1 a0 a1 a2 a3 a4 a5) s))))
    else (none)))
  else (bif (spec_l03Beach_gd a1 a2 a3 false a0) then (bif ((spec_l03Beach_v0 a1 a2 a3 false a0) != (0:Int)) then (some (.t [.x,.i .i64 (spec_l03Beach_v0 a1 a2 a3 false a0)],.newS (some 0) 0 (#[]:Array Value) 41,true))
    else (bindX (iterO (stepVG prog spec_CollectedAt_G N (cAt (codeOf Tryd.f38) [1,1,1,1,1,0,1,0,0]) (pAt (mkPlan (codeOf Tryd.f38) [([17],[1000016,41])]).1 [1,1,1,1,1,0,1,0]) [17] [] 16 41 5 (spec_CollectedAt_t0v2 a0 a1 a2 a3 a4 a5)) N ([.a (.i .i64 (1:Int)),.a (.l 5)],[.sl .own 0 (#[]:Array Value) 41])) (fun e s=>(kBlock 0 (kSeq (veC prog spec_CollectedAt_G N (cAt (codeOf Tryd.f38) [1,1,1,1,1,1]) (pAt (mkPlan (codeOf Tryd.f38) [([17],[1000016,41])]).1 [1,1,1,1,1,1]) (SV×Eff×Bool)) (finK prog [] [.tmp 12,.tmp 13]))) e (left (writes (cAt (codeOf Tryd.f38) [1,1,1,1,1,0,1,0,0])) [17,16] [5] (spec_CollectedAt_t0v2 a0 a1 a2 a3 a4 a5) s))))
   else (none)))) (by kernel_rfl) ?_
 simp only [spec_CollectedAt_n0 N a0 a1 a2 a3 a4 a5,spec_CollectedAt_n0v1 N a0 a1 a2 a3 a4 a5,spec_CollectedAt_n0v2 N a0 a1 a2 a3 a4 a5]
theorem spec_CollectedAt_main (a0:Array Value) (a1 a2 a3 a4 a5:Int) (h_a0:WT prog 36 a0) (h_a1:i64.min≤a1∧a1≤i64.max) (h_a2:i64.min≤a2∧a2≤i64.max) (h_a3:i64.min≤a3∧a3≤i64.max) (h_a4:i64.min≤a4∧a4≤i64.max) (h_a5:i64.min≤a5∧a5≤i64.max) (hg:(true)=true):ansV prog spec_CollectedAt_G 1000 Tryd.f38 [([17],[1000016,41])] [.g a0 36,.i .i64 (a1),.i .i64 (a2),.i .i64 (a3),.i .i64 (a4),.i .i64 (a5)] []=some (.t [.x,.i .i64 (colE a0 a1 a2 a3 a4 a5)],.newS (some 0) (colN a0 a1 a2 a3 a4 a5) (colD a0 a1 a2 a3 a4 a5) 41,true):=by
 unfold colN colD colE
 refine (spec_CollectedAt_ans 1000 a0 a1 a2 a3 a4 a5).trans ?_
 have bad:∀ F:Bool,(spec_l03Beach_v0 a1 a2 a3 F a0 != (0:Int))=true→(some (SV.t [.x,.i .i64 (spec_l03Beach_v0 a1 a2 a3 F a0)],Eff.newS (some 0) 0 (#[]:Array Value) 41,true):Option (SV×Eff×Bool))=some (.t [.x,.i .i64 (bif okS a0 then (bif bl a0 a1 a2 a3 F then (bif spec_l01Dry_v0 a1 a0 then (4:Int) else (bif spec_l01Dry_v0 a3 a0 then (0:Int) else (4:Int))) else (2:Int)) else (1:Int))],.newS (some 0) (bif okS a0 then (bif bl a0 a1 a2 a3 F then (bif spec_l01Dry_v0 a1 a0 then 0 else (bif spec_l01Dry_v0 a3 a0 then a5.toNat else 0)) else 0) else 0) (bif okS a0 then (bif bl a0 a1 a2 a3 F then (bif spec_l01Dry_v0 a1 a0 then (#[]:Array Value) else (bif spec_l01Dry_v0 a3 a0 then (colC prog a0 a1 a2 a3.toNat a4.toNat a5.toNat) else (#[]:Array Value))) else (#[]:Array Value)) else (#[]:Array Value)) 41,true):=fun F hz=>by
  rw [beach_eq] at hz⊢
  cases h1:okS a0<;>cases h2:bl a0 a1 a2 a3 F<;>cases h3:spec_l01Dry_v0 a1 a0<;>cases h4:spec_l01Dry_v0 a3 a0<;>first | (simp only [cond_true,cond_false];done) | (exfalso;rw [h1,h2,h3,h4] at hz;revert hz;decide)
 have blF:bl a0 a1 a2 a3 false=false:=by unfold bl rl;simp
 have bz:(spec_l03Beach_v0 a1 a2 a3 false a0 != (0:Int))=true:=by
  rw [beach_eq,blF];cases okS a0<;>rfl
 have bF:=bad false bz
 cases h4:spec_l00In_v0 a4 1 14 with
 | false=>simp only [beach_gd,bz,cond_true,cond_false,Bool.false_and];exact bF
 | true=>
  cases h5:spec_l00In_v0 a5 0 14 with
  | false=>simp only [beach_gd,bz,cond_true,cond_false,Bool.true_and,Bool.false_and];exact bF
  | true=>
   simp only [beach_gd,cond_true,Bool.true_and]
   cases hz:(spec_l03Beach_v0 a1 a2 a3 (decide (i64.wrap (a4*a5)≤(14:Int))) a0 != (0:Int)) with
   | true=>rw [cond_true];exact bad _ hz
   | false=>
    obtain ⟨z1,z2,z3,z4⟩:=beach_zero hz
    obtain ⟨q1,q2,q3,q4⟩:=bl_of z2
    have r4:=in_range h4
    have r5:=in_range h5
    have r6:=of_decide_eq_true q3
    have r3:=is_range q4
    obtain ⟨k,rfl⟩:=Int.eq_ofNat_of_zero_le r3.1
    obtain ⟨e,rfl⟩:=Int.eq_ofNat_of_zero_le (show 0≤a4 by omega)
    obtain ⟨n,rfl⟩:=Int.eq_ofNat_of_zero_le r5.1
    have hen:=visits (e:=e) (n:=n) (by omega) (by omega)
    rw [hen] at r6
    have hle:e*n≤14:=by omega
    simp only [z1,z2,z3,z4,cond_true,cond_false,Int.toNat_natCast]
    have hq:∀ q:Array Value,iterO (spec_CollectedAt_g0 prog a0 a1 a2 (k:Int) (e:Int) (n:Int)) 1000 ((1:Int),0,(#[]:Array Value))=some (((n+1:Nat):Int),n,q)→nodeX (iterO (spec_CollectedAt_g0 prog a0 a1 a2 (k:Int) (e:Int) (n:Int)) 1000 ((1:Int),0,(#[]:Array Value))) (fun x=>spec_CollectedAt_k0_0 prog 1000 a0 a1 a2 (k:Int) (e:Int) (n:Int) x.1 x.2.1 x.2.2)=some (.t [.x,.i .i64 0],.newS (some 0) n q 41,true):=fun q e=>by rw [e];rfl
    refine hq _ ?_
    exact iter_all (g:=spec_CollectedAt_g0 prog a0 a1 a2 (k:Int) (e:Int) (n:Int)) (fun v=>(((v+1:Nat):Int),v,colC prog a0 a1 a2 k e v)) (m:=n) (x:=(((n+1:Nat):Int),n,colC prog a0 a1 a2 k e n)) (N:=1000) (fun v hv=>by
     have hm:e*v+e≤14:=Nat.le_trans (Nat.le_of_eq (Nat.mul_succ e v).symm) (Nat.le_trans (Nat.mul_le_mul_left e hv) hle)
     have e0:i64.wrap (((v+1:Nat):Int) - 1)=(v:Int):=by rw [w64 (by omega)];omega
     have e1:i64.wrap ((e:Int)*(v:Int))=((e*v:Nat):Int):=visits (by omega) (by omega)
     have e2:i64.wrap (((e*v:Nat):Int)+1)=((e*v+1:Nat):Int):=by rw [w64 (by omega)];omega
     have e3:i64.wrap ((e:Int)*((v+1:Nat):Int))=((e*v+e:Nat):Int):=by rw [visits (by omega) (by omega),Nat.mul_succ]
     have e4:i64.wrap (((v+1:Nat):Int)+1)=((v+1+1:Nat):Int):=by rw [w64 (by omega)];omega
     have g1:decide (((v+1:Nat):Int)≤(n:Int))=true:=decide_eq_true (by omega)
     have g2:decide (0≤(k:Int))=true:=decide_eq_true (by omega)
     have g3:decide ((k:Int)≤35)=true:=decide_eq_true (by omega)
     have g4:decide (1≤((e*v+1:Nat):Int))=true:=decide_eq_true (by omega)
     have g5:decide (((e*v+1:Nat):Int)≤((e*v+e:Nat):Int))=true:=decide_eq_true (by omega)
     have g6:decide (((e*v+e:Nat):Int)≤14)=true:=decide_eq_true (by omega)
     have g7:Nat.ble ((v+1)*bytesOf prog 41) 140737488355328=true:=Nat.ble_eq_true_of_le (by rw [bytes_share];omega)
     have e6:∀ p w:Int,spl (#[.int .i64 (0:Int),.int .i64 (0:Int)]:Array Value) 0 (shareW p w).toList=shareW p w:=fun p w=>spl_all rfl
     simp only [spec_CollectedAt_g0,e0,e1,e2,e3,e4,e6,g1,g2,g3,g4,g5,g6,g7,z1,q1,q2,Int.toNat_natCast,Bool.and_self,cond_true]
     rw [show e*v+1 - 1=e*v by omega,show e*v+e - e*v=e by omega]
     rfl) (by
     have g1:decide (((n+1:Nat):Int)≤(n:Int))=false:=decide_eq_false (by omega)
     simp only [spec_CollectedAt_g0,g1,cond_false]) (by omega)
noncomputable def spec_CollectedAt_con:Con:=fun args h=>match args,h with
 | [.g a0 36,.i .i64 a1,.i .i64 a2,.i .i64 a3,.i .i64 a4,.i .i64 a5],[]=>some (.t [.x,.i .i64 (colE a0 a1 a2 a3 a4 a5)],.newS (some 0) (colN a0 a1 a2 a3 a4 a5) (colD a0 a1 a2 a3 a4 a5) 41,true)
 | _,_=>none
theorem spec_CollectedAt_enter:EntX prog 38:=entX_ok (fn:=Tryd.f38) (by kernel_rfl) (by kernel_rfl) (by kernel_rfl)
theorem spec_CollectedAt_ok:ConOkX (md F) prog 38 spec_CollectedAt_con:=(ansX_ok (N:=1000) (by kernel_rfl) (mkΓ_consX (con_okX spec_l03Beach_ok) spec_l03Beach_enter (mkΓ_consX (con_okX spec_l03Part_ok) spec_l03Part_enter (mkΓ_consX (con_okX spec_l00In_ok) spec_l00In_enter mkΓ_nilX))) (fn:=Tryd.f38) (by kernel_rfl) (by kernel_rfl) [([17],[1000016,41])]).of (by
 intro ρ h w args vals r e hA hH hr
 unfold spec_CollectedAt_con at hr
 split at hr
 ·rename_i a0 a1 a2 a3 a4 a5
  obtain ⟨rfl,hg⟩:=Prod.mk.inj (Option.some.inj hr)
  obtain ⟨rfl,hg2⟩:=Prod.mk.inj hg
  exact spec_CollectedAt_main a0 a1 a2 a3 a4 a5 (hA.wt 0 rfl) (hA.rng 1 rfl) (hA.rng 2 rfl) (hA.rng 3 rfl) (hA.rng 4 rfl) (hA.rng 5 rfl) hg2
 ·cases hr)
end
end Go.Proofs.YtphmhgdedoeaeaaDoor
