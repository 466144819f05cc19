/- Bottles are counted: what is asked for. -/
import Derived.Test.YtnhilgpdgicgfaaProg
import Derived.Test.YtnhilgpdgicgfaaBdD
namespace Go.Proofs.Ytnhilgpdgicgfaa
open Go.ChangeShapes Go.WideShapes Go.ChangeAt Go.RowKit Ve Vc
open IntKind (i64)
set_option linter.unusedVariables false
set_option linter.unusedSimpArgs false
set_option maxRecDepth 100000
noncomputable section
variable {mn:Md}
noncomputable def ctB (S:Array Value) (c b:Int) (h:Nat) (x:Array Value×Int×Int):Array Value×Int×Int:=
 bif ((rnB S b (c,x.2.2) h).1==(-1:Int)) then (x.1,i64.wrap (x.2.1+(1:Int)),(rnB S b (c,x.2.2) h).2)
 else (x.1.setIfInBounds ((rnB S b (c,x.2.2) h).1.toNat*1) (.int .i64 (i64.wrap (num x.1 ((rnB S b (c,x.2.2) h).1.toNat*1)+(1:Int)))),x.2.1,(rnB S b (c,x.2.2) h).2)
noncomputable def cnB (S:Array Value) (c b:Int) (h:Nat) (s:Int):Nat→Array Value×Int×Int
 | 0=>(zc Try.prog 42,0,s)
 | k+1=>ctB S c b h (cnB S c b h s k)
theorem cn_seed {S:Array Value} (hok:okS S=true) {b:Int} (hb:0≤b∧b≤1) {c:Int} (hin:inB S c) {h:Nat} (hh:h≤14) {s:Int} (hs:0≤s∧s<4294967296):∀ k,0≤(cnB S c b h s k).2.2∧(cnB S c b h s k).2.2<4294967296
 | 0=>hs
 | k+1=>by
  have h1:=(rnB_in hok hb (x:=(c,(cnB S c b h s k).2.2)) hin (cn_seed hok hb hin hh hs k) h (by omega)).2
  show 0≤(ctB S c b h (cnB S c b h s k)).2.2∧(ctB S c b h (cnB S c b h s k)).2.2<4294967296
  unfold ctB
  cases ((rnB S b (c,(cnB S c b h s k).2.2) h).1==(-1:Int))<;>exact h1
theorem arB_num {S:Array Value} {b:Int} {x:Int×Int} {j i:Nat} (hi:i≤j):num (arB S b x j) (i*1)=(rnB S b x i).1:=by
 rw [← ptB_all];exact ptB_num hi (by omega)
noncomputable def ccD (a0:Array Value) (a1 a2 a3 a4 a5:Int):Int:=(bif ((spec_l02Begun_v0 a1 a2 a3 a0) != (0:Int)) then (spec_l02Begun_v0 a1 a2 a3 a0) else bif (!(spec_l00In_v0 a5 (1:Int) (2000:Int))) then (2:Int) else (0:Int))
noncomputable def ccA (a0:Array Value) (a1 a2 a3 a4 a5:Int):Array Value:=bif (ccD a0 a1 a2 a3 a4 a5 != (0:Int)) then zc Try.prog 42 else (cnB a0 a1 a2 a3.toNat a4 a5.toNat).1
noncomputable def ccG (a0:Array Value) (a1 a2 a3 a4 a5:Int):Int:=bif (ccD a0 a1 a2 a3 a4 a5 != (0:Int)) then 0 else (cnB a0 a1 a2 a3.toNat a4 a5.toNat).2.1
noncomputable def ccS (a0:Array Value) (a1 a2 a3 a4 a5:Int):Int:=bif (ccD a0 a1 a2 a3 a4 a5 != (0:Int)) then 0 else (cnB a0 a1 a2 a3.toNat a4 a5.toNat).2.2
theorem begun_cell {S:Array Value} (hS:WT Try.prog 37 S) {c b h:Int} (h0:(spec_l02Begun_v0 c b h S != (0:Int))=false):okS S=true∧(0≤b∧b≤1)∧∃ k q:Nat,c=(k:Int)∧k<36∧spec_l01Is_v0 (k:Int) S=true∧inB S (k:Int)∧h=(q:Int)∧q≤14:=by
 have hg:=begun_ok h0
 simp only [Bool.and_eq_true,decide_eq_true_eq] at hg
 obtain ⟨hok,his,hb,h1,h14⟩:=hg
 obtain ⟨hc0,hc35⟩:=is_range his
 obtain ⟨k,rfl⟩:=Int.eq_ofNat_of_zero_le hc0
 obtain ⟨q,rfl⟩:=Int.eq_ofNat_of_zero_le h1
 exact ⟨hok,hb,k,q,rfl,by omega,his,.inr ⟨k,rfl,by omega,by rw [← is_inC hS (by omega)];exact his⟩,rfl,by omega⟩
noncomputable def spec_CountDrifts_G:Cons:=(mkΓ [(33,con spec_l02Begun_con),(34,con spec_l02Bottle_con),(39,con spec_l00In_con)])
noncomputable def spec_CountDrifts_t0 (a0:Array Value) (a1 a2 a3 a4 a5:Int):St:=(⟨.a (.g a0 37) :: .a (.i .i64 (a1)) :: .a (.i .i64 (a2)) :: .a (.i .i64 (a3)) :: .a (.i .u32 (a4)) :: .a (.i .i64 (a5)) :: .a (.w 0)::us 5 (.a (.w 1) :: .a (.i .i64 (0:Int)) :: .a (.i .u32 (0:Int)) :: .a (.i .i64 (0:Int)) :: .a (.w 6) :: .a (.i .i64 (spec_l02Begun_v0 a1 a2 a3 a0)) :: .a (.i .i64 (0:Int)) :: .a (.i .i64 (0:Int))::us 3 (.a (.g (zc Try.prog 42) 42) :: .a (.i .i64 (a1)) :: .a (.i .i64 (a2)) :: .a (.i .i64 (a3)) :: .a (.i .i64 (spec_l02Begun_v0 a1 a2 a3 a0)) :: .a (.i .i64 (spec_l02Begun_v0 a1 a2 a3 a0)) :: .a (.b (((spec_l02Begun_v0 a1 a2 a3 a0)==(0:Int)))) :: .a (.b (true)) :: .a (.i .i64 (a5)) :: .a (.b ((spec_l00In_v0 a5 (1:Int) (2000:Int)))) :: .a (.b ((!((spec_l00In_v0 a5 (1:Int) (2000:Int)))))) :: .a (.b ((!((spec_l00In_v0 a5 (1:Int) (2000:Int)))))) :: .a (.i .i64 (spec_l02Begun_v0 a1 a2 a3 a0)) :: .a (.b (((spec_l02Begun_v0 a1 a2 a3 a0) != (0:Int))))::us 34 ([]))),[.row a0 37,.row (zc Try.prog 42) 42,.no,.no,.no,.no,.row (zc Try.prog 42) 42,.no],[6]⟩:St)
noncomputable def spec_CountDrifts_e0:Int×Int×Int×Array Value→LS
 | (y0_4,y0_18,y0_19,r0_6)=>([.a (.i .u32 (y0_4)),.a (.i .i64 (y0_18)),.a (.i .i64 (y0_19))],[.row r0_6 42])
noncomputable def spec_CountDrifts_x0:Int×Int×Int×Array Value→Exit×LS
 | t=>((.exit 0),spec_CountDrifts_e0 t)
noncomputable def spec_CountDrifts_g0 (P : Program) (a0 : Array Value) (a1 a2 a3 a4 a5 : Int) : Int × Int × Int × Array Value → Option (Stp (Int × Int × Int × Array Value) (Int × Int × Int × Array Value))
 | (y0_4, y0_18, y0_19, r0_6) => bif decide (y0_19 < a5) then (bif ((okS a0) && ((spec_l01Is_v0 a1 a0) && ((decide (0 ≤ a2) && decide (a2 ≤ 1)) && (decide (0 ≤ a3) && decide (a3 ≤ 14))))) then (bif (decide (0 ≤ (i64.wrap ((((a3.toNat + 1)) : Int) - (1 : Int)))) && decide ((i64.wrap ((((a3.toNat + 1)) : Int) - (1 : Int))) < (((a3.toNat + 1)) : Int))) then (bif decide ((num (arB a0 a2 (a1, y0_4) a3.toNat) ((i64.wrap ((((a3.toNat + 1)) : Int) - (1 : Int))).toNat * 1)) < (0 : Int)) then (some (.more ((rnB a0 a2 (a1, y0_4) a3.toNat).2, (i64.wrap (y0_18 + (1 : Int))), (i64.wrap (y0_19 + (1 : Int))), r0_6)))
     else (bif (decide (0 ≤ (num (arB a0 a2 (a1, y0_4) a3.toNat) ((i64.wrap ((((a3.toNat + 1)) : Int) - (1 : Int))).toNat * 1))) && decide ((num (arB a0 a2 (a1, y0_4) a3.toNat) ((i64.wrap ((((a3.toNat + 1)) : Int) - (1 : Int))).toNat * 1)) < 36)) then (bif (decide (0 ≤ (num (arB a0 a2 (a1, y0_4) a3.toNat) ((i64.wrap ((((a3.toNat + 1)) : Int) - (1 : Int))).toNat * 1))) && decide ((num (arB a0 a2 (a1, y0_4) a3.toNat) ((i64.wrap ((((a3.toNat + 1)) : Int) - (1 : Int))).toNat * 1)) < 36)) then (some (.more ((rnB a0 a2 (a1, y0_4) a3.toNat).2, y0_18, (i64.wrap (y0_19 + (1 : Int))), (r0_6.setIfInBounds ((num (arB a0 a2 (a1, y0_4) a3.toNat) ((i64.wrap ((((a3.toNat + 1)) : Int) - (1 : Int))).toNat * 1)).toNat * 1) (.int .i64 (i64.wrap ((num r0_6 ((num (arB a0 a2 (a1, y0_4) a3.toNat) ((i64.wrap ((((a3.toNat + 1)) : Int) - (1 : Int))).toNat * 1)).toNat * 1)) + (1 : Int))))))))
       else (none))
      else (none)))
    else (none))
   else (none))
  else (some (.done (y0_4, y0_18, y0_19, r0_6)))
theorem spec_CountDrifts_s0 (N:Nat) (a0:Array Value) (a1 a2 a3 a4 a5:Int):∀ t:Int×Int×Int×Array Value,stepV Try.prog spec_CountDrifts_G N (cAt (codeOf Try.f16) [1,1,1,1,1,1,0,1,0,0]) (pAt (mkPlan (codeOf Try.f16) [([4,18,19],[6])]).1 [1,1,1,1,1,1,0,1,0]) [4,18,19] [6] (spec_CountDrifts_t0 a0 a1 a2 a3 a4 a5) (spec_CountDrifts_e0 t)=mapS spec_CountDrifts_e0 spec_CountDrifts_x0 (spec_CountDrifts_g0 Try.prog a0 a1 a2 a3 a4 a5 t):=by
 rintro ⟨y0_4,y0_18,y0_19,r0_6⟩
 refine Eq.trans (b:=(bif decide (y0_19<a5) then (bif ((okS a0)&&((spec_l01Is_v0 a1 a0)&&((decide (0≤a2)&&decide (a2≤1))&&(decide (0≤a3)&&decide (a3≤14))))) then (bif (decide (0≤(i64.wrap ((((a3.toNat+1)):Int) - (1:Int))))&&decide ((i64.wrap ((((a3.toNat+1)):Int) - (1:Int)))<(((a3.toNat+1)):Int))) then (bif decide ((num (arB a0 a2 (a1,y0_4) a3.toNat) ((i64.wrap ((((a3.toNat+1)):Int) - (1:Int))).toNat*1))<(0:Int)) then (some (.more ([.a (.i .u32 (rnB a0 a2 (a1,y0_4) a3.toNat).2),.a (.i .i64 (i64.wrap (y0_18+(1:Int)))),.a (.i .i64 (i64.wrap (y0_19+(1:Int))))],[.row r0_6 42])))
     else (bif (decide (0≤(num (arB a0 a2 (a1,y0_4) a3.toNat) ((i64.wrap ((((a3.toNat+1)):Int) - (1:Int))).toNat*1)))&&decide ((num (arB a0 a2 (a1,y0_4) a3.toNat) ((i64.wrap ((((a3.toNat+1)):Int) - (1:Int))).toNat*1))<36)) then (bif (decide (0≤(num (arB a0 a2 (a1,y0_4) a3.toNat) ((i64.wrap ((((a3.toNat+1)):Int) - (1:Int))).toNat*1)))&&decide ((num (arB a0 a2 (a1,y0_4) a3.toNat) ((i64.wrap ((((a3.toNat+1)):Int) - (1:Int))).toNat*1))<36)) then (some (.more ([.a (.i .u32 (rnB a0 a2 (a1,y0_4) a3.toNat).2),.a (.i .i64 (y0_18)),.a (.i .i64 (i64.wrap (y0_19+(1:Int))))],[.row (r0_6.setIfInBounds ((num (arB a0 a2 (a1,y0_4) a3.toNat) ((i64.wrap ((((a3.toNat+1)):Int) - (1:Int))).toNat*1)).toNat*1) (.int .i64 (i64.wrap ((num r0_6 ((num (arB a0 a2 (a1,y0_4) a3.toNat) ((i64.wrap ((((a3.toNat+1)):Int) - (1:Int))).toNat*1)).toNat*1))+(1:Int))))) 42])))
       else (none))
      else (none)))
    else (none))
   else (none))
  else (some (.done ((.exit 0),([.a (.i .u32 (y0_4)),.a (.i .i64 (y0_18)),.a (.i .i64 (y0_19))],[.row r0_6 42])))))) (by kernel_rfl) ?_
 simp only [spec_CountDrifts_g0,mapS_cond,mapS_more,mapS_done,mapS_none,spec_CountDrifts_e0,spec_CountDrifts_x0]
noncomputable def spec_CountDrifts_k0_0 (P:Program) (N:Nat) (a0:Array Value) (a1 a2 a3 a4 a5:Int) (z0_4:Int) (z0_18:Int) (z0_19:Int) (q0_6:Array Value):Option (SV×Eff×Bool):=some (.t [.g q0_6 42,.i .i64 (z0_18),.i .u32 (z0_4),.i .i64 (0:Int)],.none,true)
theorem spec_CountDrifts_k0_0_eq (N:Nat) (a0:Array Value) (a1 a2 a3 a4 a5:Int) (z0_4:Int) (z0_18:Int) (z0_19:Int) (q0_6:Array Value):(kBlock 0 (kSeq (veC Try.prog spec_CountDrifts_G N (cAt (codeOf Try.f16) [1,1,1,1,1,1,1]) (pAt (mkPlan (codeOf Try.f16) [([4,18,19],[6])]).1 [1,1,1,1,1,1,1]) (SV×Eff×Bool)) (finK Try.prog [] [.cell 12 42,.tmp 13,.tmp 14,.tmp 15]))) (.exit 0) (left (writes (cAt (codeOf Try.f16) [1,1,1,1,1,1,0,1,0,0])) [4,18,19] [6] (spec_CountDrifts_t0 a0 a1 a2 a3 a4 a5) ([.a (.i .u32 (z0_4)),.a (.i .i64 (z0_18)),.a (.i .i64 (z0_19))],[.row q0_6 42]))=spec_CountDrifts_k0_0 Try.prog N a0 a1 a2 a3 a4 a5 z0_4 z0_18 z0_19 q0_6:=by
 refine Eq.trans (b:=(some (.t [.g q0_6 42,.i .i64 (z0_18),.i .u32 (z0_4),.i .i64 (0:Int)],.none,true))) (by kernel_rfl) ?_
 rfl
theorem spec_CountDrifts_n0 (N:Nat) (a0:Array Value) (a1 a2 a3 a4 a5:Int):bindX (iterO (stepV Try.prog spec_CountDrifts_G N (cAt (codeOf Try.f16) [1,1,1,1,1,1,0,1,0,0]) (pAt (mkPlan (codeOf Try.f16) [([4,18,19],[6])]).1 [1,1,1,1,1,1,0,1,0]) [4,18,19] [6] (spec_CountDrifts_t0 a0 a1 a2 a3 a4 a5)) N ([.a (.i .u32 (a4)),.a (.i .i64 (0:Int)),.a (.i .i64 (0:Int))],[.row (zc Try.prog 42) 42])) (fun e s=>(kBlock 0 (kSeq (veC Try.prog spec_CountDrifts_G N (cAt (codeOf Try.f16) [1,1,1,1,1,1,1]) (pAt (mkPlan (codeOf Try.f16) [([4,18,19],[6])]).1 [1,1,1,1,1,1,1]) (SV×Eff×Bool)) (finK Try.prog [] [.cell 12 42,.tmp 13,.tmp 14,.tmp 15]))) e (left (writes (cAt (codeOf Try.f16) [1,1,1,1,1,1,0,1,0,0])) [4,18,19] [6] (spec_CountDrifts_t0 a0 a1 a2 a3 a4 a5) s))=nodeX (iterO (spec_CountDrifts_g0 Try.prog a0 a1 a2 a3 a4 a5) N (a4,(0:Int),(0:Int),(zc Try.prog 42))) (fun x=>spec_CountDrifts_k0_0 Try.prog N a0 a1 a2 a3 a4 a5 x.1 x.2.1 x.2.2.1 x.2.2.2):=by
 refine loop_node spec_CountDrifts_e0 spec_CountDrifts_x0 _ _ (spec_CountDrifts_s0 N a0 a1 a2 a3 a4 a5) N (a4,(0:Int),(0:Int),(zc Try.prog 42)) _ _ ?_
 intro x;exact spec_CountDrifts_k0_0_eq N a0 a1 a2 a3 a4 a5 x.1 x.2.1 x.2.2.1 x.2.2.2
noncomputable def spec_CountDrifts_t0v1 (a0:Array Value) (a1 a2 a3 a4 a5:Int):St:=(⟨.a (.g a0 37) :: .a (.i .i64 (a1)) :: .a (.i .i64 (a2)) :: .a (.i .i64 (a3)) :: .a (.i .u32 (a4)) :: .a (.i .i64 (a5)) :: .a (.w 0)::us 5 (.a (.w 1) :: .a (.i .i64 (0:Int)) :: .a (.i .u32 (0:Int)) :: .a (.i .i64 (0:Int)) :: .a (.w 6) :: .a (.i .i64 (spec_l02Begun_v0 a1 a2 a3 a0)) :: .a (.i .i64 (0:Int)) :: .a (.i .i64 (0:Int))::us 3 (.a (.g (zc Try.prog 42) 42) :: .a (.i .i64 (a1)) :: .a (.i .i64 (a2)) :: .a (.i .i64 (a3)) :: .a (.i .i64 (spec_l02Begun_v0 a1 a2 a3 a0)) :: .a (.i .i64 (spec_l02Begun_v0 a1 a2 a3 a0)) :: .a (.b (((spec_l02Begun_v0 a1 a2 a3 a0)==(0:Int)))) :: .a (.b (false))::us 3 (.a (.b (false)) :: .a (.i .i64 (spec_l02Begun_v0 a1 a2 a3 a0)) :: .a (.b (((spec_l02Begun_v0 a1 a2 a3 a0) != (0:Int))))::us 34 ([])))),[.row a0 37,.row (zc Try.prog 42) 42,.no,.no,.no,.no,.row (zc Try.prog 42) 42,.no],[6]⟩:St)
noncomputable def spec_CountDrifts_e0v1:Int×Int×Int×Array Value→LS
 | (y0v1_4,y0v1_18,y0v1_19,r0v1_6)=>([.a (.i .u32 (y0v1_4)),.a (.i .i64 (y0v1_18)),.a (.i .i64 (y0v1_19))],[.row r0v1_6 42])
noncomputable def spec_CountDrifts_x0v1:Int×Int×Int×Array Value→Exit×LS
 | t=>((.exit 0),spec_CountDrifts_e0v1 t)
noncomputable def spec_CountDrifts_g0v1 (P : Program) (a0 : Array Value) (a1 a2 a3 a4 a5 : Int) : Int × Int × Int × Array Value → Option (Stp (Int × Int × Int × Array Value) (Int × Int × Int × Array Value))
 | (y0v1_4, y0v1_18, y0v1_19, r0v1_6) => bif decide (y0v1_19 < a5) then (bif ((okS a0) && ((spec_l01Is_v0 a1 a0) && ((decide (0 ≤ a2) && decide (a2 ≤ 1)) && (decide (0 ≤ a3) && decide (a3 ≤ 14))))) then (bif (decide (0 ≤ (i64.wrap ((((a3.toNat + 1)) : Int) - (1 : Int)))) && decide ((i64.wrap ((((a3.toNat + 1)) : Int) - (1 : Int))) < (((a3.toNat + 1)) : Int))) then (bif decide ((num (arB a0 a2 (a1, y0v1_4) a3.toNat) ((i64.wrap ((((a3.toNat + 1)) : Int) - (1 : Int))).toNat * 1)) < (0 : Int)) then (some (.more ((rnB a0 a2 (a1, y0v1_4) a3.toNat).2, (i64.wrap (y0v1_18 + (1 : Int))), (i64.wrap (y0v1_19 + (1 : Int))), r0v1_6)))
     else (bif (decide (0 ≤ (num (arB a0 a2 (a1, y0v1_4) a3.toNat) ((i64.wrap ((((a3.toNat + 1)) : Int) - (1 : Int))).toNat * 1))) && decide ((num (arB a0 a2 (a1, y0v1_4) a3.toNat) ((i64.wrap ((((a3.toNat + 1)) : Int) - (1 : Int))).toNat * 1)) < 36)) then (bif (decide (0 ≤ (num (arB a0 a2 (a1, y0v1_4) a3.toNat) ((i64.wrap ((((a3.toNat + 1)) : Int) - (1 : Int))).toNat * 1))) && decide ((num (arB a0 a2 (a1, y0v1_4) a3.toNat) ((i64.wrap ((((a3.toNat + 1)) : Int) - (1 : Int))).toNat * 1)) < 36)) then (some (.more ((rnB a0 a2 (a1, y0v1_4) a3.toNat).2, y0v1_18, (i64.wrap (y0v1_19 + (1 : Int))), (r0v1_6.setIfInBounds ((num (arB a0 a2 (a1, y0v1_4) a3.toNat) ((i64.wrap ((((a3.toNat + 1)) : Int) - (1 : Int))).toNat * 1)).toNat * 1) (.int .i64 (i64.wrap ((num r0v1_6 ((num (arB a0 a2 (a1, y0v1_4) a3.toNat) ((i64.wrap ((((a3.toNat + 1)) : Int) - (1 : Int))).toNat * 1)).toNat * 1)) + (1 : Int))))))))
       else (none))
      else (none)))
    else (none))
   else (none))
  else (some (.done (y0v1_4, y0v1_18, y0v1_19, r0v1_6)))
theorem spec_CountDrifts_s0v1 (N:Nat) (a0:Array Value) (a1 a2 a3 a4 a5:Int):∀ t:Int×Int×Int×Array Value,stepV Try.prog spec_CountDrifts_G N (cAt (codeOf Try.f16) [1,1,1,1,1,1,0,1,0,0]) (pAt (mkPlan (codeOf Try.f16) [([4,18,19],[6])]).1 [1,1,1,1,1,1,0,1,0]) [4,18,19] [6] (spec_CountDrifts_t0v1 a0 a1 a2 a3 a4 a5) (spec_CountDrifts_e0v1 t)=mapS spec_CountDrifts_e0v1 spec_CountDrifts_x0v1 (spec_CountDrifts_g0v1 Try.prog a0 a1 a2 a3 a4 a5 t):=by
 rintro ⟨y0v1_4,y0v1_18,y0v1_19,r0v1_6⟩
 refine Eq.trans (b:=(bif decide (y0v1_19<a5) then (bif ((okS a0)&&((spec_l01Is_v0 a1 a0)&&((decide (0≤a2)&&decide (a2≤1))&&(decide (0≤a3)&&decide (a3≤14))))) then (bif (decide (0≤(i64.wrap ((((a3.toNat+1)):Int) - (1:Int))))&&decide ((i64.wrap ((((a3.toNat+1)):Int) - (1:Int)))<(((a3.toNat+1)):Int))) then (bif decide ((num (arB a0 a2 (a1,y0v1_4) a3.toNat) ((i64.wrap ((((a3.toNat+1)):Int) - (1:Int))).toNat*1))<(0:Int)) then (some (.more ([.a (.i .u32 (rnB a0 a2 (a1,y0v1_4) a3.toNat).2),.a (.i .i64 (i64.wrap (y0v1_18+(1:Int)))),.a (.i .i64 (i64.wrap (y0v1_19+(1:Int))))],[.row r0v1_6 42])))
     else (bif (decide (0≤(num (arB a0 a2 (a1,y0v1_4) a3.toNat) ((i64.wrap ((((a3.toNat+1)):Int) - (1:Int))).toNat*1)))&&decide ((num (arB a0 a2 (a1,y0v1_4) a3.toNat) ((i64.wrap ((((a3.toNat+1)):Int) - (1:Int))).toNat*1))<36)) then (bif (decide (0≤(num (arB a0 a2 (a1,y0v1_4) a3.toNat) ((i64.wrap ((((a3.toNat+1)):Int) - (1:Int))).toNat*1)))&&decide ((num (arB a0 a2 (a1,y0v1_4) a3.toNat) ((i64.wrap ((((a3.toNat+1)):Int) - (1:Int))).toNat*1))<36)) then (some (.more ([.a (.i .u32 (rnB a0 a2 (a1,y0v1_4) a3.toNat).2),.a (.i .i64 (y0v1_18)),.a (.i .i64 (i64.wrap (y0v1_19+(1:Int))))],[.row (r0v1_6.setIfInBounds ((num (arB a0 a2 (a1,y0v1_4) a3.toNat) ((i64.wrap ((((a3.toNat+1)):Int) - (1:Int))).toNat*1)).toNat*1) (.int .i64 (i64.wrap ((num r0v1_6 ((num (arB a0 a2 (a1,y0v1_4) a3.toNat) ((i64.wrap ((((a3.toNat+1)):Int) - (1:Int))).toNat*1)).toNat*1))+(1:Int))))) 42])))
       else (none))
      else (none)))
    else (none))
   else (none))
  else (some (.done ((.exit 0),([.a (.i .u32 (y0v1_4)),.a (.i .i64 (y0v1_18)),.a (.i .i64 (y0v1_19))],[.row r0v1_6 42])))))) (by kernel_rfl) ?_
 simp only [spec_CountDrifts_g0v1,mapS_cond,mapS_more,mapS_done,mapS_none,spec_CountDrifts_e0v1,spec_CountDrifts_x0v1]
noncomputable def spec_CountDrifts_k0v1_0 (P:Program) (N:Nat) (a0:Array Value) (a1 a2 a3 a4 a5:Int) (z0v1_4:Int) (z0v1_18:Int) (z0v1_19:Int) (q0v1_6:Array Value):Option (SV×Eff×Bool):=some (.t [.g q0v1_6 42,.i .i64 (z0v1_18),.i .u32 (z0v1_4),.i .i64 (0:Int)],.none,true)
theorem spec_CountDrifts_k0v1_0_eq (N:Nat) (a0:Array Value) (a1 a2 a3 a4 a5:Int) (z0v1_4:Int) (z0v1_18:Int) (z0v1_19:Int) (q0v1_6:Array Value):(kBlock 0 (kSeq (veC Try.prog spec_CountDrifts_G N (cAt (codeOf Try.f16) [1,1,1,1,1,1,1]) (pAt (mkPlan (codeOf Try.f16) [([4,18,19],[6])]).1 [1,1,1,1,1,1,1]) (SV×Eff×Bool)) (finK Try.prog [] [.cell 12 42,.tmp 13,.tmp 14,.tmp 15]))) (.exit 0) (left (writes (cAt (codeOf Try.f16) [1,1,1,1,1,1,0,1,0,0])) [4,18,19] [6] (spec_CountDrifts_t0v1 a0 a1 a2 a3 a4 a5) ([.a (.i .u32 (z0v1_4)),.a (.i .i64 (z0v1_18)),.a (.i .i64 (z0v1_19))],[.row q0v1_6 42]))=spec_CountDrifts_k0v1_0 Try.prog N a0 a1 a2 a3 a4 a5 z0v1_4 z0v1_18 z0v1_19 q0v1_6:=by
 refine Eq.trans (b:=(some (.t [.g q0v1_6 42,.i .i64 (z0v1_18),.i .u32 (z0v1_4),.i .i64 (0:Int)],.none,true))) (by kernel_rfl) ?_
 rfl
theorem spec_CountDrifts_n0v1 (N:Nat) (a0:Array Value) (a1 a2 a3 a4 a5:Int):bindX (iterO (stepV Try.prog spec_CountDrifts_G N (cAt (codeOf Try.f16) [1,1,1,1,1,1,0,1,0,0]) (pAt (mkPlan (codeOf Try.f16) [([4,18,19],[6])]).1 [1,1,1,1,1,1,0,1,0]) [4,18,19] [6] (spec_CountDrifts_t0v1 a0 a1 a2 a3 a4 a5)) N ([.a (.i .u32 (a4)),.a (.i .i64 (0:Int)),.a (.i .i64 (0:Int))],[.row (zc Try.prog 42) 42])) (fun e s=>(kBlock 0 (kSeq (veC Try.prog spec_CountDrifts_G N (cAt (codeOf Try.f16) [1,1,1,1,1,1,1]) (pAt (mkPlan (codeOf Try.f16) [([4,18,19],[6])]).1 [1,1,1,1,1,1,1]) (SV×Eff×Bool)) (finK Try.prog [] [.cell 12 42,.tmp 13,.tmp 14,.tmp 15]))) e (left (writes (cAt (codeOf Try.f16) [1,1,1,1,1,1,0,1,0,0])) [4,18,19] [6] (spec_CountDrifts_t0v1 a0 a1 a2 a3 a4 a5) s))=nodeX (iterO (spec_CountDrifts_g0v1 Try.prog a0 a1 a2 a3 a4 a5) N (a4,(0:Int),(0:Int),(zc Try.prog 42))) (fun x=>spec_CountDrifts_k0v1_0 Try.prog N a0 a1 a2 a3 a4 a5 x.1 x.2.1 x.2.2.1 x.2.2.2):=by
 refine loop_node spec_CountDrifts_e0v1 spec_CountDrifts_x0v1 _ _ (spec_CountDrifts_s0v1 N a0 a1 a2 a3 a4 a5) N (a4,(0:Int),(0:Int),(zc Try.prog 42)) _ _ ?_
 intro x;exact spec_CountDrifts_k0v1_0_eq N a0 a1 a2 a3 a4 a5 x.1 x.2.1 x.2.2.1 x.2.2.2
theorem spec_CountDrifts_ans (N:Nat) (a0:Array Value) (a1 a2 a3 a4 a5:Int):ansV Try.prog spec_CountDrifts_G N Try.f16 [([4,18,19],[6])] [.g a0 37,.i .i64 (a1),.i .i64 (a2),.i .i64 (a3),.i .u32 (a4),.i .i64 (a5)] []=(bif ((spec_l02Begun_v0 a1 a2 a3 a0)==(0:Int)) then (bif (!((spec_l00In_v0 a5 (1:Int) (2000:Int)))) then (some (.t [.g (zc Try.prog 42) 42,.i .i64 (0:Int),.i .u32 (0:Int),.i .i64 (2:Int)],.none,true))
   else (bif ((spec_l02Begun_v0 a1 a2 a3 a0) != (0:Int)) then (some (.t [.g (zc Try.prog 42) 42,.i .i64 (0:Int),.i .u32 (0:Int),.i .i64 (spec_l02Begun_v0 a1 a2 a3 a0)],.none,true))
    else (nodeX (iterO (spec_CountDrifts_g0 Try.prog a0 a1 a2 a3 a4 a5) N (a4,(0:Int),(0:Int),(zc Try.prog 42))) (fun x=>spec_CountDrifts_k0_0 Try.prog N a0 a1 a2 a3 a4 a5 x.1 x.2.1 x.2.2.1 x.2.2.2))))
  else (bif ((spec_l02Begun_v0 a1 a2 a3 a0) != (0:Int)) then (some (.t [.g (zc Try.prog 42) 42,.i .i64 (0:Int),.i .u32 (0:Int),.i .i64 (spec_l02Begun_v0 a1 a2 a3 a0)],.none,true))
   else (nodeX (iterO (spec_CountDrifts_g0v1 Try.prog a0 a1 a2 a3 a4 a5) N (a4,(0:Int),(0:Int),(zc Try.prog 42))) (fun x=>spec_CountDrifts_k0v1_0 Try.prog N a0 a1 a2 a3 a4 a5 x.1 x.2.1 x.2.2.1 x.2.2.2)))):=by
 refine Eq.trans (b:=(bif ((spec_l02Begun_v0 a1 a2 a3 a0)==(0:Int)) then (bif (!((spec_l00In_v0 a5 (1:Int) (2000:Int)))) then (some (.t [.g (zc Try.prog 42) 42,.i .i64 (0:Int),.i .u32 (0:Int),.i .i64 (2:Int)],.none,true))
   else (bif ((spec_l02Begun_v0 a1 a2 a3 a0) != (0:Int)) then (some (.t [.g (zc Try.prog 42) 42,.i .i64 (0:Int),.i .u32 (0:Int),.i .i64 (spec_l02Begun_v0 a1 a2 a3 a0)],.none,true))
    else (bindX (iterO (stepV Try.prog spec_CountDrifts_G N (cAt (codeOf Try.f16) [1,1,1,1,1,1,0,1,0,0]) (pAt (mkPlan (codeOf Try.f16) [([4,18,19],[6])]).1 [1,1,1,1,1,1,0,1,0]) [4,18,19] [6] (spec_CountDrifts_t0 a0 a1 a2 a3 a4 a5)) N ([.a (.i .u32 (a4)),.a (.i .i64 (0:Int)),.a (.i .i64 (0:Int))],[.row (zc Try.prog 42) 42])) (fun e s=>(kBlock 0 (kSeq (veC Try.prog spec_CountDrifts_G N (cAt (codeOf Try.f16) [1,1,1,1,1,1,1]) (pAt (mkPlan (codeOf Try.f16) [([4,18,19],[6])]).1 [1,1,1,1,1,1,1]) (SV×Eff×Bool)) (finK Try.prog [] [.cell 12 42,.tmp 13,.tmp 14,.tmp 15]))) e (left (writes (cAt (codeOf Try.f16) [1,1,1,1,1,1,0,1,0,0])) [4,18,19] [6] (spec_CountDrifts_t0 a0 a1 a2 a3 a4 a5) s)))))
  else (bif ((spec_l02Begun_v0 a1 a2 a3 a0) != (0:Int)) then (some (.t [.g (zc Try.prog 42) 42,.i .i64 (0:Int),.i .u32 (0:Int),.i .i64 (spec_l02Begun_v0 a1 a2 a3 a0)],.none,true))
   else (bindX (iterO (stepV Try.prog spec_CountDrifts_G N (cAt (codeOf Try.f16) [1,1,1,1,1,1,0,1,0,0]) (pAt (mkPlan (codeOf Try.f16) [([4,18,19],[6])]).1 [1,1,1,1,1,1,0,1,0]) [4,18,19] [6] (spec_CountDrifts_t0v1 a0 a1 a2 a3 a4 a5)) N ([.a (.i .u32 (a4)),.a (.i .i64 (0:Int)),.a (.i .i64 (0:Int))],[.row (zc Try.prog 42) 42])) (fun e s=>(kBlock 0 (kSeq (veC Try.prog spec_CountDrifts_G N (cAt (codeOf Try.f16) [1,1,1,1,1,1,1]) (pAt (mkPlan (codeOf Try.f16) [([4,18,19],[6])]).1 [1,1,1,1,1,1,1]) (SV×Eff×Bool)) (finK Try.prog [] [.cell 12 42,.tmp 13,.tmp 14,.tmp 15]))) e (left (writes (cAt (codeOf Try.f16) [1,1,1,1,1,1,0,1,0,0])) [4,18,19] [6] (spec_CountDrifts_t0v1 a0 a1 a2 a3 a4 a5) s)))))) (by kernel_rfl) ?_
 simp only [spec_CountDrifts_n0 N a0 a1 a2 a3 a4 a5,spec_CountDrifts_n0v1 N a0 a1 a2 a3 a4 a5]
theorem spec_CountDrifts_main (a0:Array Value) (a1 a2 a3 a4 a5:Int) (h_a0:WT Try.prog 37 a0) (h_a1:i64.min≤a1∧a1≤i64.max) (h_a2:i64.min≤a2∧a2≤i64.max) (h_a3:i64.min≤a3∧a3≤i64.max) (h_a4:IntKind.u32.min≤a4∧a4≤IntKind.u32.max) (h_a5:i64.min≤a5∧a5≤i64.max) (hg:(true)=true):ansV Try.prog spec_CountDrifts_G 3000 Try.f16 [([4,18,19],[6])] [.g a0 37,.i .i64 (a1),.i .i64 (a2),.i .i64 (a3),.i .u32 (a4),.i .i64 (a5)] []=some (.t [.g (ccA a0 a1 a2 a3 a4 a5) 42,.i .i64 (ccG a0 a1 a2 a3 a4 a5),.i .u32 (ccS a0 a1 a2 a3 a4 a5),.i .i64 (ccD a0 a1 a2 a3 a4 a5)],.none,true):=by
 refine (spec_CountDrifts_ans 3000 a0 a1 a2 a3 a4 a5).trans ?_
 unfold ccA ccG ccS ccD
 cases hz:((spec_l02Begun_v0 a1 a2 a3 a0) != (0:Int)) with
 | true=>simp only [cond_true,cond_false,hz,bne_iff_ne.1 hz,beq_eq_false_iff_ne.2 (bne_iff_ne.1 hz)]
 | false=>
  have h0:(spec_l02Begun_v0 a1 a2 a3 a0)=0:=by simpa using hz
  cases hi:spec_l00In_v0 a5 (1:Int) (2000:Int) with
  | false=>
   have h2n:((2:Int) != (0:Int))=true:=rfl
   simp only [cond_true,cond_false,Bool.not_false,h0,h2n,beq_self_eq_true]
  | true=>
   obtain ⟨hok,hb,c,h,rfl,hc,his,hin,rfl,hh⟩:=begun_cell h_a0 hz
   have hr5:=in_range hi
   obtain ⟨n,rfl⟩:=Int.eq_ofNat_of_zero_le (show 0≤a5 by omega)
   have hs:0≤a4∧a4<4294967296:=by have q:0≤a4∧a4≤4294967295:=h_a4;omega
   have hsd:=cn_seed hok hb hin hh hs
   have hw1:i64.wrap ((h:Int)+1 - 1)=(h:Int):=by rw [IntWalk.i64_in _ (by omega)];omega
   have hb1:decide (0≤a2)=true:=decide_eq_true hb.1
   have hb2:decide (a2≤1)=true:=decide_eq_true hb.2
   have hh1:decide ((h:Int)≤14)=true:=decide_eq_true (by omega)
   simp only [Int.toNat_natCast]
   have hl:=iter_all (g:=spec_CountDrifts_g0 Try.prog a0 (c:Int) a2 (h:Int) a4 (n:Int)) (fun k=>((cnB a0 (c:Int) a2 h a4 k).2.2,(cnB a0 (c:Int) a2 h a4 k).2.1,(k:Int),(cnB a0 (c:Int) a2 h a4 k).1)) (m:=n)
    (x:=((cnB a0 (c:Int) a2 h a4 n).2.2,(cnB a0 (c:Int) a2 h a4 n).2.1,(n:Int),(cnB a0 (c:Int) a2 h a4 n).1)) (N:=3000) (fun k hk=>by
    have hsk:=hsd k
    have hnx:cnB a0 (c:Int) a2 h a4 (k+1)=ctB a0 (c:Int) a2 h (cnB a0 (c:Int) a2 h a4 k):=rfl
    rw [hnx]
    generalize cnB a0 (c:Int) a2 h a4 k=y at *
    obtain ⟨yD,yg,ys⟩:=y
    simp only at hsk
    have hend:=(rnB_in hok hb (x:=((c:Int),ys)) hin hsk h (by omega)).1
    have har:=arB_num (S:=a0) (b:=a2) (x:=((c:Int),ys)) (j:=h) (i:=h) (Nat.le_refl _)
    have h1:decide ((k:Int)<(n:Int))=true:=decide_eq_true (by omega)
    have h2:i64.wrap ((k:Int)+1)=((k+1:Nat):Int):=by rw [IntWalk.i64_in _ (by omega)];omega
    have h3:decide (0≤(h:Int))=true:=decide_eq_true (by omega)
    have h4:decide ((h:Int)<(h:Int)+1)=true:=decide_eq_true (by omega)
    unfold ctB
    simp only at har hend⊢
    rcases hend with he | ⟨q,he,hq,_⟩
    ·rw [he] at har⊢
     have h5:decide ((-1:Int)<0)=true:=by decide
     have h6:((-1:Int)==(-1:Int))=true:=rfl
     simp only [spec_CountDrifts_g0,h1,h2,h3,h4,h5,h6,hok,his,hb1,hb2,hh1,hw1,Int.toNat_natCast,har,Bool.and_self,cond_true]
    ·rw [he] at har⊢
     have h5:decide ((q:Int)<0)=false:=decide_eq_false (by omega)
     have h6:((q:Int)==(-1:Int))=false:=beq_eq_false_iff_ne.2 (by omega)
     have h7:decide (0≤(q:Int))=true:=decide_eq_true (by omega)
     have h8:decide ((q:Int)<36)=true:=decide_eq_true (by omega)
     simp only [spec_CountDrifts_g0,h1,h2,h3,h4,h5,h6,h7,h8,hok,his,hb1,hb2,hh1,hw1,Int.toNat_natCast,har,Bool.and_self,cond_true,cond_false]) (by
    have h1:decide ((n:Int)<(n:Int))=false:=decide_eq_false (by omega)
    simp only [spec_CountDrifts_g0,h1,cond_false]) (by omega)
   have hl':iterO (spec_CountDrifts_g0 Try.prog a0 (c:Int) a2 (h:Int) a4 (n:Int)) 3000 (a4,(0:Int),(0:Int),zc Try.prog 42)=_:=hl
   rw [h0,hl']
   rfl
noncomputable def spec_CountDrifts_con:Con:=fun args h=>match args,h with
 | [.g a0 37,.i .i64 a1,.i .i64 a2,.i .i64 a3,.i .u32 a4,.i .i64 a5],[]=>some (.t [.g (ccA a0 a1 a2 a3 a4 a5) 42,.i .i64 (ccG a0 a1 a2 a3 a4 a5),.i .u32 (ccS a0 a1 a2 a3 a4 a5),.i .i64 (ccD a0 a1 a2 a3 a4 a5)],.none,true)
 | _,_=>none
theorem spec_CountDrifts_enter:EntX Try.prog 16:=entX_ok (fn:=Try.f16) (by kernel_rfl) (by kernel_rfl) (by kernel_rfl)
theorem spec_CountDrifts_ok:ConOkX mn Try.prog 16 spec_CountDrifts_con:=(ansX_ok (N:=3000) (by kernel_rfl) (mkΓ_consX (con_okX spec_l02Begun_ok) spec_l02Begun_enter (mkΓ_consX (con_okX spec_l02Bottle_ok) spec_l02Bottle_enter (mkΓ_consX (con_okX spec_l00In_ok) spec_l00In_enter mkΓ_nilX))) (fn:=Try.f16) (by kernel_rfl) (by kernel_rfl) [([4,18,19],[6])]).of (by
 intro ρ h w args vals r e hA hH hr
 unfold spec_CountDrifts_con at hr
 split at hr
 ·rename_i a0 a1 a2 a3 a4 a5
  obtain ⟨rfl,hg⟩:=Prod.mk.inj (Option.some.inj hr)
  obtain ⟨rfl,hg2⟩:=Prod.mk.inj hg
  exact spec_CountDrifts_main a0 a1 a2 a3 a4 a5 (hA.wt 0 rfl) (hA.rng 1 rfl) (hA.rng 2 rfl) (hA.rng 3 rfl) (hA.rng 4 rfl) (hA.rng 5 rfl) hg2
 ·cases hr)
end
end Go.Proofs.Ytnhilgpdgicgfaa
