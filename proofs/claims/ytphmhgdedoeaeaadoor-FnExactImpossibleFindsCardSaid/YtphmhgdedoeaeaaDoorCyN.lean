/- The finds that cannot be: both sides. -/
import Derived.Test.YtphmhgdedoeaeaaDoorProg
import Derived.Test.YtphmhgdedoeaeaaDoorCyG
namespace Go.Proofs.YtphmhgdedoeaeaaDoor
open Go.ChangeShapes Go.WideShapes Go.ChangeAt Go.RowKit Ve Vc
open Tryd (prog)
open IntKind (i64)
set_option linter.unusedVariables false
set_option linter.unusedSimpArgs false
set_option maxRecDepth 100000
noncomputable section
variable {F:Vc.Fd}
theorem has_rec (S C:Array Value) (c b:Int) (q3:spec_l00In_v0 (num C 1) 1 14=true) (q4:0≤num C 0) (q5:num C 0<36):impl_record_has_gd C none ((14:Int).toNat+1) (recC prog S c b (14:Int).toNat)=true∧impl_record_has_v0 C none ((14:Int).toNat+1) (recC prog S c b (14:Int).toNat)=canB prog S c b (num C 0) (num C 1):=by
 have r3:=in_range q3
 have e14:(14:Int).toNat=14:=rfl
 rw [e14]
 have g1:decide (num C 1<((14:Nat):Int)+1)=true:=decide_eq_true (by omega)
 have g1':decide (num C 1<((14+1:Nat):Int))=true:=decide_eq_true (by omega)
 have g2:decide (0≤num C 0)=true:=decide_eq_true q4
 have g3:decide (num C 0<36)=true:=decide_eq_true q5
 unfold canB
 constructor
 ·simp only [impl_record_has_gd,q3,g1,g1',g2,g3,Bool.and_self]
 ·simp only [impl_record_has_v0,recC_at S c b 14 (num C 1).toNat (by omega),recC_at S c b 14 ((num C 1).toNat - 1) (by omega)]
theorem fnd_at {S a:Array Value} {k:Nat} (hW:WT prog 50 (a.extract (k*2) (k*2+2))) (hf:fndB S a k=true):spec_l00In_v0 (num (a.extract (k*2) (k*2+2)) 1) 1 14=true∧0≤num (a.extract (k*2) (k*2+2)) 0∧num (a.extract (k*2) (k*2+2)) 0<36:=by
 obtain ⟨z,e0,e1,e2,e3⟩:=find_nums hW
 obtain ⟨x0,x1⟩:=fnd_ext a k
 obtain ⟨f1,f2,f3⟩:=fnd_of hf
 rw [← x0,e0] at f1
 rw [← x1,e1] at f3
 have r4:=is_range f1
 exact ⟨f3,r4.1,by omega⟩
noncomputable def badF (P:Program) (S:Array Value) (c b:Int) (a:Array Value):Nat→Array Value
 | 0=>#[]
 | k+1=>bif canB P S c b (num (a.extract (k*2) (k*2+2)) 0) (num (a.extract (k*2) (k*2+2)) 1) then badF P S c b a k else badF P S c b a k++#[.int .i64 (k:Int)]
theorem badF_le (S:Array Value) (c b:Int) (a:Array Value):∀ n,(badF prog S c b a n).size≤n
 | 0=>Nat.le_refl _
 | n+1=>by
  have h:=badF_le S c b a n
  rw [badF]
  cases canB prog S c b (num (a.extract (n*2) (n*2+2)) 0) (num (a.extract (n*2) (n*2+2)) 1) with
  | true=>rw [cond_true];omega
  | false=>rw [cond_false,Array.size_append];exact Nat.succ_le_succ h
theorem bytes_i64:bytesOf prog 2=8:=by kernel_rfl
noncomputable def w0impl_ImpossibleFinds_G:Cons:=(mkΓ [(54,conG impl_codeOf_con),(55,con impl_recordOf_con),(65,conG impl_findsFromError_con0),(66,con impl_record_has_con)])
theorem w0impl_ImpossibleFinds_ans (N:Nat) (a0:Array Value) (a1 a2:Int) (g_e0 g_e1 g_e2 g_e3 g_e4:Addr) (b_a3:Option (Option Addr)) (n_a3:Nat) (a3:Array Value):ansV prog w0impl_ImpossibleFinds_G N Tryd.f30 [([12,30],[])] [.g a0 36,.i .i64 (a1),.i .i64 (a2),.l 5] [.gl 0 184 g_e0 101973,.gl 1 184 g_e1 93330,.gl 3 184 g_e2 112315,.gl 2 184 g_e3 124718,.gl 4 184 g_e4 94254,.sl (.came b_a3) n_a3 a3 50]=(bif (vf a0 n_a3 a3&&(rl a0 a1 a2 true&&(spec_l01Dry_v0 a1 a0))) then (some (.t [.v (.slice none 0 0),.i .i64 (4:Int)],.none,true))
  else (none)):=by kernel_rfl
noncomputable def w1impl_ImpossibleFinds_G:Cons:=(mkΓ [(54,conG impl_codeOf_con),(55,con impl_recordOf_con),(65,conG impl_findsFromError_con1),(66,con impl_record_has_con)])
noncomputable def w1impl_ImpossibleFinds_t0 (a0:Array Value) (a1 a2:Int) (g_e0 g_e1 g_e2 g_e3 g_e4:Addr) (b_a3:Option (Option Addr)) (n_a3:Nat) (a3:Array Value):St:=(⟨.a (.g a0 36) :: .a (.i .i64 (a1)) :: .a (.i .i64 (a2)) :: .a (.l 5) :: .a (.w 6)::us 3 (.a (.v (.slice none 0 0)) :: .a (.i .i64 (0:Int)) :: .a (.v (.nilIface)) :: .a (.l 12) :: .a (.l 14) :: .a (.u) :: .a (.u) :: .a (.g a0 36) :: .a (.i .i64 (a1)) :: .a (.i .i64 (a2)) :: .a (.l 5) :: .a (.v (.nilIface)) :: .a (.v (.nilIface)) :: .a (.b (false)) :: .a (.u) :: .a (.u) :: .a (.g a0 36) :: .a (.i .i64 (a1)) :: .a (.i .i64 (a2)) :: .a (.l 12) :: .a (.l 5) :: .a (.i .i64 (n_a3:Int)) :: .a (.i .i64 (0:Int))::us 14 ([])),[.gl 0 184 g_e0 101973,.gl 1 184 g_e1 93330,.gl 3 184 g_e2 112315,.gl 2 184 g_e3 124718,.gl 4 184 g_e4 94254,.sl (.came b_a3) n_a3 a3 50,.row a0 36,.no,.no,.no,.no,.no,.sl .own (((14:Int).toNat+1)) (recC prog a0 a1 a2 (14:Int).toNat) 29,.no,.sl .own 0 (#[]:Array Value) 2],[]⟩:St)
noncomputable def w1impl_ImpossibleFinds_e0:Int×Nat×Array Value→LS
 | (y0_30,m0_12,y0_12)=>([.a (.i .i64 (y0_30)),.a (.l 14)],[.sl .own m0_12 y0_12 2])
noncomputable def w1impl_ImpossibleFinds_x0:Int×Nat×Array Value→Exit×LS
 | t=>((.exit 0),w1impl_ImpossibleFinds_e0 t)
noncomputable def w1impl_ImpossibleFinds_g0 (P : Program) (a0 : Array Value) (a1 a2 : Int) (g_e0 g_e1 g_e2 g_e3 g_e4 : Addr) (b_a3 : Option (Option Addr)) (n_a3 : Nat) (a3 : Array Value) : Int × Nat × Array Value → Option (Stp (Int × Nat × Array Value) (Int × Nat × Array Value))
 | (y0_30, m0_12, y0_12) => bif decide (y0_30 < (n_a3 : Int)) then (bif (decide (0 ≤ y0_30) && decide (y0_30 < (n_a3 : Int))) then (bif (impl_record_has_gd (a3.extract ((y0_30).toNat * 2) (((y0_30).toNat * 2) + 2)) none (((14 : Int).toNat + 1)) (recC prog a0 a1 a2 (14 : Int).toNat)) then (bif (!((impl_record_has_v0 (a3.extract ((y0_30).toNat * 2) (((y0_30).toNat * 2) + 2)) none (((14 : Int).toNat + 1)) (recC prog a0 a1 a2 (14 : Int).toNat)))) then (bif (Nat.ble ((m0_12 + 1) * bytesOf prog 2) 140737488355328) then (some (.more ((i64.wrap (y0_30 + (1 : Int))), (m0_12 + 1), (y0_12 ++ (#[.int .i64 (y0_30)] : Array Value)))))
      else (none))
     else (some (.more ((i64.wrap (y0_30 + (1 : Int))), m0_12, y0_12))))
    else (none))
   else (none))
  else (some (.done (y0_30, m0_12, y0_12)))
theorem w1impl_ImpossibleFinds_s0 (N:Nat) (a0:Array Value) (a1 a2:Int) (g_e0 g_e1 g_e2 g_e3 g_e4:Addr) (b_a3:Option (Option Addr)) (n_a3:Nat) (a3:Array Value):∀ t:Int×Nat×Array Value,stepVG prog w1impl_ImpossibleFinds_G N (cAt (codeOf Tryd.f30) [1,1,1,1,0,1,0,0]) (pAt (mkPlan (codeOf Tryd.f30) [([30],[1000012,2])]).1 [1,1,1,1,0,1,0]) [30] [] 12 2 14 (w1impl_ImpossibleFinds_t0 a0 a1 a2 g_e0 g_e1 g_e2 g_e3 g_e4 b_a3 n_a3 a3) (w1impl_ImpossibleFinds_e0 t)=mapS w1impl_ImpossibleFinds_e0 w1impl_ImpossibleFinds_x0 (w1impl_ImpossibleFinds_g0 prog a0 a1 a2 g_e0 g_e1 g_e2 g_e3 g_e4 b_a3 n_a3 a3 t):=by
 rintro ⟨y0_30,m0_12,y0_12⟩
 refine Eq.trans (b:=(bif decide (y0_30<(n_a3:Int)) then (bif (decide (0≤y0_30)&&decide (y0_30<(n_a3:Int))) then (bif (impl_record_has_gd (a3.extract ((y0_30).toNat*2) (((y0_30).toNat*2)+2)) none (((14:Int).toNat+1)) (recC prog a0 a1 a2 (14:Int).toNat)) then (bif (!((impl_record_has_v0 (a3.extract ((y0_30).toNat*2) (((y0_30).toNat*2)+2)) none (((14:Int).toNat+1)) (recC prog a0 a1 a2 (14:Int).toNat)))) then (bif (Nat.ble ((m0_12+1)*bytesOf prog 2) 140737488355328) then (some (.more ([.a (.i .i64 (i64.wrap (y0_30+(1:Int)))),.a (.l 14)],[.sl .own (m0_12+1) (y0_12++(#[.int .i64 (y0_30)]:Array Value)) 2])))
      else (none))
     else (some (.more ([.a (.i .i64 (i64.wrap (y0_30+(1:Int)))),.a (.l 14)],[.sl .own m0_12 y0_12 2]))))
    else (none))
   else (none))
  else (some (.done ((.exit 0),([.a (.i .i64 (y0_30)),.a (.l 14)],[.sl .own m0_12 y0_12 2])))))) (by kernel_rfl) ?_
 simp only [w1impl_ImpossibleFinds_g0,mapS_cond,mapS_more,mapS_done,mapS_none,w1impl_ImpossibleFinds_e0,w1impl_ImpossibleFinds_x0]
noncomputable def w1impl_ImpossibleFinds_k0_0 (P:Program) (N:Nat) (a0:Array Value) (a1 a2:Int) (g_e0 g_e1 g_e2 g_e3 g_e4:Addr) (b_a3:Option (Option Addr)) (n_a3:Nat) (a3:Array Value) (z0_30:Int) (p0_12:Nat) (z0_12:Array Value):Option (SV×Eff×Bool):=some (.t [.x,.i .i64 (0:Int)],.newS (some 0) p0_12 z0_12 2,true)
theorem w1impl_ImpossibleFinds_k0_0_eq (N:Nat) (a0:Array Value) (a1 a2:Int) (g_e0 g_e1 g_e2 g_e3 g_e4:Addr) (b_a3:Option (Option Addr)) (n_a3:Nat) (a3:Array Value) (z0_30:Int) (p0_12:Nat) (z0_12:Array Value):(kBlock 0 (kSeq (veC prog w1impl_ImpossibleFinds_G N (cAt (codeOf Tryd.f30) [1,1,1,1,1]) (pAt (mkPlan (codeOf Tryd.f30) [([30],[1000012,2])]).1 [1,1,1,1,1]) (SV×Eff×Bool)) (finK prog [.gl 0 184 g_e0 101973,.gl 1 184 g_e1 93330,.gl 3 184 g_e2 112315,.gl 2 184 g_e3 124718,.gl 4 184 g_e4 94254,.sl (.came b_a3) n_a3 a3 50] [.tmp 8,.tmp 9]))) (.exit 0) (left (writes (cAt (codeOf Tryd.f30) [1,1,1,1,0,1,0,0])) [30,12] [14] (w1impl_ImpossibleFinds_t0 a0 a1 a2 g_e0 g_e1 g_e2 g_e3 g_e4 b_a3 n_a3 a3) ([.a (.i .i64 (z0_30)),.a (.l 14)],[.sl .own p0_12 z0_12 2]))=w1impl_ImpossibleFinds_k0_0 prog N a0 a1 a2 g_e0 g_e1 g_e2 g_e3 g_e4 b_a3 n_a3 a3 z0_30 p0_12 z0_12:=by
 refine Eq.trans (b:=(some (.t [.x,.i .i64 (0:Int)],.newS (some 0) p0_12 z0_12 2,true))) (by kernel_rfl) ?_
 rfl
theorem w1impl_ImpossibleFinds_n0 (N:Nat) (a0:Array Value) (a1 a2:Int) (g_e0 g_e1 g_e2 g_e3 g_e4:Addr) (b_a3:Option (Option Addr)) (n_a3:Nat) (a3:Array Value):bindX (iterO (stepVG prog w1impl_ImpossibleFinds_G N (cAt (codeOf Tryd.f30) [1,1,1,1,0,1,0,0]) (pAt (mkPlan (codeOf Tryd.f30) [([30],[1000012,2])]).1 [1,1,1,1,0,1,0]) [30] [] 12 2 14 (w1impl_ImpossibleFinds_t0 a0 a1 a2 g_e0 g_e1 g_e2 g_e3 g_e4 b_a3 n_a3 a3)) N ([.a (.i .i64 (0:Int)),.a (.l 14)],[.sl .own 0 (#[]:Array Value) 2])) (fun e s=>(kBlock 0 (kSeq (veC prog w1impl_ImpossibleFinds_G N (cAt (codeOf Tryd.f30) [1,1,1,1,1]) (pAt (mkPlan (codeOf Tryd.f30) [([30],[1000012,2])]).1 [1,1,1,1,1]) (SV×Eff×Bool)) (finK prog [.gl 0 184 g_e0 101973,.gl 1 184 g_e1 93330,.gl 3 184 g_e2 112315,.gl 2 184 g_e3 124718,.gl 4 184 g_e4 94254,.sl (.came b_a3) n_a3 a3 50] [.tmp 8,.tmp 9]))) e (left (writes (cAt (codeOf Tryd.f30) [1,1,1,1,0,1,0,0])) [30,12] [14] (w1impl_ImpossibleFinds_t0 a0 a1 a2 g_e0 g_e1 g_e2 g_e3 g_e4 b_a3 n_a3 a3) s))=nodeX (iterO (w1impl_ImpossibleFinds_g0 prog a0 a1 a2 g_e0 g_e1 g_e2 g_e3 g_e4 b_a3 n_a3 a3) N ((0:Int),0,(#[]:Array Value))) (fun x=>w1impl_ImpossibleFinds_k0_0 prog N a0 a1 a2 g_e0 g_e1 g_e2 g_e3 g_e4 b_a3 n_a3 a3 x.1 x.2.1 x.2.2):=by
 refine loop_node w1impl_ImpossibleFinds_e0 w1impl_ImpossibleFinds_x0 _ _ (w1impl_ImpossibleFinds_s0 N a0 a1 a2 g_e0 g_e1 g_e2 g_e3 g_e4 b_a3 n_a3 a3) N ((0:Int),0,(#[]:Array Value)) _ _ ?_
 intro x;exact w1impl_ImpossibleFinds_k0_0_eq N a0 a1 a2 g_e0 g_e1 g_e2 g_e3 g_e4 b_a3 n_a3 a3 x.1 x.2.1 x.2.2
theorem w1impl_ImpossibleFinds_ans (N:Nat) (a0:Array Value) (a1 a2:Int) (g_e0 g_e1 g_e2 g_e3 g_e4:Addr) (b_a3:Option (Option Addr)) (n_a3:Nat) (a3:Array Value):ansV prog w1impl_ImpossibleFinds_G N Tryd.f30 [([30],[1000012,2])] [.g a0 36,.i .i64 (a1),.i .i64 (a2),.l 5] [.gl 0 184 g_e0 101973,.gl 1 184 g_e1 93330,.gl 3 184 g_e2 112315,.gl 2 184 g_e3 124718,.gl 4 184 g_e4 94254,.sl (.came b_a3) n_a3 a3 50]=(bif (vf a0 n_a3 a3&&(rl a0 a1 a2 true&&((!(spec_l01Dry_v0 a1 a0))))) then (bif (okS a0&&((spec_l01Is_v0 a1 a0&&spec_l00In_v0 a2 0 1)&&spec_l00In_v0 (14:Int) 0 14)) then (nodeX (iterO (w1impl_ImpossibleFinds_g0 prog a0 a1 a2 g_e0 g_e1 g_e2 g_e3 g_e4 b_a3 n_a3 a3) N ((0:Int),0,(#[]:Array Value))) (fun x=>w1impl_ImpossibleFinds_k0_0 prog N a0 a1 a2 g_e0 g_e1 g_e2 g_e3 g_e4 b_a3 n_a3 a3 x.1 x.2.1 x.2.2))
   else (none))
  else (none)):=by
 refine Eq.trans (b:=(bif (vf a0 n_a3 a3&&(rl a0 a1 a2 true&&((!(spec_l01Dry_v0 a1 a0))))) then (bif (okS a0&&((spec_l01Is_v0 a1 a0&&spec_l00In_v0 a2 0 1)&&spec_l00In_v0 (14:Int) 0 14)) then (bindX (iterO (stepVG prog w1impl_ImpossibleFinds_G N (cAt (codeOf Tryd.f30) [1,1,1,1,0,1,0,0]) (pAt (mkPlan (codeOf Tryd.f30) [([30],[1000012,2])]).1 [1,1,1,1,0,1,0]) [30] [] 12 2 14 (w1impl_ImpossibleFinds_t0 a0 a1 a2 g_e0 g_e1 g_e2 g_e3 g_e4 b_a3 n_a3 a3)) N ([.a (.i .i64 (0:Int)),.a (.l 14)],[.sl .own 0 (#[]:Array Value) 2])) (fun e s=>(kBlock 0 (kSeq (veC prog w1impl_ImpossibleFinds_G N (cAt (codeOf Tryd.f30) [1,1,1,1,1]) (pAt (mkPlan (codeOf Tryd.f30) [([30],[1000012,2])]).1 [1,1,1,1,1]) (SV×Eff×Bool)) (finK prog [.gl 0 184 g_e0 101973,.gl 1 184 g_e1 93330,.gl 3 184 g_e2 112315,.gl 2 184 g_e3 124718,.gl 4 184 g_e4 94254,.sl (.came b_a3) n_a3 a3 50] [.tmp 8,.tmp 9]))) e (left (writes (cAt (codeOf Tryd.f30) [1,1,1,1,0,1,0,0])) [30,12] [14] (w1impl_ImpossibleFinds_t0 a0 a1 a2 g_e0 g_e1 g_e2 g_e3 g_e4 b_a3 n_a3 a3) s)))
   else (none))
  else (none))) (by kernel_rfl) ?_
 simp only [w1impl_ImpossibleFinds_n0 N a0 a1 a2 g_e0 g_e1 g_e2 g_e3 g_e4 b_a3 n_a3 a3]
noncomputable def w2impl_ImpossibleFinds_G:Cons:=(mkΓ [(54,conG impl_codeOf_con),(55,con impl_recordOf_con),(65,conG impl_findsFromError_con2),(66,con impl_record_has_con)])
theorem w2impl_ImpossibleFinds_ans (N:Nat) (a0:Array Value) (a1 a2:Int) (g_e0 g_e1 g_e2 g_e3 g_e4:Addr) (b_a3:Option (Option Addr)) (n_a3:Nat) (a3:Array Value):ansV prog w2impl_ImpossibleFinds_G N Tryd.f30 [([12,30],[])] [.g a0 36,.i .i64 (a1),.i .i64 (a2),.l 5] [.gl 0 184 g_e0 101973,.gl 1 184 g_e1 93330,.gl 3 184 g_e2 112315,.gl 2 184 g_e3 124718,.gl 4 184 g_e4 94254,.sl (.came b_a3) n_a3 a3 50]=(bif (vf a0 n_a3 a3&&((!(rl a0 a1 a2 true)))) then (some (.t [.v (.slice none 0 0),.i .i64 (2:Int)],.none,true))
  else (none)):=by kernel_rfl
noncomputable def w3impl_ImpossibleFinds_G:Cons:=(mkΓ [(54,conG impl_codeOf_con),(55,con impl_recordOf_con),(65,conG impl_findsFromError_con3),(66,con impl_record_has_con)])
theorem w3impl_ImpossibleFinds_ans (N:Nat) (a0:Array Value) (a1 a2:Int) (g_e0 g_e1 g_e2 g_e3 g_e4:Addr) (b_a3:Option (Option Addr)) (n_a3:Nat) (a3:Array Value):ansV prog w3impl_ImpossibleFinds_G N Tryd.f30 [([12,30],[])] [.g a0 36,.i .i64 (a1),.i .i64 (a2),.l 5] [.gl 0 184 g_e0 101973,.gl 1 184 g_e1 93330,.gl 3 184 g_e2 112315,.gl 2 184 g_e3 124718,.gl 4 184 g_e4 94254,.sl (.came b_a3) n_a3 a3 50]=(bif (!(vf a0 n_a3 a3)) then (some (.t [.v (.slice none 0 0),.i .i64 (1:Int)],.none,true))
  else (none)):=by kernel_rfl
theorem impl_ImpossibleFinds_main0 (a0:Array Value) (a1 a2:Int) (g_e0 g_e1 g_e2 g_e3 g_e4:Addr) (b_a3:Option (Option Addr)) (n_a3:Nat) (a3:Array Value) (h_a0:WT prog 36 a0) (h_a1:i64.min≤a1∧a1≤i64.max) (h_a2:i64.min≤a2∧a2≤i64.max) (h_a3:a3.size=n_a3*(lay prog 50).length∧(∀ k,k<n_a3→WT prog 50 (a3.extract (k*(lay prog 50).length) (k*(lay prog 50).length+(lay prog 50).length)))∧n_a3≤9223372036854775807) (hc0:(vf a0 n_a3 a3)=false) (hg:(true)=true):ansV prog w3impl_ImpossibleFinds_G 1000 Tryd.f30 [([12,30],[])] [.g a0 36,.i .i64 (a1),.i .i64 (a2),.l 5] [.gl 0 184 g_e0 101973,.gl 1 184 g_e1 93330,.gl 3 184 g_e2 112315,.gl 2 184 g_e3 124718,.gl 4 184 g_e4 94254,.sl (.came b_a3) n_a3 a3 50]=some (.t [.v (.slice none 0 0),.i .i64 (1:Int)],.none,true):=by
 refine (w3impl_ImpossibleFinds_ans 1000 a0 a1 a2 g_e0 g_e1 g_e2 g_e3 g_e4 b_a3 n_a3 a3).trans ?_
 simp only [hc0,Bool.and_self,Bool.and_true,Bool.true_and,Bool.not_false,cond_true,cond_false]
theorem impl_ImpossibleFinds_main1 (a0:Array Value) (a1 a2:Int) (g_e0 g_e1 g_e2 g_e3 g_e4:Addr) (b_a3:Option (Option Addr)) (n_a3:Nat) (a3:Array Value) (h_a0:WT prog 36 a0) (h_a1:i64.min≤a1∧a1≤i64.max) (h_a2:i64.min≤a2∧a2≤i64.max) (h_a3:a3.size=n_a3*(lay prog 50).length∧(∀ k,k<n_a3→WT prog 50 (a3.extract (k*(lay prog 50).length) (k*(lay prog 50).length+(lay prog 50).length)))∧n_a3≤9223372036854775807) (hc0:(vf a0 n_a3 a3)=true) (hc1:(rl a0 a1 a2 true)=false) (hg:(true)=true):ansV prog w2impl_ImpossibleFinds_G 1000 Tryd.f30 [([12,30],[])] [.g a0 36,.i .i64 (a1),.i .i64 (a2),.l 5] [.gl 0 184 g_e0 101973,.gl 1 184 g_e1 93330,.gl 3 184 g_e2 112315,.gl 2 184 g_e3 124718,.gl 4 184 g_e4 94254,.sl (.came b_a3) n_a3 a3 50]=some (.t [.v (.slice none 0 0),.i .i64 (2:Int)],.none,true):=by
 refine (w2impl_ImpossibleFinds_ans 1000 a0 a1 a2 g_e0 g_e1 g_e2 g_e3 g_e4 b_a3 n_a3 a3).trans ?_
 simp only [hc0,hc1,Bool.and_self,Bool.and_true,Bool.true_and,Bool.not_false,cond_true,cond_false]
theorem impl_ImpossibleFinds_main2 (a0:Array Value) (a1 a2:Int) (g_e0 g_e1 g_e2 g_e3 g_e4:Addr) (b_a3:Option (Option Addr)) (n_a3:Nat) (a3:Array Value) (h_a0:WT prog 36 a0) (h_a1:i64.min≤a1∧a1≤i64.max) (h_a2:i64.min≤a2∧a2≤i64.max) (h_a3:a3.size=n_a3*(lay prog 50).length∧(∀ k,k<n_a3→WT prog 50 (a3.extract (k*(lay prog 50).length) (k*(lay prog 50).length+(lay prog 50).length)))∧n_a3≤9223372036854775807) (hc0:(vf a0 n_a3 a3)=true) (hc1:(rl a0 a1 a2 true)=true) (hc2:(spec_l01Dry_v0 a1 a0)=false) (hg:(true)=true):ansV prog w1impl_ImpossibleFinds_G 1000 Tryd.f30 [([30],[1000012,2])] [.g a0 36,.i .i64 (a1),.i .i64 (a2),.l 5] [.gl 0 184 g_e0 101973,.gl 1 184 g_e1 93330,.gl 3 184 g_e2 112315,.gl 2 184 g_e3 124718,.gl 4 184 g_e4 94254,.sl (.came b_a3) n_a3 a3 50]=some (.t [.x,.i .i64 (0:Int)],.newS (some 0) (badF prog a0 a1 a2 a3 n_a3).size (badF prog a0 a1 a2 a3 n_a3) 2,true):=by
 refine (w1impl_ImpossibleFinds_ans 1000 a0 a1 a2 g_e0 g_e1 g_e2 g_e3 g_e4 b_a3 n_a3 a3).trans ?_
 simp only [hc0,hc1,hc2,Bool.and_self,Bool.and_true,Bool.true_and,Bool.not_false,cond_true,cond_false]
 obtain ⟨q0,hn,hf⟩:=vf_of hc0
 obtain ⟨q1,q2,_⟩:=rl_of hc1
 have i14:spec_l00In_v0 (14:Int) 0 14=true:=in_of (by omega)
 simp only [q0,q1,q2,i14,Bool.and_self,cond_true]
 have hl:(lay prog 50).length=2:=by kernel_rfl
 rw [hl] at h_a3
 obtain ⟨s1,s2,s3⟩:=h_a3
 have hq:∀ q:Array Value,iterO (w1impl_ImpossibleFinds_g0 prog a0 a1 a2 g_e0 g_e1 g_e2 g_e3 g_e4 b_a3 n_a3 a3) 1000 ((0:Int),0,(#[]:Array Value))=some ((n_a3:Int),q.size,q)→nodeX (iterO (w1impl_ImpossibleFinds_g0 prog a0 a1 a2 g_e0 g_e1 g_e2 g_e3 g_e4 b_a3 n_a3 a3) 1000 ((0:Int),0,(#[]:Array Value))) (fun x=>w1impl_ImpossibleFinds_k0_0 prog 1000 a0 a1 a2 g_e0 g_e1 g_e2 g_e3 g_e4 b_a3 n_a3 a3 x.1 x.2.1 x.2.2)=some (.t [.x,.i .i64 0],.newS (some 0) q.size q 2,true):=fun q e=>by rw [e];rfl
 refine hq _ ?_
 exact iter_all (g:=w1impl_ImpossibleFinds_g0 prog a0 a1 a2 g_e0 g_e1 g_e2 g_e3 g_e4 b_a3 n_a3 a3) (fun k=>((k:Int),(badF prog a0 a1 a2 a3 k).size,badF prog a0 a1 a2 a3 k)) (m:=n_a3) (x:=((n_a3:Int),(badF prog a0 a1 a2 a3 n_a3).size,badF prog a0 a1 a2 a3 n_a3)) (N:=1000) (fun k hk=>by
  obtain ⟨p3,p4,p5⟩:=fnd_at (s2 k hk) (hf k hk)
  have hz:=badF_le a0 a1 a2 a3 k
  have g1:decide ((k:Int)<(n_a3:Int))=true:=decide_eq_true (by omega)
  have g2:decide (0≤(k:Int))=true:=decide_eq_true (by omega)
  have g3:decide (0≤num (a3.extract (k*2) (k*2+2)) 0)=true:=decide_eq_true p4
  have g4:decide (num (a3.extract (k*2) (k*2+2)) 0<36)=true:=decide_eq_true p5
  have e1:i64.wrap ((k:Int)+1)=((k+1:Nat):Int):=by rw [w64 (by omega)];omega
  have g5:Nat.ble (((badF prog a0 a1 a2 a3 k).size+1)*bytesOf prog 2) 140737488355328=true:=Nat.ble_eq_true_of_le (by rw [bytes_i64];omega)
  obtain ⟨hg,hv⟩:=has_rec a0 (a3.extract (k*2) (k*2+2)) a1 a2 p3 p4 p5
  cases hc:canB prog a0 a1 a2 (num (a3.extract (k*2) (k*2+2)) 0) (num (a3.extract (k*2) (k*2+2)) 1) with
  | true=>
   rw [hc] at hv
   simp only [w1impl_ImpossibleFinds_g0,g1,g2,g3,g4,g5,e1,p3,hg,hv,badF,hc,Int.toNat_natCast,Bool.and_self,Bool.not_true,cond_true,cond_false]
  | false=>
   rw [hc] at hv
   simp only [w1impl_ImpossibleFinds_g0,g1,g2,g3,g4,g5,e1,p3,hg,hv,badF,hc,Int.toNat_natCast,Bool.and_self,Bool.not_false,cond_true,cond_false,Array.size_append]
   rfl) (by
  have g1:decide ((n_a3:Int)<(n_a3:Int))=false:=decide_eq_false (by omega)
  simp only [w1impl_ImpossibleFinds_g0,g1,cond_false]) (by omega)
theorem impl_ImpossibleFinds_main3 (a0:Array Value) (a1 a2:Int) (g_e0 g_e1 g_e2 g_e3 g_e4:Addr) (b_a3:Option (Option Addr)) (n_a3:Nat) (a3:Array Value) (h_a0:WT prog 36 a0) (h_a1:i64.min≤a1∧a1≤i64.max) (h_a2:i64.min≤a2∧a2≤i64.max) (h_a3:a3.size=n_a3*(lay prog 50).length∧(∀ k,k<n_a3→WT prog 50 (a3.extract (k*(lay prog 50).length) (k*(lay prog 50).length+(lay prog 50).length)))∧n_a3≤9223372036854775807) (hc0:(vf a0 n_a3 a3)=true) (hc1:(rl a0 a1 a2 true)=true) (hc2:(spec_l01Dry_v0 a1 a0)=true) (hg:(true)=true):ansV prog w0impl_ImpossibleFinds_G 1000 Tryd.f30 [([12,30],[])] [.g a0 36,.i .i64 (a1),.i .i64 (a2),.l 5] [.gl 0 184 g_e0 101973,.gl 1 184 g_e1 93330,.gl 3 184 g_e2 112315,.gl 2 184 g_e3 124718,.gl 4 184 g_e4 94254,.sl (.came b_a3) n_a3 a3 50]=some (.t [.v (.slice none 0 0),.i .i64 (4:Int)],.none,true):=by
 refine (w0impl_ImpossibleFinds_ans 1000 a0 a1 a2 g_e0 g_e1 g_e2 g_e3 g_e4 b_a3 n_a3 a3).trans ?_
 simp only [hc0,hc1,hc2,Bool.and_self,Bool.and_true,Bool.true_and,Bool.not_false,cond_true,cond_false]
noncomputable def impl_ImpossibleFinds_scon:SCon:=fun args h=>match args,h with
 | [.g a0 36,.i .i64 a1,.i .i64 a2,.l 5],[.gl 0 184 g_e0 101973,.gl 1 184 g_e1 93330,.gl 3 184 g_e2 112315,.gl 2 184 g_e3 124718,.gl 4 184 g_e4 94254,.sl (.came b_a3) n_a3 a3 50]=>.two (vf a0 n_a3 a3) (.two (rl a0 a1 a2 true) (.two (spec_l01Dry_v0 a1 a0) (.one (some (.t [.x,.i .i64 (4:Int)],.newS (some 0) 0 (#[]:Array Value) 2,true))) (.one (some (.t [.x,.i .i64 (0:Int)],.newS (some 0) (badF prog a0 a1 a2 a3 n_a3).size (badF prog a0 a1 a2 a3 n_a3) 2,true)))) (.one (some (.t [.x,.i .i64 (2:Int)],.newS (some 0) 0 (#[]:Array Value) 2,true)))) (.one (some (.t [.x,.i .i64 (1:Int)],.newS (some 0) 0 (#[]:Array Value) 2,true)))
 | _,_=>.one none
theorem impl_ImpossibleFinds_enter:EntX prog 30:=entX_ok (fn:=Tryd.f30) (by kernel_rfl) (by kernel_rfl) (by kernel_rfl)
theorem impl_ImpossibleFinds_sok:ConOkX (md F) prog 30 (fun args h=>wayRes (impl_ImpossibleFinds_scon args h)):=by
 intro ρ h w args vals r e hn hr hA hH
 dsimp only at hr
 unfold impl_ImpossibleFinds_scon at hr
 split at hr
 ·rename_i a0 a1 a2 g_e0 g_e1 g_e2 g_e3 g_e4 b_a3 n_a3 a3
  simp only [wayRes] at hr
  cases hc0:(vf a0 n_a3 a3)
  ·rw [hc0] at hr
   simp only [wayRes,cond_true,cond_false] at hr
   obtain ⟨rfl,hg⟩:=Prod.mk.inj (Option.some.inj hr)
   obtain ⟨rfl,hg2⟩:=Prod.mk.inj hg
   exact (ConOkX.nil (ansX_ok (N:=1000) (by kernel_rfl) (mkΓ_consX (conG_okX impl_codeOf_ok) impl_codeOf_enter (mkΓ_consX (con_okX impl_recordOf_ok) impl_recordOf_enter (mkΓ_consX (conG_okX impl_findsFromError_ok3) impl_findsFromError_enter (mkΓ_consX (con_okX impl_record_has_ok) impl_record_has_enter mkΓ_nilX)))) (fn:=Tryd.f30) (by kernel_rfl) (by kernel_rfl) [([12,30],[])]) 0 2) ρ _ w _ vals _ _ hn (congrArg (nilN 0 2) (impl_ImpossibleFinds_main0 a0 a1 a2 g_e0 g_e1 g_e2 g_e3 g_e4 b_a3 n_a3 a3 (hA.wt 0 rfl) (hA.rng 1 rfl) (hA.rng 2 rfl) (hH.slw 5 rfl) hc0 hg2)) hA hH
  ·rw [hc0] at hr
   simp only [wayRes,cond_true,cond_false] at hr
   cases hc1:(rl a0 a1 a2 true)
   ·rw [hc1] at hr
    simp only [wayRes,cond_true,cond_false] at hr
    obtain ⟨rfl,hg⟩:=Prod.mk.inj (Option.some.inj hr)
    obtain ⟨rfl,hg2⟩:=Prod.mk.inj hg
    exact (ConOkX.nil (ansX_ok (N:=1000) (by kernel_rfl) (mkΓ_consX (conG_okX impl_codeOf_ok) impl_codeOf_enter (mkΓ_consX (con_okX impl_recordOf_ok) impl_recordOf_enter (mkΓ_consX (conG_okX impl_findsFromError_ok2) impl_findsFromError_enter (mkΓ_consX (con_okX impl_record_has_ok) impl_record_has_enter mkΓ_nilX)))) (fn:=Tryd.f30) (by kernel_rfl) (by kernel_rfl) [([12,30],[])]) 0 2) ρ _ w _ vals _ _ hn (congrArg (nilN 0 2) (impl_ImpossibleFinds_main1 a0 a1 a2 g_e0 g_e1 g_e2 g_e3 g_e4 b_a3 n_a3 a3 (hA.wt 0 rfl) (hA.rng 1 rfl) (hA.rng 2 rfl) (hH.slw 5 rfl) hc0 hc1 hg2)) hA hH
   ·rw [hc1] at hr
    simp only [wayRes,cond_true,cond_false] at hr
    cases hc2:(spec_l01Dry_v0 a1 a0)
    ·rw [hc2] at hr
     simp only [wayRes,cond_true,cond_false] at hr
     obtain ⟨rfl,hg⟩:=Prod.mk.inj (Option.some.inj hr)
     obtain ⟨rfl,hg2⟩:=Prod.mk.inj hg
     exact ((ansX_ok (N:=1000) (by kernel_rfl) (mkΓ_consX (conG_okX impl_codeOf_ok) impl_codeOf_enter (mkΓ_consX (con_okX impl_recordOf_ok) impl_recordOf_enter (mkΓ_consX (conG_okX impl_findsFromError_ok1) impl_findsFromError_enter (mkΓ_consX (con_okX impl_record_has_ok) impl_record_has_enter mkΓ_nilX)))) (fn:=Tryd.f30) (by kernel_rfl) (by kernel_rfl) [([30],[1000012,2])])) ρ _ w _ vals _ _ hn ((impl_ImpossibleFinds_main2 a0 a1 a2 g_e0 g_e1 g_e2 g_e3 g_e4 b_a3 n_a3 a3 (hA.wt 0 rfl) (hA.rng 1 rfl) (hA.rng 2 rfl) (hH.slw 5 rfl) hc0 hc1 hc2 hg2)) hA hH
    ·rw [hc2] at hr
     simp only [wayRes,cond_true,cond_false] at hr
     obtain ⟨rfl,hg⟩:=Prod.mk.inj (Option.some.inj hr)
     obtain ⟨rfl,hg2⟩:=Prod.mk.inj hg
     exact (ConOkX.nil (ansX_ok (N:=1000) (by kernel_rfl) (mkΓ_consX (conG_okX impl_codeOf_ok) impl_codeOf_enter (mkΓ_consX (con_okX impl_recordOf_ok) impl_recordOf_enter (mkΓ_consX (conG_okX impl_findsFromError_ok0) impl_findsFromError_enter (mkΓ_consX (con_okX impl_record_has_ok) impl_record_has_enter mkΓ_nilX)))) (fn:=Tryd.f30) (by kernel_rfl) (by kernel_rfl) [([12,30],[])]) 0 2) ρ _ w _ vals _ _ hn (congrArg (nilN 0 2) (impl_ImpossibleFinds_main3 a0 a1 a2 g_e0 g_e1 g_e2 g_e3 g_e4 b_a3 n_a3 a3 (hA.wt 0 rfl) (hA.rng 1 rfl) (hA.rng 2 rfl) (hH.slw 5 rfl) hc0 hc1 hc2 hg2)) hA hH
 ·simp only [wayRes] at hr
  cases hr
noncomputable def impN (a0:Array Value) (a1 a2:Int) (n_a3:Nat) (a3:Array Value):Nat:=(bif vf a0 n_a3 a3 then (bif rl a0 a1 a2 true then (bif spec_l01Dry_v0 a1 a0 then 0 else (badF prog a0 a1 a2 a3 n_a3).size) else 0) else 0)
noncomputable def impD (a0:Array Value) (a1 a2:Int) (n_a3:Nat) (a3:Array Value):Array Value:=(bif vf a0 n_a3 a3 then (bif rl a0 a1 a2 true then (bif spec_l01Dry_v0 a1 a0 then (#[]:Array Value) else (badF prog a0 a1 a2 a3 n_a3)) else (#[]:Array Value)) else (#[]:Array Value))
noncomputable def impE (a0:Array Value) (a1 a2:Int) (n_a3:Nat) (a3:Array Value):Int:=(bif vf a0 n_a3 a3 then (bif rl a0 a1 a2 true then (bif spec_l01Dry_v0 a1 a0 then (4:Int) else (0:Int)) else (2:Int)) else (1:Int))
theorem impN_le (a0:Array Value) (a1 a2:Int) (n_a3:Nat) (a3:Array Value):impN a0 a1 a2 n_a3 a3≤60:=by
 unfold impN
 cases hv:vf a0 n_a3 a3 with
 | false=>exact Nat.zero_le _
 | true=>
  have h1:=(vf_of hv).2.1
  have h2:=badF_le a0 a1 a2 a3 n_a3
  cases rl a0 a1 a2 true<;>cases spec_l01Dry_v0 a1 a0<;>simp only [cond_true,cond_false]<;>omega
theorem impD_size (a0:Array Value) (a1 a2:Int) (n_a3:Nat) (a3:Array Value):(impD a0 a1 a2 n_a3 a3).size=impN a0 a1 a2 n_a3 a3*1:=by
 unfold impD impN
 cases vf a0 n_a3 a3<;>cases rl a0 a1 a2 true<;>cases spec_l01Dry_v0 a1 a0<;>simp only [cond_true,cond_false,Nat.mul_one]<;>rfl
noncomputable def impl_ImpossibleFinds_con:Con:=fun args h=>match args,h with
 | [.g a0 36,.i .i64 a1,.i .i64 a2,.l 5],[.gl 0 184 g_e0 101973,.gl 1 184 g_e1 93330,.gl 3 184 g_e2 112315,.gl 2 184 g_e3 124718,.gl 4 184 g_e4 94254,.sl (.came b_a3) n_a3 a3 50]=>some (.t [.x,.i .i64 (impE a0 a1 a2 n_a3 a3)],.newS (some 0) (impN a0 a1 a2 n_a3 a3) (impD a0 a1 a2 n_a3 a3) 2,true)
 | _,_=>none
theorem impl_ImpossibleFinds_ok:ConOkX (md F) prog 30 impl_ImpossibleFinds_con:=ConOkX.of impl_ImpossibleFinds_sok (by
 intro ρ h w args vals r e hA hH hr
 unfold impl_ImpossibleFinds_con at hr
 split at hr
 ·rename_i a0 a1 a2 g_e0 g_e1 g_e2 g_e3 g_e4 b_a3 n_a3 a3
  obtain ⟨rfl,hg⟩:=Prod.mk.inj (Option.some.inj hr)
  obtain ⟨rfl,hg2⟩:=Prod.mk.inj hg
  show wayRes (impl_ImpossibleFinds_scon _ _)=_
  unfold impl_ImpossibleFinds_scon
  simp only [wayRes]
  unfold impN impD impE
  cases (vf a0 n_a3 a3)<;>cases (rl a0 a1 a2 true)<;>cases (spec_l01Dry_v0 a1 a0)<;>simp only [cond_true,cond_false]
 ·cases hr)
noncomputable def spec_ImpossibleFinds_G:Cons:=(mkΓ [(63,con spec_l03Listed_con),(64,con spec_l03Can_con)])
noncomputable def spec_ImpossibleFinds_t0 (a0:Array Value) (a1 a2:Int) (b_a3:Option (Option Addr)) (n_a3:Nat) (a3:Array Value):St:=(⟨.a (.g a0 36) :: .a (.i .i64 (a1)) :: .a (.i .i64 (a2)) :: .a (.l 0) :: .a (.w 1)::us 3 (.a (.v (.slice none 0 0)) :: .a (.i .i64 (0:Int)) :: .a (.i .i64 (bif vf a0 n_a3 a3 then spec_l03From_v0 a1 a2 true a0 else 1)) :: .a (.l 6) :: .a (.i .i64 (0:Int)) :: .a (.i .i64 (a1)) :: .a (.i .i64 (a2)) :: .a (.l 0) :: .a (.i .i64 (bif vf a0 n_a3 a3 then spec_l03From_v0 a1 a2 true a0 else 1)) :: .a (.i .i64 (bif vf a0 n_a3 a3 then spec_l03From_v0 a1 a2 true a0 else 1)) :: .a (.b (((bif vf a0 n_a3 a3 then spec_l03From_v0 a1 a2 true a0 else 1) != (0:Int)))) :: .a (.u) :: .a (.u) :: .a (.l 4)::us 19 ([])),[.sl (.came b_a3) n_a3 a3 50,.row a0 36,.no,.no,.sp,.no,.sl .own 0 (#[]:Array Value) 2],[4]⟩:St)
noncomputable def spec_ImpossibleFinds_e0:Int×Nat×Array Value→LS
 | (y0_12,m0_11,y0_11)=>([.a (.i .i64 (y0_12)),.a (.l 6)],[.sl .own m0_11 y0_11 2])
noncomputable def spec_ImpossibleFinds_x0:Int×Nat×Array Value→Exit×LS
 | t=>((.exit 0),spec_ImpossibleFinds_e0 t)
noncomputable def spec_ImpossibleFinds_g0 (P : Program) (a0 : Array Value) (a1 a2 : Int) (b_a3 : Option (Option Addr)) (n_a3 : Nat) (a3 : Array Value) : Int × Nat × Array Value → Option (Stp (Int × Nat × Array Value) (Int × Nat × Array Value))
 | (y0_12, m0_11, y0_11) => bif decide (y0_12 < (n_a3 : Int)) then (bif (decide (0 ≤ y0_12) && decide (y0_12 < (n_a3 : Int))) then (bif ((okS a0 && (spec_l01Is_v0 a1 a0 && spec_l00In_v0 a2 0 1)) && (spec_l00In_v0 (num (a3.extract ((y0_12).toNat * 2) (((y0_12).toNat * 2) + 2)) 1) 1 14 && (decide (0 ≤ num (a3.extract ((y0_12).toNat * 2) (((y0_12).toNat * 2) + 2)) 0) && decide (num (a3.extract ((y0_12).toNat * 2) (((y0_12).toNat * 2) + 2)) 0 < 36)))) then (bif (!((canB prog a0 a1 a2 (num (a3.extract ((y0_12).toNat * 2) (((y0_12).toNat * 2) + 2)) 0) (num (a3.extract ((y0_12).toNat * 2) (((y0_12).toNat * 2) + 2)) 1)))) then (bif (Nat.ble ((m0_11 + 1) * bytesOf prog 2) 140737488355328) then (some (.more ((i64.wrap (y0_12 + (1 : Int))), (m0_11 + 1), (y0_11 ++ (#[.int .i64 (y0_12)] : Array Value)))))
      else (none))
     else (some (.more ((i64.wrap (y0_12 + (1 : Int))), m0_11, y0_11))))
    else (none))
   else (none))
  else (some (.done (y0_12, m0_11, y0_11)))
theorem spec_ImpossibleFinds_s0 (N:Nat) (a0:Array Value) (a1 a2:Int) (b_a3:Option (Option Addr)) (n_a3:Nat) (a3:Array Value):∀ t:Int×Nat×Array Value,stepVG prog spec_ImpossibleFinds_G N (cAt (codeOf Tryd.f28) [1,1,1,0,1,0,0]) (pAt (mkPlan (codeOf Tryd.f28) [([12],[1000011,2])]).1 [1,1,1,0,1,0]) [12] [] 11 2 6 (spec_ImpossibleFinds_t0 a0 a1 a2 b_a3 n_a3 a3) (spec_ImpossibleFinds_e0 t)=mapS spec_ImpossibleFinds_e0 spec_ImpossibleFinds_x0 (spec_ImpossibleFinds_g0 prog a0 a1 a2 b_a3 n_a3 a3 t):=by
 rintro ⟨y0_12,m0_11,y0_11⟩
 refine Eq.trans (b:=(bif decide (y0_12<(n_a3:Int)) then (bif (decide (0≤y0_12)&&decide (y0_12<(n_a3:Int))) then (bif ((okS a0&&(spec_l01Is_v0 a1 a0&&spec_l00In_v0 a2 0 1))&&(spec_l00In_v0 (num (a3.extract ((y0_12).toNat*2) (((y0_12).toNat*2)+2)) 1) 1 14&&(decide (0≤num (a3.extract ((y0_12).toNat*2) (((y0_12).toNat*2)+2)) 0)&&decide (num (a3.extract ((y0_12).toNat*2) (((y0_12).toNat*2)+2)) 0<36)))) then (bif (!((canB prog a0 a1 a2 (num (a3.extract ((y0_12).toNat*2) (((y0_12).toNat*2)+2)) 0) (num (a3.extract ((y0_12).toNat*2) (((y0_12).toNat*2)+2)) 1)))) then (bif (Nat.ble ((m0_11+1)*bytesOf prog 2) 140737488355328) then (some (.more ([.a (.i .i64 (i64.wrap (y0_12+(1:Int)))),.a (.l 6)],[.sl .own (m0_11+1) (y0_11++(#[.int .i64 (y0_12)]:Array Value)) 2])))
      else (none))
     else (some (.more ([.a (.i .i64 (i64.wrap (y0_12+(1:Int)))),.a (.l 6)],[.sl .own m0_11 y0_11 2]))))
    else (none))
   else (none))
  else (some (.done ((.exit 0),([.a (.i .i64 (y0_12)),.a (.l 6)],[.sl .own m0_11 y0_11 2])))))) (by kernel_rfl) ?_
 simp only [spec_ImpossibleFinds_g0,mapS_cond,mapS_more,mapS_done,mapS_none,spec_ImpossibleFinds_e0,spec_ImpossibleFinds_x0]
noncomputable def spec_ImpossibleFinds_k0_0 (P:Program) (N:Nat) (a0:Array Value) (a1 a2:Int) (b_a3:Option (Option Addr)) (n_a3:Nat) (a3:Array Value) (z0_12:Int) (p0_11:Nat) (z0_11:Array Value):Option (SV×Eff×Bool):=some (.t [.x,.i .i64 (0:Int)],.newS (some 0) p0_11 z0_11 2,true)
theorem spec_ImpossibleFinds_k0_0_eq (N:Nat) (a0:Array Value) (a1 a2:Int) (b_a3:Option (Option Addr)) (n_a3:Nat) (a3:Array Value) (z0_12:Int) (p0_11:Nat) (z0_11:Array Value):(kBlock 0 (kSeq (veC prog spec_ImpossibleFinds_G N (cAt (codeOf Tryd.f28) [1,1,1,1]) (pAt (mkPlan (codeOf Tryd.f28) [([12],[1000011,2])]).1 [1,1,1,1]) (SV×Eff×Bool)) (finK prog [.sl (.came b_a3) n_a3 a3 50] [.tmp 8,.tmp 9]))) (.exit 0) (left (writes (cAt (codeOf Tryd.f28) [1,1,1,0,1,0,0])) [12,11] [6] (spec_ImpossibleFinds_t0 a0 a1 a2 b_a3 n_a3 a3) ([.a (.i .i64 (z0_12)),.a (.l 6)],[.sl .own p0_11 z0_11 2]))=spec_ImpossibleFinds_k0_0 prog N a0 a1 a2 b_a3 n_a3 a3 z0_12 p0_11 z0_11:=by
 refine Eq.trans (b:=(some (.t [.x,.i .i64 (0:Int)],.newS (some 0) p0_11 z0_11 2,true))) (by kernel_rfl) ?_
 rfl
theorem spec_ImpossibleFinds_n0 (N:Nat) (a0:Array Value) (a1 a2:Int) (b_a3:Option (Option Addr)) (n_a3:Nat) (a3:Array Value):bindX (iterO (stepVG prog spec_ImpossibleFinds_G N (cAt (codeOf Tryd.f28) [1,1,1,0,1,0,0]) (pAt (mkPlan (codeOf Tryd.f28) [([12],[1000011,2])]).1 [1,1,1,0,1,0]) [12] [] 11 2 6 (spec_ImpossibleFinds_t0 a0 a1 a2 b_a3 n_a3 a3)) N ([.a (.i .i64 (0:Int)),.a (.l 6)],[.sl .own 0 (#[]:Array Value) 2])) (fun e s=>(kBlock 0 (kSeq (veC prog spec_ImpossibleFinds_G N (cAt (codeOf Tryd.f28) [1,1,1,1]) (pAt (mkPlan (codeOf Tryd.f28) [([12],[1000011,2])]).1 [1,1,1,1]) (SV×Eff×Bool)) (finK prog [.sl (.came b_a3) n_a3 a3 50] [.tmp 8,.tmp 9]))) e (left (writes (cAt (codeOf Tryd.f28) [1,1,1,0,1,0,0])) [12,11] [6] (spec_ImpossibleFinds_t0 a0 a1 a2 b_a3 n_a3 a3) s))=nodeX (iterO (spec_ImpossibleFinds_g0 prog a0 a1 a2 b_a3 n_a3 a3) N ((0:Int),0,(#[]:Array Value))) (fun x=>spec_ImpossibleFinds_k0_0 prog N a0 a1 a2 b_a3 n_a3 a3 x.1 x.2.1 x.2.2):=by
 refine loop_node spec_ImpossibleFinds_e0 spec_ImpossibleFinds_x0 _ _ (spec_ImpossibleFinds_s0 N a0 a1 a2 b_a3 n_a3 a3) N ((0:Int),0,(#[]:Array Value)) _ _ ?_
 intro x;exact spec_ImpossibleFinds_k0_0_eq N a0 a1 a2 b_a3 n_a3 a3 x.1 x.2.1 x.2.2
theorem spec_ImpossibleFinds_ans (N:Nat) (a0:Array Value) (a1 a2:Int) (b_a3:Option (Option Addr)) (n_a3:Nat) (a3:Array Value):ansV prog spec_ImpossibleFinds_G N Tryd.f28 [([12],[1000011,2])] [.g a0 36,.i .i64 (a1),.i .i64 (a2),.l 0] [.sl (.came b_a3) n_a3 a3 50]=(bif ((bif vf a0 n_a3 a3 then spec_l03From_v0 a1 a2 true a0 else 1) != (0:Int)) then (some (.t [.x,.i .i64 (bif vf a0 n_a3 a3 then spec_l03From_v0 a1 a2 true a0 else 1)],.newS (some 0) 0 (#[]:Array Value) 2,true))
  else (nodeX (iterO (spec_ImpossibleFinds_g0 prog a0 a1 a2 b_a3 n_a3 a3) N ((0:Int),0,(#[]:Array Value))) (fun x=>spec_ImpossibleFinds_k0_0 prog N a0 a1 a2 b_a3 n_a3 a3 x.1 x.2.1 x.2.2))):=by
 refine Eq.trans (b:=(bif ((bif vf a0 n_a3 a3 then spec_l03From_v0 a1 a2 true a0 else 1) != (0:Int)) then (some (.t [.x,.i .i64 (bif vf a0 n_a3 a3 then spec_l03From_v0 a1 a2 true a0 else 1)],.newS (some 0) 0 (#[]:Array Value) 2,true))
  else (bindX (iterO (stepVG prog spec_ImpossibleFinds_G N (cAt (codeOf Tryd.f28) [1,1,1,0,1,0,0]) (pAt (mkPlan (codeOf Tryd.f28) [([12],[1000011,2])]).1 [1,1,1,0,1,0]) [12] [] 11 2 6 (spec_ImpossibleFinds_t0 a0 a1 a2 b_a3 n_a3 a3)) N ([.a (.i .i64 (0:Int)),.a (.l 6)],[.sl .own 0 (#[]:Array Value) 2])) (fun e s=>(kBlock 0 (kSeq (veC prog spec_ImpossibleFinds_G N (cAt (codeOf Tryd.f28) [1,1,1,1]) (pAt (mkPlan (codeOf Tryd.f28) [([12],[1000011,2])]).1 [1,1,1,1]) (SV×Eff×Bool)) (finK prog [.sl (.came b_a3) n_a3 a3 50] [.tmp 8,.tmp 9]))) e (left (writes (cAt (codeOf Tryd.f28) [1,1,1,0,1,0,0])) [12,11] [6] (spec_ImpossibleFinds_t0 a0 a1 a2 b_a3 n_a3 a3) s))))) (by kernel_rfl) ?_
 simp only [spec_ImpossibleFinds_n0 N a0 a1 a2 b_a3 n_a3 a3]
theorem spec_ImpossibleFinds_main (a0:Array Value) (a1 a2:Int) (b_a3:Option (Option Addr)) (n_a3:Nat) (a3:Array Value) (h_a0:WT prog 36 a0) (h_a1:i64.min≤a1∧a1≤i64.max) (h_a2:i64.min≤a2∧a2≤i64.max) (h_a3:a3.size=n_a3*(lay prog 50).length∧(∀ k,k<n_a3→WT prog 50 (a3.extract (k*(lay prog 50).length) (k*(lay prog 50).length+(lay prog 50).length)))∧n_a3≤9223372036854775807) (hg:(true)=true):ansV prog spec_ImpossibleFinds_G 1000 Tryd.f28 [([12],[1000011,2])] [.g a0 36,.i .i64 (a1),.i .i64 (a2),.l 0] [.sl (.came b_a3) n_a3 a3 50]=some (.t [.x,.i .i64 (impE a0 a1 a2 n_a3 a3)],.newS (some 0) (impN a0 a1 a2 n_a3 a3) (impD a0 a1 a2 n_a3 a3) 2,true):=by
 unfold impN impD impE
 refine (spec_ImpossibleFinds_ans 1000 a0 a1 a2 b_a3 n_a3 a3).trans ?_
 rw [from_eq]
 cases hc0:vf a0 n_a3 a3 with
 | false=>simp only [cond_true,cond_false,show ((1:Int) != 0)=true from rfl,show ((2:Int) != 0)=true from rfl,show ((4:Int) != 0)=true from rfl,show ((0:Int) != 0)=false from rfl]
 | true=>
  obtain ⟨q0,hn,hf⟩:=vf_of hc0
  cases hrl:rl a0 a1 a2 true with
  | false=>simp only [q0,cond_true,cond_false,show ((1:Int) != 0)=true from rfl,show ((2:Int) != 0)=true from rfl,show ((4:Int) != 0)=true from rfl,show ((0:Int) != 0)=false from rfl]
  | true=>
   cases hdr:spec_l01Dry_v0 a1 a0 with
   | true=>simp only [q0,cond_true,cond_false,show ((1:Int) != 0)=true from rfl,show ((2:Int) != 0)=true from rfl,show ((4:Int) != 0)=true from rfl,show ((0:Int) != 0)=false from rfl]
   | false=>
    obtain ⟨q1,q2,_⟩:=rl_of hrl
    simp only [q0,cond_true,cond_false,show ((1:Int) != 0)=true from rfl,show ((2:Int) != 0)=true from rfl,show ((4:Int) != 0)=true from rfl,show ((0:Int) != 0)=false from rfl]
    have hl:(lay prog 50).length=2:=by kernel_rfl
    rw [hl] at h_a3
    obtain ⟨s1,s2,s3⟩:=h_a3
    have hq:∀ q:Array Value,iterO (spec_ImpossibleFinds_g0 prog a0 a1 a2 b_a3 n_a3 a3) 1000 ((0:Int),0,(#[]:Array Value))=some ((n_a3:Int),q.size,q)→nodeX (iterO (spec_ImpossibleFinds_g0 prog a0 a1 a2 b_a3 n_a3 a3) 1000 ((0:Int),0,(#[]:Array Value))) (fun x=>spec_ImpossibleFinds_k0_0 prog 1000 a0 a1 a2 b_a3 n_a3 a3 x.1 x.2.1 x.2.2)=some (.t [.x,.i .i64 0],.newS (some 0) q.size q 2,true):=fun q e=>by rw [e];rfl
    refine hq _ ?_
    exact iter_all (g:=spec_ImpossibleFinds_g0 prog a0 a1 a2 b_a3 n_a3 a3) (fun k=>((k:Int),(badF prog a0 a1 a2 a3 k).size,badF prog a0 a1 a2 a3 k)) (m:=n_a3) (x:=((n_a3:Int),(badF prog a0 a1 a2 a3 n_a3).size,badF prog a0 a1 a2 a3 n_a3)) (N:=1000) (fun k hk=>by
     obtain ⟨p3,p4,p5⟩:=fnd_at (s2 k hk) (hf k hk)
     have hz:=badF_le a0 a1 a2 a3 k
     have g1:decide ((k:Int)<(n_a3:Int))=true:=decide_eq_true (by omega)
     have g2:decide (0≤(k:Int))=true:=decide_eq_true (by omega)
     have g3:decide (0≤num (a3.extract (k*2) (k*2+2)) 0)=true:=decide_eq_true p4
     have g4:decide (num (a3.extract (k*2) (k*2+2)) 0<36)=true:=decide_eq_true p5
     have e1:i64.wrap ((k:Int)+1)=((k+1:Nat):Int):=by rw [w64 (by omega)];omega
     have g5:Nat.ble (((badF prog a0 a1 a2 a3 k).size+1)*bytesOf prog 2) 140737488355328=true:=Nat.ble_eq_true_of_le (by rw [bytes_i64];omega)
     cases hc:canB prog a0 a1 a2 (num (a3.extract (k*2) (k*2+2)) 0) (num (a3.extract (k*2) (k*2+2)) 1) with
     | true=>
      skip
      simp only [spec_ImpossibleFinds_g0,g1,g2,g3,g4,g5,e1,p3,q0,q1,q2,badF,hc,Int.toNat_natCast,Bool.and_self,Bool.not_true,cond_true,cond_false]
     | false=>
      skip
      simp only [spec_ImpossibleFinds_g0,g1,g2,g3,g4,g5,e1,p3,q0,q1,q2,badF,hc,Int.toNat_natCast,Bool.and_self,Bool.not_false,cond_true,cond_false,Array.size_append]
      rfl) (by
     have g1:decide ((n_a3:Int)<(n_a3:Int))=false:=decide_eq_false (by omega)
     simp only [spec_ImpossibleFinds_g0,g1,cond_false]) (by omega)
noncomputable def spec_ImpossibleFinds_con:Con:=fun args h=>match args,h with
 | [.g a0 36,.i .i64 a1,.i .i64 a2,.l 0],[.sl (.came b_a3) n_a3 a3 50]=>some (.t [.x,.i .i64 (impE a0 a1 a2 n_a3 a3)],.newS (some 0) (impN a0 a1 a2 n_a3 a3) (impD a0 a1 a2 n_a3 a3) 2,true)
 | _,_=>none
theorem spec_ImpossibleFinds_enter:EntX prog 28:=entX_ok (fn:=Tryd.f28) (by kernel_rfl) (by kernel_rfl) (by kernel_rfl)
theorem spec_ImpossibleFinds_ok:ConOkX (md F) prog 28 spec_ImpossibleFinds_con:=(ansX_ok (N:=1000) (by kernel_rfl) (mkΓ_consX (con_okX spec_l03Listed_ok) spec_l03Listed_enter (mkΓ_consX (con_okX spec_l03Can_ok) spec_l03Can_enter mkΓ_nilX)) (fn:=Tryd.f28) (by kernel_rfl) (by kernel_rfl) [([12],[1000011,2])]).of (by
 intro ρ h w args vals r e hA hH hr
 unfold spec_ImpossibleFinds_con at hr
 split at hr
 ·rename_i a0 a1 a2 b_a3 n_a3 a3
  obtain ⟨rfl,hg⟩:=Prod.mk.inj (Option.some.inj hr)
  obtain ⟨rfl,hg2⟩:=Prod.mk.inj hg
  exact spec_ImpossibleFinds_main a0 a1 a2 b_a3 n_a3 a3 (hA.wt 0 rfl) (hA.rng 1 rfl) (hA.rng 2 rfl) (hH.slw 0 rfl) hg2
 ·cases hr)
end
end Go.Proofs.YtphmhgdedoeaeaaDoor
