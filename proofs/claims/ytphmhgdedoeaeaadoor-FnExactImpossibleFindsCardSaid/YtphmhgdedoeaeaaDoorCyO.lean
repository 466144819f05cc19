/- Lists of numbers and of finds compared, marked and looked at again. -/
import Derived.Test.YtphmhgdedoeaeaaDoorProg
import Derived.Test.YtphmhgdedoeaeaaDoorCyN
namespace Go.Proofs.YtphmhgdedoeaeaaDoor
open Go.ChangeShapes Go.WideShapes Go.ChangeAt Go.RowKit Ve Vc
open Tryd (prog)
open IntKind (i64)
set_option linter.unusedVariables false
set_option linter.unusedSimpArgs false
set_option maxRecDepth 100000
noncomputable section
variable {F:Vc.Fd}
noncomputable def mkA (n:Nat) (k:Int):Array Value:=⟨(List.range n).map fun i:Nat=>.int .i64 (k+(i:Int))⟩
theorem mkA_size (n:Nat) (k:Int):(mkA n k).size=n:=by simp [mkA]
theorem mkA_at {n:Nat} {k:Int} {i:Nat} (h:i<n):(mkA n k)[i]? = some (.int .i64 (k+(i:Int))):=by
 unfold mkA;simp [h]
theorem mkA_num {n:Nat} {k:Int} {i:Nat} (h:i<n):num (mkA n k) i=k+(i:Int):=by unfold num;rw [mkA_at h]
noncomputable def mk8 (n:Nat) (k:Int):Array Value:=⟨(List.range n).map fun i:Nat=>.int .i8 (IntKind.i8.wrap (k+(i:Int)))⟩
theorem mk8_size (n:Nat) (k:Int):(mk8 n k).size=n:=by simp [mk8]
theorem mk8_at {n:Nat} {k:Int} {i:Nat} (h:i<n):(mk8 n k)[i]? = some (.int .i8 (IntKind.i8.wrap (k+(i:Int)))):=by
 unfold mk8;simp [h]
noncomputable def laws_eqInt64S_t0 (b_a0:Option (Option Addr)) (n_a0:Nat) (a0:Array Value) (b_a1:Option (Option Addr)) (n_a1:Nat) (a1:Array Value):St:=(⟨.a (.l 0) :: .a (.l 1) :: .a (.u) :: .a (.u) :: .a (.b (false)) :: .a (.i .i64 (0:Int)) :: .a (.l 0) :: .a (.i .i64 (n_a0:Int)) :: .a (.l 1) :: .a (.i .i64 (n_a1:Int)) :: .a (.b (((n_a0:Int) != (n_a1:Int))))::us 15 ([]),[.sl (.came b_a0) n_a0 a0 2,.sl (.came b_a1) n_a1 a1 2],[]⟩:St)
noncomputable def laws_eqInt64S_e0:Bool×Int→LS
 | (y0_4,y0_5)=>([.a (.b (y0_4)),.a (.i .i64 (y0_5))],[])
noncomputable def laws_eqInt64S_x0:(Stp (Bool×Int) (Bool×Int))→Exit×LS
 | .more t=>(.ret,laws_eqInt64S_e0 t)
 | .done t=>((.exit 0),laws_eqInt64S_e0 t)
noncomputable def laws_eqInt64S_g0 (P : Program) (b_a0 : Option (Option Addr)) (n_a0 : Nat) (a0 : Array Value) (b_a1 : Option (Option Addr)) (n_a1 : Nat) (a1 : Array Value) : Bool × Int → Option (Stp (Bool × Int) (Stp (Bool × Int) (Bool × Int)))
 | (y0_4, y0_5) => bif decide (y0_5 < (n_a0 : Int)) then (bif (decide (0 ≤ y0_5) && decide (y0_5 < (n_a0 : Int))) then (bif (decide (0 ≤ y0_5) && decide (y0_5 < (n_a1 : Int))) then (bif ((num a0 ((y0_5).toNat * 1)) != (num a1 ((y0_5).toNat * 1))) then (some (.done (.more (false, y0_5))))
     else (some (.more (y0_4, (i64.wrap (y0_5 + (1 : Int)))))))
    else (none))
   else (none))
  else (some (.done (.done (y0_4, y0_5))))
theorem laws_eqInt64S_s0 (N:Nat) (b_a0:Option (Option Addr)) (n_a0:Nat) (a0:Array Value) (b_a1:Option (Option Addr)) (n_a1:Nat) (a1:Array Value):∀ t:Bool×Int,stepV prog (mkΓ []) N (cAt (codeOf Tryd.f31) [1,1,0,1,0,0]) (pAt (mkPlan (codeOf Tryd.f31) [([4,5],[])]).1 [1,1,0,1,0]) [4,5] [] (laws_eqInt64S_t0 b_a0 n_a0 a0 b_a1 n_a1 a1) (laws_eqInt64S_e0 t)=mapS laws_eqInt64S_e0 laws_eqInt64S_x0 (laws_eqInt64S_g0 prog b_a0 n_a0 a0 b_a1 n_a1 a1 t):=by
 rintro ⟨y0_4,y0_5⟩
 refine Eq.trans (b:=(bif decide (y0_5<(n_a0:Int)) then (bif (decide (0≤y0_5)&&decide (y0_5<(n_a0:Int))) then (bif (decide (0≤y0_5)&&decide (y0_5<(n_a1:Int))) then (bif ((num a0 ((y0_5).toNat*1)) != (num a1 ((y0_5).toNat*1))) then (some (.done (.ret,([.a (.b (false)),.a (.i .i64 (y0_5))],[]))))
     else (some (.more ([.a (.b (y0_4)),.a (.i .i64 (i64.wrap (y0_5+(1:Int))))],[]))))
    else (none))
   else (none))
  else (some (.done ((.exit 0),([.a (.b (y0_4)),.a (.i .i64 (y0_5))],[])))))) (by kernel_rfl) ?_
 simp only [laws_eqInt64S_g0,mapS_cond,mapS_more,mapS_done,mapS_none,laws_eqInt64S_e0,laws_eqInt64S_x0]
noncomputable def laws_eqInt64S_k0_0 (P:Program) (N:Nat) (b_a0:Option (Option Addr)) (n_a0:Nat) (a0:Array Value) (b_a1:Option (Option Addr)) (n_a1:Nat) (a1:Array Value) (z0_4:Bool) (z0_5:Int):Option (SV×Eff×Bool):=some (.a (.b (z0_4)),.none,true)
theorem laws_eqInt64S_k0_0_eq (N:Nat) (b_a0:Option (Option Addr)) (n_a0:Nat) (a0:Array Value) (b_a1:Option (Option Addr)) (n_a1:Nat) (a1:Array Value) (z0_4:Bool) (z0_5:Int):(kBlock 0 (kSeq (veC prog (mkΓ []) N (cAt (codeOf Tryd.f31) [1,1,1]) (pAt (mkPlan (codeOf Tryd.f31) [([4,5],[])]).1 [1,1,1]) (SV×Eff×Bool)) (finK prog [.sl (.came b_a0) n_a0 a0 2,.sl (.came b_a1) n_a1 a1 2] [.tmp 4]))) .ret (left (writes (cAt (codeOf Tryd.f31) [1,1,0,1,0,0])) [4,5] [] (laws_eqInt64S_t0 b_a0 n_a0 a0 b_a1 n_a1 a1) ([.a (.b (z0_4)),.a (.i .i64 (z0_5))],[]))=laws_eqInt64S_k0_0 prog N b_a0 n_a0 a0 b_a1 n_a1 a1 z0_4 z0_5:=by
 refine Eq.trans (b:=(some (.a (.b (z0_4)),.none,true))) (by kernel_rfl) ?_
 rfl
noncomputable def laws_eqInt64S_k0_1 (P:Program) (N:Nat) (b_a0:Option (Option Addr)) (n_a0:Nat) (a0:Array Value) (b_a1:Option (Option Addr)) (n_a1:Nat) (a1:Array Value) (z0_4:Bool) (z0_5:Int):Option (SV×Eff×Bool):=some (.a (.b (true)),.none,true)
theorem laws_eqInt64S_k0_1_eq (N:Nat) (b_a0:Option (Option Addr)) (n_a0:Nat) (a0:Array Value) (b_a1:Option (Option Addr)) (n_a1:Nat) (a1:Array Value) (z0_4:Bool) (z0_5:Int):(kBlock 0 (kSeq (veC prog (mkΓ []) N (cAt (codeOf Tryd.f31) [1,1,1]) (pAt (mkPlan (codeOf Tryd.f31) [([4,5],[])]).1 [1,1,1]) (SV×Eff×Bool)) (finK prog [.sl (.came b_a0) n_a0 a0 2,.sl (.came b_a1) n_a1 a1 2] [.tmp 4]))) (.exit 0) (left (writes (cAt (codeOf Tryd.f31) [1,1,0,1,0,0])) [4,5] [] (laws_eqInt64S_t0 b_a0 n_a0 a0 b_a1 n_a1 a1) ([.a (.b (z0_4)),.a (.i .i64 (z0_5))],[]))=laws_eqInt64S_k0_1 prog N b_a0 n_a0 a0 b_a1 n_a1 a1 z0_4 z0_5:=by
 refine Eq.trans (b:=(some (.a (.b (true)),.none,true))) (by kernel_rfl) ?_
 rfl
theorem laws_eqInt64S_n0 (N:Nat) (b_a0:Option (Option Addr)) (n_a0:Nat) (a0:Array Value) (b_a1:Option (Option Addr)) (n_a1:Nat) (a1:Array Value):bindX (iterO (stepV prog (mkΓ []) N (cAt (codeOf Tryd.f31) [1,1,0,1,0,0]) (pAt (mkPlan (codeOf Tryd.f31) [([4,5],[])]).1 [1,1,0,1,0]) [4,5] [] (laws_eqInt64S_t0 b_a0 n_a0 a0 b_a1 n_a1 a1)) N ([.a (.b (false)),.a (.i .i64 (0:Int))],[])) (fun e s=>(kBlock 0 (kSeq (veC prog (mkΓ []) N (cAt (codeOf Tryd.f31) [1,1,1]) (pAt (mkPlan (codeOf Tryd.f31) [([4,5],[])]).1 [1,1,1]) (SV×Eff×Bool)) (finK prog [.sl (.came b_a0) n_a0 a0 2,.sl (.came b_a1) n_a1 a1 2] [.tmp 4]))) e (left (writes (cAt (codeOf Tryd.f31) [1,1,0,1,0,0])) [4,5] [] (laws_eqInt64S_t0 b_a0 n_a0 a0 b_a1 n_a1 a1) s))=nodeX (iterO (laws_eqInt64S_g0 prog b_a0 n_a0 a0 b_a1 n_a1 a1) N (false,(0:Int))) (st2 (fun x=>laws_eqInt64S_k0_0 prog N b_a0 n_a0 a0 b_a1 n_a1 a1 x.1 x.2) (fun x=>laws_eqInt64S_k0_1 prog N b_a0 n_a0 a0 b_a1 n_a1 a1 x.1 x.2)):=by
 refine loop_node laws_eqInt64S_e0 laws_eqInt64S_x0 _ _ (laws_eqInt64S_s0 N b_a0 n_a0 a0 b_a1 n_a1 a1) N (false,(0:Int)) _ _ ?_
 intro x
 cases x with
 | more x=>exact laws_eqInt64S_k0_0_eq N b_a0 n_a0 a0 b_a1 n_a1 a1 x.1 x.2
 | done x=>exact laws_eqInt64S_k0_1_eq N b_a0 n_a0 a0 b_a1 n_a1 a1 x.1 x.2
theorem laws_eqInt64S_ans (N:Nat) (b_a0:Option (Option Addr)) (n_a0:Nat) (a0:Array Value) (b_a1:Option (Option Addr)) (n_a1:Nat) (a1:Array Value):ansV prog (mkΓ []) N Tryd.f31 [([4,5],[])] [.l 0,.l 1] [.sl (.came b_a0) n_a0 a0 2,.sl (.came b_a1) n_a1 a1 2]=(bif ((n_a0:Int) != (n_a1:Int)) then (some (.a (.b (false)),.none,true))
  else (nodeX (iterO (laws_eqInt64S_g0 prog b_a0 n_a0 a0 b_a1 n_a1 a1) N (false,(0:Int))) (st2 (fun x=>laws_eqInt64S_k0_0 prog N b_a0 n_a0 a0 b_a1 n_a1 a1 x.1 x.2) (fun x=>laws_eqInt64S_k0_1 prog N b_a0 n_a0 a0 b_a1 n_a1 a1 x.1 x.2)))):=by
 refine Eq.trans (b:=(bif ((n_a0:Int) != (n_a1:Int)) then (some (.a (.b (false)),.none,true))
  else (bindX (iterO (stepV prog (mkΓ []) N (cAt (codeOf Tryd.f31) [1,1,0,1,0,0]) (pAt (mkPlan (codeOf Tryd.f31) [([4,5],[])]).1 [1,1,0,1,0]) [4,5] [] (laws_eqInt64S_t0 b_a0 n_a0 a0 b_a1 n_a1 a1)) N ([.a (.b (false)),.a (.i .i64 (0:Int))],[])) (fun e s=>(kBlock 0 (kSeq (veC prog (mkΓ []) N (cAt (codeOf Tryd.f31) [1,1,1]) (pAt (mkPlan (codeOf Tryd.f31) [([4,5],[])]).1 [1,1,1]) (SV×Eff×Bool)) (finK prog [.sl (.came b_a0) n_a0 a0 2,.sl (.came b_a1) n_a1 a1 2] [.tmp 4]))) e (left (writes (cAt (codeOf Tryd.f31) [1,1,0,1,0,0])) [4,5] [] (laws_eqInt64S_t0 b_a0 n_a0 a0 b_a1 n_a1 a1) s))))) (by kernel_rfl) ?_
 simp only [laws_eqInt64S_n0 N b_a0 n_a0 a0 b_a1 n_a1 a1]
theorem laws_eqInt64S_main (b_a0:Option (Option Addr)) (n_a0:Nat) (a0:Array Value) (b_a1:Option (Option Addr)) (n_a1:Nat) (a1:Array Value) (h_a0:a0.size=n_a0*(lay prog 2).length∧(∀ k,k<n_a0→WT prog 2 (a0.extract (k*(lay prog 2).length) (k*(lay prog 2).length+(lay prog 2).length)))∧n_a0≤9223372036854775807) (h_a1:a1.size=n_a1*(lay prog 2).length∧(∀ k,k<n_a1→WT prog 2 (a1.extract (k*(lay prog 2).length) (k*(lay prog 2).length+(lay prog 2).length)))∧n_a1≤9223372036854775807) (hg:(true)=true):ansV prog (mkΓ []) 18446744073709551616 Tryd.f31 [([4,5],[])] [.l 0,.l 1] [.sl (.came b_a0) n_a0 a0 2,.sl (.came b_a1) n_a1 a1 2]=some (.a (.b ((decide (n_a0=n_a1)&&sameB a0 a1))),.none,true):=by
 have hm:(lay prog 2).length=1:=by kernel_rfl
 obtain ⟨s1,s2,s3⟩:=h_a0
 obtain ⟨t1,t2,t3⟩:=h_a1
 rw [hm] at s1 s2 t1 t2
 have hq:(lay prog 2)[0]? = some 3:=by kernel_rfl
 refine (laws_eqInt64S_ans 18446744073709551616 b_a0 n_a0 a0 b_a1 n_a1 a1).trans ?_
 by_cases hl:n_a0=n_a1
 case neg=>
  rw [decide_eq_false hl,show ((n_a0:Int) != (n_a1:Int))=true from bne_iff_ne.2 (by omega)]
  rfl
 subst hl
 rw [decide_eq_true rfl,show ((n_a0:Int) != (n_a0:Int))=false from bne_self_eq_false _]
 simp only [cond_false,Bool.true_and]
 have hb:sameB a0 a1=true ↔ ∀ k,k<n_a0→(fun k=>(num a0 (k*1)==num a1 (k*1))) k=true:=by
  constructor
  ·intro h k hk
   rw [sameB_iff.1 h]
   exact beq_self_eq_true _
  ·intro h
   refine sameB_iff.2 ?_
   refine ext_parts (n:=n_a0) (m:=1) (by omega) s1 t1 (fun k hk=> ?_)
   have e0:=(sl_int (kd:=.i64) (o:=0) s2 hk (by omega) hq).1
   have e1:=(sl_int (kd:=.i64) (o:=0) t2 hk (by omega) hq).1
   rw [Nat.add_zero] at e0 e1
   rw [eq_of_beq (h k hk)] at e0
   refine arr_ext fun i=> ?_
   rw [Array.getElem?_extract,Array.getElem?_extract,s1,t1]
   by_cases hi:i=0
   ·subst hi;simp only [Nat.add_zero];rw [e0,e1]
   ·rw [if_neg (by omega),if_neg (by omega)]
 refine (iter_first (g:=laws_eqInt64S_g0 prog b_a0 n_a0 a0 b_a1 n_a0 a1) (fun k=>(false,(k:Int))) (fun k=>(num a0 (k*1)==num a1 (k*1))) n_a0 (N:=18446744073709551616) (xd:=.done (false,(n_a0:Int))) (by omega) (fun k hk hp=>by
  have h1:decide ((k:Int)<(n_a0:Int))=true:=decide_eq_true (by omega)
  have h0:decide (0≤(k:Int))=true:=decide_eq_true (by omega)
  have h3:i64.wrap ((k:Int)+1)=((k+1:Nat):Int):=by rw [IntWalk.i64_in _ (by omega)];omega
  have hp':(num a0 (k*1)==num a1 (k*1))=true:=hp
  simp only [laws_eqInt64S_g0,h1,h0,Bool.and_self,Int.toNat_natCast,cond_true,h3,bne,hp',Bool.not_true,cond_false]) (by
  have h1:decide ((n_a0:Int)<(n_a0:Int))=false:=decide_eq_false (by omega)
  simp only [laws_eqInt64S_g0,h1,cond_false]) (sameB a0 a1) hb (some (.a (.b true),.none,true)) (some (.a (.b false),.none,true)) rfl (fun k hk hp=>by
  refine ⟨.more (false,(k:Int)), ?_,rfl⟩
  have h1:decide ((k:Int)<(n_a0:Int))=true:=decide_eq_true (by omega)
  have h0:decide (0≤(k:Int))=true:=decide_eq_true (by omega)
  have hp':(num a0 (k*1)==num a1 (k*1))=false:=hp
  simp only [laws_eqInt64S_g0,h1,h0,Bool.and_self,Int.toNat_natCast,cond_true,bne,hp',Bool.not_false])).trans ?_
 cases sameB a0 a1<;>rfl
noncomputable def laws_eqInt64S_con:Con:=fun args h=>match args,h with
 | [.l 0,.l 1],[.sl (.came b_a0) n_a0 a0 2,.sl (.came b_a1) n_a1 a1 2]=>some (.a (.b ((decide (n_a0=n_a1)&&sameB a0 a1))),.none,true)
 | _,_=>none
theorem laws_eqInt64S_enter:EntX prog 31:=entX_ok (fn:=Tryd.f31) (by kernel_rfl) (by kernel_rfl) (by kernel_rfl)
theorem laws_eqInt64S_ok:ConOkX (md F) prog 31 laws_eqInt64S_con:=(ansX_ok (N:=18446744073709551616) (by kernel_rfl) mkΓ_nilX (fn:=Tryd.f31) (by kernel_rfl) (by kernel_rfl) [([4,5],[])]).of (by
 intro ρ h w args vals r e hA hH hr
 unfold laws_eqInt64S_con at hr
 split at hr
 ·rename_i b_a0 n_a0 a0 b_a1 n_a1 a1
  obtain ⟨rfl,hg⟩:=Prod.mk.inj (Option.some.inj hr)
  obtain ⟨rfl,hg2⟩:=Prod.mk.inj hg
  exact laws_eqInt64S_main b_a0 n_a0 a0 b_a1 n_a1 a1 (hH.slw 0 rfl) (hH.slw 1 rfl) hg2
 ·cases hr)
noncomputable def laws_markInt64S_t0 (a1:Int) (n_a0:Nat) (a0:Array Value):St:=(⟨.a (.l 0) :: .a (.i .i64 (a1)) :: .a (.u) :: .a (.u) :: .a (.i .i64 (0:Int)) :: .a (.i .i64 (0:Int))::us 13 ([]),[.sl .lent n_a0 a0 2],[]⟩:St)
noncomputable def laws_markInt64S_e0 (n_a0:Nat):Int×Int×Array Value→LS
 | (y0_1,y0_5,r0_0)=>([.a (.i .i64 (y0_1)),.a (.i .i64 (y0_5))],[.sl .lent n_a0 r0_0 2])
noncomputable def laws_markInt64S_x0 (n_a0:Nat):Int×Int×Array Value→Exit×LS
 | t=>((.exit 0),(laws_markInt64S_e0 n_a0) t)
noncomputable def laws_markInt64S_g0 (P:Program) (a1:Int) (n_a0:Nat) (a0:Array Value):Int×Int×Array Value→Option (Stp (Int×Int×Array Value) (Int×Int×Array Value))
 | (y0_1,y0_5,r0_0)=>bif decide (y0_5<(n_a0:Int)) then (bif (decide (0≤y0_5)&&decide (y0_5<(n_a0:Int))) then (some (.more ((i64.wrap (y0_1+(1:Int))),(i64.wrap (y0_5+(1:Int))),(r0_0.setIfInBounds ((y0_5).toNat*1) (.int .i64 (y0_1))))))
   else (none))
  else (some (.done (y0_1,y0_5,r0_0)))
theorem laws_markInt64S_s0 (N:Nat) (a1:Int) (n_a0:Nat) (a0:Array Value):∀ t:Int×Int×Array Value,stepV prog (mkΓ []) N (cAt (codeOf Tryd.f34) [1,0,1,0,0]) (pAt (mkPlan (codeOf Tryd.f34) [([1,5],[0])]).1 [1,0,1,0]) [1,5] [0] (laws_markInt64S_t0 a1 n_a0 a0) ((laws_markInt64S_e0 n_a0) t)=mapS (laws_markInt64S_e0 n_a0) (laws_markInt64S_x0 n_a0) (laws_markInt64S_g0 prog a1 n_a0 a0 t):=by
 rintro ⟨y0_1,y0_5,r0_0⟩
 refine Eq.trans (b:=(bif decide (y0_5<(n_a0:Int)) then (bif (decide (0≤y0_5)&&decide (y0_5<(n_a0:Int))) then (some (.more ([.a (.i .i64 (i64.wrap (y0_1+(1:Int)))),.a (.i .i64 (i64.wrap (y0_5+(1:Int))))],[.sl .lent n_a0 (r0_0.setIfInBounds ((y0_5).toNat*1) (.int .i64 (y0_1))) 2])))
   else (none))
  else (some (.done ((.exit 0),([.a (.i .i64 (y0_1)),.a (.i .i64 (y0_5))],[.sl .lent n_a0 r0_0 2])))))) (by kernel_rfl) ?_
 simp only [laws_markInt64S_g0,mapS_cond,mapS_more,mapS_done,mapS_none,laws_markInt64S_e0,laws_markInt64S_x0]
noncomputable def laws_markInt64S_k0_0 (P:Program) (N:Nat) (a1:Int) (n_a0:Nat) (a0:Array Value) (z0_1:Int) (z0_5:Int) (q0_0:Array Value):Option (SV×Eff×Bool):=bif (Nat.blt 0 n_a0) then (some (.a (.i .i64 (z0_1)),.set 0 (.sl .lent n_a0 q0_0 2),true))
  else (none)
theorem laws_markInt64S_k0_0_eq (N:Nat) (a1:Int) (n_a0:Nat) (a0:Array Value) (z0_1:Int) (z0_5:Int) (q0_0:Array Value):(kBlock 0 (kSeq (veC prog (mkΓ []) N (cAt (codeOf Tryd.f34) [1,1]) (pAt (mkPlan (codeOf Tryd.f34) [([1,5],[0])]).1 [1,1]) (SV×Eff×Bool)) (finK prog [.sl .lent n_a0 a0 2] [.tmp 4]))) (.exit 0) (left (writes (cAt (codeOf Tryd.f34) [1,0,1,0,0])) [1,5] [0] (laws_markInt64S_t0 a1 n_a0 a0) ([.a (.i .i64 (z0_1)),.a (.i .i64 (z0_5))],[.sl .lent n_a0 q0_0 2]))=laws_markInt64S_k0_0 prog N a1 n_a0 a0 z0_1 z0_5 q0_0:=by
 refine Eq.trans (b:=(bif (Nat.blt 0 n_a0) then (some (.a (.i .i64 (z0_1)),.set 0 (.sl .lent n_a0 q0_0 2),true))
  else (none))) (by kernel_rfl) ?_
 rfl
theorem laws_markInt64S_n0 (N:Nat) (a1:Int) (n_a0:Nat) (a0:Array Value):bindX (iterO (stepV prog (mkΓ []) N (cAt (codeOf Tryd.f34) [1,0,1,0,0]) (pAt (mkPlan (codeOf Tryd.f34) [([1,5],[0])]).1 [1,0,1,0]) [1,5] [0] (laws_markInt64S_t0 a1 n_a0 a0)) N ([.a (.i .i64 (a1)),.a (.i .i64 (0:Int))],[.sl .lent n_a0 a0 2])) (fun e s=>(kBlock 0 (kSeq (veC prog (mkΓ []) N (cAt (codeOf Tryd.f34) [1,1]) (pAt (mkPlan (codeOf Tryd.f34) [([1,5],[0])]).1 [1,1]) (SV×Eff×Bool)) (finK prog [.sl .lent n_a0 a0 2] [.tmp 4]))) e (left (writes (cAt (codeOf Tryd.f34) [1,0,1,0,0])) [1,5] [0] (laws_markInt64S_t0 a1 n_a0 a0) s))=nodeX (iterO (laws_markInt64S_g0 prog a1 n_a0 a0) N (a1,(0:Int),a0)) (fun x=>laws_markInt64S_k0_0 prog N a1 n_a0 a0 x.1 x.2.1 x.2.2):=by
 refine loop_node (laws_markInt64S_e0 n_a0) (laws_markInt64S_x0 n_a0) _ _ (laws_markInt64S_s0 N a1 n_a0 a0) N (a1,(0:Int),a0) _ _ ?_
 intro x;exact laws_markInt64S_k0_0_eq N a1 n_a0 a0 x.1 x.2.1 x.2.2
theorem laws_markInt64S_ans (N:Nat) (a1:Int) (n_a0:Nat) (a0:Array Value):ansV prog (mkΓ []) N Tryd.f34 [([1,5],[0])] [.l 0,.i .i64 (a1)] [.sl .lent n_a0 a0 2]=(nodeX (iterO (laws_markInt64S_g0 prog a1 n_a0 a0) N (a1,(0:Int),a0)) (fun x=>laws_markInt64S_k0_0 prog N a1 n_a0 a0 x.1 x.2.1 x.2.2)):=by
 refine Eq.trans (b:=(bindX (iterO (stepV prog (mkΓ []) N (cAt (codeOf Tryd.f34) [1,0,1,0,0]) (pAt (mkPlan (codeOf Tryd.f34) [([1,5],[0])]).1 [1,0,1,0]) [1,5] [0] (laws_markInt64S_t0 a1 n_a0 a0)) N ([.a (.i .i64 (a1)),.a (.i .i64 (0:Int))],[.sl .lent n_a0 a0 2])) (fun e s=>(kBlock 0 (kSeq (veC prog (mkΓ []) N (cAt (codeOf Tryd.f34) [1,1]) (pAt (mkPlan (codeOf Tryd.f34) [([1,5],[0])]).1 [1,1]) (SV×Eff×Bool)) (finK prog [.sl .lent n_a0 a0 2] [.tmp 4]))) e (left (writes (cAt (codeOf Tryd.f34) [1,0,1,0,0])) [1,5] [0] (laws_markInt64S_t0 a1 n_a0 a0) s)))) (by kernel_rfl) ?_
 simp only [laws_markInt64S_n0 N a1 n_a0 a0]
theorem laws_markInt64S_main0 (a1:Int) (n_a0:Nat) (a0:Array Value) (h_a1:i64.min≤a1∧a1≤i64.max) (h_a0:a0.size=n_a0*(lay prog 2).length∧(∀ k,k<n_a0→WT prog 2 (a0.extract (k*(lay prog 2).length) (k*(lay prog 2).length+(lay prog 2).length)))∧n_a0≤9223372036854775807) (hc0:(Nat.beq n_a0 0)=false) (hg:(((Nat.ble n_a0 100000)&&(decide (0≤a1)&&decide (a1≤1000000))))=true):ansV prog (mkΓ []) 18446744073709551616 Tryd.f34 [([1,5],[0])] [.l 0,.i .i64 (a1)] [.sl .lent n_a0 a0 2]=some (.a (.i .i64 (a1+((n_a0*1:Nat):Int))),.set 0 (.sl .lent n_a0 (mkA (n_a0*1) a1) 2),true):=by
 rw [Bool.and_eq_true,Bool.and_eq_true] at hg
 have hn:n_a0≤100000:=Nat.le_of_ble_eq_true hg.1
 have hk0:0≤a1∧a1≤1000000:=⟨of_decide_eq_true hg.2.1,of_decide_eq_true hg.2.2⟩
 have hm:(lay prog 2).length=1:=by kernel_rfl
 obtain ⟨s1,-,-⟩:=h_a0
 rw [hm] at s1
 have hs:(mkA (n_a0*1) a1).size=a0.size:=by rw [mkA_size,s1]
 have hpos:Nat.blt 0 n_a0=true:=by
  have:n_a0≠0:=fun h=>by rw [h] at hc0;cases hc0
  simp [Nat.blt];omega
 have h:=iter_all (g:=laws_markInt64S_g0 prog a1 n_a0 a0) (fun i=>(a1+((i*1:Nat):Int),(i:Int),upto (mkA (n_a0*1) a1) a0 (i*1))) (m:=n_a0) (x:=(a1+((n_a0*1:Nat):Int),(n_a0:Int),upto (mkA (n_a0*1) a1) a0 (n_a0*1))) (N:=18446744073709551616) (fun i hi=>by
  have h1:decide ((i:Int)<(n_a0:Int))=true:=decide_eq_true (by omega)
  have h2:decide (0≤(i:Int))=true:=decide_eq_true (by omega)
  have h4:i64.wrap (a1+((i*1:Nat):Int)+1)=a1+(((i+1)*1:Nat):Int):=by rw [IntWalk.i64_in _ (by omega)];omega
  have h5:i64.wrap ((i:Int)+1)=((i+1:Nat):Int):=by rw [IntWalk.i64_in _ (by omega)];omega
  have h6:(upto (mkA (n_a0*1) a1) a0 (i*1)).setIfInBounds (i*1) (.int .i64 (a1+((i*1:Nat):Int)))=upto (mkA (n_a0*1) a1) a0 ((i+1)*1):=by
   rw [show (i+1)*1=i*1+1 by omega]
   exact upto_set hs (mkA_at (by omega))
  simp only [laws_markInt64S_g0,h1,h2,h4,h5,h6,Int.toNat_natCast,Bool.and_self,cond_true]) (by
  have h1:decide ((n_a0:Int)<(n_a0:Int))=false:=decide_eq_false (by omega)
  simp only [laws_markInt64S_g0,h1,cond_false]) (by omega)
 refine (laws_markInt64S_ans 18446744073709551616 a1 n_a0 a0).trans ?_
 have hz:upto (mkA (n_a0*1) a1) a0 0=a0:=upto_zero hs
 have hl:upto (mkA (n_a0*1) a1) a0 (n_a0*1)=mkA (n_a0*1) a1:=upto_all hs (mkA_size _ _)
 have h0:a1+(((0*1:Nat)):Int)=a1:=by omega
 have h':iterO (laws_markInt64S_g0 prog a1 n_a0 a0) 18446744073709551616 (a1,(0:Int),a0)=some (a1+((n_a0*1:Nat):Int),(n_a0:Int),mkA (n_a0*1) a1):=by
  have h2:=h
  simp only [Nat.zero_mul,hz,hl] at h2
  have e:a1+((0:Nat):Int)=a1:=by omega
  rw [e] at h2
  exact h2
 rw [h']
 simp only [nodeX,laws_markInt64S_k0_0,hpos,cond_true]
theorem laws_markInt64S_main1 (a1:Int) (n_a0:Nat) (a0:Array Value) (h_a1:i64.min≤a1∧a1≤i64.max) (h_a0:a0.size=n_a0*(lay prog 2).length∧(∀ k,k<n_a0→WT prog 2 (a0.extract (k*(lay prog 2).length) (k*(lay prog 2).length+(lay prog 2).length)))∧n_a0≤9223372036854775807) (hc0:(Nat.beq n_a0 0)=true) (hg:(true)=true):ansV prog (mkΓ []) 1000 Tryd.f34 [([1,5],[])] [.l 0,.i .i64 (a1)] [.sl .lent n_a0 a0 2]=some (.a (.i .i64 (a1)),.none,true):=by
 obtain rfl:n_a0=0:=Nat.eq_of_beq_eq_true hc0
 kernel_rfl
noncomputable def laws_markInt64S_scon:SCon:=fun args h=>match args,h with
 | [.l 0,.i .i64 a1],[.sl .lent n_a0 a0 2]=>.two (Nat.beq n_a0 0) (.one (some (.a (.i .i64 (a1)),.none,true))) (.one (some (.a (.i .i64 (a1+((n_a0*1:Nat):Int))),.set 0 (.sl .lent n_a0 (mkA (n_a0*1) a1) 2),((Nat.ble n_a0 100000)&&(decide (0≤a1)&&decide (a1≤1000000))))))
 | _,_=>.one none
theorem laws_markInt64S_enter:EntX prog 34:=entX_ok (fn:=Tryd.f34) (by kernel_rfl) (by kernel_rfl) (by kernel_rfl)
theorem laws_markInt64S_sok:ConOkX (md F) prog 34 (fun args h=>wayRes (laws_markInt64S_scon args h)):=by
 intro ρ h w args vals r e hn hr hA hH
 dsimp only at hr
 unfold laws_markInt64S_scon at hr
 split at hr
 ·rename_i a1 n_a0 a0
  simp only [wayRes] at hr
  cases hc0:(Nat.beq n_a0 0)
  ·rw [hc0] at hr
   simp only [wayRes,cond_true,cond_false] at hr
   obtain ⟨rfl,hg⟩:=Prod.mk.inj (Option.some.inj hr)
   obtain ⟨rfl,hg2⟩:=Prod.mk.inj hg
   exact ((ansX_ok (N:=18446744073709551616) (by kernel_rfl) mkΓ_nilX (fn:=Tryd.f34) (by kernel_rfl) (by kernel_rfl) [([1,5],[0])])) ρ _ w _ vals _ _ hn ((laws_markInt64S_main0 a1 n_a0 a0 (hA.rng 1 rfl) (hH.slw 0 rfl) hc0 hg2)) hA hH
  ·rw [hc0] at hr
   simp only [wayRes,cond_true,cond_false] at hr
   obtain ⟨rfl,hg⟩:=Prod.mk.inj (Option.some.inj hr)
   obtain ⟨rfl,hg2⟩:=Prod.mk.inj hg
   exact ((ansX_ok (N:=1000) (by kernel_rfl) mkΓ_nilX (fn:=Tryd.f34) (by kernel_rfl) (by kernel_rfl) [([1,5],[])])) ρ _ w _ vals _ _ hn ((laws_markInt64S_main1 a1 n_a0 a0 (hA.rng 1 rfl) (hH.slw 0 rfl) hc0 hg2)) hA hH
 ·simp only [wayRes] at hr
  cases hr
noncomputable def laws_heldInt64S_t0 (a1:Int) (b_a0:Option (Option Addr)) (n_a0:Nat) (a0:Array Value):St:=(⟨.a (.l 0) :: .a (.i .i64 (a1)) :: .a (.u) :: .a (.u) :: .a (.i .i64 (0:Int)) :: .a (.i .i64 (0:Int))::us 15 ([]),[.sl (.came b_a0) n_a0 a0 2],[]⟩:St)
noncomputable def laws_heldInt64S_e0:Int×Int×Int→LS
 | (y0_1,y0_4,y0_5)=>([.a (.i .i64 (y0_1)),.a (.i .i64 (y0_4)),.a (.i .i64 (y0_5))],[])
noncomputable def laws_heldInt64S_x0:(Stp (Int×Int×Int) (Int×Int×Int))→Exit×LS
 | .more t=>(.ret,laws_heldInt64S_e0 t)
 | .done t=>((.exit 0),laws_heldInt64S_e0 t)
noncomputable def laws_heldInt64S_g0 (P : Program) (a1 : Int) (b_a0 : Option (Option Addr)) (n_a0 : Nat) (a0 : Array Value) : Int × Int × Int → Option (Stp (Int × Int × Int) (Stp (Int × Int × Int) (Int × Int × Int)))
 | (y0_1, y0_4, y0_5) => bif decide (y0_5 < (n_a0 : Int)) then (bif (decide (0 ≤ y0_5) && decide (y0_5 < (n_a0 : Int))) then (bif ((num a0 ((y0_5).toNat * 1)) != y0_1) then (some (.done (.more (y0_1, (-1 : Int), y0_5))))
    else (some (.more ((i64.wrap (y0_1 + (1 : Int))), y0_4, (i64.wrap (y0_5 + (1 : Int)))))))
   else (none))
  else (some (.done (.done (y0_1, y0_4, y0_5))))
theorem laws_heldInt64S_s0 (N:Nat) (a1:Int) (b_a0:Option (Option Addr)) (n_a0:Nat) (a0:Array Value):∀ t:Int×Int×Int,stepV prog (mkΓ []) N (cAt (codeOf Tryd.f35) [1,0,1,0,0]) (pAt (mkPlan (codeOf Tryd.f35) [([1,4,5],[])]).1 [1,0,1,0]) [1,4,5] [] (laws_heldInt64S_t0 a1 b_a0 n_a0 a0) (laws_heldInt64S_e0 t)=mapS laws_heldInt64S_e0 laws_heldInt64S_x0 (laws_heldInt64S_g0 prog a1 b_a0 n_a0 a0 t):=by
 rintro ⟨y0_1,y0_4,y0_5⟩
 refine Eq.trans (b:=(bif decide (y0_5<(n_a0:Int)) then (bif (decide (0≤y0_5)&&decide (y0_5<(n_a0:Int))) then (bif ((num a0 ((y0_5).toNat*1)) != y0_1) then (some (.done (.ret,([.a (.i .i64 (y0_1)),.a (.i .i64 (-1:Int)),.a (.i .i64 (y0_5))],[]))))
    else (some (.more ([.a (.i .i64 (i64.wrap (y0_1+(1:Int)))),.a (.i .i64 (y0_4)),.a (.i .i64 (i64.wrap (y0_5+(1:Int))))],[]))))
   else (none))
  else (some (.done ((.exit 0),([.a (.i .i64 (y0_1)),.a (.i .i64 (y0_4)),.a (.i .i64 (y0_5))],[])))))) (by kernel_rfl) ?_
 simp only [laws_heldInt64S_g0,mapS_cond,mapS_more,mapS_done,mapS_none,laws_heldInt64S_e0,laws_heldInt64S_x0]
noncomputable def laws_heldInt64S_k0_0 (P:Program) (N:Nat) (a1:Int) (b_a0:Option (Option Addr)) (n_a0:Nat) (a0:Array Value) (z0_1:Int) (z0_4:Int) (z0_5:Int):Option (SV×Eff×Bool):=some (.a (.i .i64 (z0_4)),.none,true)
theorem laws_heldInt64S_k0_0_eq (N:Nat) (a1:Int) (b_a0:Option (Option Addr)) (n_a0:Nat) (a0:Array Value) (z0_1:Int) (z0_4:Int) (z0_5:Int):(kBlock 0 (kSeq (veC prog (mkΓ []) N (cAt (codeOf Tryd.f35) [1,1]) (pAt (mkPlan (codeOf Tryd.f35) [([1,4,5],[])]).1 [1,1]) (SV×Eff×Bool)) (finK prog [.sl (.came b_a0) n_a0 a0 2] [.tmp 4]))) .ret (left (writes (cAt (codeOf Tryd.f35) [1,0,1,0,0])) [1,4,5] [] (laws_heldInt64S_t0 a1 b_a0 n_a0 a0) ([.a (.i .i64 (z0_1)),.a (.i .i64 (z0_4)),.a (.i .i64 (z0_5))],[]))=laws_heldInt64S_k0_0 prog N a1 b_a0 n_a0 a0 z0_1 z0_4 z0_5:=by
 refine Eq.trans (b:=(some (.a (.i .i64 (z0_4)),.none,true))) (by kernel_rfl) ?_
 rfl
noncomputable def laws_heldInt64S_k0_1 (P:Program) (N:Nat) (a1:Int) (b_a0:Option (Option Addr)) (n_a0:Nat) (a0:Array Value) (z0_1:Int) (z0_4:Int) (z0_5:Int):Option (SV×Eff×Bool):=some (.a (.i .i64 (z0_1)),.none,true)
theorem laws_heldInt64S_k0_1_eq (N:Nat) (a1:Int) (b_a0:Option (Option Addr)) (n_a0:Nat) (a0:Array Value) (z0_1:Int) (z0_4:Int) (z0_5:Int):(kBlock 0 (kSeq (veC prog (mkΓ []) N (cAt (codeOf Tryd.f35) [1,1]) (pAt (mkPlan (codeOf Tryd.f35) [([1,4,5],[])]).1 [1,1]) (SV×Eff×Bool)) (finK prog [.sl (.came b_a0) n_a0 a0 2] [.tmp 4]))) (.exit 0) (left (writes (cAt (codeOf Tryd.f35) [1,0,1,0,0])) [1,4,5] [] (laws_heldInt64S_t0 a1 b_a0 n_a0 a0) ([.a (.i .i64 (z0_1)),.a (.i .i64 (z0_4)),.a (.i .i64 (z0_5))],[]))=laws_heldInt64S_k0_1 prog N a1 b_a0 n_a0 a0 z0_1 z0_4 z0_5:=by
 refine Eq.trans (b:=(some (.a (.i .i64 (z0_1)),.none,true))) (by kernel_rfl) ?_
 rfl
theorem laws_heldInt64S_n0 (N:Nat) (a1:Int) (b_a0:Option (Option Addr)) (n_a0:Nat) (a0:Array Value):bindX (iterO (stepV prog (mkΓ []) N (cAt (codeOf Tryd.f35) [1,0,1,0,0]) (pAt (mkPlan (codeOf Tryd.f35) [([1,4,5],[])]).1 [1,0,1,0]) [1,4,5] [] (laws_heldInt64S_t0 a1 b_a0 n_a0 a0)) N ([.a (.i .i64 (a1)),.a (.i .i64 (0:Int)),.a (.i .i64 (0:Int))],[])) (fun e s=>(kBlock 0 (kSeq (veC prog (mkΓ []) N (cAt (codeOf Tryd.f35) [1,1]) (pAt (mkPlan (codeOf Tryd.f35) [([1,4,5],[])]).1 [1,1]) (SV×Eff×Bool)) (finK prog [.sl (.came b_a0) n_a0 a0 2] [.tmp 4]))) e (left (writes (cAt (codeOf Tryd.f35) [1,0,1,0,0])) [1,4,5] [] (laws_heldInt64S_t0 a1 b_a0 n_a0 a0) s))=nodeX (iterO (laws_heldInt64S_g0 prog a1 b_a0 n_a0 a0) N (a1,(0:Int),(0:Int))) (st2 (fun x=>laws_heldInt64S_k0_0 prog N a1 b_a0 n_a0 a0 x.1 x.2.1 x.2.2) (fun x=>laws_heldInt64S_k0_1 prog N a1 b_a0 n_a0 a0 x.1 x.2.1 x.2.2)):=by
 refine loop_node laws_heldInt64S_e0 laws_heldInt64S_x0 _ _ (laws_heldInt64S_s0 N a1 b_a0 n_a0 a0) N (a1,(0:Int),(0:Int)) _ _ ?_
 intro x
 cases x with
 | more x=>exact laws_heldInt64S_k0_0_eq N a1 b_a0 n_a0 a0 x.1 x.2.1 x.2.2
 | done x=>exact laws_heldInt64S_k0_1_eq N a1 b_a0 n_a0 a0 x.1 x.2.1 x.2.2
theorem laws_heldInt64S_ans (N:Nat) (a1:Int) (b_a0:Option (Option Addr)) (n_a0:Nat) (a0:Array Value):ansV prog (mkΓ []) N Tryd.f35 [([1,4,5],[])] [.l 0,.i .i64 (a1)] [.sl (.came b_a0) n_a0 a0 2]=(nodeX (iterO (laws_heldInt64S_g0 prog a1 b_a0 n_a0 a0) N (a1,(0:Int),(0:Int))) (st2 (fun x=>laws_heldInt64S_k0_0 prog N a1 b_a0 n_a0 a0 x.1 x.2.1 x.2.2) (fun x=>laws_heldInt64S_k0_1 prog N a1 b_a0 n_a0 a0 x.1 x.2.1 x.2.2))):=by
 refine Eq.trans (b:=(bindX (iterO (stepV prog (mkΓ []) N (cAt (codeOf Tryd.f35) [1,0,1,0,0]) (pAt (mkPlan (codeOf Tryd.f35) [([1,4,5],[])]).1 [1,0,1,0]) [1,4,5] [] (laws_heldInt64S_t0 a1 b_a0 n_a0 a0)) N ([.a (.i .i64 (a1)),.a (.i .i64 (0:Int)),.a (.i .i64 (0:Int))],[])) (fun e s=>(kBlock 0 (kSeq (veC prog (mkΓ []) N (cAt (codeOf Tryd.f35) [1,1]) (pAt (mkPlan (codeOf Tryd.f35) [([1,4,5],[])]).1 [1,1]) (SV×Eff×Bool)) (finK prog [.sl (.came b_a0) n_a0 a0 2] [.tmp 4]))) e (left (writes (cAt (codeOf Tryd.f35) [1,0,1,0,0])) [1,4,5] [] (laws_heldInt64S_t0 a1 b_a0 n_a0 a0) s)))) (by kernel_rfl) ?_
 simp only [laws_heldInt64S_n0 N a1 b_a0 n_a0 a0]
theorem laws_heldInt64S_main (a1:Int) (b_a0:Option (Option Addr)) (n_a0:Nat) (a0:Array Value) (h_a1:i64.min≤a1∧a1≤i64.max) (h_a0:a0.size=n_a0*(lay prog 2).length∧(∀ k,k<n_a0→WT prog 2 (a0.extract (k*(lay prog 2).length) (k*(lay prog 2).length+(lay prog 2).length)))∧n_a0≤9223372036854775807) (hg:(((Nat.ble n_a0 100000)&&((decide (0≤a1)&&decide (a1≤1000000))&&sameB a0 (mkA (n_a0*1) a1))))=true):ansV prog (mkΓ []) 18446744073709551616 Tryd.f35 [([1,4,5],[])] [.l 0,.i .i64 (a1)] [.sl (.came b_a0) n_a0 a0 2]=some (.a (.i .i64 (a1+((n_a0*1:Nat):Int))),.none,true):=by
 rw [Bool.and_eq_true,Bool.and_eq_true,Bool.and_eq_true] at hg
 have hn:n_a0≤100000:=Nat.le_of_ble_eq_true hg.1
 have hk0:0≤a1∧a1≤1000000:=⟨of_decide_eq_true hg.2.1.1,of_decide_eq_true hg.2.1.2⟩
 have hA:=sameB_iff.1 hg.2.2
 have hnum:∀ i,i<n_a0*1→(num a0 i != a1+(i:Int))=false:=fun i hi=>by rw [hA,mkA_num hi];exact bne_self_eq_false _
 have h:=iter_all (g:=laws_heldInt64S_g0 prog a1 b_a0 n_a0 a0) (fun i=>(a1+((i*1:Nat):Int),(0:Int),(i:Int))) (m:=n_a0) (x:=.done (a1+((n_a0*1:Nat):Int),(0:Int),(n_a0:Int))) (N:=18446744073709551616) (fun i hi=>by
  have h1:decide ((i:Int)<(n_a0:Int))=true:=decide_eq_true (by omega)
  have h2:decide (0≤(i:Int))=true:=decide_eq_true (by omega)
  have h4:i64.wrap (a1+((i*1:Nat):Int)+1)=a1+(((i+1)*1:Nat):Int):=by rw [IntWalk.i64_in _ (by omega)];omega
  have h5:i64.wrap ((i:Int)+1)=((i+1:Nat):Int):=by rw [IntWalk.i64_in _ (by omega)];omega
  have h6:=hnum (i*1) (by omega)
  simp only [laws_heldInt64S_g0,h1,h2,h4,h5,h6,Int.toNat_natCast,Bool.and_self,cond_true,cond_false]) (by
  have h1:decide ((n_a0:Int)<(n_a0:Int))=false:=decide_eq_false (by omega)
  simp only [laws_heldInt64S_g0,h1,cond_false]) (by omega)
 refine (laws_heldInt64S_ans 18446744073709551616 a1 b_a0 n_a0 a0).trans ?_
 have h':iterO (laws_heldInt64S_g0 prog a1 b_a0 n_a0 a0) 18446744073709551616 (a1,(0:Int),(0:Int))=some (.done (a1+((n_a0*1:Nat):Int),(0:Int),(n_a0:Int))):=by
  have h2:=h
  have e:a1+((0*1:Nat):Int)=a1:=by omega
  simp only [e] at h2
  exact h2
 rw [h']
 rfl
noncomputable def laws_heldInt64S_con:Con:=fun args h=>match args,h with
 | [.l 0,.i .i64 a1],[.sl (.came b_a0) n_a0 a0 2]=>some (.a (.i .i64 (a1+((n_a0*1:Nat):Int))),.none,((Nat.ble n_a0 100000)&&((decide (0≤a1)&&decide (a1≤1000000))&&sameB a0 (mkA (n_a0*1) a1))))
 | _,_=>none
theorem laws_heldInt64S_enter:EntX prog 35:=entX_ok (fn:=Tryd.f35) (by kernel_rfl) (by kernel_rfl) (by kernel_rfl)
theorem laws_heldInt64S_ok:ConOkX (md F) prog 35 laws_heldInt64S_con:=(ansX_ok (N:=18446744073709551616) (by kernel_rfl) mkΓ_nilX (fn:=Tryd.f35) (by kernel_rfl) (by kernel_rfl) [([1,4,5],[])]).of (by
 intro ρ h w args vals r e hA hH hr
 unfold laws_heldInt64S_con at hr
 split at hr
 ·rename_i a1 b_a0 n_a0 a0
  obtain ⟨rfl,hg⟩:=Prod.mk.inj (Option.some.inj hr)
  obtain ⟨rfl,hg2⟩:=Prod.mk.inj hg
  exact laws_heldInt64S_main a1 b_a0 n_a0 a0 (hA.rng 1 rfl) (hH.slw 0 rfl) hg2
 ·cases hr)
theorem s_laws_eqFind_ans (N:Nat) (a0 a1:Array Value):ansV prog (mkΓ []) N Tryd.f47 [] [.g a0 50,.g a1 50] []=(bif ((num a0 0) != (num a1 0)) then (some (.a (.b (false)),.none,true))
  else (bif ((num a0 1) != (num a1 1)) then (some (.a (.b (false)),.none,true))
   else (some (.a (.b (true)),.none,true)))):=by kernel_rfl
theorem s_laws_eqFind_main (a0 a1:Array Value) (h_a0:WT prog 50 a0) (h_a1:WT prog 50 a1) (hg:(true)=true):ansV prog (mkΓ []) 1000 Tryd.f47 [] [.g a0 50,.g a1 50] []=some (.a (.b (sameB a0 a1)),.none,true):=by
 have hz:a0.size=2:=by rw [h_a0.layLen];kernel_rfl
 have hy:a1.size=2:=by rw [h_a1.layLen];kernel_rfl
 refine (s_laws_eqFind_ans 1000 a0 a1).trans ?_
 cases hb:sameB a0 a1
 ·have hne:=sameB_false.1 hb
  cases h0:(num a0 0 != num a1 0)
  ·skip
   cases h1:(num a0 1 != num a1 1)
   ·skip
    exfalso
    refine hne (arr_ext fun i=> ?_)
    by_cases c0:i=0
    ·subst c0
     rw [(h_a0.int (k:=.i8) (o:=0) (by kernel_rfl)).1,(h_a1.int (k:=.i8) (o:=0) (by kernel_rfl)).1,num_eq h0]
    by_cases c1:i=1
    ·subst c1
     rw [(h_a0.int (k:=.i8) (o:=1) (by kernel_rfl)).1,(h_a1.int (k:=.i8) (o:=1) (by kernel_rfl)).1,num_eq h1]
    rw [Array.getElem?_eq_none (by omega),Array.getElem?_eq_none (by omega)]
   ·rfl
  ·rfl
 ·rw [sameB_iff.1 hb]
  simp only [bne_self_eq_false,cond_false,sameB_self,Bool.not_true]
noncomputable def s_laws_eqFind_con:Con:=fun args h=>match args,h with
 | [.g a0 50,.g a1 50],[]=>some (.a (.b (sameB a0 a1)),.none,true)
 | _,_=>none
theorem s_laws_eqFind_enter:EntX prog 47:=entX_ok (fn:=Tryd.f47) (by kernel_rfl) (by kernel_rfl) (by kernel_rfl)
theorem s_laws_eqFind_ok:ConOkX (md F) prog 47 s_laws_eqFind_con:=(ansX_ok (N:=1000) (by kernel_rfl) mkΓ_nilX (fn:=Tryd.f47) (by kernel_rfl) (by kernel_rfl) []).of (by
 intro ρ h w args vals r e hA hH hr
 unfold s_laws_eqFind_con at hr
 split at hr
 ·rename_i a0 a1
  obtain ⟨rfl,hg⟩:=Prod.mk.inj (Option.some.inj hr)
  obtain ⟨rfl,hg2⟩:=Prod.mk.inj hg
  exact s_laws_eqFind_main a0 a1 (hA.wt 0 rfl) (hA.wt 1 rfl) hg2
 ·cases hr)
noncomputable def laws_eqFindS_t0 (b_a0:Option (Option Addr)) (n_a0:Nat) (a0:Array Value) (b_a1:Option (Option Addr)) (n_a1:Nat) (a1:Array Value):St:=(⟨.a (.l 0) :: .a (.l 1) :: .a (.u) :: .a (.u) :: .a (.b (false)) :: .a (.i .i64 (0:Int)) :: .a (.l 0) :: .a (.i .i64 (n_a0:Int)) :: .a (.l 1) :: .a (.i .i64 (n_a1:Int)) :: .a (.b (((n_a0:Int) != (n_a1:Int))))::us 16 ([]),[.sl (.came b_a0) n_a0 a0 50,.sl (.came b_a1) n_a1 a1 50],[]⟩:St)
noncomputable def laws_eqFindS_e0:Bool×Int→LS
 | (y0_4,y0_5)=>([.a (.b (y0_4)),.a (.i .i64 (y0_5))],[])
noncomputable def laws_eqFindS_x0:(Stp (Bool×Int) (Bool×Int))→Exit×LS
 | .more t=>(.ret,laws_eqFindS_e0 t)
 | .done t=>((.exit 0),laws_eqFindS_e0 t)
noncomputable def laws_eqFindS_g0 (P : Program) (b_a0 : Option (Option Addr)) (n_a0 : Nat) (a0 : Array Value) (b_a1 : Option (Option Addr)) (n_a1 : Nat) (a1 : Array Value) : Bool × Int → Option (Stp (Bool × Int) (Stp (Bool × Int) (Bool × Int)))
 | (y0_4, y0_5) => bif decide (y0_5 < (n_a0 : Int)) then (bif (decide (0 ≤ y0_5) && decide (y0_5 < (n_a0 : Int))) then (bif (decide (0 ≤ y0_5) && decide (y0_5 < (n_a1 : Int))) then (bif (!(sameB (a0.extract ((y0_5).toNat * 2) (((y0_5).toNat * 2) + 2)) (a1.extract ((y0_5).toNat * 2) (((y0_5).toNat * 2) + 2)))) then (some (.done (.more (false, y0_5))))
     else (some (.more (y0_4, (i64.wrap (y0_5 + (1 : Int)))))))
    else (none))
   else (none))
  else (some (.done (.done (y0_4, y0_5))))
theorem laws_eqFindS_s0 (N:Nat) (b_a0:Option (Option Addr)) (n_a0:Nat) (a0:Array Value) (b_a1:Option (Option Addr)) (n_a1:Nat) (a1:Array Value):∀ t:Bool×Int,stepV prog (mkΓ [(47,con s_laws_eqFind_con)]) N (cAt (codeOf Tryd.f32) [1,1,0,1,0,0]) (pAt (mkPlan (codeOf Tryd.f32) [([4,5],[])]).1 [1,1,0,1,0]) [4,5] [] (laws_eqFindS_t0 b_a0 n_a0 a0 b_a1 n_a1 a1) (laws_eqFindS_e0 t)=mapS laws_eqFindS_e0 laws_eqFindS_x0 (laws_eqFindS_g0 prog b_a0 n_a0 a0 b_a1 n_a1 a1 t):=by
 rintro ⟨y0_4,y0_5⟩
 refine Eq.trans (b:=(bif decide (y0_5<(n_a0:Int)) then (bif (decide (0≤y0_5)&&decide (y0_5<(n_a0:Int))) then (bif (decide (0≤y0_5)&&decide (y0_5<(n_a1:Int))) then (bif (!(sameB (a0.extract ((y0_5).toNat*2) (((y0_5).toNat*2)+2)) (a1.extract ((y0_5).toNat*2) (((y0_5).toNat*2)+2)))) then (some (.done (.ret,([.a (.b (false)),.a (.i .i64 (y0_5))],[]))))
     else (some (.more ([.a (.b (y0_4)),.a (.i .i64 (i64.wrap (y0_5+(1:Int))))],[]))))
    else (none))
   else (none))
  else (some (.done ((.exit 0),([.a (.b (y0_4)),.a (.i .i64 (y0_5))],[])))))) (by kernel_rfl) ?_
 simp only [laws_eqFindS_g0,mapS_cond,mapS_more,mapS_done,mapS_none,laws_eqFindS_e0,laws_eqFindS_x0]
noncomputable def laws_eqFindS_k0_0 (P:Program) (N:Nat) (b_a0:Option (Option Addr)) (n_a0:Nat) (a0:Array Value) (b_a1:Option (Option Addr)) (n_a1:Nat) (a1:Array Value) (z0_4:Bool) (z0_5:Int):Option (SV×Eff×Bool):=some (.a (.b (z0_4)),.none,true)
theorem laws_eqFindS_k0_0_eq (N:Nat) (b_a0:Option (Option Addr)) (n_a0:Nat) (a0:Array Value) (b_a1:Option (Option Addr)) (n_a1:Nat) (a1:Array Value) (z0_4:Bool) (z0_5:Int):(kBlock 0 (kSeq (veC prog (mkΓ [(47,con s_laws_eqFind_con)]) N (cAt (codeOf Tryd.f32) [1,1,1]) (pAt (mkPlan (codeOf Tryd.f32) [([4,5],[])]).1 [1,1,1]) (SV×Eff×Bool)) (finK prog [.sl (.came b_a0) n_a0 a0 50,.sl (.came b_a1) n_a1 a1 50] [.tmp 4]))) .ret (left (writes (cAt (codeOf Tryd.f32) [1,1,0,1,0,0])) [4,5] [] (laws_eqFindS_t0 b_a0 n_a0 a0 b_a1 n_a1 a1) ([.a (.b (z0_4)),.a (.i .i64 (z0_5))],[]))=laws_eqFindS_k0_0 prog N b_a0 n_a0 a0 b_a1 n_a1 a1 z0_4 z0_5:=by
 refine Eq.trans (b:=(some (.a (.b (z0_4)),.none,true))) (by kernel_rfl) ?_
 rfl
noncomputable def laws_eqFindS_k0_1 (P:Program) (N:Nat) (b_a0:Option (Option Addr)) (n_a0:Nat) (a0:Array Value) (b_a1:Option (Option Addr)) (n_a1:Nat) (a1:Array Value) (z0_4:Bool) (z0_5:Int):Option (SV×Eff×Bool):=some (.a (.b (true)),.none,true)
theorem laws_eqFindS_k0_1_eq (N:Nat) (b_a0:Option (Option Addr)) (n_a0:Nat) (a0:Array Value) (b_a1:Option (Option Addr)) (n_a1:Nat) (a1:Array Value) (z0_4:Bool) (z0_5:Int):(kBlock 0 (kSeq (veC prog (mkΓ [(47,con s_laws_eqFind_con)]) N (cAt (codeOf Tryd.f32) [1,1,1]) (pAt (mkPlan (codeOf Tryd.f32) [([4,5],[])]).1 [1,1,1]) (SV×Eff×Bool)) (finK prog [.sl (.came b_a0) n_a0 a0 50,.sl (.came b_a1) n_a1 a1 50] [.tmp 4]))) (.exit 0) (left (writes (cAt (codeOf Tryd.f32) [1,1,0,1,0,0])) [4,5] [] (laws_eqFindS_t0 b_a0 n_a0 a0 b_a1 n_a1 a1) ([.a (.b (z0_4)),.a (.i .i64 (z0_5))],[]))=laws_eqFindS_k0_1 prog N b_a0 n_a0 a0 b_a1 n_a1 a1 z0_4 z0_5:=by
 refine Eq.trans (b:=(some (.a (.b (true)),.none,true))) (by kernel_rfl) ?_
 rfl
theorem laws_eqFindS_n0 (N:Nat) (b_a0:Option (Option Addr)) (n_a0:Nat) (a0:Array Value) (b_a1:Option (Option Addr)) (n_a1:Nat) (a1:Array Value):bindX (iterO (stepV prog (mkΓ [(47,con s_laws_eqFind_con)]) N (cAt (codeOf Tryd.f32) [1,1,0,1,0,0]) (pAt (mkPlan (codeOf Tryd.f32) [([4,5],[])]).1 [1,1,0,1,0]) [4,5] [] (laws_eqFindS_t0 b_a0 n_a0 a0 b_a1 n_a1 a1)) N ([.a (.b (false)),.a (.i .i64 (0:Int))],[])) (fun e s=>(kBlock 0 (kSeq (veC prog (mkΓ [(47,con s_laws_eqFind_con)]) N (cAt (codeOf Tryd.f32) [1,1,1]) (pAt (mkPlan (codeOf Tryd.f32) [([4,5],[])]).1 [1,1,1]) (SV×Eff×Bool)) (finK prog [.sl (.came b_a0) n_a0 a0 50,.sl (.came b_a1) n_a1 a1 50] [.tmp 4]))) e (left (writes (cAt (codeOf Tryd.f32) [1,1,0,1,0,0])) [4,5] [] (laws_eqFindS_t0 b_a0 n_a0 a0 b_a1 n_a1 a1) s))=nodeX (iterO (laws_eqFindS_g0 prog b_a0 n_a0 a0 b_a1 n_a1 a1) N (false,(0:Int))) (st2 (fun x=>laws_eqFindS_k0_0 prog N b_a0 n_a0 a0 b_a1 n_a1 a1 x.1 x.2) (fun x=>laws_eqFindS_k0_1 prog N b_a0 n_a0 a0 b_a1 n_a1 a1 x.1 x.2)):=by
 refine loop_node laws_eqFindS_e0 laws_eqFindS_x0 _ _ (laws_eqFindS_s0 N b_a0 n_a0 a0 b_a1 n_a1 a1) N (false,(0:Int)) _ _ ?_
 intro x
 cases x with
 | more x=>exact laws_eqFindS_k0_0_eq N b_a0 n_a0 a0 b_a1 n_a1 a1 x.1 x.2
 | done x=>exact laws_eqFindS_k0_1_eq N b_a0 n_a0 a0 b_a1 n_a1 a1 x.1 x.2
theorem laws_eqFindS_ans (N:Nat) (b_a0:Option (Option Addr)) (n_a0:Nat) (a0:Array Value) (b_a1:Option (Option Addr)) (n_a1:Nat) (a1:Array Value):ansV prog (mkΓ [(47,con s_laws_eqFind_con)]) N Tryd.f32 [([4,5],[])] [.l 0,.l 1] [.sl (.came b_a0) n_a0 a0 50,.sl (.came b_a1) n_a1 a1 50]=(bif ((n_a0:Int) != (n_a1:Int)) then (some (.a (.b (false)),.none,true))
  else (nodeX (iterO (laws_eqFindS_g0 prog b_a0 n_a0 a0 b_a1 n_a1 a1) N (false,(0:Int))) (st2 (fun x=>laws_eqFindS_k0_0 prog N b_a0 n_a0 a0 b_a1 n_a1 a1 x.1 x.2) (fun x=>laws_eqFindS_k0_1 prog N b_a0 n_a0 a0 b_a1 n_a1 a1 x.1 x.2)))):=by
 refine Eq.trans (b:=(bif ((n_a0:Int) != (n_a1:Int)) then (some (.a (.b (false)),.none,true))
  else (bindX (iterO (stepV prog (mkΓ [(47,con s_laws_eqFind_con)]) N (cAt (codeOf Tryd.f32) [1,1,0,1,0,0]) (pAt (mkPlan (codeOf Tryd.f32) [([4,5],[])]).1 [1,1,0,1,0]) [4,5] [] (laws_eqFindS_t0 b_a0 n_a0 a0 b_a1 n_a1 a1)) N ([.a (.b (false)),.a (.i .i64 (0:Int))],[])) (fun e s=>(kBlock 0 (kSeq (veC prog (mkΓ [(47,con s_laws_eqFind_con)]) N (cAt (codeOf Tryd.f32) [1,1,1]) (pAt (mkPlan (codeOf Tryd.f32) [([4,5],[])]).1 [1,1,1]) (SV×Eff×Bool)) (finK prog [.sl (.came b_a0) n_a0 a0 50,.sl (.came b_a1) n_a1 a1 50] [.tmp 4]))) e (left (writes (cAt (codeOf Tryd.f32) [1,1,0,1,0,0])) [4,5] [] (laws_eqFindS_t0 b_a0 n_a0 a0 b_a1 n_a1 a1) s))))) (by kernel_rfl) ?_
 simp only [laws_eqFindS_n0 N b_a0 n_a0 a0 b_a1 n_a1 a1]
theorem laws_eqFindS_main (b_a0:Option (Option Addr)) (n_a0:Nat) (a0:Array Value) (b_a1:Option (Option Addr)) (n_a1:Nat) (a1:Array Value) (h_a0:a0.size=n_a0*(lay prog 50).length∧(∀ k,k<n_a0→WT prog 50 (a0.extract (k*(lay prog 50).length) (k*(lay prog 50).length+(lay prog 50).length)))∧n_a0≤9223372036854775807) (h_a1:a1.size=n_a1*(lay prog 50).length∧(∀ k,k<n_a1→WT prog 50 (a1.extract (k*(lay prog 50).length) (k*(lay prog 50).length+(lay prog 50).length)))∧n_a1≤9223372036854775807) (hg:(true)=true):ansV prog (mkΓ [(47,con s_laws_eqFind_con)]) 18446744073709551616 Tryd.f32 [([4,5],[])] [.l 0,.l 1] [.sl (.came b_a0) n_a0 a0 50,.sl (.came b_a1) n_a1 a1 50]=some (.a (.b ((decide (n_a0=n_a1)&&sameB a0 a1))),.none,true):=by
 have hm:(lay prog 50).length=2:=by kernel_rfl
 obtain ⟨s1,s2,s3⟩:=h_a0
 obtain ⟨t1,t2,t3⟩:=h_a1
 rw [hm] at s1 s2 t1 t2
 have hq:(lay prog 50)[0]? = some 0:=by kernel_rfl
 refine (laws_eqFindS_ans 18446744073709551616 b_a0 n_a0 a0 b_a1 n_a1 a1).trans ?_
 by_cases hl:n_a0=n_a1
 case neg=>
  rw [decide_eq_false hl,show ((n_a0:Int) != (n_a1:Int))=true from bne_iff_ne.2 (by omega)]
  rfl
 subst hl
 rw [decide_eq_true rfl,show ((n_a0:Int) != (n_a0:Int))=false from bne_self_eq_false _]
 simp only [cond_false,Bool.true_and]
 have hb:sameB a0 a1=true ↔ ∀ k,k<n_a0→(fun k=>sameB (a0.extract (k*2) (k*2+2)) (a1.extract (k*2) (k*2+2))) k=true:=by
  constructor
  ·intro h k hk
   rw [sameB_iff.1 h]
   exact sameB_self _
  ·intro h
   refine sameB_iff.2 ?_
   exact ext_parts (n:=n_a0) (m:=2) (by omega) s1 t1 (fun k hk=>sameB_iff.1 (h k hk))
 refine (iter_first (g:=laws_eqFindS_g0 prog b_a0 n_a0 a0 b_a1 n_a0 a1) (fun k=>(false,(k:Int))) (fun k=>sameB (a0.extract (k*2) (k*2+2)) (a1.extract (k*2) (k*2+2))) n_a0 (N:=18446744073709551616) (xd:=.done (false,(n_a0:Int))) (by omega) (fun k hk hp=>by
  have h1:decide ((k:Int)<(n_a0:Int))=true:=decide_eq_true (by omega)
  have h0:decide (0≤(k:Int))=true:=decide_eq_true (by omega)
  have h3:i64.wrap ((k:Int)+1)=((k+1:Nat):Int):=by rw [IntWalk.i64_in _ (by omega)];omega
  have hp':sameB (a0.extract (k*2) (k*2+2)) (a1.extract (k*2) (k*2+2))=true:=hp
  simp only [laws_eqFindS_g0,h1,h0,Bool.and_self,Int.toNat_natCast,cond_true,h3,hp',Bool.not_true,cond_false]) (by
  have h1:decide ((n_a0:Int)<(n_a0:Int))=false:=decide_eq_false (by omega)
  simp only [laws_eqFindS_g0,h1,cond_false]) (sameB a0 a1) hb (some (.a (.b true),.none,true)) (some (.a (.b false),.none,true)) rfl (fun k hk hp=>by
  refine ⟨.more (false,(k:Int)), ?_,rfl⟩
  have h1:decide ((k:Int)<(n_a0:Int))=true:=decide_eq_true (by omega)
  have h0:decide (0≤(k:Int))=true:=decide_eq_true (by omega)
  have hp':sameB (a0.extract (k*2) (k*2+2)) (a1.extract (k*2) (k*2+2))=false:=hp
  simp only [laws_eqFindS_g0,h1,h0,Bool.and_self,Int.toNat_natCast,cond_true,hp',Bool.not_false])).trans ?_
 cases sameB a0 a1<;>rfl
noncomputable def laws_eqFindS_con:Con:=fun args h=>match args,h with
 | [.l 0,.l 1],[.sl (.came b_a0) n_a0 a0 50,.sl (.came b_a1) n_a1 a1 50]=>some (.a (.b ((decide (n_a0=n_a1)&&sameB a0 a1))),.none,true)
 | _,_=>none
theorem laws_eqFindS_enter:EntX prog 32:=entX_ok (fn:=Tryd.f32) (by kernel_rfl) (by kernel_rfl) (by kernel_rfl)
theorem laws_eqFindS_ok:ConOkX (md F) prog 32 laws_eqFindS_con:=(ansX_ok (N:=18446744073709551616) (by kernel_rfl) (mkΓ_consX (con_okX s_laws_eqFind_ok) s_laws_eqFind_enter mkΓ_nilX) (fn:=Tryd.f32) (by kernel_rfl) (by kernel_rfl) [([4,5],[])]).of (by
 intro ρ h w args vals r e hA hH hr
 unfold laws_eqFindS_con at hr
 split at hr
 ·rename_i b_a0 n_a0 a0 b_a1 n_a1 a1
  obtain ⟨rfl,hg⟩:=Prod.mk.inj (Option.some.inj hr)
  obtain ⟨rfl,hg2⟩:=Prod.mk.inj hg
  exact laws_eqFindS_main b_a0 n_a0 a0 b_a1 n_a1 a1 (hH.slw 0 rfl) (hH.slw 1 rfl) hg2
 ·cases hr)
noncomputable def laws_markFindS_t0 (a1:Int) (n_a0:Nat) (a0:Array Value):St:=(⟨.a (.l 0) :: .a (.i .i64 (a1)) :: .a (.u) :: .a (.u) :: .a (.i .i64 (0:Int)) :: .a (.i .i64 (0:Int))::us 23 ([]),[.sl .lent n_a0 a0 50],[]⟩:St)
noncomputable def laws_markFindS_e0 (n_a0:Nat):Int×Int×Array Value→LS
 | (y0_1,y0_5,r0_0)=>([.a (.i .i64 (y0_1)),.a (.i .i64 (y0_5))],[.sl .lent n_a0 r0_0 50])
noncomputable def laws_markFindS_x0 (n_a0:Nat):Int×Int×Array Value→Exit×LS
 | t=>((.exit 0),(laws_markFindS_e0 n_a0) t)
noncomputable def laws_markFindS_g0 (P : Program) (a1 : Int) (n_a0 : Nat) (a0 : Array Value) : Int × Int × Array Value → Option (Stp (Int × Int × Array Value) (Int × Int × Array Value))
 | (y0_1, y0_5, r0_0) => bif decide (y0_5 < (n_a0 : Int)) then (bif (decide (0 ≤ y0_5) && decide (y0_5 < (n_a0 : Int))) then (bif (decide (0 ≤ y0_5) && decide (y0_5 < (n_a0 : Int))) then (some (.more ((i64.wrap ((i64.wrap (y0_1 + (1 : Int))) + (1 : Int))), (i64.wrap (y0_5 + (1 : Int))), ((r0_0.setIfInBounds (((y0_5).toNat * 2) + 0) (.int .i8 (IntKind.i8.wrap y0_1))).setIfInBounds (((y0_5).toNat * 2) + 1) (.int .i8 (IntKind.i8.wrap (i64.wrap (y0_1 + (1 : Int)))))))))
    else (none))
   else (none))
  else (some (.done (y0_1, y0_5, r0_0)))
theorem laws_markFindS_s0 (N:Nat) (a1:Int) (n_a0:Nat) (a0:Array Value):∀ t:Int×Int×Array Value,stepV prog (mkΓ []) N (cAt (codeOf Tryd.f33) [1,0,1,0,0]) (pAt (mkPlan (codeOf Tryd.f33) [([1,5],[0])]).1 [1,0,1,0]) [1,5] [0] (laws_markFindS_t0 a1 n_a0 a0) ((laws_markFindS_e0 n_a0) t)=mapS (laws_markFindS_e0 n_a0) (laws_markFindS_x0 n_a0) (laws_markFindS_g0 prog a1 n_a0 a0 t):=by
 rintro ⟨y0_1,y0_5,r0_0⟩
 refine Eq.trans (b:=(bif decide (y0_5<(n_a0:Int)) then (bif (decide (0≤y0_5)&&decide (y0_5<(n_a0:Int))) then (bif (decide (0≤y0_5)&&decide (y0_5<(n_a0:Int))) then (some (.more ([.a (.i .i64 (i64.wrap ((i64.wrap (y0_1+(1:Int)))+(1:Int)))),.a (.i .i64 (i64.wrap (y0_5+(1:Int))))],[.sl .lent n_a0 ((r0_0.setIfInBounds (((y0_5).toNat*2)+0) (.int .i8 (IntKind.i8.wrap y0_1))).setIfInBounds (((y0_5).toNat*2)+1) (.int .i8 (IntKind.i8.wrap (i64.wrap (y0_1+(1:Int)))))) 50])))
    else (none))
   else (none))
  else (some (.done ((.exit 0),([.a (.i .i64 (y0_1)),.a (.i .i64 (y0_5))],[.sl .lent n_a0 r0_0 50])))))) (by kernel_rfl) ?_
 simp only [laws_markFindS_g0,mapS_cond,mapS_more,mapS_done,mapS_none,laws_markFindS_e0,laws_markFindS_x0]
noncomputable def laws_markFindS_k0_0 (P:Program) (N:Nat) (a1:Int) (n_a0:Nat) (a0:Array Value) (z0_1:Int) (z0_5:Int) (q0_0:Array Value):Option (SV×Eff×Bool):=bif (Nat.blt 0 n_a0) then (some (.a (.i .i64 (z0_1)),.set 0 (.sl .lent n_a0 q0_0 50),true))
  else (none)
theorem laws_markFindS_k0_0_eq (N:Nat) (a1:Int) (n_a0:Nat) (a0:Array Value) (z0_1:Int) (z0_5:Int) (q0_0:Array Value):(kBlock 0 (kSeq (veC prog (mkΓ []) N (cAt (codeOf Tryd.f33) [1,1]) (pAt (mkPlan (codeOf Tryd.f33) [([1,5],[0])]).1 [1,1]) (SV×Eff×Bool)) (finK prog [.sl .lent n_a0 a0 50] [.tmp 4]))) (.exit 0) (left (writes (cAt (codeOf Tryd.f33) [1,0,1,0,0])) [1,5] [0] (laws_markFindS_t0 a1 n_a0 a0) ([.a (.i .i64 (z0_1)),.a (.i .i64 (z0_5))],[.sl .lent n_a0 q0_0 50]))=laws_markFindS_k0_0 prog N a1 n_a0 a0 z0_1 z0_5 q0_0:=by
 refine Eq.trans (b:=(bif (Nat.blt 0 n_a0) then (some (.a (.i .i64 (z0_1)),.set 0 (.sl .lent n_a0 q0_0 50),true))
  else (none))) (by kernel_rfl) ?_
 rfl
theorem laws_markFindS_n0 (N:Nat) (a1:Int) (n_a0:Nat) (a0:Array Value):bindX (iterO (stepV prog (mkΓ []) N (cAt (codeOf Tryd.f33) [1,0,1,0,0]) (pAt (mkPlan (codeOf Tryd.f33) [([1,5],[0])]).1 [1,0,1,0]) [1,5] [0] (laws_markFindS_t0 a1 n_a0 a0)) N ([.a (.i .i64 (a1)),.a (.i .i64 (0:Int))],[.sl .lent n_a0 a0 50])) (fun e s=>(kBlock 0 (kSeq (veC prog (mkΓ []) N (cAt (codeOf Tryd.f33) [1,1]) (pAt (mkPlan (codeOf Tryd.f33) [([1,5],[0])]).1 [1,1]) (SV×Eff×Bool)) (finK prog [.sl .lent n_a0 a0 50] [.tmp 4]))) e (left (writes (cAt (codeOf Tryd.f33) [1,0,1,0,0])) [1,5] [0] (laws_markFindS_t0 a1 n_a0 a0) s))=nodeX (iterO (laws_markFindS_g0 prog a1 n_a0 a0) N (a1,(0:Int),a0)) (fun x=>laws_markFindS_k0_0 prog N a1 n_a0 a0 x.1 x.2.1 x.2.2):=by
 refine loop_node (laws_markFindS_e0 n_a0) (laws_markFindS_x0 n_a0) _ _ (laws_markFindS_s0 N a1 n_a0 a0) N (a1,(0:Int),a0) _ _ ?_
 intro x;exact laws_markFindS_k0_0_eq N a1 n_a0 a0 x.1 x.2.1 x.2.2
theorem laws_markFindS_ans (N:Nat) (a1:Int) (n_a0:Nat) (a0:Array Value):ansV prog (mkΓ []) N Tryd.f33 [([1,5],[0])] [.l 0,.i .i64 (a1)] [.sl .lent n_a0 a0 50]=(nodeX (iterO (laws_markFindS_g0 prog a1 n_a0 a0) N (a1,(0:Int),a0)) (fun x=>laws_markFindS_k0_0 prog N a1 n_a0 a0 x.1 x.2.1 x.2.2)):=by
 refine Eq.trans (b:=(bindX (iterO (stepV prog (mkΓ []) N (cAt (codeOf Tryd.f33) [1,0,1,0,0]) (pAt (mkPlan (codeOf Tryd.f33) [([1,5],[0])]).1 [1,0,1,0]) [1,5] [0] (laws_markFindS_t0 a1 n_a0 a0)) N ([.a (.i .i64 (a1)),.a (.i .i64 (0:Int))],[.sl .lent n_a0 a0 50])) (fun e s=>(kBlock 0 (kSeq (veC prog (mkΓ []) N (cAt (codeOf Tryd.f33) [1,1]) (pAt (mkPlan (codeOf Tryd.f33) [([1,5],[0])]).1 [1,1]) (SV×Eff×Bool)) (finK prog [.sl .lent n_a0 a0 50] [.tmp 4]))) e (left (writes (cAt (codeOf Tryd.f33) [1,0,1,0,0])) [1,5] [0] (laws_markFindS_t0 a1 n_a0 a0) s)))) (by kernel_rfl) ?_
 simp only [laws_markFindS_n0 N a1 n_a0 a0]
theorem laws_markFindS_main0 (a1:Int) (n_a0:Nat) (a0:Array Value) (h_a1:i64.min≤a1∧a1≤i64.max) (h_a0:a0.size=n_a0*(lay prog 50).length∧(∀ k,k<n_a0→WT prog 50 (a0.extract (k*(lay prog 50).length) (k*(lay prog 50).length+(lay prog 50).length)))∧n_a0≤9223372036854775807) (hc0:(Nat.beq n_a0 0)=false) (hg:(((Nat.ble n_a0 2000000)&&(decide (0≤a1)&&decide (a1≤1000000))))=true):ansV prog (mkΓ []) 18446744073709551616 Tryd.f33 [([1,5],[0])] [.l 0,.i .i64 (a1)] [.sl .lent n_a0 a0 50]=some (.a (.i .i64 (a1+((n_a0*2:Nat):Int))),.set 0 (.sl .lent n_a0 (mk8 (n_a0*2) a1) 50),true):=by
 rw [Bool.and_eq_true,Bool.and_eq_true] at hg
 have hn:n_a0≤2000000:=Nat.le_of_ble_eq_true hg.1
 have hk0:0≤a1∧a1≤1000000:=⟨of_decide_eq_true hg.2.1,of_decide_eq_true hg.2.2⟩
 have hm:(lay prog 50).length=2:=by kernel_rfl
 obtain ⟨s1,-,-⟩:=h_a0
 rw [hm] at s1
 have hs:(mk8 (n_a0*2) a1).size=a0.size:=by rw [mk8_size,s1]
 have hpos:Nat.blt 0 n_a0=true:=by
  have:n_a0≠0:=fun h=>by rw [h] at hc0;cases hc0
  simp [Nat.blt];omega
 have h:=iter_all (g:=laws_markFindS_g0 prog a1 n_a0 a0) (fun i=>(a1+((i*2:Nat):Int),(i:Int),upto (mk8 (n_a0*2) a1) a0 (i*2))) (m:=n_a0) (x:=(a1+((n_a0*2:Nat):Int),(n_a0:Int),upto (mk8 (n_a0*2) a1) a0 (n_a0*2))) (N:=18446744073709551616) (fun i hi=>by
  have h1:decide ((i:Int)<(n_a0:Int))=true:=decide_eq_true (by omega)
  have h2:decide (0≤(i:Int))=true:=decide_eq_true (by omega)
  have h3:i64.wrap (a1+((i*2:Nat):Int)+1)=a1+((i*2+1:Nat):Int):=by rw [IntWalk.i64_in _ (by omega)];omega
  have h4:i64.wrap (a1+((i*2+1:Nat):Int)+1)=a1+(((i+1)*2:Nat):Int):=by rw [IntWalk.i64_in _ (by omega)];omega
  have h5:i64.wrap ((i:Int)+1)=((i+1:Nat):Int):=by rw [IntWalk.i64_in _ (by omega)];omega
  have h6:(upto (mk8 (n_a0*2) a1) a0 (i*2)).setIfInBounds (i*2+0) (.int .i8 (IntKind.i8.wrap (a1+((i*2:Nat):Int))))=upto (mk8 (n_a0*2) a1) a0 (i*2+1):=upto_set hs (mk8_at (by omega))
  have h7:(upto (mk8 (n_a0*2) a1) a0 (i*2+1)).setIfInBounds (i*2+1) (.int .i8 (IntKind.i8.wrap (a1+((i*2+1:Nat):Int))))=upto (mk8 (n_a0*2) a1) a0 ((i+1)*2):=by
   rw [show (i+1)*2=i*2+1+1 by omega]
   exact upto_set hs (mk8_at (by omega))
  simp only [laws_markFindS_g0,h1,h2,h3,h4,h5,h6,h7,Int.toNat_natCast,Bool.and_self,cond_true]) (by
  have h1:decide ((n_a0:Int)<(n_a0:Int))=false:=decide_eq_false (by omega)
  simp only [laws_markFindS_g0,h1,cond_false]) (by omega)
 refine (laws_markFindS_ans 18446744073709551616 a1 n_a0 a0).trans ?_
 have hz:upto (mk8 (n_a0*2) a1) a0 0=a0:=upto_zero hs
 have hl:upto (mk8 (n_a0*2) a1) a0 (n_a0*2)=mk8 (n_a0*2) a1:=upto_all hs (mk8_size _ _)
 have h0:a1+(((0*2:Nat)):Int)=a1:=by omega
 have h':iterO (laws_markFindS_g0 prog a1 n_a0 a0) 18446744073709551616 (a1,(0:Int),a0)=some (a1+((n_a0*2:Nat):Int),(n_a0:Int),mk8 (n_a0*2) a1):=by
  have h2:=h
  simp only [Nat.zero_mul,hz,hl] at h2
  have e:a1+((0:Nat):Int)=a1:=by omega
  rw [e] at h2
  exact h2
 rw [h']
 simp only [nodeX,laws_markFindS_k0_0,hpos,cond_true]
theorem laws_markFindS_main1 (a1:Int) (n_a0:Nat) (a0:Array Value) (h_a1:i64.min≤a1∧a1≤i64.max) (h_a0:a0.size=n_a0*(lay prog 50).length∧(∀ k,k<n_a0→WT prog 50 (a0.extract (k*(lay prog 50).length) (k*(lay prog 50).length+(lay prog 50).length)))∧n_a0≤9223372036854775807) (hc0:(Nat.beq n_a0 0)=true) (hg:(true)=true):ansV prog (mkΓ []) 1000 Tryd.f33 [([1,5],[])] [.l 0,.i .i64 (a1)] [.sl .lent n_a0 a0 50]=some (.a (.i .i64 (a1)),.none,true):=by
 obtain rfl:n_a0=0:=Nat.eq_of_beq_eq_true hc0
 kernel_rfl
noncomputable def laws_markFindS_scon:SCon:=fun args h=>match args,h with
 | [.l 0,.i .i64 a1],[.sl .lent n_a0 a0 50]=>.two (Nat.beq n_a0 0) (.one (some (.a (.i .i64 (a1)),.none,true))) (.one (some (.a (.i .i64 (a1+((n_a0*2:Nat):Int))),.set 0 (.sl .lent n_a0 (mk8 (n_a0*2) a1) 50),((Nat.ble n_a0 2000000)&&(decide (0≤a1)&&decide (a1≤1000000))))))
 | _,_=>.one none
theorem laws_markFindS_enter:EntX prog 33:=entX_ok (fn:=Tryd.f33) (by kernel_rfl) (by kernel_rfl) (by kernel_rfl)
theorem laws_markFindS_sok:ConOkX (md F) prog 33 (fun args h=>wayRes (laws_markFindS_scon args h)):=by
 intro ρ h w args vals r e hn hr hA hH
 dsimp only at hr
 unfold laws_markFindS_scon at hr
 split at hr
 ·rename_i a1 n_a0 a0
  simp only [wayRes] at hr
  cases hc0:(Nat.beq n_a0 0)
  ·rw [hc0] at hr
   simp only [wayRes,cond_true,cond_false] at hr
   obtain ⟨rfl,hg⟩:=Prod.mk.inj (Option.some.inj hr)
   obtain ⟨rfl,hg2⟩:=Prod.mk.inj hg
   exact ((ansX_ok (N:=18446744073709551616) (by kernel_rfl) mkΓ_nilX (fn:=Tryd.f33) (by kernel_rfl) (by kernel_rfl) [([1,5],[0])])) ρ _ w _ vals _ _ hn ((laws_markFindS_main0 a1 n_a0 a0 (hA.rng 1 rfl) (hH.slw 0 rfl) hc0 hg2)) hA hH
  ·rw [hc0] at hr
   simp only [wayRes,cond_true,cond_false] at hr
   obtain ⟨rfl,hg⟩:=Prod.mk.inj (Option.some.inj hr)
   obtain ⟨rfl,hg2⟩:=Prod.mk.inj hg
   exact ((ansX_ok (N:=1000) (by kernel_rfl) mkΓ_nilX (fn:=Tryd.f33) (by kernel_rfl) (by kernel_rfl) [([1,5],[])])) ρ _ w _ vals _ _ hn ((laws_markFindS_main1 a1 n_a0 a0 (hA.rng 1 rfl) (hH.slw 0 rfl) hc0 hg2)) hA hH
 ·simp only [wayRes] at hr
  cases hr
theorem laws_szFindS_ans (N:Nat) (a1:Int) (b_a0:Option (Option Addr)) (n_a0:Nat) (a0:Array Value):ansV prog (mkΓ []) N Tryd.f27 [] [.l 0,.i .i64 (a1)] [.sl (.came b_a0) n_a0 a0 47]=(bif decide ((i64.wrap (a1 - (n_a0:Int)))<(0:Int)) then (some (.a (.i .i64 (-1:Int)),.none,true))
  else (some (.a (.i .i64 (i64.wrap (a1 - (n_a0:Int)))),.none,true))):=by kernel_rfl
noncomputable def laws_szFindS_v0 (a1:Int) (b_a0:Option (Option Addr)) (n_a0:Nat) (a0:Array Value):Int:=(bif decide ((i64.wrap (a1 - (n_a0:Int)))<(0:Int)) then (-1:Int) else (i64.wrap (a1 - (n_a0:Int))))
theorem laws_szFindS_main (a1:Int) (b_a0:Option (Option Addr)) (n_a0:Nat) (a0:Array Value) (h_a1:i64.min≤a1∧a1≤i64.max) (h_a0:a0.size=n_a0*(lay prog 47).length∧(∀ k,k<n_a0→WT prog 47 (a0.extract (k*(lay prog 47).length) (k*(lay prog 47).length+(lay prog 47).length)))∧n_a0≤9223372036854775807) (hg:(true)=true):ansV prog (mkΓ []) 1000 Tryd.f27 [] [.l 0,.i .i64 (a1)] [.sl (.came b_a0) n_a0 a0 47]=some (.a (.i .i64 (laws_szFindS_v0 a1 b_a0 n_a0 a0)),.none,true):=by
 refine (laws_szFindS_ans 1000 a1 b_a0 n_a0 a0).trans ?_
 unfold laws_szFindS_v0
 revert hg
 generalize (decide ((i64.wrap (a1 - (n_a0:Int)))<(0:Int)))=b2
 intro hg
 cases b2
 ·skip
  first | (simp only [cond_true,cond_false,Bool.and_true,Bool.true_and,Bool.and_false,Bool.false_and];done) | rfl | exact (nomatch (hg:false=true))
 ·skip
  first | (simp only [cond_true,cond_false,Bool.and_true,Bool.true_and,Bool.and_false,Bool.false_and];done) | rfl | exact (nomatch (hg:false=true))
noncomputable def laws_szFindS_con:Con:=fun args h=>match args,h with
 | [.l 0,.i .i64 a1],[.sl (.came b_a0) n_a0 a0 47]=>some (.a (.i .i64 (laws_szFindS_v0 a1 b_a0 n_a0 a0)),.none,true)
 | _,_=>none
theorem laws_szFindS_enter:EntX prog 27:=entX_ok (fn:=Tryd.f27) (by kernel_rfl) (by kernel_rfl) (by kernel_rfl)
theorem laws_szFindS_ok:ConOkX (md F) prog 27 laws_szFindS_con:=(ansX_ok (N:=1000) (by kernel_rfl) mkΓ_nilX (fn:=Tryd.f27) (by kernel_rfl) (by kernel_rfl) []).of (by
 intro ρ h w args vals r e hA hH hr
 unfold laws_szFindS_con at hr
 split at hr
 ·rename_i a1 b_a0 n_a0 a0
  obtain ⟨rfl,hg⟩:=Prod.mk.inj (Option.some.inj hr)
  obtain ⟨rfl,hg2⟩:=Prod.mk.inj hg
  exact laws_szFindS_main a1 b_a0 n_a0 a0 (hA.rng 1 rfl) (hH.slw 0 rfl) hg2
 ·cases hr)
end
end Go.Proofs.YtphmhgdedoeaeaaDoor
