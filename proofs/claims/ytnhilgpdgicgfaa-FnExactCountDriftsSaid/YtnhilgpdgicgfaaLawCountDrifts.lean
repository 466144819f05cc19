/- For every sea, cell, tide, hours, seed and number of bottles spec and program count alike where they end. -/
import Derived.Test.YtnhilgpdgicgfaaRows
import Derived.Test.YtnhilgpdgicgfaaChecked
import Derived.Test.YtnhilgpdgicgfaaBdF
import Derived.Test.YtnhilgpdgicgfaaLoX
namespace Go.Proofs.Ytnhilgpdgicgfaa
open Go.ChangeShapes Go.WideShapes Go.ChangeAt Go.RowKit Ve Vc
open IntKind (i64)
set_option linter.unusedVariables false
set_option linter.unusedSimpArgs false
set_option maxRecDepth 100000
noncomputable section
variable {mn:Md}
noncomputable def laws_eqInt64A36_t0 (a0 a1:Array Value):St:=(⟨.a (.g a0 42) :: .a (.g a1 42) :: .a (.w 0) :: .a (.w 1) :: .a (.b (false)) :: .a (.i .i64 (0:Int))::us 11 ([]),[.row a0 42,.row a1 42,.no],[]⟩:St)
noncomputable def laws_eqInt64A36_e0:Bool×Int→LS
 | (y0_4,y0_5)=>([.a (.b (y0_4)),.a (.i .i64 (y0_5))],[])
noncomputable def laws_eqInt64A36_x0:(Stp (Bool×Int) (Bool×Int))→Exit×LS
 | .more t=>(.ret,laws_eqInt64A36_e0 t)
 | .done t=>((.exit 0),laws_eqInt64A36_e0 t)
noncomputable def laws_eqInt64A36_g0 (P : Program) (a0 a1 : Array Value) : Bool × Int → Option (Stp (Bool × Int) (Stp (Bool × Int) (Bool × Int)))
 | (y0_4, y0_5) => bif decide (y0_5 < (36 : Int)) then (bif (decide (0 ≤ y0_5) && decide (y0_5 < 36)) then (bif (decide (0 ≤ y0_5) && decide (y0_5 < 36)) then (bif ((num a0 ((y0_5).toNat * 1)) != (num a1 ((y0_5).toNat * 1))) then (some (.done (.more (false, y0_5))))
     else (some (.more (y0_4, (i64.wrap (y0_5 + (1 : Int)))))))
    else (none))
   else (none))
  else (some (.done (.done (y0_4, y0_5))))
theorem laws_eqInt64A36_s0 (N:Nat) (a0 a1:Array Value):∀ t:Bool×Int,stepV Try.prog (mkΓ []) N (cAt (codeOf Try.f18) [1,0,1,0,0]) (pAt (mkPlan (codeOf Try.f18) [([4,5],[])]).1 [1,0,1,0]) [4,5] [] (laws_eqInt64A36_t0 a0 a1) (laws_eqInt64A36_e0 t)=mapS laws_eqInt64A36_e0 laws_eqInt64A36_x0 (laws_eqInt64A36_g0 Try.prog a0 a1 t):=by
 rintro ⟨y0_4,y0_5⟩
 refine Eq.trans (b:=(bif decide (y0_5<(36:Int)) then (bif (decide (0≤y0_5)&&decide (y0_5<36)) then (bif (decide (0≤y0_5)&&decide (y0_5<36)) then (bif ((num a0 ((y0_5).toNat*1)) != (num a1 ((y0_5).toNat*1))) then (some (.done (.ret,([.a (.b (false)),.a (.i .i64 (y0_5))],[]))))
     else (some (.more ([.a (.b (y0_4)),.a (.i .i64 (i64.wrap (y0_5+(1:Int))))],[]))))
    else (none))
   else (none))
  else (some (.done ((.exit 0),([.a (.b (y0_4)),.a (.i .i64 (y0_5))],[])))))) (by kernel_rfl) ?_
 simp only [laws_eqInt64A36_g0,mapS_cond,mapS_more,mapS_done,mapS_none,laws_eqInt64A36_e0,laws_eqInt64A36_x0]
noncomputable def laws_eqInt64A36_k0_0 (P:Program) (N:Nat) (a0 a1:Array Value) (z0_4:Bool) (z0_5:Int):Option (SV×Eff×Bool):=some (.a (.b (z0_4)),.none,true)
theorem laws_eqInt64A36_k0_0_eq (N:Nat) (a0 a1:Array Value) (z0_4:Bool) (z0_5:Int):(kBlock 0 (kSeq (veC Try.prog (mkΓ []) N (cAt (codeOf Try.f18) [1,1]) (pAt (mkPlan (codeOf Try.f18) [([4,5],[])]).1 [1,1]) (SV×Eff×Bool)) (finK Try.prog [] [.tmp 4]))) .ret (left (writes (cAt (codeOf Try.f18) [1,0,1,0,0])) [4,5] [] (laws_eqInt64A36_t0 a0 a1) ([.a (.b (z0_4)),.a (.i .i64 (z0_5))],[]))=laws_eqInt64A36_k0_0 Try.prog N a0 a1 z0_4 z0_5:=by
 refine Eq.trans (b:=(some (.a (.b (z0_4)),.none,true))) (by kernel_rfl) ?_
 rfl
noncomputable def laws_eqInt64A36_k0_1 (P:Program) (N:Nat) (a0 a1:Array Value) (z0_4:Bool) (z0_5:Int):Option (SV×Eff×Bool):=some (.a (.b (true)),.none,true)
theorem laws_eqInt64A36_k0_1_eq (N:Nat) (a0 a1:Array Value) (z0_4:Bool) (z0_5:Int):(kBlock 0 (kSeq (veC Try.prog (mkΓ []) N (cAt (codeOf Try.f18) [1,1]) (pAt (mkPlan (codeOf Try.f18) [([4,5],[])]).1 [1,1]) (SV×Eff×Bool)) (finK Try.prog [] [.tmp 4]))) (.exit 0) (left (writes (cAt (codeOf Try.f18) [1,0,1,0,0])) [4,5] [] (laws_eqInt64A36_t0 a0 a1) ([.a (.b (z0_4)),.a (.i .i64 (z0_5))],[]))=laws_eqInt64A36_k0_1 Try.prog N a0 a1 z0_4 z0_5:=by
 refine Eq.trans (b:=(some (.a (.b (true)),.none,true))) (by kernel_rfl) ?_
 rfl
theorem laws_eqInt64A36_n0 (N:Nat) (a0 a1:Array Value):bindX (iterO (stepV Try.prog (mkΓ []) N (cAt (codeOf Try.f18) [1,0,1,0,0]) (pAt (mkPlan (codeOf Try.f18) [([4,5],[])]).1 [1,0,1,0]) [4,5] [] (laws_eqInt64A36_t0 a0 a1)) N ([.a (.b (false)),.a (.i .i64 (0:Int))],[])) (fun e s=>(kBlock 0 (kSeq (veC Try.prog (mkΓ []) N (cAt (codeOf Try.f18) [1,1]) (pAt (mkPlan (codeOf Try.f18) [([4,5],[])]).1 [1,1]) (SV×Eff×Bool)) (finK Try.prog [] [.tmp 4]))) e (left (writes (cAt (codeOf Try.f18) [1,0,1,0,0])) [4,5] [] (laws_eqInt64A36_t0 a0 a1) s))=nodeX (iterO (laws_eqInt64A36_g0 Try.prog a0 a1) N (false,(0:Int))) (st2 (fun x=>laws_eqInt64A36_k0_0 Try.prog N a0 a1 x.1 x.2) (fun x=>laws_eqInt64A36_k0_1 Try.prog N a0 a1 x.1 x.2)):=by
 refine loop_node laws_eqInt64A36_e0 laws_eqInt64A36_x0 _ _ (laws_eqInt64A36_s0 N a0 a1) N (false,(0:Int)) _ _ ?_
 intro x
 cases x with
 | more x=>exact laws_eqInt64A36_k0_0_eq N a0 a1 x.1 x.2
 | done x=>exact laws_eqInt64A36_k0_1_eq N a0 a1 x.1 x.2
theorem laws_eqInt64A36_ans (N:Nat) (a0 a1:Array Value):ansV Try.prog (mkΓ []) N Try.f18 [([4,5],[])] [.g a0 42,.g a1 42] []=(nodeX (iterO (laws_eqInt64A36_g0 Try.prog a0 a1) N (false,(0:Int))) (st2 (fun x=>laws_eqInt64A36_k0_0 Try.prog N a0 a1 x.1 x.2) (fun x=>laws_eqInt64A36_k0_1 Try.prog N a0 a1 x.1 x.2))):=by
 refine Eq.trans (b:=(bindX (iterO (stepV Try.prog (mkΓ []) N (cAt (codeOf Try.f18) [1,0,1,0,0]) (pAt (mkPlan (codeOf Try.f18) [([4,5],[])]).1 [1,0,1,0]) [4,5] [] (laws_eqInt64A36_t0 a0 a1)) N ([.a (.b (false)),.a (.i .i64 (0:Int))],[])) (fun e s=>(kBlock 0 (kSeq (veC Try.prog (mkΓ []) N (cAt (codeOf Try.f18) [1,1]) (pAt (mkPlan (codeOf Try.f18) [([4,5],[])]).1 [1,1]) (SV×Eff×Bool)) (finK Try.prog [] [.tmp 4]))) e (left (writes (cAt (codeOf Try.f18) [1,0,1,0,0])) [4,5] [] (laws_eqInt64A36_t0 a0 a1) s)))) (by kernel_rfl) ?_
 simp only [laws_eqInt64A36_n0 N a0 a1]
theorem laws_eqInt64A36_main (a0 a1:Array Value) (h_a0:WT Try.prog 42 a0) (h_a1:WT Try.prog 42 a1) (hg:(true)=true):ansV Try.prog (mkΓ []) 1000 Try.f18 [([4,5],[])] [.g a0 42,.g a1 42] []=some (.a (.b (sameB a0 a1)),.none,true):=by
 have hz:a0.size=36*1:=by rw [h_a0.layLen];kernel_rfl
 have hy:a1.size=36*1:=by rw [h_a1.layLen];kernel_rfl
 have hL:∀ k,k<36→(lay Try.prog 42)[k*1]? = some 3:=by
  intro k hk
  have h:(List.range 36).all (fun k=>(lay Try.prog 42)[k*1]? == some 3)=true:=by kernel_rfl
  exact eq_of_beq (List.all_eq_true.1 h k (List.mem_range.2 hk))
 have hb:sameB a0 a1=true ↔ ∀ k,k<36→(fun k=>(num a0 (k*1)==num a1 (k*1))) k=true:=by
  constructor
  ·intro h k hk
   rw [sameB_iff.1 h]
   exact beq_self_eq_true _
  ·intro h
   refine sameB_iff.2 ?_
   refine ext_parts (n:=36) (m:=1) (by omega) hz hy (fun k hk=> ?_)
   have e0:=(h_a0.int (k:=.i64) (hL k hk)).1
   have e1:=(h_a1.int (k:=.i64) (hL k hk)).1
   rw [eq_of_beq (h k hk)] at e0
   refine arr_ext fun i=> ?_
   rw [Array.getElem?_extract,Array.getElem?_extract,hz,hy]
   by_cases hi:i=0
   ·subst hi;simp only [Nat.add_zero];rw [e0,e1]
   ·rw [if_neg (by omega),if_neg (by omega)]
 refine (laws_eqInt64A36_ans 1000 a0 a1).trans ?_
 refine (iter_first (g:=laws_eqInt64A36_g0 Try.prog a0 a1) (fun k=>(false,(k:Int))) (fun k=>(num a0 (k*1)==num a1 (k*1))) 36 (N:=1000) (xd:=.done (false,((36:Nat):Int))) (by omega) (fun k hk hp=>by
  have h1:decide ((k:Int)<36)=true:=decide_eq_true (by omega)
  have h0:decide (0≤(k:Int))=true:=decide_eq_true (by omega)
  have h3:i64.wrap ((k:Int)+1)=((k+1:Nat):Int):=by rw [IntWalk.i64_in _ (by omega)];omega
  have h4:((k:Int)).toNat=k:=Int.toNat_natCast k
  have hp':(num a0 (k*1)==num a1 (k*1))=true:=hp
  simp only [laws_eqInt64A36_g0,h1,h0,Bool.and_self,h4,cond_true,h3,bne,hp',Bool.not_true,cond_false]) (by
  have h1:decide (((36:Nat):Int)<36)=false:=by decide
  simp only [laws_eqInt64A36_g0,h1,cond_false]) (sameB a0 a1) hb (some (.a (.b true),.none,true)) (some (.a (.b false),.none,true)) rfl (fun k hk hp=>by
  refine ⟨.more (false,(k:Int)), ?_,rfl⟩
  have h1:decide ((k:Int)<36)=true:=decide_eq_true (by omega)
  have h0:decide (0≤(k:Int))=true:=decide_eq_true (by omega)
  have h4:((k:Int)).toNat=k:=Int.toNat_natCast k
  have hp':(num a0 (k*1)==num a1 (k*1))=false:=hp
  simp only [laws_eqInt64A36_g0,h1,h0,Bool.and_self,h4,cond_true,bne,hp',Bool.not_false])).trans ?_
 cases sameB a0 a1<;>rfl
noncomputable def laws_eqInt64A36_con:Con:=fun args h=>match args,h with
 | [.g a0 42,.g a1 42],[]=>some (.a (.b (sameB a0 a1)),.none,true)
 | _,_=>none
theorem laws_eqInt64A36_enter:EntX Try.prog 18:=entX_ok (fn:=Try.f18) (by kernel_rfl) (by kernel_rfl) (by kernel_rfl)
theorem laws_eqInt64A36_ok:ConOkX mn Try.prog 18 laws_eqInt64A36_con:=(ansX_ok (N:=1000) (by kernel_rfl) mkΓ_nilX (fn:=Try.f18) (by kernel_rfl) (by kernel_rfl) [([4,5],[])]).of (by
 intro ρ h w args vals r e hA hH hr
 unfold laws_eqInt64A36_con at hr
 split at hr
 ·rename_i a0 a1
  obtain ⟨rfl,hg⟩:=Prod.mk.inj (Option.some.inj hr)
  obtain ⟨rfl,hg2⟩:=Prod.mk.inj hg
  exact laws_eqInt64A36_main a0 a1 (hA.wt 0 rfl) (hA.wt 1 rfl) hg2
 ·cases hr)
noncomputable def laws_FnExactCountDrifts_G:Cons:=(mkΓ [(11,con laws_toSea_con),(16,con spec_CountDrifts_con),(17,con impl_CountDrifts_con),(18,con laws_eqInt64A36_con)])
theorem laws_FnExactCountDrifts_ans (N:Nat) (a0:Array Value) (a1 a2 a3 a4 a5:Int):ansV Try.prog laws_FnExactCountDrifts_G N Try.f4 [] [.g a0 28,.i .i64 (a1),.i .i64 (a2),.i .i64 (a3),.i .u32 (a4),.i .i64 (a5)] []=(bif (!(sameB (ccA a0 a1 a2 a3 a4 a5) (ccA a0 a1 a2 a3 a4 a5))) then (some (.a (.b (false)),.none,true))
    else (bif ((ccG a0 a1 a2 a3 a4 a5) != (ccG a0 a1 a2 a3 a4 a5)) then (some (.a (.b (false)),.none,true))
      else (bif ((ccS a0 a1 a2 a3 a4 a5) != (ccS a0 a1 a2 a3 a4 a5)) then (some (.a (.b (false)),.none,true))
        else (bif ((ccD a0 a1 a2 a3 a4 a5) != (ccD a0 a1 a2 a3 a4 a5)) then (some (.a (.b (false)),.none,true))
          else (some (.a (.b (true)),.none,true)))))):=by kernel_rfl
noncomputable def laws_FnExactCountDrifts_v0 (a0:Array Value) (a1 a2 a3 a4 a5:Int):Bool:=(bif (!(sameB (ccA a0 a1 a2 a3 a4 a5) (ccA a0 a1 a2 a3 a4 a5))) then false else (bif ((ccG a0 a1 a2 a3 a4 a5) != (ccG a0 a1 a2 a3 a4 a5)) then false else (bif ((ccS a0 a1 a2 a3 a4 a5) != (ccS a0 a1 a2 a3 a4 a5)) then false else (bif ((ccD a0 a1 a2 a3 a4 a5) != (ccD a0 a1 a2 a3 a4 a5)) then false else true))))
theorem laws_FnExactCountDrifts_main (a0:Array Value) (a1 a2 a3 a4 a5:Int) (h_a0:WT Try.prog 28 a0) (h_a1:i64.min≤a1∧a1≤i64.max) (h_a2:i64.min≤a2∧a2≤i64.max) (h_a3:i64.min≤a3∧a3≤i64.max) (h_a4:IntKind.u32.min≤a4∧a4≤IntKind.u32.max) (h_a5:i64.min≤a5∧a5≤i64.max) (hg:(true)=true):ansV Try.prog laws_FnExactCountDrifts_G 1000 Try.f4 [] [.g a0 28,.i .i64 (a1),.i .i64 (a2),.i .i64 (a3),.i .u32 (a4),.i .i64 (a5)] []=some (.a (.b ((laws_FnExactCountDrifts_v0 a0 a1 a2 a3 a4 a5))),.none,true):=by
 refine (laws_FnExactCountDrifts_ans 1000 a0 a1 a2 a3 a4 a5).trans ?_
 unfold laws_FnExactCountDrifts_v0
 revert hg
 generalize ((!(sameB (ccA a0 a1 a2 a3 a4 a5) (ccA a0 a1 a2 a3 a4 a5))))=b2
 intro hg
 cases b2
 ·skip
  revert hg
  generalize (((ccG a0 a1 a2 a3 a4 a5) != (ccG a0 a1 a2 a3 a4 a5)))=b4
  intro hg
  cases b4
  ·skip
   revert hg
   generalize (((ccS a0 a1 a2 a3 a4 a5) != (ccS a0 a1 a2 a3 a4 a5)))=b6
   intro hg
   cases b6
   ·skip
    revert hg
    generalize (((ccD a0 a1 a2 a3 a4 a5) != (ccD a0 a1 a2 a3 a4 a5)))=b8
    intro hg
    cases b8
    ·skip
     first | (simp only [cond_true,cond_false,Bool.and_true,Bool.true_and,Bool.and_false,Bool.false_and];done) | rfl | exact (nomatch (hg:false=true))
    ·skip
     first | (simp only [cond_true,cond_false,Bool.and_true,Bool.true_and,Bool.and_false,Bool.false_and];done) | rfl | exact (nomatch (hg:false=true))
   ·skip
    first | (simp only [cond_true,cond_false,Bool.and_true,Bool.true_and,Bool.and_false,Bool.false_and];done) | rfl | exact (nomatch (hg:false=true))
  ·skip
   first | (simp only [cond_true,cond_false,Bool.and_true,Bool.true_and,Bool.and_false,Bool.false_and];done) | rfl | exact (nomatch (hg:false=true))
 ·skip
  first | (simp only [cond_true,cond_false,Bool.and_true,Bool.true_and,Bool.and_false,Bool.false_and];done) | rfl | exact (nomatch (hg:false=true))
noncomputable def laws_FnExactCountDrifts_con:Con:=fun args h=>match args,h with
 | [.g a0 28,.i .i64 a1,.i .i64 a2,.i .i64 a3,.i .u32 a4,.i .i64 a5],[]=>some (.a (.b ((laws_FnExactCountDrifts_v0 a0 a1 a2 a3 a4 a5))),.none,true)
 | _,_=>none
theorem laws_FnExactCountDrifts_ok:ConOkX mn Try.prog 4 laws_FnExactCountDrifts_con:=(ansX_ok (N:=1000) (by kernel_rfl) (mkΓ_consX (con_okX laws_toSea_ok) laws_toSea_enter (mkΓ_consX (con_okX spec_CountDrifts_ok) spec_CountDrifts_enter (mkΓ_consX (con_okX impl_CountDrifts_ok) impl_CountDrifts_enter (mkΓ_consX (con_okX laws_eqInt64A36_ok) laws_eqInt64A36_enter mkΓ_nilX)))) (fn:=Try.f4) (by kernel_rfl) (by kernel_rfl) []).of (by
 intro ρ h w args vals r e hA hH hr
 unfold laws_FnExactCountDrifts_con at hr
 split at hr
 ·rename_i a0 a1 a2 a3 a4 a5
  obtain ⟨rfl,hg⟩:=Prod.mk.inj (Option.some.inj hr)
  obtain ⟨rfl,hg2⟩:=Prod.mk.inj hg
  exact laws_FnExactCountDrifts_main a0 a1 a2 a3 a4 a5 (hA.wt 0 rfl) (hA.rng 1 rfl) (hA.rng 2 rfl) (hA.rng 3 rfl) (hA.rng 4 rfl) (hA.rng 5 rfl) hg2
 ·cases hr)
theorem laws_FnExactCountDrifts_true (a0:Array Value) (a1 a2 a3 a4 a5:Int) (h_a0:WT Try.prog 28 a0) (h_a1:i64.min≤a1∧a1≤i64.max) (h_a2:i64.min≤a2∧a2≤i64.max) (h_a3:i64.min≤a3∧a3≤i64.max) (h_a4:IntKind.u32.min≤a4∧a4≤IntKind.u32.max) (h_a5:i64.min≤a5∧a5≤i64.max):(true)=true∧((laws_FnExactCountDrifts_v0 a0 a1 a2 a3 a4 a5))=true:=by
 unfold laws_FnExactCountDrifts_v0
 simp only [sameB_self,bne_self_eq_false,Bool.not_true,cond_false,cond_true,and_self]
namespace lawFnExactCountDrifts
theorem lifted (os:Os) (started:os.Started) (H:Type) (enc:TypeId×Value→H) :
  ReturnsInHanded {} Try.checked os 4 .any (Rows.fnExactCountDriftsSpec.pre6 enc Try.prog Try.f4 Rows.fnExactCountDriftsRow.domain false) (Rows.fnExactCountDriftsSpec.post enc Try.prog Try.f4 false true false false):=by
 refine law_alone (C:=Try.checked) (tb:=4) (by kernel_rfl) (by kernel_rfl) Try.func4 (by kernel_rfl) Try.underlying4 (of_decide_eq_true (by kernel_rfl)) rfl ?_ os started H enc
  (ChangeSpec.witness6 (enc:=enc) (C:=Try.checked) false ⟨#[],#[.agg (zc Try.prog 28),.int .i64 0,.int .i64 0,.int .i64 0,.int .u32 0,.int .i64 0],[]⟩ 8 (by kernel_rfl) (by kernel_rfl) (by kernel_rfl) (by kernel_rfl)) ?_
 ·intro H ds hds
  rw [show Try.f4.params.toList.length=6 by kernel_rfl] at hds
  match ds,hds with
  | [_,_,_,_,_,_],_=>rfl
 ·intro W base args ds ps hval hA
  rw [Try.params4] at hA hval
  obtain ⟨v0,vs0,d0,ds0,p0,q0,ha0,rfl,rfl,h0,r0⟩:=trodAll_cons hA
  obtain ⟨v1,vs1,d1,ds1,p1,q1,rfl,rfl,rfl,h1,r1⟩:=trodAll_cons r0
  obtain ⟨v2,vs2,d2,ds2,p2,q2,rfl,rfl,rfl,h2,r2⟩:=trodAll_cons r1
  obtain ⟨v3,vs3,d3,ds3,p3,q3,rfl,rfl,rfl,h3,r3⟩:=trodAll_cons r2
  obtain ⟨v4,vs4,d4,ds4,p4,q4,rfl,rfl,rfl,h4,r4⟩:=trodAll_cons r3
  obtain ⟨v5,vs5,d5,ds5,p5,q5,rfl,rfl,rfl,h5,r5⟩:=trodAll_cons r4
  obtain ⟨rfl,rfl,rfl⟩:=trodAll_nil r5
  have hargs:args=#[v0,v1,v2,v3,v4,v5]:=by cases args;simp_all
  obtain ⟨a0,e0,w0⟩:=open_data (t:=28) 8 (by kernel_rfl) (by kernel_rfl) (hval 0 28 v0 rfl (by rw [hargs];rfl)) h0
  obtain ⟨a1,e1,_,_,w1⟩:=open_int Try.underlying2 (hval 1 2 v1 rfl (by rw [hargs];rfl)) h1
  obtain ⟨a2,e2,_,_,w2⟩:=open_int Try.underlying2 (hval 2 2 v2 rfl (by rw [hargs];rfl)) h2
  obtain ⟨a3,e3,_,_,w3⟩:=open_int Try.underlying2 (hval 3 2 v3 rfl (by rw [hargs];rfl)) h3
  obtain ⟨a4,e4,_,_,w4⟩:=open_int Try.underlying29 (hval 4 29 v4 rfl (by rw [hargs];rfl)) h4
  obtain ⟨a5,e5,_,_,w5⟩:=open_int Try.underlying2 (hval 5 2 v5 rfl (by rw [hargs];rfl)) h5
  obtain rfl:args=#[.agg a0,.int .i64 a1,.int .i64 a2,.int .i64 a3,.int .u32 a4,.int .i64 a5]:=by rw [hargs,e0,e1,e2,e3,e4,e5]
  obtain ⟨hg,hv⟩:=laws_FnExactCountDrifts_true a0 a1 a2 a3 a4 a5 w0 (wfb w1) (wfb w2) (wfb w3) (wfb w4) (wfb w5)
  have hr:laws_FnExactCountDrifts_con [.g a0 28,.i .i64 a1,.i .i64 a2,.i .i64 a3,.i .u32 a4,.i .i64 a5] []=some (.a (.b true),.none,true):=by
   show (some (SV.a (SA.b ((laws_FnExactCountDrifts_v0 a0 a1 a2 a3 a4 a5))),Eff.none,true):Option (SV×Eff×Bool))=_
   rw [hg,hv]
  exact endsL_con2 (by kernel_rfl) laws_FnExactCountDrifts_ok (hh:=[]) (by kernel_rfl) hr W (vals:=[.agg a0,.int .i64 a1,.int .i64 a2,.int .i64 a3,.int .u32 a4,.int .i64 a5]) .nil (allCons2 ⟨rfl,w0⟩ (allCons2 ⟨rfl,wfb w1⟩ (allCons2 ⟨rfl,wfb w2⟩ (allCons2 ⟨rfl,wfb w3⟩ (allCons2 ⟨rfl,wfb w4⟩ (allCons2 ⟨rfl,wfb w5⟩ (allNil2 _)))))))
theorem over:Rows.fnExactCountDriftsRow.holds Try.pinned (OpenSpec.ofChange Rows.fnExactCountDriftsSpec):=
 OpenClaim.holds_of_wide 4 Try.f4 rfl rfl rfl rfl rfl rfl rfl ⟨rfl,rfl,rfl,rfl,rfl⟩ rfl rfl rfl rfl rfl (by kernel_rfl) Try.func4 (by kernel_rfl)
  (of_decide_eq_true (by kernel_rfl)) (by unfold Func.isWrapper;first | (rw [if_pos (by decide +kernel)];kernel_rfl) | (rw [if_neg (by decide +kernel)];exact ⟨rfl,rfl⟩))
  (fun os started H enc _=>lifted os started H enc)
theorem proved:Rows.FnExactCountDriftsSaid:=over
#print axioms proved
end lawFnExactCountDrifts
end
end Go.Proofs.Ytnhilgpdgicgfaa
