/- Slices of strings, marked and compared. -/
import Derived.Test.YtdoofckpedklnaaProg
import Derived.Test.YtdoofckpedklnaaCxF
namespace Go.Proofs.Ytdoofckpedklnaa
open Go.ChangeShapes Go.WideShapes Go.ChangeAt Go.RowKit Ve Vc
open IntKind (i64)
set_option linter.unusedVariables false
set_option linter.unusedSimpArgs false
set_option maxRecDepth 100000
noncomputable section
variable {mn:Md}
theorem str_inj {a b:ByteArray} (h:a.toList=b.toList):a=b:=by
 rw [ByteArray.toList_eq,ByteArray.toList_eq] at h
 cases a with
 | mk x=>
  cases b with
  | mk y=>exact congrArg ByteArray.mk (Array.toList_inj.1 h)
theorem sl_str {P:Program} {e:TypeId} {n:Nat} {C:Array Value} (h:∀ k,k<n→WT P e (C.extract (k*1) (k*1+1))) {k:Nat} (hk:k<n) (hq:(lay P e)[0]? = some 9):C[k]? = some (.string (str C k)):=by
 obtain ⟨v,q1,q2,-⟩:=(h k hk).kind hq
 rw [Array.getElem?_extract] at q1
 split at q1
 ·obtain ⟨t,rfl⟩:=ckN_string q2
  rw [Nat.mul_one,Nat.add_zero] at q1
  unfold str
  rw [q1]
 ·cases q1
noncomputable def dgS:Nat→Int×ByteArray→Int×ByteArray
 | 0,s=>s
 | f+1,s=>bif decide (s.1 > (0:Int)) then dgS f (i64.wrap (s.1.tdiv (10:Int)),(bytesC (#[.int .u8 (IntKind.u8.wrap (i64.wrap ((48:Int)+(s.1.tmod (10:Int)))))]:Array Value))++s.2) else s
noncomputable def mtT (n:Int):ByteArray:=bif decide (n≤(0:Int)) then (⟨#[109,48]⟩:ByteArray) else (⟨#[109]⟩:ByteArray)++(dgS 10 (n,(⟨#[]⟩:ByteArray))).2
noncomputable def mkT (n:Nat) (k:Int):Array Value:=⟨(List.range n).map fun i:Nat=>.string (mtT (k+(i:Int)))⟩
theorem mkT_size (n:Nat) (k:Int):(mkT n k).size=n:=by simp [mkT]
theorem mkT_at {n:Nat} {k:Int} {i:Nat} (h:i<n):(mkT n k)[i]? = some (.string (mtT (k+(i:Int)))):=by
 unfold mkT;simp [h]
theorem mkT_str {n:Nat} {k:Int} {i:Nat} (h:i<n):str (mkT n k) i=mtT (k+(i:Int)):=by unfold str;rw [mkT_at h]
theorem by_size (z:Int):(bytesC (#[.int .u8 z]:Array Value)).size=1:=rfl
theorem dg_size:∀ (f:Nat) (s:Int×ByteArray),(dgS f s).2.size≤s.2.size+f
 | 0,s=>Nat.le_refl _
 | f+1,s=>by
  rw [dgS]
  cases decide (s.1 > (0:Int)) with
  | false=>rw [cond_false];omega
  | true=>
   rw [cond_true]
   refine Nat.le_trans (dg_size f _) ?_
   dsimp only
   rw [ByteArray.size_append,by_size]
   omega
noncomputable def laws_markText_t0 (a0:Int):St:=(⟨.a (.i .i64 (a0)) :: .a (.u) :: .a (.s ((⟨#[]⟩:ByteArray))) :: .a (.s ((⟨#[]⟩:ByteArray))) :: .a (.i .i64 (a0)) :: .a (.b (decide (a0≤(0:Int))))::us 14 ([]),[],[]⟩:St)
noncomputable def laws_markText_e0:Int×ByteArray→LS
 | (y0_0,y0_3)=>([.a (.i .i64 (y0_0)),.a (.s (y0_3))],[])
noncomputable def laws_markText_x0:Int×ByteArray→Exit×LS
 | t=>((.exit 0),laws_markText_e0 t)
noncomputable def laws_markText_g0 (P:Program) (a0:Int):Int×ByteArray→Option (Stp (Int×ByteArray) (Int×ByteArray))
 | (y0_0,y0_3)=>bif decide (y0_0 > (0:Int)) then (bif decide (((bytesC (#[.int .u8 (IntKind.u8.wrap (i64.wrap ((48:Int)+((y0_0).tmod (10:Int)))))]:Array Value))).size+(y0_3).size≤9223372036854775807) then (some (.more ((i64.wrap ((y0_0).tdiv (10:Int))),((bytesC (#[.int .u8 (IntKind.u8.wrap (i64.wrap ((48:Int)+((y0_0).tmod (10:Int)))))]:Array Value))++y0_3))))
   else (none))
  else (some (.done (y0_0,y0_3)))
theorem laws_markText_s0 (N:Nat) (a0:Int):∀ t:Int×ByteArray,stepV Try.prog (mkΓ []) N (cAt (codeOf Try.f20) [1,1,1,0,0,0]) (pAt (mkPlan (codeOf Try.f20) [([0,3],[])]).1 [1,1,1,0,0]) [0,3] [] (laws_markText_t0 a0) (laws_markText_e0 t)=mapS laws_markText_e0 laws_markText_x0 (laws_markText_g0 Try.prog a0 t):=by
 rintro ⟨y0_0,y0_3⟩
 refine Eq.trans (b:=(bif decide (y0_0 > (0:Int)) then (bif decide (((bytesC (#[.int .u8 (IntKind.u8.wrap (i64.wrap ((48:Int)+((y0_0).tmod (10:Int)))))]:Array Value))).size+(y0_3).size≤9223372036854775807) then (some (.more ([.a (.i .i64 (i64.wrap ((y0_0).tdiv (10:Int)))),.a (.s (((bytesC (#[.int .u8 (IntKind.u8.wrap (i64.wrap ((48:Int)+((y0_0).tmod (10:Int)))))]:Array Value))++y0_3)))],[])))
   else (none))
  else (some (.done ((.exit 0),([.a (.i .i64 (y0_0)),.a (.s (y0_3))],[])))))) (by kernel_rfl) ?_
 simp only [laws_markText_g0,mapS_cond,mapS_more,mapS_done,mapS_none,laws_markText_e0,laws_markText_x0]
noncomputable def laws_markText_k0_0 (P:Program) (N:Nat) (a0:Int) (z0_0:Int) (z0_3:ByteArray):Option (SV×Eff×Bool):=bif decide (((⟨#[109]⟩:ByteArray)).size+(z0_3).size≤9223372036854775807) then (some (.a (.s (((⟨#[109]⟩:ByteArray)++z0_3))),.none,true))
  else (none)
theorem laws_markText_k0_0_eq (N:Nat) (a0:Int) (z0_0:Int) (z0_3:ByteArray):(kBlock 0 (kSeq (veC Try.prog (mkΓ []) N (cAt (codeOf Try.f20) [1,1,1,1]) (pAt (mkPlan (codeOf Try.f20) [([0,3],[])]).1 [1,1,1,1]) (SV×Eff×Bool)) (finK Try.prog [] [.tmp 2]))) (.exit 0) (left (writes (cAt (codeOf Try.f20) [1,1,1,0,0,0])) [0,3] [] (laws_markText_t0 a0) ([.a (.i .i64 (z0_0)),.a (.s (z0_3))],[]))=laws_markText_k0_0 Try.prog N a0 z0_0 z0_3:=by
 refine Eq.trans (b:=(bif decide (((⟨#[109]⟩:ByteArray)).size+(z0_3).size≤9223372036854775807) then (some (.a (.s (((⟨#[109]⟩:ByteArray)++z0_3))),.none,true))
  else (none))) (by kernel_rfl) ?_
 rfl
theorem laws_markText_n0 (N:Nat) (a0:Int):bindX (iterO (stepV Try.prog (mkΓ []) N (cAt (codeOf Try.f20) [1,1,1,0,0,0]) (pAt (mkPlan (codeOf Try.f20) [([0,3],[])]).1 [1,1,1,0,0]) [0,3] [] (laws_markText_t0 a0)) N ([.a (.i .i64 (a0)),.a (.s ((⟨#[]⟩:ByteArray)))],[])) (fun e s=>(kBlock 0 (kSeq (veC Try.prog (mkΓ []) N (cAt (codeOf Try.f20) [1,1,1,1]) (pAt (mkPlan (codeOf Try.f20) [([0,3],[])]).1 [1,1,1,1]) (SV×Eff×Bool)) (finK Try.prog [] [.tmp 2]))) e (left (writes (cAt (codeOf Try.f20) [1,1,1,0,0,0])) [0,3] [] (laws_markText_t0 a0) s))=nodeX (iterO (laws_markText_g0 Try.prog a0) N (a0,(⟨#[]⟩:ByteArray))) (fun x=>laws_markText_k0_0 Try.prog N a0 x.1 x.2):=by
 refine loop_node laws_markText_e0 laws_markText_x0 _ _ (laws_markText_s0 N a0) N (a0,(⟨#[]⟩:ByteArray)) _ _ ?_
 intro x;exact laws_markText_k0_0_eq N a0 x.1 x.2
theorem laws_markText_ans (N:Nat) (a0:Int):ansV Try.prog (mkΓ []) N Try.f20 [([0,3],[])] [.i .i64 (a0)] []=(bif decide (a0≤(0:Int)) then (some (.a (.s ((⟨#[109,48]⟩:ByteArray))),.none,true))
  else (nodeX (iterO (laws_markText_g0 Try.prog a0) N (a0,(⟨#[]⟩:ByteArray))) (fun x=>laws_markText_k0_0 Try.prog N a0 x.1 x.2))):=by
 refine Eq.trans (b:=(bif decide (a0≤(0:Int)) then (some (.a (.s ((⟨#[109,48]⟩:ByteArray))),.none,true))
  else (bindX (iterO (stepV Try.prog (mkΓ []) N (cAt (codeOf Try.f20) [1,1,1,0,0,0]) (pAt (mkPlan (codeOf Try.f20) [([0,3],[])]).1 [1,1,1,0,0]) [0,3] [] (laws_markText_t0 a0)) N ([.a (.i .i64 (a0)),.a (.s ((⟨#[]⟩:ByteArray)))],[])) (fun e s=>(kBlock 0 (kSeq (veC Try.prog (mkΓ []) N (cAt (codeOf Try.f20) [1,1,1,1]) (pAt (mkPlan (codeOf Try.f20) [([0,3],[])]).1 [1,1,1,1]) (SV×Eff×Bool)) (finK Try.prog [] [.tmp 2]))) e (left (writes (cAt (codeOf Try.f20) [1,1,1,0,0,0])) [0,3] [] (laws_markText_t0 a0) s))))) (by kernel_rfl) ?_
 simp only [laws_markText_n0 N a0]
theorem mark_run (a0:Int):∀ (f:Nat) (x:Int) (t:ByteArray) (N:Nat),0≤x→x<10^f→f≤10→t.size+f≤1000→f<N→iterO (laws_markText_g0 Try.prog a0) N (x,t)=some (dgS f (x,t))
 | 0,x,t,N+1,h0,h1,_,_,_=>by
  have e1:decide (x > (0:Int))=false:=decide_eq_false (by omega)
  refine iter_done ?_ N
  simp only [laws_markText_g0,e1,cond_false]
  rfl
 | f+1,x,t,N+1,h0,h1,h2,h3,h4=>by
  by_cases hx:0<x
  ·have e1:decide (x > (0:Int))=true:=decide_eq_true hx
   have e2:x.tdiv 10=x / 10:=Int.tdiv_eq_ediv_of_nonneg h0
   have hp:(10:Int)^(f+1)=10^f*10:=Int.pow_succ ..
   have hp2:(10:Int)^f≤10^9:=by
    have:(10:Nat)^f≤10^9:=Nat.pow_le_pow_right (by omega) (by omega)
    exact_mod_cast this
   have e3:i64.wrap (x.tdiv 10)=x / 10:=by rw [e2,IntWalk.i64_in _ (by omega)]
   have e4:decide ((bytesC (#[.int .u8 (IntKind.u8.wrap (i64.wrap ((48:Int)+(x.tmod (10:Int)))))]:Array Value)).size+t.size≤9223372036854775807)=true:=by
    rw [by_size];exact decide_eq_true (by omega)
   rw [iter_step (t':=(i64.wrap (x.tdiv (10:Int)),(bytesC (#[.int .u8 (IntKind.u8.wrap (i64.wrap ((48:Int)+(x.tmod (10:Int)))))]:Array Value))++t)) (by
    simp only [laws_markText_g0,e1,e4,cond_true])]
   rw [dgS]
   dsimp only
   rw [e1,cond_true]
   refine mark_run a0 f _ _ N ?_ ?_ (by omega) ?_ (by omega)
   ·rw [e3];omega
   ·rw [e3];omega
   ·rw [ByteArray.size_append,by_size];omega
  ·have e1:decide (x > (0:Int))=false:=decide_eq_false (by omega)
   rw [dgS]
   dsimp only
   rw [e1,cond_false]
   refine iter_done ?_ N
   simp only [laws_markText_g0,e1,cond_false]
theorem laws_markText_main (a0:Int) (h_a0:i64.min≤a0∧a0≤i64.max) (hg:((decide (0≤a0)&&decide (a0≤2000000)))=true):ansV Try.prog (mkΓ []) 1000 Try.f20 [([0,3],[])] [.i .i64 (a0)] []=some (.a (.s ((mtT a0))),.none,true):=by
 simp only [Bool.and_eq_true,decide_eq_true_eq] at hg
 refine (laws_markText_ans 1000 a0).trans ?_
 unfold mtT
 by_cases h0:a0≤0
 ·rw [decide_eq_true h0];rfl
 ·rw [decide_eq_false h0,cond_false,mark_run a0 10 a0 ⟨#[]⟩ 1000 (by omega) (by omega) (by omega) (by decide) (by omega)]
  have hs:=dg_size 10 (a0,(⟨#[]⟩:ByteArray))
  have e:decide ((⟨#[109]⟩:ByteArray).size+(dgS 10 (a0,(⟨#[]⟩:ByteArray))).2.size≤9223372036854775807)=true:=by
   have h1:(⟨#[109]⟩:ByteArray).size=1:=rfl
   have h2:(⟨#[]⟩:ByteArray).size=0:=rfl
   rw [h2] at hs
   rw [h1]
   exact decide_eq_true (by omega)
  simp only [nodeX,laws_markText_k0_0,e,cond_true,cond_false]
noncomputable def laws_markText_con:Con:=fun args h=>match args,h with
 | [.i .i64 a0],[]=>some (.a (.s ((mtT a0))),.none,(decide (0≤a0)&&decide (a0≤2000000)))
 | _,_=>none
theorem laws_markText_enter:EntX Try.prog 20:=entX_ok (fn:=Try.f20) (by kernel_rfl) (by kernel_rfl) (by kernel_rfl)
theorem laws_markText_ok:ConOkX mn Try.prog 20 laws_markText_con:=(ansX_ok (N:=1000) (by kernel_rfl) mkΓ_nilX (fn:=Try.f20) (by kernel_rfl) (by kernel_rfl) [([0,3],[])]).of (by
 intro ρ h w args vals r e hA hH hr
 unfold laws_markText_con at hr
 split at hr
 ·rename_i a0
  obtain ⟨rfl,hg⟩:=Prod.mk.inj (Option.some.inj hr)
  obtain ⟨rfl,hg2⟩:=Prod.mk.inj hg
  exact laws_markText_main a0 (hA.rng 0 rfl) hg2
 ·cases hr)
noncomputable def laws_eqStringS_t0 (b_a0:Option (Option Addr)) (n_a0:Nat) (a0:Array Value) (b_a1:Option (Option Addr)) (n_a1:Nat) (a1:Array Value):St:=(⟨.a (.l 0) :: .a (.l 1) :: .a (.u) :: .a (.u) :: .a (.b (false)) :: .a (.i .i64 (0:Int)) :: .a (.l 0) :: .a (.i .i64 (n_a0:Int)) :: .a (.l 1) :: .a (.i .i64 (n_a1:Int)) :: .a (.b (((n_a0:Int) != (n_a1:Int))))::us 15 ([]),[.sl (.came b_a0) n_a0 a0 9,.sl (.came b_a1) n_a1 a1 9],[]⟩:St)
noncomputable def laws_eqStringS_e0:Bool×Int→LS
 | (y0_4,y0_5)=>([.a (.b (y0_4)),.a (.i .i64 (y0_5))],[])
noncomputable def laws_eqStringS_x0:(Stp (Bool×Int) (Bool×Int))→Exit×LS
 | .more t=>(.ret,laws_eqStringS_e0 t)
 | .done t=>((.exit 0),laws_eqStringS_e0 t)
noncomputable def laws_eqStringS_g0 (P : Program) (b_a0 : Option (Option Addr)) (n_a0 : Nat) (a0 : Array Value) (b_a1 : Option (Option Addr)) (n_a1 : Nat) (a1 : Array Value) : Bool × Int → Option (Stp (Bool × Int) (Stp (Bool × Int) (Bool × Int)))
 | (y0_4, y0_5) => bif decide (y0_5 < (n_a0 : Int)) then (bif (decide (0 ≤ y0_5) && decide (y0_5 < (n_a0 : Int))) then (bif (decide (0 ≤ y0_5) && decide (y0_5 < (n_a1 : Int))) then (bif (!((str a0 ((y0_5).toNat * 1)).toList == (str a1 ((y0_5).toNat * 1)).toList)) then (some (.done (.more (false, y0_5))))
     else (some (.more (y0_4, (i64.wrap (y0_5 + (1 : Int)))))))
    else (none))
   else (none))
  else (some (.done (.done (y0_4, y0_5))))
theorem laws_eqStringS_s0 (N:Nat) (b_a0:Option (Option Addr)) (n_a0:Nat) (a0:Array Value) (b_a1:Option (Option Addr)) (n_a1:Nat) (a1:Array Value):∀ t:Bool×Int,stepV Try.prog (mkΓ []) N (cAt (codeOf Try.f7) [1,1,0,1,0,0]) (pAt (mkPlan (codeOf Try.f7) [([4,5],[])]).1 [1,1,0,1,0]) [4,5] [] (laws_eqStringS_t0 b_a0 n_a0 a0 b_a1 n_a1 a1) (laws_eqStringS_e0 t)=mapS laws_eqStringS_e0 laws_eqStringS_x0 (laws_eqStringS_g0 Try.prog b_a0 n_a0 a0 b_a1 n_a1 a1 t):=by
 rintro ⟨y0_4,y0_5⟩
 refine Eq.trans (b:=(bif decide (y0_5<(n_a0:Int)) then (bif (decide (0≤y0_5)&&decide (y0_5<(n_a0:Int))) then (bif (decide (0≤y0_5)&&decide (y0_5<(n_a1:Int))) then (bif (!((str a0 ((y0_5).toNat*1)).toList==(str a1 ((y0_5).toNat*1)).toList)) then (some (.done (.ret,([.a (.b (false)),.a (.i .i64 (y0_5))],[]))))
     else (some (.more ([.a (.b (y0_4)),.a (.i .i64 (i64.wrap (y0_5+(1:Int))))],[]))))
    else (none))
   else (none))
  else (some (.done ((.exit 0),([.a (.b (y0_4)),.a (.i .i64 (y0_5))],[])))))) (by kernel_rfl) ?_
 simp only [laws_eqStringS_g0,mapS_cond,mapS_more,mapS_done,mapS_none,laws_eqStringS_e0,laws_eqStringS_x0]
noncomputable def laws_eqStringS_k0_0 (P:Program) (N:Nat) (b_a0:Option (Option Addr)) (n_a0:Nat) (a0:Array Value) (b_a1:Option (Option Addr)) (n_a1:Nat) (a1:Array Value) (z0_4:Bool) (z0_5:Int):Option (SV×Eff×Bool):=some (.a (.b (z0_4)),.none,true)
theorem laws_eqStringS_k0_0_eq (N:Nat) (b_a0:Option (Option Addr)) (n_a0:Nat) (a0:Array Value) (b_a1:Option (Option Addr)) (n_a1:Nat) (a1:Array Value) (z0_4:Bool) (z0_5:Int):(kBlock 0 (kSeq (veC Try.prog (mkΓ []) N (cAt (codeOf Try.f7) [1,1,1]) (pAt (mkPlan (codeOf Try.f7) [([4,5],[])]).1 [1,1,1]) (SV×Eff×Bool)) (finK Try.prog [.sl (.came b_a0) n_a0 a0 9,.sl (.came b_a1) n_a1 a1 9] [.tmp 4]))) .ret (left (writes (cAt (codeOf Try.f7) [1,1,0,1,0,0])) [4,5] [] (laws_eqStringS_t0 b_a0 n_a0 a0 b_a1 n_a1 a1) ([.a (.b (z0_4)),.a (.i .i64 (z0_5))],[]))=laws_eqStringS_k0_0 Try.prog N b_a0 n_a0 a0 b_a1 n_a1 a1 z0_4 z0_5:=by
 refine Eq.trans (b:=(some (.a (.b (z0_4)),.none,true))) (by kernel_rfl) ?_
 rfl
noncomputable def laws_eqStringS_k0_1 (P:Program) (N:Nat) (b_a0:Option (Option Addr)) (n_a0:Nat) (a0:Array Value) (b_a1:Option (Option Addr)) (n_a1:Nat) (a1:Array Value) (z0_4:Bool) (z0_5:Int):Option (SV×Eff×Bool):=some (.a (.b (true)),.none,true)
theorem laws_eqStringS_k0_1_eq (N:Nat) (b_a0:Option (Option Addr)) (n_a0:Nat) (a0:Array Value) (b_a1:Option (Option Addr)) (n_a1:Nat) (a1:Array Value) (z0_4:Bool) (z0_5:Int):(kBlock 0 (kSeq (veC Try.prog (mkΓ []) N (cAt (codeOf Try.f7) [1,1,1]) (pAt (mkPlan (codeOf Try.f7) [([4,5],[])]).1 [1,1,1]) (SV×Eff×Bool)) (finK Try.prog [.sl (.came b_a0) n_a0 a0 9,.sl (.came b_a1) n_a1 a1 9] [.tmp 4]))) (.exit 0) (left (writes (cAt (codeOf Try.f7) [1,1,0,1,0,0])) [4,5] [] (laws_eqStringS_t0 b_a0 n_a0 a0 b_a1 n_a1 a1) ([.a (.b (z0_4)),.a (.i .i64 (z0_5))],[]))=laws_eqStringS_k0_1 Try.prog N b_a0 n_a0 a0 b_a1 n_a1 a1 z0_4 z0_5:=by
 refine Eq.trans (b:=(some (.a (.b (true)),.none,true))) (by kernel_rfl) ?_
 rfl
theorem laws_eqStringS_n0 (N:Nat) (b_a0:Option (Option Addr)) (n_a0:Nat) (a0:Array Value) (b_a1:Option (Option Addr)) (n_a1:Nat) (a1:Array Value):bindX (iterO (stepV Try.prog (mkΓ []) N (cAt (codeOf Try.f7) [1,1,0,1,0,0]) (pAt (mkPlan (codeOf Try.f7) [([4,5],[])]).1 [1,1,0,1,0]) [4,5] [] (laws_eqStringS_t0 b_a0 n_a0 a0 b_a1 n_a1 a1)) N ([.a (.b (false)),.a (.i .i64 (0:Int))],[])) (fun e s=>(kBlock 0 (kSeq (veC Try.prog (mkΓ []) N (cAt (codeOf Try.f7) [1,1,1]) (pAt (mkPlan (codeOf Try.f7) [([4,5],[])]).1 [1,1,1]) (SV×Eff×Bool)) (finK Try.prog [.sl (.came b_a0) n_a0 a0 9,.sl (.came b_a1) n_a1 a1 9] [.tmp 4]))) e (left (writes (cAt (codeOf Try.f7) [1,1,0,1,0,0])) [4,5] [] (laws_eqStringS_t0 b_a0 n_a0 a0 b_a1 n_a1 a1) s))=nodeX (iterO (laws_eqStringS_g0 Try.prog b_a0 n_a0 a0 b_a1 n_a1 a1) N (false,(0:Int))) (st2 (fun x=>laws_eqStringS_k0_0 Try.prog N b_a0 n_a0 a0 b_a1 n_a1 a1 x.1 x.2) (fun x=>laws_eqStringS_k0_1 Try.prog N b_a0 n_a0 a0 b_a1 n_a1 a1 x.1 x.2)):=by
 refine loop_node laws_eqStringS_e0 laws_eqStringS_x0 _ _ (laws_eqStringS_s0 N b_a0 n_a0 a0 b_a1 n_a1 a1) N (false,(0:Int)) _ _ ?_
 intro x
 cases x with
 | more x=>exact laws_eqStringS_k0_0_eq N b_a0 n_a0 a0 b_a1 n_a1 a1 x.1 x.2
 | done x=>exact laws_eqStringS_k0_1_eq N b_a0 n_a0 a0 b_a1 n_a1 a1 x.1 x.2
theorem laws_eqStringS_ans (N:Nat) (b_a0:Option (Option Addr)) (n_a0:Nat) (a0:Array Value) (b_a1:Option (Option Addr)) (n_a1:Nat) (a1:Array Value):ansV Try.prog (mkΓ []) N Try.f7 [([4,5],[])] [.l 0,.l 1] [.sl (.came b_a0) n_a0 a0 9,.sl (.came b_a1) n_a1 a1 9]=(bif ((n_a0:Int) != (n_a1:Int)) then (some (.a (.b (false)),.none,true))
  else (nodeX (iterO (laws_eqStringS_g0 Try.prog b_a0 n_a0 a0 b_a1 n_a1 a1) N (false,(0:Int))) (st2 (fun x=>laws_eqStringS_k0_0 Try.prog N b_a0 n_a0 a0 b_a1 n_a1 a1 x.1 x.2) (fun x=>laws_eqStringS_k0_1 Try.prog N b_a0 n_a0 a0 b_a1 n_a1 a1 x.1 x.2)))):=by
 refine Eq.trans (b:=(bif ((n_a0:Int) != (n_a1:Int)) then (some (.a (.b (false)),.none,true))
  else (bindX (iterO (stepV Try.prog (mkΓ []) N (cAt (codeOf Try.f7) [1,1,0,1,0,0]) (pAt (mkPlan (codeOf Try.f7) [([4,5],[])]).1 [1,1,0,1,0]) [4,5] [] (laws_eqStringS_t0 b_a0 n_a0 a0 b_a1 n_a1 a1)) N ([.a (.b (false)),.a (.i .i64 (0:Int))],[])) (fun e s=>(kBlock 0 (kSeq (veC Try.prog (mkΓ []) N (cAt (codeOf Try.f7) [1,1,1]) (pAt (mkPlan (codeOf Try.f7) [([4,5],[])]).1 [1,1,1]) (SV×Eff×Bool)) (finK Try.prog [.sl (.came b_a0) n_a0 a0 9,.sl (.came b_a1) n_a1 a1 9] [.tmp 4]))) e (left (writes (cAt (codeOf Try.f7) [1,1,0,1,0,0])) [4,5] [] (laws_eqStringS_t0 b_a0 n_a0 a0 b_a1 n_a1 a1) s))))) (by kernel_rfl) ?_
 simp only [laws_eqStringS_n0 N b_a0 n_a0 a0 b_a1 n_a1 a1]
theorem laws_eqStringS_main (b_a0:Option (Option Addr)) (n_a0:Nat) (a0:Array Value) (b_a1:Option (Option Addr)) (n_a1:Nat) (a1:Array Value) (h_a0:a0.size=n_a0*(lay Try.prog 9).length∧(∀ k,k<n_a0→WT Try.prog 9 (a0.extract (k*(lay Try.prog 9).length) (k*(lay Try.prog 9).length+(lay Try.prog 9).length)))∧n_a0≤9223372036854775807) (h_a1:a1.size=n_a1*(lay Try.prog 9).length∧(∀ k,k<n_a1→WT Try.prog 9 (a1.extract (k*(lay Try.prog 9).length) (k*(lay Try.prog 9).length+(lay Try.prog 9).length)))∧n_a1≤9223372036854775807) (hg:(true)=true):ansV Try.prog (mkΓ []) 18446744073709551616 Try.f7 [([4,5],[])] [.l 0,.l 1] [.sl (.came b_a0) n_a0 a0 9,.sl (.came b_a1) n_a1 a1 9]=some (.a (.b ((decide (n_a0=n_a1)&&sameB a0 a1))),.none,true):=by
 have hm:(lay Try.prog 9).length=1:=by kernel_rfl
 obtain ⟨s1,s2,s3⟩:=h_a0
 obtain ⟨t1,t2,t3⟩:=h_a1
 rw [hm] at s1 s2 t1 t2
 have hq:(lay Try.prog 9)[0]? = some 9:=by kernel_rfl
 refine (laws_eqStringS_ans 18446744073709551616 b_a0 n_a0 a0 b_a1 n_a1 a1).trans ?_
 by_cases hl:n_a0=n_a1
 case neg=>
  rw [decide_eq_false hl,show ((n_a0:Int) != (n_a1:Int))=true from bne_iff_ne.2 (by omega)]
  rfl
 subst hl
 rw [decide_eq_true rfl,show ((n_a0:Int) != (n_a0:Int))=false from bne_self_eq_false _]
 simp only [cond_false,Bool.true_and]
 have hb:sameB a0 a1=true ↔ ∀ k,k<n_a0→(fun k=>((str a0 (k*1)).toList==(str a1 (k*1)).toList)) k=true:=by
  constructor
  ·intro h k hk
   rw [sameB_iff.1 h]
   exact beq_self_eq_true _
  ·intro h
   refine sameB_iff.2 (arr_ext fun i=> ?_)
   by_cases hi:i<n_a0
   ·have e0:=sl_str s2 hi hq
    have e1:=sl_str t2 hi hq
    have e2:=str_inj (eq_of_beq (h i hi))
    rw [Nat.mul_one] at e2
    rw [e0,e1,e2]
   ·rw [Array.getElem?_eq_none (by omega),Array.getElem?_eq_none (by omega)]
 refine (iter_first (g:=laws_eqStringS_g0 Try.prog b_a0 n_a0 a0 b_a1 n_a0 a1) (fun k=>(false,(k:Int))) (fun k=>((str a0 (k*1)).toList==(str a1 (k*1)).toList)) n_a0 (N:=18446744073709551616) (xd:=.done (false,(n_a0:Int))) (by omega) (fun k hk hp=>by
  have h1:decide ((k:Int)<(n_a0:Int))=true:=decide_eq_true (by omega)
  have h0:decide (0≤(k:Int))=true:=decide_eq_true (by omega)
  have h3:i64.wrap ((k:Int)+1)=((k+1:Nat):Int):=by rw [IntWalk.i64_in _ (by omega)];omega
  have hp':((str a0 (k*1)).toList==(str a1 (k*1)).toList)=true:=hp
  simp only [laws_eqStringS_g0,h1,h0,Bool.and_self,Int.toNat_natCast,cond_true,h3,hp',Bool.not_true,cond_false]) (by
  have h1:decide ((n_a0:Int)<(n_a0:Int))=false:=decide_eq_false (by omega)
  simp only [laws_eqStringS_g0,h1,cond_false]) (sameB a0 a1) hb (some (.a (.b true),.none,true)) (some (.a (.b false),.none,true)) rfl (fun k hk hp=>by
  refine ⟨.more (false,(k:Int)), ?_,rfl⟩
  have h1:decide ((k:Int)<(n_a0:Int))=true:=decide_eq_true (by omega)
  have h0:decide (0≤(k:Int))=true:=decide_eq_true (by omega)
  have hp':((str a0 (k*1)).toList==(str a1 (k*1)).toList)=false:=hp
  simp only [laws_eqStringS_g0,h1,h0,Bool.and_self,Int.toNat_natCast,cond_true,hp',Bool.not_false])).trans ?_
 cases sameB a0 a1<;>rfl
noncomputable def laws_eqStringS_con:Con:=fun args h=>match args,h with
 | [.l 0,.l 1],[.sl (.came b_a0) n_a0 a0 9,.sl (.came b_a1) n_a1 a1 9]=>some (.a (.b ((decide (n_a0=n_a1)&&sameB a0 a1))),.none,true)
 | _,_=>none
theorem laws_eqStringS_enter:EntX Try.prog 7:=entX_ok (fn:=Try.f7) (by kernel_rfl) (by kernel_rfl) (by kernel_rfl)
theorem laws_eqStringS_ok:ConOkX mn Try.prog 7 laws_eqStringS_con:=(ansX_ok (N:=18446744073709551616) (by kernel_rfl) mkΓ_nilX (fn:=Try.f7) (by kernel_rfl) (by kernel_rfl) [([4,5],[])]).of (by
 intro ρ h w args vals r e hA hH hr
 unfold laws_eqStringS_con at hr
 split at hr
 ·rename_i b_a0 n_a0 a0 b_a1 n_a1 a1
  obtain ⟨rfl,hg⟩:=Prod.mk.inj (Option.some.inj hr)
  obtain ⟨rfl,hg2⟩:=Prod.mk.inj hg
  exact laws_eqStringS_main b_a0 n_a0 a0 b_a1 n_a1 a1 (hH.slw 0 rfl) (hH.slw 1 rfl) hg2
 ·cases hr)
noncomputable def laws_markStringS_t0 (a1:Int) (n_a0:Nat) (a0:Array Value):St:=(⟨.a (.l 0) :: .a (.i .i64 (a1)) :: .a (.u) :: .a (.u) :: .a (.i .i64 (0:Int)) :: .a (.i .i64 (0:Int))::us 14 ([]),[.sl .lent n_a0 a0 9],[]⟩:St)
noncomputable def laws_markStringS_e0 (n_a0:Nat):Int×Int×Array Value→LS
 | (y0_1,y0_5,r0_0)=>([.a (.i .i64 (y0_1)),.a (.i .i64 (y0_5))],[.sl .lent n_a0 r0_0 9])
noncomputable def laws_markStringS_x0 (n_a0:Nat):Int×Int×Array Value→Exit×LS
 | t=>((.exit 0),(laws_markStringS_e0 n_a0) t)
noncomputable def laws_markStringS_g0 (P : Program) (a1 : Int) (n_a0 : Nat) (a0 : Array Value) : Int × Int × Array Value → Option (Stp (Int × Int × Array Value) (Int × Int × Array Value))
 | (y0_1, y0_5, r0_0) => bif decide (y0_5 < (n_a0 : Int)) then (bif (decide (0 ≤ y0_1) && decide (y0_1 ≤ 2000000)) then (bif (decide (0 ≤ y0_5) && decide (y0_5 < (n_a0 : Int))) then (some (.more ((i64.wrap (y0_1 + (1 : Int))), (i64.wrap (y0_5 + (1 : Int))), (r0_0.setIfInBounds ((y0_5).toNat * 1) (.string ((mtT y0_1)))))))
    else (none))
   else (none))
  else (some (.done (y0_1, y0_5, r0_0)))
theorem laws_markStringS_s0 (N:Nat) (a1:Int) (n_a0:Nat) (a0:Array Value):∀ t:Int×Int×Array Value,stepV Try.prog (mkΓ [(20,con laws_markText_con)]) N (cAt (codeOf Try.f8) [1,0,1,0,0]) (pAt (mkPlan (codeOf Try.f8) [([1,5],[0])]).1 [1,0,1,0]) [1,5] [0] (laws_markStringS_t0 a1 n_a0 a0) ((laws_markStringS_e0 n_a0) t)=mapS (laws_markStringS_e0 n_a0) (laws_markStringS_x0 n_a0) (laws_markStringS_g0 Try.prog a1 n_a0 a0 t):=by
 rintro ⟨y0_1,y0_5,r0_0⟩
 refine Eq.trans (b:=(bif decide (y0_5<(n_a0:Int)) then (bif (decide (0≤y0_1)&&decide (y0_1≤2000000)) then (bif (decide (0≤y0_5)&&decide (y0_5<(n_a0:Int))) then (some (.more ([.a (.i .i64 (i64.wrap (y0_1+(1:Int)))),.a (.i .i64 (i64.wrap (y0_5+(1:Int))))],[.sl .lent n_a0 (r0_0.setIfInBounds ((y0_5).toNat*1) (.string ((mtT y0_1)))) 9])))
    else (none))
   else (none))
  else (some (.done ((.exit 0),([.a (.i .i64 (y0_1)),.a (.i .i64 (y0_5))],[.sl .lent n_a0 r0_0 9])))))) (by kernel_rfl) ?_
 simp only [laws_markStringS_g0,mapS_cond,mapS_more,mapS_done,mapS_none,laws_markStringS_e0,laws_markStringS_x0]
noncomputable def laws_markStringS_k0_0 (P:Program) (N:Nat) (a1:Int) (n_a0:Nat) (a0:Array Value) (z0_1:Int) (z0_5:Int) (q0_0:Array Value):Option (SV×Eff×Bool):=bif (Nat.blt 0 n_a0) then (some (.a (.i .i64 (z0_1)),.set 0 (.sl .lent n_a0 q0_0 9),true))
  else (none)
theorem laws_markStringS_k0_0_eq (N:Nat) (a1:Int) (n_a0:Nat) (a0:Array Value) (z0_1:Int) (z0_5:Int) (q0_0:Array Value):(kBlock 0 (kSeq (veC Try.prog (mkΓ [(20,con laws_markText_con)]) N (cAt (codeOf Try.f8) [1,1]) (pAt (mkPlan (codeOf Try.f8) [([1,5],[0])]).1 [1,1]) (SV×Eff×Bool)) (finK Try.prog [.sl .lent n_a0 a0 9] [.tmp 4]))) (.exit 0) (left (writes (cAt (codeOf Try.f8) [1,0,1,0,0])) [1,5] [0] (laws_markStringS_t0 a1 n_a0 a0) ([.a (.i .i64 (z0_1)),.a (.i .i64 (z0_5))],[.sl .lent n_a0 q0_0 9]))=laws_markStringS_k0_0 Try.prog N a1 n_a0 a0 z0_1 z0_5 q0_0:=by
 refine Eq.trans (b:=(bif (Nat.blt 0 n_a0) then (some (.a (.i .i64 (z0_1)),.set 0 (.sl .lent n_a0 q0_0 9),true))
  else (none))) (by kernel_rfl) ?_
 rfl
theorem laws_markStringS_n0 (N:Nat) (a1:Int) (n_a0:Nat) (a0:Array Value):bindX (iterO (stepV Try.prog (mkΓ [(20,con laws_markText_con)]) N (cAt (codeOf Try.f8) [1,0,1,0,0]) (pAt (mkPlan (codeOf Try.f8) [([1,5],[0])]).1 [1,0,1,0]) [1,5] [0] (laws_markStringS_t0 a1 n_a0 a0)) N ([.a (.i .i64 (a1)),.a (.i .i64 (0:Int))],[.sl .lent n_a0 a0 9])) (fun e s=>(kBlock 0 (kSeq (veC Try.prog (mkΓ [(20,con laws_markText_con)]) N (cAt (codeOf Try.f8) [1,1]) (pAt (mkPlan (codeOf Try.f8) [([1,5],[0])]).1 [1,1]) (SV×Eff×Bool)) (finK Try.prog [.sl .lent n_a0 a0 9] [.tmp 4]))) e (left (writes (cAt (codeOf Try.f8) [1,0,1,0,0])) [1,5] [0] (laws_markStringS_t0 a1 n_a0 a0) s))=nodeX (iterO (laws_markStringS_g0 Try.prog a1 n_a0 a0) N (a1,(0:Int),a0)) (fun x=>laws_markStringS_k0_0 Try.prog N a1 n_a0 a0 x.1 x.2.1 x.2.2):=by
 refine loop_node (laws_markStringS_e0 n_a0) (laws_markStringS_x0 n_a0) _ _ (laws_markStringS_s0 N a1 n_a0 a0) N (a1,(0:Int),a0) _ _ ?_
 intro x;exact laws_markStringS_k0_0_eq N a1 n_a0 a0 x.1 x.2.1 x.2.2
theorem laws_markStringS_ans (N:Nat) (a1:Int) (n_a0:Nat) (a0:Array Value):ansV Try.prog (mkΓ [(20,con laws_markText_con)]) N Try.f8 [([1,5],[0])] [.l 0,.i .i64 (a1)] [.sl .lent n_a0 a0 9]=(nodeX (iterO (laws_markStringS_g0 Try.prog a1 n_a0 a0) N (a1,(0:Int),a0)) (fun x=>laws_markStringS_k0_0 Try.prog N a1 n_a0 a0 x.1 x.2.1 x.2.2)):=by
 refine Eq.trans (b:=(bindX (iterO (stepV Try.prog (mkΓ [(20,con laws_markText_con)]) N (cAt (codeOf Try.f8) [1,0,1,0,0]) (pAt (mkPlan (codeOf Try.f8) [([1,5],[0])]).1 [1,0,1,0]) [1,5] [0] (laws_markStringS_t0 a1 n_a0 a0)) N ([.a (.i .i64 (a1)),.a (.i .i64 (0:Int))],[.sl .lent n_a0 a0 9])) (fun e s=>(kBlock 0 (kSeq (veC Try.prog (mkΓ [(20,con laws_markText_con)]) N (cAt (codeOf Try.f8) [1,1]) (pAt (mkPlan (codeOf Try.f8) [([1,5],[0])]).1 [1,1]) (SV×Eff×Bool)) (finK Try.prog [.sl .lent n_a0 a0 9] [.tmp 4]))) e (left (writes (cAt (codeOf Try.f8) [1,0,1,0,0])) [1,5] [0] (laws_markStringS_t0 a1 n_a0 a0) s)))) (by kernel_rfl) ?_
 simp only [laws_markStringS_n0 N a1 n_a0 a0]
theorem laws_markStringS_main0 (a1:Int) (n_a0:Nat) (a0:Array Value) (h_a1:i64.min≤a1∧a1≤i64.max) (h_a0:a0.size=n_a0*(lay Try.prog 9).length∧(∀ k,k<n_a0→WT Try.prog 9 (a0.extract (k*(lay Try.prog 9).length) (k*(lay Try.prog 9).length+(lay Try.prog 9).length)))∧n_a0≤9223372036854775807) (hc0:(Nat.beq n_a0 0)=false) (hg:(((Nat.ble n_a0 100000)&&(decide (0≤a1)&&decide (a1≤1000000))))=true):ansV Try.prog (mkΓ [(20,con laws_markText_con)]) 18446744073709551616 Try.f8 [([1,5],[0])] [.l 0,.i .i64 (a1)] [.sl .lent n_a0 a0 9]=some (.a (.i .i64 (a1+(n_a0:Int))),.set 0 (.sl .lent n_a0 (mkT (n_a0*1) a1) 9),true):=by
 rw [Bool.and_eq_true,Bool.and_eq_true] at hg
 have hn:n_a0≤100000:=Nat.le_of_ble_eq_true hg.1
 have hk0:0≤a1∧a1≤1000000:=⟨of_decide_eq_true hg.2.1,of_decide_eq_true hg.2.2⟩
 have hm:(lay Try.prog 9).length=1:=by kernel_rfl
 obtain ⟨s1,-,-⟩:=h_a0
 rw [hm] at s1
 have hs:(mkT (n_a0*1) a1).size=a0.size:=by rw [mkT_size,s1]
 have hpos:Nat.blt 0 n_a0=true:=by
  have:n_a0≠0:=fun h=>by rw [h] at hc0;cases hc0
  simp [Nat.blt];omega
 have h:=iter_all (g:=laws_markStringS_g0 Try.prog a1 n_a0 a0) (fun i=>(a1+(i:Int),(i:Int),upto (mkT (n_a0*1) a1) a0 i)) (m:=n_a0) (x:=(a1+(n_a0:Int),(n_a0:Int),upto (mkT (n_a0*1) a1) a0 n_a0)) (N:=18446744073709551616) (fun i hi=>by
  have h1:decide ((i:Int)<(n_a0:Int))=true:=decide_eq_true (by omega)
  have h2:decide (0≤(i:Int))=true:=decide_eq_true (by omega)
  have h3:(decide (0≤a1+(i:Int))&&decide (a1+(i:Int)≤2000000))=true:=by rw [decide_eq_true (by omega),decide_eq_true (by omega)];rfl
  have h4:i64.wrap (a1+(i:Int)+1)=a1+((i+1:Nat):Int):=by rw [IntWalk.i64_in _ (by omega)];omega
  have h5:i64.wrap ((i:Int)+1)=((i+1:Nat):Int):=by rw [IntWalk.i64_in _ (by omega)];omega
  have h6:(upto (mkT (n_a0*1) a1) a0 i).setIfInBounds (i*1) (.string (mtT (a1+(i:Int))))=upto (mkT (n_a0*1) a1) a0 (i+1):=by
   rw [Nat.mul_one i]
   exact upto_set hs (mkT_at (by omega))
  simp only [laws_markStringS_g0,h1,h2,h3,h4,h5,h6,Int.toNat_natCast,Bool.and_self,cond_true]) (by
  have h1:decide ((n_a0:Int)<(n_a0:Int))=false:=decide_eq_false (by omega)
  simp only [laws_markStringS_g0,h1,cond_false]) (by omega)
 refine (laws_markStringS_ans 18446744073709551616 a1 n_a0 a0).trans ?_
 have hz:upto (mkT (n_a0*1) a1) a0 0=a0:=upto_zero hs
 have hl:upto (mkT (n_a0*1) a1) a0 n_a0=mkT (n_a0*1) a1:=upto_all hs (by rw [mkT_size,Nat.mul_one])
 have h':iterO (laws_markStringS_g0 Try.prog a1 n_a0 a0) 18446744073709551616 (a1,(0:Int),a0)=some (a1+(n_a0:Int),(n_a0:Int),mkT (n_a0*1) a1):=by
  have h2:=h
  simp only [hz,hl] at h2
  have e:a1+((0:Nat):Int)=a1:=by omega
  rw [e] at h2
  exact h2
 rw [h']
 simp only [nodeX,laws_markStringS_k0_0,hpos,cond_true]
theorem laws_markStringS_main1 (a1:Int) (n_a0:Nat) (a0:Array Value) (h_a1:i64.min≤a1∧a1≤i64.max) (h_a0:a0.size=n_a0*(lay Try.prog 9).length∧(∀ k,k<n_a0→WT Try.prog 9 (a0.extract (k*(lay Try.prog 9).length) (k*(lay Try.prog 9).length+(lay Try.prog 9).length)))∧n_a0≤9223372036854775807) (hc0:(Nat.beq n_a0 0)=true) (hg:(true)=true):ansV Try.prog (mkΓ [(20,con laws_markText_con)]) 1000 Try.f8 [([1,5],[])] [.l 0,.i .i64 (a1)] [.sl .lent n_a0 a0 9]=some (.a (.i .i64 (a1)),.none,true):=by
 obtain rfl:n_a0=0:=Nat.eq_of_beq_eq_true hc0
 kernel_rfl
noncomputable def laws_markStringS_scon:SCon:=fun args h=>match args,h with
 | [.l 0,.i .i64 a1],[.sl .lent n_a0 a0 9]=>.two (Nat.beq n_a0 0) (.one (some (.a (.i .i64 (a1)),.none,true))) (.one (some (.a (.i .i64 (a1+(n_a0:Int))),.set 0 (.sl .lent n_a0 (mkT (n_a0*1) a1) 9),((Nat.ble n_a0 100000)&&(decide (0≤a1)&&decide (a1≤1000000))))))
 | _,_=>.one none
theorem laws_markStringS_enter:EntX Try.prog 8:=entX_ok (fn:=Try.f8) (by kernel_rfl) (by kernel_rfl) (by kernel_rfl)
theorem laws_markStringS_sok:ConOkX mn Try.prog 8 (fun args h=>wayRes (laws_markStringS_scon args h)):=by
 intro ρ h w args vals r e hn hr hA hH
 dsimp only at hr
 unfold laws_markStringS_scon at hr
 split at hr
 ·rename_i a1 n_a0 a0
  simp only [wayRes] at hr
  cases hc0:(Nat.beq n_a0 0)
  ·rw [hc0] at hr
   simp only [wayRes,cond_true,cond_false] at hr
   obtain ⟨rfl,hg⟩:=Prod.mk.inj (Option.some.inj hr)
   obtain ⟨rfl,hg2⟩:=Prod.mk.inj hg
   exact ((ansX_ok (N:=18446744073709551616) (by kernel_rfl) (mkΓ_consX (con_okX laws_markText_ok) laws_markText_enter mkΓ_nilX) (fn:=Try.f8) (by kernel_rfl) (by kernel_rfl) [([1,5],[0])])) ρ _ w _ vals _ _ hn ((laws_markStringS_main0 a1 n_a0 a0 (hA.rng 1 rfl) (hH.slw 0 rfl) hc0 hg2)) hA hH
  ·rw [hc0] at hr
   simp only [wayRes,cond_true,cond_false] at hr
   obtain ⟨rfl,hg⟩:=Prod.mk.inj (Option.some.inj hr)
   obtain ⟨rfl,hg2⟩:=Prod.mk.inj hg
   exact ((ansX_ok (N:=1000) (by kernel_rfl) (mkΓ_consX (con_okX laws_markText_ok) laws_markText_enter mkΓ_nilX) (fn:=Try.f8) (by kernel_rfl) (by kernel_rfl) [([1,5],[])])) ρ _ w _ vals _ _ hn ((laws_markStringS_main1 a1 n_a0 a0 (hA.rng 1 rfl) (hH.slw 0 rfl) hc0 hg2)) hA hH
 ·simp only [wayRes] at hr
  cases hr
noncomputable def laws_heldStringS_t0 (a1:Int) (b_a0:Option (Option Addr)) (n_a0:Nat) (a0:Array Value):St:=(⟨.a (.l 0) :: .a (.i .i64 (a1)) :: .a (.u) :: .a (.u) :: .a (.i .i64 (0:Int)) :: .a (.i .i64 (0:Int))::us 16 ([]),[.sl (.came b_a0) n_a0 a0 9],[]⟩:St)
noncomputable def laws_heldStringS_e0:Int×Int×Int→LS
 | (y0_1,y0_4,y0_5)=>([.a (.i .i64 (y0_1)),.a (.i .i64 (y0_4)),.a (.i .i64 (y0_5))],[])
noncomputable def laws_heldStringS_x0:(Stp (Int×Int×Int) (Int×Int×Int))→Exit×LS
 | .more t=>(.ret,laws_heldStringS_e0 t)
 | .done t=>((.exit 0),laws_heldStringS_e0 t)
noncomputable def laws_heldStringS_g0 (P : Program) (a1 : Int) (b_a0 : Option (Option Addr)) (n_a0 : Nat) (a0 : Array Value) : Int × Int × Int → Option (Stp (Int × Int × Int) (Stp (Int × Int × Int) (Int × Int × Int)))
 | (y0_1, y0_4, y0_5) => bif decide (y0_5 < (n_a0 : Int)) then (bif (decide (0 ≤ y0_5) && decide (y0_5 < (n_a0 : Int))) then (bif (decide (0 ≤ y0_1) && decide (y0_1 ≤ 2000000)) then (bif (!((str a0 ((y0_5).toNat * 1)).toList == ((mtT y0_1)).toList)) then (some (.done (.more (y0_1, (-1 : Int), y0_5))))
     else (some (.more ((i64.wrap (y0_1 + (1 : Int))), y0_4, (i64.wrap (y0_5 + (1 : Int)))))))
    else (none))
   else (none))
  else (some (.done (.done (y0_1, y0_4, y0_5))))
theorem laws_heldStringS_s0 (N:Nat) (a1:Int) (b_a0:Option (Option Addr)) (n_a0:Nat) (a0:Array Value):∀ t:Int×Int×Int,stepV Try.prog (mkΓ [(20,con laws_markText_con)]) N (cAt (codeOf Try.f9) [1,0,1,0,0]) (pAt (mkPlan (codeOf Try.f9) [([1,4,5],[])]).1 [1,0,1,0]) [1,4,5] [] (laws_heldStringS_t0 a1 b_a0 n_a0 a0) (laws_heldStringS_e0 t)=mapS laws_heldStringS_e0 laws_heldStringS_x0 (laws_heldStringS_g0 Try.prog a1 b_a0 n_a0 a0 t):=by
 rintro ⟨y0_1,y0_4,y0_5⟩
 refine Eq.trans (b:=(bif decide (y0_5<(n_a0:Int)) then (bif (decide (0≤y0_5)&&decide (y0_5<(n_a0:Int))) then (bif (decide (0≤y0_1)&&decide (y0_1≤2000000)) then (bif (!((str a0 ((y0_5).toNat*1)).toList==((mtT y0_1)).toList)) then (some (.done (.ret,([.a (.i .i64 (y0_1)),.a (.i .i64 (-1:Int)),.a (.i .i64 (y0_5))],[]))))
     else (some (.more ([.a (.i .i64 (i64.wrap (y0_1+(1:Int)))),.a (.i .i64 (y0_4)),.a (.i .i64 (i64.wrap (y0_5+(1:Int))))],[]))))
    else (none))
   else (none))
  else (some (.done ((.exit 0),([.a (.i .i64 (y0_1)),.a (.i .i64 (y0_4)),.a (.i .i64 (y0_5))],[])))))) (by kernel_rfl) ?_
 simp only [laws_heldStringS_g0,mapS_cond,mapS_more,mapS_done,mapS_none,laws_heldStringS_e0,laws_heldStringS_x0]
noncomputable def laws_heldStringS_k0_0 (P:Program) (N:Nat) (a1:Int) (b_a0:Option (Option Addr)) (n_a0:Nat) (a0:Array Value) (z0_1:Int) (z0_4:Int) (z0_5:Int):Option (SV×Eff×Bool):=some (.a (.i .i64 (z0_4)),.none,true)
theorem laws_heldStringS_k0_0_eq (N:Nat) (a1:Int) (b_a0:Option (Option Addr)) (n_a0:Nat) (a0:Array Value) (z0_1:Int) (z0_4:Int) (z0_5:Int):(kBlock 0 (kSeq (veC Try.prog (mkΓ [(20,con laws_markText_con)]) N (cAt (codeOf Try.f9) [1,1]) (pAt (mkPlan (codeOf Try.f9) [([1,4,5],[])]).1 [1,1]) (SV×Eff×Bool)) (finK Try.prog [.sl (.came b_a0) n_a0 a0 9] [.tmp 4]))) .ret (left (writes (cAt (codeOf Try.f9) [1,0,1,0,0])) [1,4,5] [] (laws_heldStringS_t0 a1 b_a0 n_a0 a0) ([.a (.i .i64 (z0_1)),.a (.i .i64 (z0_4)),.a (.i .i64 (z0_5))],[]))=laws_heldStringS_k0_0 Try.prog N a1 b_a0 n_a0 a0 z0_1 z0_4 z0_5:=by
 refine Eq.trans (b:=(some (.a (.i .i64 (z0_4)),.none,true))) (by kernel_rfl) ?_
 rfl
noncomputable def laws_heldStringS_k0_1 (P:Program) (N:Nat) (a1:Int) (b_a0:Option (Option Addr)) (n_a0:Nat) (a0:Array Value) (z0_1:Int) (z0_4:Int) (z0_5:Int):Option (SV×Eff×Bool):=some (.a (.i .i64 (z0_1)),.none,true)
theorem laws_heldStringS_k0_1_eq (N:Nat) (a1:Int) (b_a0:Option (Option Addr)) (n_a0:Nat) (a0:Array Value) (z0_1:Int) (z0_4:Int) (z0_5:Int):(kBlock 0 (kSeq (veC Try.prog (mkΓ [(20,con laws_markText_con)]) N (cAt (codeOf Try.f9) [1,1]) (pAt (mkPlan (codeOf Try.f9) [([1,4,5],[])]).1 [1,1]) (SV×Eff×Bool)) (finK Try.prog [.sl (.came b_a0) n_a0 a0 9] [.tmp 4]))) (.exit 0) (left (writes (cAt (codeOf Try.f9) [1,0,1,0,0])) [1,4,5] [] (laws_heldStringS_t0 a1 b_a0 n_a0 a0) ([.a (.i .i64 (z0_1)),.a (.i .i64 (z0_4)),.a (.i .i64 (z0_5))],[]))=laws_heldStringS_k0_1 Try.prog N a1 b_a0 n_a0 a0 z0_1 z0_4 z0_5:=by
 refine Eq.trans (b:=(some (.a (.i .i64 (z0_1)),.none,true))) (by kernel_rfl) ?_
 rfl
theorem laws_heldStringS_n0 (N:Nat) (a1:Int) (b_a0:Option (Option Addr)) (n_a0:Nat) (a0:Array Value):bindX (iterO (stepV Try.prog (mkΓ [(20,con laws_markText_con)]) N (cAt (codeOf Try.f9) [1,0,1,0,0]) (pAt (mkPlan (codeOf Try.f9) [([1,4,5],[])]).1 [1,0,1,0]) [1,4,5] [] (laws_heldStringS_t0 a1 b_a0 n_a0 a0)) N ([.a (.i .i64 (a1)),.a (.i .i64 (0:Int)),.a (.i .i64 (0:Int))],[])) (fun e s=>(kBlock 0 (kSeq (veC Try.prog (mkΓ [(20,con laws_markText_con)]) N (cAt (codeOf Try.f9) [1,1]) (pAt (mkPlan (codeOf Try.f9) [([1,4,5],[])]).1 [1,1]) (SV×Eff×Bool)) (finK Try.prog [.sl (.came b_a0) n_a0 a0 9] [.tmp 4]))) e (left (writes (cAt (codeOf Try.f9) [1,0,1,0,0])) [1,4,5] [] (laws_heldStringS_t0 a1 b_a0 n_a0 a0) s))=nodeX (iterO (laws_heldStringS_g0 Try.prog a1 b_a0 n_a0 a0) N (a1,(0:Int),(0:Int))) (st2 (fun x=>laws_heldStringS_k0_0 Try.prog N a1 b_a0 n_a0 a0 x.1 x.2.1 x.2.2) (fun x=>laws_heldStringS_k0_1 Try.prog N a1 b_a0 n_a0 a0 x.1 x.2.1 x.2.2)):=by
 refine loop_node laws_heldStringS_e0 laws_heldStringS_x0 _ _ (laws_heldStringS_s0 N a1 b_a0 n_a0 a0) N (a1,(0:Int),(0:Int)) _ _ ?_
 intro x
 cases x with
 | more x=>exact laws_heldStringS_k0_0_eq N a1 b_a0 n_a0 a0 x.1 x.2.1 x.2.2
 | done x=>exact laws_heldStringS_k0_1_eq N a1 b_a0 n_a0 a0 x.1 x.2.1 x.2.2
theorem laws_heldStringS_ans (N:Nat) (a1:Int) (b_a0:Option (Option Addr)) (n_a0:Nat) (a0:Array Value):ansV Try.prog (mkΓ [(20,con laws_markText_con)]) N Try.f9 [([1,4,5],[])] [.l 0,.i .i64 (a1)] [.sl (.came b_a0) n_a0 a0 9]=(nodeX (iterO (laws_heldStringS_g0 Try.prog a1 b_a0 n_a0 a0) N (a1,(0:Int),(0:Int))) (st2 (fun x=>laws_heldStringS_k0_0 Try.prog N a1 b_a0 n_a0 a0 x.1 x.2.1 x.2.2) (fun x=>laws_heldStringS_k0_1 Try.prog N a1 b_a0 n_a0 a0 x.1 x.2.1 x.2.2))):=by
 refine Eq.trans (b:=(bindX (iterO (stepV Try.prog (mkΓ [(20,con laws_markText_con)]) N (cAt (codeOf Try.f9) [1,0,1,0,0]) (pAt (mkPlan (codeOf Try.f9) [([1,4,5],[])]).1 [1,0,1,0]) [1,4,5] [] (laws_heldStringS_t0 a1 b_a0 n_a0 a0)) N ([.a (.i .i64 (a1)),.a (.i .i64 (0:Int)),.a (.i .i64 (0:Int))],[])) (fun e s=>(kBlock 0 (kSeq (veC Try.prog (mkΓ [(20,con laws_markText_con)]) N (cAt (codeOf Try.f9) [1,1]) (pAt (mkPlan (codeOf Try.f9) [([1,4,5],[])]).1 [1,1]) (SV×Eff×Bool)) (finK Try.prog [.sl (.came b_a0) n_a0 a0 9] [.tmp 4]))) e (left (writes (cAt (codeOf Try.f9) [1,0,1,0,0])) [1,4,5] [] (laws_heldStringS_t0 a1 b_a0 n_a0 a0) s)))) (by kernel_rfl) ?_
 simp only [laws_heldStringS_n0 N a1 b_a0 n_a0 a0]
theorem laws_heldStringS_main (a1:Int) (b_a0:Option (Option Addr)) (n_a0:Nat) (a0:Array Value) (h_a1:i64.min≤a1∧a1≤i64.max) (h_a0:a0.size=n_a0*(lay Try.prog 9).length∧(∀ k,k<n_a0→WT Try.prog 9 (a0.extract (k*(lay Try.prog 9).length) (k*(lay Try.prog 9).length+(lay Try.prog 9).length)))∧n_a0≤9223372036854775807) (hg:(((Nat.ble n_a0 100000)&&((decide (0≤a1)&&decide (a1≤1000000))&&sameB a0 (mkT (n_a0*1) a1))))=true):ansV Try.prog (mkΓ [(20,con laws_markText_con)]) 18446744073709551616 Try.f9 [([1,4,5],[])] [.l 0,.i .i64 (a1)] [.sl (.came b_a0) n_a0 a0 9]=some (.a (.i .i64 (a1+(n_a0:Int))),.none,true):=by
 rw [Bool.and_eq_true,Bool.and_eq_true,Bool.and_eq_true] at hg
 have hn:n_a0≤100000:=Nat.le_of_ble_eq_true hg.1
 have hk0:0≤a1∧a1≤1000000:=⟨of_decide_eq_true hg.2.1.1,of_decide_eq_true hg.2.1.2⟩
 have hA:=sameB_iff.1 hg.2.2
 have h:=iter_all (g:=laws_heldStringS_g0 Try.prog a1 b_a0 n_a0 a0) (fun i=>(a1+(i:Int),(0:Int),(i:Int))) (m:=n_a0) (x:=.done (a1+(n_a0:Int),(0:Int),(n_a0:Int))) (N:=18446744073709551616) (fun i hi=>by
  have h1:decide ((i:Int)<(n_a0:Int))=true:=decide_eq_true (by omega)
  have h2:decide (0≤(i:Int))=true:=decide_eq_true (by omega)
  have h3:(decide (0≤a1+(i:Int))&&decide (a1+(i:Int)≤2000000))=true:=by rw [decide_eq_true (by omega),decide_eq_true (by omega)];rfl
  have h4:i64.wrap (a1+(i:Int)+1)=a1+((i+1:Nat):Int):=by rw [IntWalk.i64_in _ (by omega)];omega
  have h5:i64.wrap ((i:Int)+1)=((i+1:Nat):Int):=by rw [IntWalk.i64_in _ (by omega)];omega
  have h6:str a0 (i*1)=mtT (a1+(i:Int)):=by rw [hA];simp only [Nat.mul_one];exact mkT_str hi
  simp only [laws_heldStringS_g0,h1,h2,h3,h4,h5,h6,Int.toNat_natCast,Bool.and_self,cond_true,beq_self_eq_true,Bool.not_true,cond_false]) (by
  have h1:decide ((n_a0:Int)<(n_a0:Int))=false:=decide_eq_false (by omega)
  simp only [laws_heldStringS_g0,h1,cond_false]) (by omega)
 refine (laws_heldStringS_ans 18446744073709551616 a1 b_a0 n_a0 a0).trans ?_
 have h':iterO (laws_heldStringS_g0 Try.prog a1 b_a0 n_a0 a0) 18446744073709551616 (a1,(0:Int),(0:Int))=some (.done (a1+(n_a0:Int),(0:Int),(n_a0:Int))):=by
  have h2:=h
  have e:a1+((0:Nat):Int)=a1:=by omega
  simp only [e] at h2
  exact h2
 rw [h']
 rfl
noncomputable def laws_heldStringS_con:Con:=fun args h=>match args,h with
 | [.l 0,.i .i64 a1],[.sl (.came b_a0) n_a0 a0 9]=>some (.a (.i .i64 (a1+(n_a0:Int))),.none,((Nat.ble n_a0 100000)&&((decide (0≤a1)&&decide (a1≤1000000))&&sameB a0 (mkT (n_a0*1) a1))))
 | _,_=>none
theorem laws_heldStringS_enter:EntX Try.prog 9:=entX_ok (fn:=Try.f9) (by kernel_rfl) (by kernel_rfl) (by kernel_rfl)
theorem laws_heldStringS_ok:ConOkX mn Try.prog 9 laws_heldStringS_con:=(ansX_ok (N:=18446744073709551616) (by kernel_rfl) (mkΓ_consX (con_okX laws_markText_ok) laws_markText_enter mkΓ_nilX) (fn:=Try.f9) (by kernel_rfl) (by kernel_rfl) [([1,4,5],[])]).of (by
 intro ρ h w args vals r e hA hH hr
 unfold laws_heldStringS_con at hr
 split at hr
 ·rename_i a1 b_a0 n_a0 a0
  obtain ⟨rfl,hg⟩:=Prod.mk.inj (Option.some.inj hr)
  obtain ⟨rfl,hg2⟩:=Prod.mk.inj hg
  exact laws_heldStringS_main a1 b_a0 n_a0 a0 (hA.rng 1 rfl) (hH.slw 0 rfl) hg2
 ·cases hr)
end
end Go.Proofs.Ytdoofckpedklnaa
