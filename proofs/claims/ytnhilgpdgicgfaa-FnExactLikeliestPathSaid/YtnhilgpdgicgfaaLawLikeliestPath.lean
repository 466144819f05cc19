/- For every sea, cells, tide and hours spec and program tell the same likeliest path. -/
import Derived.Test.YtnhilgpdgicgfaaRows
import Derived.Test.YtnhilgpdgicgfaaChecked
import Derived.Test.YtnhilgpdgicgfaaLpJ
import Derived.Test.YtnhilgpdgicgfaaLoX
namespace Go.Proofs.Ytnhilgpdgicgfaa
open Go.ChangeShapes Go.WideShapes Go.ChangeAt Go.RowKit Ve Vc
open IntKind (i64)
set_option linter.unusedVariables false
set_option linter.unusedSimpArgs false
set_option maxRecDepth 100000
noncomputable section
variable {mn:Md}
noncomputable def mkA(n:Nat)(k:Int):Array Value:=⟨(List.range n).map λi:Nat=>.int .i64 (k+(i:Int))⟩
theorem mkA_size(n:Nat)(k:Int):(mkA n k).size=n:=by simp[mkA]
theorem mkA_at{n:Nat}{k:Int}{i:Nat}(h:i<n):(mkA n k)[i]?=some (.int .i64 (k+(i:Int))):=by unfold mkA;simp[h]
theorem mkA_num{n:Nat}{k:Int}{i:Nat}(h:i<n):num (mkA n k) i=k+(i:Int):=by unfold num;rw[mkA_at h]
noncomputable def laws_eqInt64S_t0(b_a0:Option (Option Addr))(n_a0:Nat)(a0:Array Value)(b_a1:Option (Option Addr))(n_a1:Nat)(a1:Array Value):St:=(⟨.a (.l 0)::.a (.l 1)::.a (.u)::.a (.u)::.a (.b false)::.a (.i .i64 0)::.a (.l 0)::.a (.i .i64 (n_a0:Int))::.a (.l 1)::.a (.i .i64 (n_a1:Int))::.a (.b (((n_a0:Int) != (n_a1:Int))))::us 15 ([]),[.sl (.came b_a0) n_a0 a0 2,.sl (.came b_a1) n_a1 a1 2],[]⟩:St)
noncomputable def laws_eqInt64S_e0:Bool×Int->LS
 |(y0_4,y0_5)=>([.a (.b y0_4),.a (.i .i64 y0_5)],[])
noncomputable def laws_eqInt64S_x0:(Stp (Bool×Int) (Bool×Int))->Exit×LS
 |.more t=>(.ret,laws_eqInt64S_e0 t)
 |.done t=>((.exit 0),laws_eqInt64S_e0 t)
noncomputable def laws_eqInt64S_g0(P:Program)(b_a0:Option (Option Addr))(n_a0:Nat)(a0:Array Value)(b_a1:Option (Option Addr))(n_a1:Nat)(a1:Array Value):Bool×Int->Option (Stp (Bool×Int) (Stp (Bool×Int) (Bool×Int)))
 |(y0_4,y0_5)=>bif decide (y0_5<(n_a0:Int)) then (bif (decide (0<=y0_5)&&decide (y0_5<(n_a0:Int))) then (bif (decide (0<=y0_5)&&decide (y0_5<(n_a1:Int))) then (bif ((num a0 ((y0_5).toNat*1)) != (num a1 ((y0_5).toNat*1))) then (some (.done (.more (false,y0_5)))) else (some (.more (y0_4,(i64.wrap (y0_5+(1:Int))))))) else (none)) else (none)) else (some (.done (.done (y0_4,y0_5))))
theorem laws_eqInt64S_s0(N:Nat)(b_a0:Option (Option Addr))(n_a0:Nat)(a0:Array Value)(b_a1:Option (Option Addr))(n_a1:Nat)(a1:Array Value):∀t:Bool×Int,stepV Try.prog (mkΓ []) N (cAt (codeOf Try.f13) [1,1,0,1,0,0]) (pAt (mkPlan (codeOf Try.f13) [([4,5],[])]).1 [1,1,0,1,0]) [4,5] [] (laws_eqInt64S_t0 b_a0 n_a0 a0 b_a1 n_a1 a1) (laws_eqInt64S_e0 t)=mapS laws_eqInt64S_e0 laws_eqInt64S_x0 (laws_eqInt64S_g0 Try.prog b_a0 n_a0 a0 b_a1 n_a1 a1 t):=by
 rintro⟨y0_4,y0_5⟩
 conv=>rhs;simp only[laws_eqInt64S_g0,mapS_cond,mapS_more,mapS_done,mapS_none,laws_eqInt64S_e0,laws_eqInt64S_x0]
 kernel_rfl
noncomputable def laws_eqInt64S_k0_0(P:Program)(N:Nat)(b_a0:Option (Option Addr))(n_a0:Nat)(a0:Array Value)(b_a1:Option (Option Addr))(n_a1:Nat)(a1:Array Value)(z0_4:Bool)(z0_5:Int):Option (SV×Eff×Bool):=some (.a (.b z0_4),.none,true)
theorem laws_eqInt64S_k0_0_eq(N:Nat)(b_a0:Option (Option Addr))(n_a0:Nat)(a0:Array Value)(b_a1:Option (Option Addr))(n_a1:Nat)(a1:Array Value)(z0_4:Bool)(z0_5:Int):(kBlock 0 (kSeq (veC Try.prog (mkΓ []) N (cAt (codeOf Try.f13) [1,1,1]) (pAt (mkPlan (codeOf Try.f13) [([4,5],[])]).1 [1,1,1]) (SV×Eff×Bool)) (finK Try.prog [.sl (.came b_a0) n_a0 a0 2,.sl (.came b_a1) n_a1 a1 2] [.tmp 4]))) .ret (left (writes (cAt (codeOf Try.f13) [1,1,0,1,0,0])) [4,5] [] (laws_eqInt64S_t0 b_a0 n_a0 a0 b_a1 n_a1 a1) ([.a (.b z0_4),.a (.i .i64 z0_5)],[]))=laws_eqInt64S_k0_0 Try.prog N b_a0 n_a0 a0 b_a1 n_a1 a1 z0_4 z0_5:=by kernel_rfl
noncomputable def laws_eqInt64S_k0_1(P:Program)(N:Nat)(b_a0:Option (Option Addr))(n_a0:Nat)(a0:Array Value)(b_a1:Option (Option Addr))(n_a1:Nat)(a1:Array Value)(z0_4:Bool)(z0_5:Int):Option (SV×Eff×Bool):=some (.a (.b true),.none,true)
theorem laws_eqInt64S_k0_1_eq(N:Nat)(b_a0:Option (Option Addr))(n_a0:Nat)(a0:Array Value)(b_a1:Option (Option Addr))(n_a1:Nat)(a1:Array Value)(z0_4:Bool)(z0_5:Int):(kBlock 0 (kSeq (veC Try.prog (mkΓ []) N (cAt (codeOf Try.f13) [1,1,1]) (pAt (mkPlan (codeOf Try.f13) [([4,5],[])]).1 [1,1,1]) (SV×Eff×Bool)) (finK Try.prog [.sl (.came b_a0) n_a0 a0 2,.sl (.came b_a1) n_a1 a1 2] [.tmp 4]))) (.exit 0) (left (writes (cAt (codeOf Try.f13) [1,1,0,1,0,0])) [4,5] [] (laws_eqInt64S_t0 b_a0 n_a0 a0 b_a1 n_a1 a1) ([.a (.b z0_4),.a (.i .i64 z0_5)],[]))=laws_eqInt64S_k0_1 Try.prog N b_a0 n_a0 a0 b_a1 n_a1 a1 z0_4 z0_5:=by kernel_rfl
theorem laws_eqInt64S_n0(N:Nat)(b_a0:Option (Option Addr))(n_a0:Nat)(a0:Array Value)(b_a1:Option (Option Addr))(n_a1:Nat)(a1:Array Value):bindX (iterO (stepV Try.prog (mkΓ []) N (cAt (codeOf Try.f13) [1,1,0,1,0,0]) (pAt (mkPlan (codeOf Try.f13) [([4,5],[])]).1 [1,1,0,1,0]) [4,5] [] (laws_eqInt64S_t0 b_a0 n_a0 a0 b_a1 n_a1 a1)) N ([.a (.b false),.a (.i .i64 0)],[])) (λe s=>(kBlock 0 (kSeq (veC Try.prog (mkΓ []) N (cAt (codeOf Try.f13) [1,1,1]) (pAt (mkPlan (codeOf Try.f13) [([4,5],[])]).1 [1,1,1]) (SV×Eff×Bool)) (finK Try.prog [.sl (.came b_a0) n_a0 a0 2,.sl (.came b_a1) n_a1 a1 2] [.tmp 4]))) e (left (writes (cAt (codeOf Try.f13) [1,1,0,1,0,0])) [4,5] [] (laws_eqInt64S_t0 b_a0 n_a0 a0 b_a1 n_a1 a1) s))=nodeX (iterO (laws_eqInt64S_g0 Try.prog b_a0 n_a0 a0 b_a1 n_a1 a1) N (false,(0:Int))) (st2 (λx=>laws_eqInt64S_k0_0 Try.prog N b_a0 n_a0 a0 b_a1 n_a1 a1 x.1 x.2) (λx=>laws_eqInt64S_k0_1 Try.prog N b_a0 n_a0 a0 b_a1 n_a1 a1 x.1 x.2)):=by refine loop_node laws_eqInt64S_e0 laws_eqInt64S_x0 _ _ (laws_eqInt64S_s0 N b_a0 n_a0 a0 b_a1 n_a1 a1) N (false,(0:Int)) _ _ ?_;intro x;cases x with|more x=>exact laws_eqInt64S_k0_0_eq N b_a0 n_a0 a0 b_a1 n_a1 a1 x.1 x.2|done x=>exact laws_eqInt64S_k0_1_eq N b_a0 n_a0 a0 b_a1 n_a1 a1 x.1 x.2
theorem laws_eqInt64S_ans(N:Nat)(b_a0:Option (Option Addr))(n_a0:Nat)(a0:Array Value)(b_a1:Option (Option Addr))(n_a1:Nat)(a1:Array Value):ansV Try.prog (mkΓ []) N Try.f13 [([4,5],[])] [.l 0,.l 1] [.sl (.came b_a0) n_a0 a0 2,.sl (.came b_a1) n_a1 a1 2]=(bif ((n_a0:Int) != (n_a1:Int)) then (some (.a (.b false),.none,true)) else (nodeX (iterO (laws_eqInt64S_g0 Try.prog b_a0 n_a0 a0 b_a1 n_a1 a1) N (false,(0:Int))) (st2 (λx=>laws_eqInt64S_k0_0 Try.prog N b_a0 n_a0 a0 b_a1 n_a1 a1 x.1 x.2) (λx=>laws_eqInt64S_k0_1 Try.prog N b_a0 n_a0 a0 b_a1 n_a1 a1 x.1 x.2)))):=by
 conv=>rhs;simp only[<- laws_eqInt64S_n0 N b_a0 n_a0 a0 b_a1 n_a1 a1]
 kernel_rfl
theorem laws_eqInt64S_main(b_a0:Option (Option Addr))(n_a0:Nat)(a0:Array Value)(b_a1:Option (Option Addr))(n_a1:Nat)(a1:Array Value)(h_a0:a0.size=n_a0*(lay Try.prog 2).length/\(∀k,k<n_a0->WT Try.prog 2 (a0.extract (k*(lay Try.prog 2).length) (k*(lay Try.prog 2).length+(lay Try.prog 2).length)))/\n_a0<=9223372036854775807)(h_a1:a1.size=n_a1*(lay Try.prog 2).length/\(∀k,k<n_a1->WT Try.prog 2 (a1.extract (k*(lay Try.prog 2).length) (k*(lay Try.prog 2).length+(lay Try.prog 2).length)))/\n_a1<=9223372036854775807)(hg:(true)=true):ansV Try.prog (mkΓ []) 18446744073709551616 Try.f13 [([4,5],[])] [.l 0,.l 1] [.sl (.came b_a0) n_a0 a0 2,.sl (.came b_a1) n_a1 a1 2]=some (.a (.b ((decide (n_a0=n_a1)&&sameB a0 a1))),.none,true):=by
 have hm:(lay Try.prog 2).length=1:=by kernel_rfl
 obtain⟨s1,s2,s3⟩:=h_a0;obtain⟨t1,t2,t3⟩:=h_a1;rw[hm]at s1 s2 t1 t2;have hq:(lay Try.prog 2)[0]?=some 3:=by kernel_rfl
 refine(laws_eqInt64S_ans 18446744073709551616 b_a0 n_a0 a0 b_a1 n_a1 a1).trans ?_
 by_cases hl:n_a0=n_a1
 case neg=>
  rw[decide_eq_false hl,show ((n_a0:Int) != (n_a1:Int))=true from bne_iff_ne.2 (by omega)];rfl
 subst hl;rw[decide_eq_true rfl,show ((n_a0:Int) != (n_a0:Int))=false from bne_self_eq_false _];simp only[cond_false,Bool.true_and];have hb:sameB a0 a1=true ↔ ∀k,k<n_a0->(λk=>(num a0 (k*1)==num a1 (k*1))) k=true:=by
  constructor
  ·intro h k hk;rw[sameB_iff.1 h];exact beq_self_eq_true _
  ·intro h;refine sameB_iff.2 ?_;refine ext_parts (n:=n_a0) (m:=1) (by omega) s1 t1 (λk hk=> ?_);have e0:=(sl_int (kd:=.i64) (o:=0) s2 hk (by omega) hq).1;have e1:=(sl_int (kd:=.i64) (o:=0) t2 hk (by omega) hq).1;rw[Nat.add_zero]at e0 e1;rw[eq_of_beq (h k hk)]at e0;refine arr_ext λi=> ?_
   rw[Array.getElem?_extract,Array.getElem?_extract,s1,t1]
   by_cases hi:i=0
   ·subst hi;simp only[Nat.add_zero];rw[e0,e1]
   ·rw[if_neg (by omega),if_neg (by omega)]
 refine(iter_first (g:=laws_eqInt64S_g0 Try.prog b_a0 n_a0 a0 b_a1 n_a0 a1) (λk=>(false,(k:Int))) (λk=>(num a0 (k*1)==num a1 (k*1))) n_a0 (N:=18446744073709551616) (xd:=.done (false,(n_a0:Int))) (by omega) (λk hk hp=>by
  have h1:decide ((k:Int)<(n_a0:Int))=true:=decide_eq_true (by omega);have h0:decide (0<=(k:Int))=true:=decide_eq_true (by omega);have h3:i64.wrap ((k:Int)+1)=((k+1:Nat):Int):=by rw[IntWalk.i64_in _ (by omega)];omega
  have hp':(num a0 (k*1)==num a1 (k*1))=true:=hp;simp only[laws_eqInt64S_g0,h1,h0,Bool.and_self,Int.toNat_natCast,cond_true,h3,bne,hp',Bool.not_true,cond_false]) (by
  have h1:decide ((n_a0:Int)<(n_a0:Int))=false:=decide_eq_false (by omega);simp only[laws_eqInt64S_g0,h1,cond_false]) (sameB a0 a1) hb (some (.a (.b true),.none,true)) (some (.a (.b false),.none,true)) rfl (λk hk hp=>by
  refine⟨.more (false,(k:Int)),?_,rfl⟩;have h1:decide ((k:Int)<(n_a0:Int))=true:=decide_eq_true (by omega);have h0:decide (0<=(k:Int))=true:=decide_eq_true (by omega);have hp':(num a0 (k*1)==num a1 (k*1))=false:=hp;simp only[laws_eqInt64S_g0,h1,h0,Bool.and_self,Int.toNat_natCast,cond_true,bne,hp',Bool.not_false])).trans ?_
 cases sameB a0 a1<;>rfl
noncomputable def laws_eqInt64S_con:Con:=λargs h=>match args,h with|[.l 0,.l 1],[.sl (.came b_a0) n_a0 a0 2,.sl (.came b_a1) n_a1 a1 2]=>some (.a (.b ((decide (n_a0=n_a1)&&sameB a0 a1))),.none,true)|_,_=>none
theorem laws_eqInt64S_enter:EntX Try.prog 13:=entX_ok (fn:=Try.f13) (by kernel_rfl) (by kernel_rfl) (by kernel_rfl)
theorem laws_eqInt64S_ok:ConOkX mn Try.prog 13 laws_eqInt64S_con:=(ansX_ok (N:=18446744073709551616) (by kernel_rfl) mKn (fn:=Try.f13) (by kernel_rfl) (by kernel_rfl) [([4,5],[])]).of (by
 intro ρ h w args vals r e hA hH hr;unfold laws_eqInt64S_con at hr;split at hr
 ·rename_i b_a0 n_a0 a0 b_a1 n_a1 a1;obtain⟨rfl,hg⟩:=Prod.mk.inj (Option.some.inj hr);obtain⟨rfl,hg2⟩:=Prod.mk.inj hg;exact laws_eqInt64S_main b_a0 n_a0 a0 b_a1 n_a1 a1 (hH.slw 0 rfl) (hH.slw 1 rfl) hg2
 ·cases hr)
noncomputable def laws_markInt64S_t0(a1:Int)(n_a0:Nat)(a0:Array Value):St:=(⟨.a (.l 0)::.a (.i .i64 a1)::.a (.u)::.a (.u)::.a (.i .i64 0)::.a (.i .i64 0)::us 13 ([]),[.sl .lent n_a0 a0 2],[]⟩:St)
noncomputable def laws_markInt64S_e0(n_a0:Nat):Int×Int×Array Value->LS
 |(y0_1,y0_5,r0_0)=>([.a (.i .i64 y0_1),.a (.i .i64 y0_5)],[.sl .lent n_a0 r0_0 2])
noncomputable def laws_markInt64S_x0(n_a0:Nat):Int×Int×Array Value->Exit×LS
 |t=>((.exit 0),(laws_markInt64S_e0 n_a0) t)
noncomputable def laws_markInt64S_g0(P:Program)(a1:Int)(n_a0:Nat)(a0:Array Value):Int×Int×Array Value->Option (Stp (Int×Int×Array Value) (Int×Int×Array Value))
 |(y0_1,y0_5,r0_0)=>bif decide (y0_5<(n_a0:Int)) then (bif (decide (0<=y0_5)&&decide (y0_5<(n_a0:Int))) then (some (.more ((i64.wrap (y0_1+(1:Int))),(i64.wrap (y0_5+(1:Int))),(r0_0.setIfInBounds ((y0_5).toNat*1) (.int .i64 y0_1))))) else (none)) else (some (.done (y0_1,y0_5,r0_0)))
theorem laws_markInt64S_s0(N:Nat)(a1:Int)(n_a0:Nat)(a0:Array Value):∀t:Int×Int×Array Value,stepV Try.prog (mkΓ []) N (cAt (codeOf Try.f14) [1,0,1,0,0]) (pAt (mkPlan (codeOf Try.f14) [([1,5],[0])]).1 [1,0,1,0]) [1,5] [0] (laws_markInt64S_t0 a1 n_a0 a0) ((laws_markInt64S_e0 n_a0) t)=mapS (laws_markInt64S_e0 n_a0) (laws_markInt64S_x0 n_a0) (laws_markInt64S_g0 Try.prog a1 n_a0 a0 t):=by
 rintro⟨y0_1,y0_5,r0_0⟩
 conv=>rhs;simp only[laws_markInt64S_g0,mapS_cond,mapS_more,mapS_done,mapS_none,laws_markInt64S_e0,laws_markInt64S_x0]
 kernel_rfl
noncomputable def laws_markInt64S_k0_0(P:Program)(N:Nat)(a1:Int)(n_a0:Nat)(a0:Array Value)(z0_1:Int)(z0_5:Int)(q0_0:Array Value):Option (SV×Eff×Bool):=bif (Nat.blt 0 n_a0) then (some (.a (.i .i64 z0_1),.set 0 (.sl .lent n_a0 q0_0 2),true)) else (none)
theorem laws_markInt64S_k0_0_eq(N:Nat)(a1:Int)(n_a0:Nat)(a0:Array Value)(z0_1:Int)(z0_5:Int)(q0_0:Array Value):(kBlock 0 (kSeq (veC Try.prog (mkΓ []) N (cAt (codeOf Try.f14) [1,1]) (pAt (mkPlan (codeOf Try.f14) [([1,5],[0])]).1 [1,1]) (SV×Eff×Bool)) (finK Try.prog [.sl .lent n_a0 a0 2] [.tmp 4]))) (.exit 0) (left (writes (cAt (codeOf Try.f14) [1,0,1,0,0])) [1,5] [0] (laws_markInt64S_t0 a1 n_a0 a0) ([.a (.i .i64 z0_1),.a (.i .i64 z0_5)],[.sl .lent n_a0 q0_0 2]))=laws_markInt64S_k0_0 Try.prog N a1 n_a0 a0 z0_1 z0_5 q0_0:=by kernel_rfl
theorem laws_markInt64S_n0(N:Nat)(a1:Int)(n_a0:Nat)(a0:Array Value):bindX (iterO (stepV Try.prog (mkΓ []) N (cAt (codeOf Try.f14) [1,0,1,0,0]) (pAt (mkPlan (codeOf Try.f14) [([1,5],[0])]).1 [1,0,1,0]) [1,5] [0] (laws_markInt64S_t0 a1 n_a0 a0)) N ([.a (.i .i64 a1),.a (.i .i64 0)],[.sl .lent n_a0 a0 2])) (λe s=>(kBlock 0 (kSeq (veC Try.prog (mkΓ []) N (cAt (codeOf Try.f14) [1,1]) (pAt (mkPlan (codeOf Try.f14) [([1,5],[0])]).1 [1,1]) (SV×Eff×Bool)) (finK Try.prog [.sl .lent n_a0 a0 2] [.tmp 4]))) e (left (writes (cAt (codeOf Try.f14) [1,0,1,0,0])) [1,5] [0] (laws_markInt64S_t0 a1 n_a0 a0) s))=nodeX (iterO (laws_markInt64S_g0 Try.prog a1 n_a0 a0) N (a1,(0:Int),a0)) (λx=>laws_markInt64S_k0_0 Try.prog N a1 n_a0 a0 x.1 x.2.1 x.2.2):=by refine loop_node (laws_markInt64S_e0 n_a0) (laws_markInt64S_x0 n_a0) _ _ (laws_markInt64S_s0 N a1 n_a0 a0) N (a1,(0:Int),a0) _ _ ?_;intro x;exact laws_markInt64S_k0_0_eq N a1 n_a0 a0 x.1 x.2.1 x.2.2
theorem laws_markInt64S_ans(N:Nat)(a1:Int)(n_a0:Nat)(a0:Array Value):ansV Try.prog (mkΓ []) N Try.f14 [([1,5],[0])] [.l 0,.i .i64 a1] [.sl .lent n_a0 a0 2]=(nodeX (iterO (laws_markInt64S_g0 Try.prog a1 n_a0 a0) N (a1,(0:Int),a0)) (λx=>laws_markInt64S_k0_0 Try.prog N a1 n_a0 a0 x.1 x.2.1 x.2.2)):=by
 conv=>rhs;simp only[<- laws_markInt64S_n0 N a1 n_a0 a0]
 kernel_rfl
theorem laws_markInt64S_main0(a1:Int)(n_a0:Nat)(a0:Array Value)(h_a1:i64.min<=a1/\a1<=i64.max)(h_a0:a0.size=n_a0*(lay Try.prog 2).length/\(∀k,k<n_a0->WT Try.prog 2 (a0.extract (k*(lay Try.prog 2).length) (k*(lay Try.prog 2).length+(lay Try.prog 2).length)))/\n_a0<=9223372036854775807)(hc0:(Nat.beq n_a0 0)=false)(hg:(((Nat.ble n_a0 100000)&&(decide (0<=a1)&&decide (a1<=1000000))))=true):ansV Try.prog (mkΓ []) 18446744073709551616 Try.f14 [([1,5],[0])] [.l 0,.i .i64 a1] [.sl .lent n_a0 a0 2]=some (.a (.i .i64 (a1+((n_a0*1:Nat):Int))),.set 0 (.sl .lent n_a0 (mkA (n_a0*1) a1) 2),true):=by
 rw[Bool.and_eq_true,Bool.and_eq_true]at hg;have hn:n_a0<=100000:=Nat.le_of_ble_eq_true hg.1;have hk0:0<=a1/\a1<=1000000:=⟨of_decide_eq_true hg.2.1,of_decide_eq_true hg.2.2⟩;have hm:(lay Try.prog 2).length=1:=by kernel_rfl
 obtain⟨s1,-,-⟩:=h_a0;rw[hm]at s1;have hs:(mkA (n_a0*1) a1).size=a0.size:=by rw[mkA_size,s1]
 have hpos:Nat.blt 0 n_a0=true:=by
  have:n_a0≠0:=λh=>by rw[h]at hc0;cases hc0
  simp[Nat.blt];omega
 have h:=iter_all (g:=laws_markInt64S_g0 Try.prog a1 n_a0 a0) (λi=>(a1+((i*1:Nat):Int),(i:Int),upto (mkA (n_a0*1) a1) a0 (i*1))) (m:=n_a0) (x:=(a1+((n_a0*1:Nat):Int),(n_a0:Int),upto (mkA (n_a0*1) a1) a0 (n_a0*1))) (N:=18446744073709551616) (λi hi=>by
  have h1:decide ((i:Int)<(n_a0:Int))=true:=decide_eq_true (by omega);have h2:decide (0<=(i:Int))=true:=decide_eq_true (by omega);have h4:i64.wrap (a1+((i*1:Nat):Int)+1)=a1+(((i+1)*1:Nat):Int):=by rw[IntWalk.i64_in _ (by omega)];omega
  have h5:i64.wrap ((i:Int)+1)=((i+1:Nat):Int):=by rw[IntWalk.i64_in _ (by omega)];omega
  have h6:(upto (mkA (n_a0*1) a1) a0 (i*1)).setIfInBounds (i*1) (.int .i64 (a1+((i*1:Nat):Int)))=upto (mkA (n_a0*1) a1) a0 ((i+1)*1):=by rw[show (i+1)*1=i*1+1 by omega];exact upto_set hs (mkA_at (by omega))
  simp only[laws_markInt64S_g0,h1,h2,h4,h5,h6,Int.toNat_natCast,Bool.and_self,cond_true]) (by
  have h1:decide ((n_a0:Int)<(n_a0:Int))=false:=decide_eq_false (by omega);simp only[laws_markInt64S_g0,h1,cond_false]) (by omega)
 refine(laws_markInt64S_ans 18446744073709551616 a1 n_a0 a0).trans ?_;have hz:upto (mkA (n_a0*1) a1) a0 0=a0:=upto_zero hs;have hl:upto (mkA (n_a0*1) a1) a0 (n_a0*1)=mkA (n_a0*1) a1:=upto_all hs (mkA_size _ _);have h0:a1+(((0*1:Nat)):Int)=a1:=by omega
 have h':iterO (laws_markInt64S_g0 Try.prog a1 n_a0 a0) 18446744073709551616 (a1,(0:Int),a0)=some (a1+((n_a0*1:Nat):Int),(n_a0:Int),mkA (n_a0*1) a1):=by
  have h2:=h;simp only[Nat.zero_mul,hz,hl]at h2;have e:a1+((0:Nat):Int)=a1:=by omega
  rw[e]at h2;exact h2
 rw[h'];simp only[nodeX,laws_markInt64S_k0_0,hpos,cond_true]
theorem laws_markInt64S_main1(a1:Int)(n_a0:Nat)(a0:Array Value)(h_a1:i64.min<=a1/\a1<=i64.max)(h_a0:a0.size=n_a0*(lay Try.prog 2).length/\(∀k,k<n_a0->WT Try.prog 2 (a0.extract (k*(lay Try.prog 2).length) (k*(lay Try.prog 2).length+(lay Try.prog 2).length)))/\n_a0<=9223372036854775807)(hc0:(Nat.beq n_a0 0)=true)(hg:(true)=true):ansV Try.prog (mkΓ []) 1000 Try.f14 [([1,5],[])] [.l 0,.i .i64 a1] [.sl .lent n_a0 a0 2]=some (.a (.i .i64 a1),.none,true):=by obtain rfl:n_a0=0:=Nat.eq_of_beq_eq_true hc0;kernel_rfl
noncomputable def laws_markInt64S_scon:SCon:=λargs h=>match args,h with|[.l 0,.i .i64 a1],[.sl .lent n_a0 a0 2]=>.two (Nat.beq n_a0 0) (.one (some (.a (.i .i64 a1),.none,true))) (.one (some (.a (.i .i64 (a1+((n_a0*1:Nat):Int))),.set 0 (.sl .lent n_a0 (mkA (n_a0*1) a1) 2),((Nat.ble n_a0 100000)&&(decide (0<=a1)&&decide (a1<=1000000))))))|_,_=>.one none
theorem laws_markInt64S_enter:EntX Try.prog 14:=entX_ok (fn:=Try.f14) (by kernel_rfl) (by kernel_rfl) (by kernel_rfl)
theorem laws_markInt64S_sok:ConOkX mn Try.prog 14 (λargs h=>wayRes (laws_markInt64S_scon args h)):=by
 intro ρ h w args vals r e hn hr hA hH;dsimp only at hr;unfold laws_markInt64S_scon at hr;split at hr
 ·rename_i a1 n_a0 a0;simp only[wayRes]at hr;cases hc0:(Nat.beq n_a0 0)
  ·rw[hc0]at hr;simp only[wayRes,cond_true,cond_false]at hr;obtain⟨rfl,hg⟩:=Prod.mk.inj (Option.some.inj hr);obtain⟨rfl,hg2⟩:=Prod.mk.inj hg;exact((ansX_ok (N:=18446744073709551616) (by kernel_rfl) mKn (fn:=Try.f14) (by kernel_rfl) (by kernel_rfl) [([1,5],[0])])) ρ _ w _ vals _ _ hn ((laws_markInt64S_main0 a1 n_a0 a0 (hA.rng 1 rfl) (hH.slw 0 rfl) hc0 hg2)) hA hH
  ·rw[hc0]at hr;simp only[wayRes,cond_true,cond_false]at hr;obtain⟨rfl,hg⟩:=Prod.mk.inj (Option.some.inj hr);obtain⟨rfl,hg2⟩:=Prod.mk.inj hg;exact((ansX_ok (N:=1000) (by kernel_rfl) mKn (fn:=Try.f14) (by kernel_rfl) (by kernel_rfl) [([1,5],[])])) ρ _ w _ vals _ _ hn ((laws_markInt64S_main1 a1 n_a0 a0 (hA.rng 1 rfl) (hH.slw 0 rfl) hc0 hg2)) hA hH
 ·simp only[wayRes]at hr;cases hr
noncomputable def laws_heldInt64S_t0(a1:Int)(b_a0:Option (Option Addr))(n_a0:Nat)(a0:Array Value):St:=(⟨.a (.l 0)::.a (.i .i64 a1)::.a (.u)::.a (.u)::.a (.i .i64 0)::.a (.i .i64 0)::us 15 ([]),[.sl (.came b_a0) n_a0 a0 2],[]⟩:St)
noncomputable def laws_heldInt64S_e0:Int×Int×Int->LS
 |(y0_1,y0_4,y0_5)=>([.a (.i .i64 y0_1),.a (.i .i64 y0_4),.a (.i .i64 y0_5)],[])
noncomputable def laws_heldInt64S_x0:(Stp (Int×Int×Int) (Int×Int×Int))->Exit×LS
 |.more t=>(.ret,laws_heldInt64S_e0 t)
 |.done t=>((.exit 0),laws_heldInt64S_e0 t)
noncomputable def laws_heldInt64S_g0(P:Program)(a1:Int)(b_a0:Option (Option Addr))(n_a0:Nat)(a0:Array Value):Int×Int×Int->Option (Stp (Int×Int×Int) (Stp (Int×Int×Int) (Int×Int×Int)))
 |(y0_1,y0_4,y0_5)=>bif decide (y0_5<(n_a0:Int)) then (bif (decide (0<=y0_5)&&decide (y0_5<(n_a0:Int))) then (bif ((num a0 ((y0_5).toNat*1)) != y0_1) then (some (.done (.more (y0_1,(-1:Int),y0_5)))) else (some (.more ((i64.wrap (y0_1+(1:Int))),y0_4,(i64.wrap (y0_5+(1:Int))))))) else (none)) else (some (.done (.done (y0_1,y0_4,y0_5))))
theorem laws_heldInt64S_s0(N:Nat)(a1:Int)(b_a0:Option (Option Addr))(n_a0:Nat)(a0:Array Value):∀t:Int×Int×Int,stepV Try.prog (mkΓ []) N (cAt (codeOf Try.f15) [1,0,1,0,0]) (pAt (mkPlan (codeOf Try.f15) [([1,4,5],[])]).1 [1,0,1,0]) [1,4,5] [] (laws_heldInt64S_t0 a1 b_a0 n_a0 a0) (laws_heldInt64S_e0 t)=mapS laws_heldInt64S_e0 laws_heldInt64S_x0 (laws_heldInt64S_g0 Try.prog a1 b_a0 n_a0 a0 t):=by
 rintro⟨y0_1,y0_4,y0_5⟩
 conv=>rhs;simp only[laws_heldInt64S_g0,mapS_cond,mapS_more,mapS_done,mapS_none,laws_heldInt64S_e0,laws_heldInt64S_x0]
 kernel_rfl
noncomputable def laws_heldInt64S_k0_0(P:Program)(N:Nat)(a1:Int)(b_a0:Option (Option Addr))(n_a0:Nat)(a0:Array Value)(z0_1:Int)(z0_4:Int)(z0_5:Int):Option (SV×Eff×Bool):=some (.a (.i .i64 z0_4),.none,true)
theorem laws_heldInt64S_k0_0_eq(N:Nat)(a1:Int)(b_a0:Option (Option Addr))(n_a0:Nat)(a0:Array Value)(z0_1:Int)(z0_4:Int)(z0_5:Int):(kBlock 0 (kSeq (veC Try.prog (mkΓ []) N (cAt (codeOf Try.f15) [1,1]) (pAt (mkPlan (codeOf Try.f15) [([1,4,5],[])]).1 [1,1]) (SV×Eff×Bool)) (finK Try.prog [.sl (.came b_a0) n_a0 a0 2] [.tmp 4]))) .ret (left (writes (cAt (codeOf Try.f15) [1,0,1,0,0])) [1,4,5] [] (laws_heldInt64S_t0 a1 b_a0 n_a0 a0) ([.a (.i .i64 z0_1),.a (.i .i64 z0_4),.a (.i .i64 z0_5)],[]))=laws_heldInt64S_k0_0 Try.prog N a1 b_a0 n_a0 a0 z0_1 z0_4 z0_5:=by kernel_rfl
noncomputable def laws_heldInt64S_k0_1(P:Program)(N:Nat)(a1:Int)(b_a0:Option (Option Addr))(n_a0:Nat)(a0:Array Value)(z0_1:Int)(z0_4:Int)(z0_5:Int):Option (SV×Eff×Bool):=some (.a (.i .i64 z0_1),.none,true)
theorem laws_heldInt64S_k0_1_eq(N:Nat)(a1:Int)(b_a0:Option (Option Addr))(n_a0:Nat)(a0:Array Value)(z0_1:Int)(z0_4:Int)(z0_5:Int):(kBlock 0 (kSeq (veC Try.prog (mkΓ []) N (cAt (codeOf Try.f15) [1,1]) (pAt (mkPlan (codeOf Try.f15) [([1,4,5],[])]).1 [1,1]) (SV×Eff×Bool)) (finK Try.prog [.sl (.came b_a0) n_a0 a0 2] [.tmp 4]))) (.exit 0) (left (writes (cAt (codeOf Try.f15) [1,0,1,0,0])) [1,4,5] [] (laws_heldInt64S_t0 a1 b_a0 n_a0 a0) ([.a (.i .i64 z0_1),.a (.i .i64 z0_4),.a (.i .i64 z0_5)],[]))=laws_heldInt64S_k0_1 Try.prog N a1 b_a0 n_a0 a0 z0_1 z0_4 z0_5:=by kernel_rfl
theorem laws_heldInt64S_n0(N:Nat)(a1:Int)(b_a0:Option (Option Addr))(n_a0:Nat)(a0:Array Value):bindX (iterO (stepV Try.prog (mkΓ []) N (cAt (codeOf Try.f15) [1,0,1,0,0]) (pAt (mkPlan (codeOf Try.f15) [([1,4,5],[])]).1 [1,0,1,0]) [1,4,5] [] (laws_heldInt64S_t0 a1 b_a0 n_a0 a0)) N ([.a (.i .i64 a1),.a (.i .i64 0),.a (.i .i64 0)],[])) (λe s=>(kBlock 0 (kSeq (veC Try.prog (mkΓ []) N (cAt (codeOf Try.f15) [1,1]) (pAt (mkPlan (codeOf Try.f15) [([1,4,5],[])]).1 [1,1]) (SV×Eff×Bool)) (finK Try.prog [.sl (.came b_a0) n_a0 a0 2] [.tmp 4]))) e (left (writes (cAt (codeOf Try.f15) [1,0,1,0,0])) [1,4,5] [] (laws_heldInt64S_t0 a1 b_a0 n_a0 a0) s))=nodeX (iterO (laws_heldInt64S_g0 Try.prog a1 b_a0 n_a0 a0) N (a1,(0:Int),(0:Int))) (st2 (λx=>laws_heldInt64S_k0_0 Try.prog N a1 b_a0 n_a0 a0 x.1 x.2.1 x.2.2) (λx=>laws_heldInt64S_k0_1 Try.prog N a1 b_a0 n_a0 a0 x.1 x.2.1 x.2.2)):=by refine loop_node laws_heldInt64S_e0 laws_heldInt64S_x0 _ _ (laws_heldInt64S_s0 N a1 b_a0 n_a0 a0) N (a1,(0:Int),(0:Int)) _ _ ?_;intro x;cases x with|more x=>exact laws_heldInt64S_k0_0_eq N a1 b_a0 n_a0 a0 x.1 x.2.1 x.2.2|done x=>exact laws_heldInt64S_k0_1_eq N a1 b_a0 n_a0 a0 x.1 x.2.1 x.2.2
theorem laws_heldInt64S_ans(N:Nat)(a1:Int)(b_a0:Option (Option Addr))(n_a0:Nat)(a0:Array Value):ansV Try.prog (mkΓ []) N Try.f15 [([1,4,5],[])] [.l 0,.i .i64 a1] [.sl (.came b_a0) n_a0 a0 2]=(nodeX (iterO (laws_heldInt64S_g0 Try.prog a1 b_a0 n_a0 a0) N (a1,(0:Int),(0:Int))) (st2 (λx=>laws_heldInt64S_k0_0 Try.prog N a1 b_a0 n_a0 a0 x.1 x.2.1 x.2.2) (λx=>laws_heldInt64S_k0_1 Try.prog N a1 b_a0 n_a0 a0 x.1 x.2.1 x.2.2))):=by
 conv=>rhs;simp only[<- laws_heldInt64S_n0 N a1 b_a0 n_a0 a0]
 kernel_rfl
theorem laws_heldInt64S_main(a1:Int)(b_a0:Option (Option Addr))(n_a0:Nat)(a0:Array Value)(h_a1:i64.min<=a1/\a1<=i64.max)(h_a0:a0.size=n_a0*(lay Try.prog 2).length/\(∀k,k<n_a0->WT Try.prog 2 (a0.extract (k*(lay Try.prog 2).length) (k*(lay Try.prog 2).length+(lay Try.prog 2).length)))/\n_a0<=9223372036854775807)(hg:(((Nat.ble n_a0 100000)&&((decide (0<=a1)&&decide (a1<=1000000))&&sameB a0 (mkA (n_a0*1) a1))))=true):ansV Try.prog (mkΓ []) 18446744073709551616 Try.f15 [([1,4,5],[])] [.l 0,.i .i64 a1] [.sl (.came b_a0) n_a0 a0 2]=some (.a (.i .i64 (a1+((n_a0*1:Nat):Int))),.none,true):=by
 rw[Bool.and_eq_true,Bool.and_eq_true,Bool.and_eq_true]at hg;have hn:n_a0<=100000:=Nat.le_of_ble_eq_true hg.1;have hk0:0<=a1/\a1<=1000000:=⟨of_decide_eq_true hg.2.1.1,of_decide_eq_true hg.2.1.2⟩;have hA:=sameB_iff.1 hg.2.2;have hnum:∀i,i<n_a0*1->(num a0 i != a1+(i:Int))=false:=λi hi=>by rw[hA,mkA_num hi];exact bne_self_eq_false _
 have h:=iter_all (g:=laws_heldInt64S_g0 Try.prog a1 b_a0 n_a0 a0) (λi=>(a1+((i*1:Nat):Int),(0:Int),(i:Int))) (m:=n_a0) (x:=.done (a1+((n_a0*1:Nat):Int),(0:Int),(n_a0:Int))) (N:=18446744073709551616) (λi hi=>by
  have h1:decide ((i:Int)<(n_a0:Int))=true:=decide_eq_true (by omega);have h2:decide (0<=(i:Int))=true:=decide_eq_true (by omega);have h4:i64.wrap (a1+((i*1:Nat):Int)+1)=a1+(((i+1)*1:Nat):Int):=by rw[IntWalk.i64_in _ (by omega)];omega
  have h5:i64.wrap ((i:Int)+1)=((i+1:Nat):Int):=by rw[IntWalk.i64_in _ (by omega)];omega
  have h6:=hnum (i*1) (by omega);simp only[laws_heldInt64S_g0,h1,h2,h4,h5,h6,Int.toNat_natCast,Bool.and_self,cond_true,cond_false]) (by
  have h1:decide ((n_a0:Int)<(n_a0:Int))=false:=decide_eq_false (by omega);simp only[laws_heldInt64S_g0,h1,cond_false]) (by omega)
 refine(laws_heldInt64S_ans 18446744073709551616 a1 b_a0 n_a0 a0).trans ?_;have h':iterO (laws_heldInt64S_g0 Try.prog a1 b_a0 n_a0 a0) 18446744073709551616 (a1,(0:Int),(0:Int))=some (.done (a1+((n_a0*1:Nat):Int),(0:Int),(n_a0:Int))):=by
  have h2:=h;have e:a1+((0*1:Nat):Int)=a1:=by omega
  simp only[e]at h2;exact h2
 rw[h'];rfl
noncomputable def laws_heldInt64S_con:Con:=λargs h=>match args,h with|[.l 0,.i .i64 a1],[.sl (.came b_a0) n_a0 a0 2]=>some (.a (.i .i64 (a1+((n_a0*1:Nat):Int))),.none,((Nat.ble n_a0 100000)&&((decide (0<=a1)&&decide (a1<=1000000))&&sameB a0 (mkA (n_a0*1) a1))))|_,_=>none
theorem laws_heldInt64S_enter:EntX Try.prog 15:=entX_ok (fn:=Try.f15) (by kernel_rfl) (by kernel_rfl) (by kernel_rfl)
theorem laws_heldInt64S_ok:ConOkX mn Try.prog 15 laws_heldInt64S_con:=(ansX_ok (N:=18446744073709551616) (by kernel_rfl) mKn (fn:=Try.f15) (by kernel_rfl) (by kernel_rfl) [([1,4,5],[])]).of (by
 intro ρ h w args vals r e hA hH hr;unfold laws_heldInt64S_con at hr;split at hr
 ·rename_i a1 b_a0 n_a0 a0;obtain⟨rfl,hg⟩:=Prod.mk.inj (Option.some.inj hr);obtain⟨rfl,hg2⟩:=Prod.mk.inj hg;exact laws_heldInt64S_main a1 b_a0 n_a0 a0 (hA.rng 1 rfl) (hH.slw 0 rfl) hg2
 ·cases hr)
theorem lpN_le{a0:Array Value}{a1 a2 a3 a4:Int}:lpN Try.prog a0 a1 a2 a3 a4<=15:=by unfold lpN;cases hz:(spec_l04Asked_v0 a1 a4 a2 a3 a0==0) with|false=>exact Nat.zero_le _|true=>have:=in_range (ask_all hz).2.2.2.2;rw[cond_true];cases (num (rowR Try.prog lkM a0 (impl_onlyAt_v0 Try.prog a4) a2 a3 a3.toNat) (a1.toNat*1)==(0:Int)) with|true=>exact Nat.zero_le _|false=>rw[cond_false];omega
theorem lpA_size{a0:Array Value}{a1 a2 a3 a4:Int}:(lpA Try.prog a0 a1 a2 a3 a4).size=lpN Try.prog a0 a1 a2 a3 a4:=by unfold lpN lpA;cases (spec_l04Asked_v0 a1 a4 a2 a3 a0==0) with|false=>rfl|true=>cases (num (rowR Try.prog lkM a0 (impl_onlyAt_v0 Try.prog a4) a2 a3 a3.toNat) (a1.toNat*1)==(0:Int)) with|true=>rfl|false=>exact psA_size ..
noncomputable def laws_FnExactLikeliestPath_G:Cons:=(mkΓw [(14,conSW laws_markInt64S_scon)] [(11,con laws_toSea_con),(13,con laws_eqInt64S_con),(15,con laws_heldInt64S_con),(19,con spec_LikeliestPath_con),(20,con impl_LikeliestPath_con)] [] [])
theorem laws_FnExactLikeliestPath_ans(N:Nat)(a0:Array Value)(a1 a2 a3 a4:Int):ansV Try.prog laws_FnExactLikeliestPath_G N Try.f5 [] [.g a0 28,.i .i64 a1,.i .i64 a2,.i .i64 a3,.i .i64 a4] []=(bif (!((decide (((lpN Try.prog a0 a1 a2 a3 a4))=((lpN Try.prog a0 a1 a2 a3 a4)))&&sameB (lpA Try.prog a0 a1 a2 a3 a4) (lpA Try.prog a0 a1 a2 a3 a4)))) then (some (.a (.b false),.none,true)) else (bif ((lpV Try.prog a0 a1 a2 a3 a4) != (lpV Try.prog a0 a1 a2 a3 a4)) then (some (.a (.b false),.none,true)) else (bif ((lpC Try.prog a0 a1 a2 a3 a4) != (lpC Try.prog a0 a1 a2 a3 a4)) then (some (.a (.b false),.none,true)) else (bif Nat.beq ((lpN Try.prog a0 a1 a2 a3 a4)) 0 then (bif ((Nat.ble ((lpN Try.prog a0 a1 a2 a3 a4)) 100000)&&((decide (0<=(1:Int))&&decide ((1:Int)<=1000000))&&sameB (lpA Try.prog a0 a1 a2 a3 a4) (mkA (((lpN Try.prog a0 a1 a2 a3 a4))*1) (1:Int)))) then (bif decide (((1:Int)+((((lpN Try.prog a0 a1 a2 a3 a4))*1:Nat):Int))<(0:Int)) then (some (.a (.b false),.none,true)) else (bif (((1:Int)+((((lpN Try.prog a0 a1 a2 a3 a4))*1:Nat):Int)) != (1:Int)) then (some (.a (.b false),.none,true)) else (bif (!((decide (((lpN Try.prog a0 a1 a2 a3 a4))=((lpN Try.prog a0 a1 a2 a3 a4)))&&sameB (lpA Try.prog a0 a1 a2 a3 a4) (lpA Try.prog a0 a1 a2 a3 a4)))) then (some (.a (.b false),.none,true)) else (bif ((lpV Try.prog a0 a1 a2 a3 a4) != (lpV Try.prog a0 a1 a2 a3 a4)) then (some (.a (.b false),.none,true)) else (bif ((lpC Try.prog a0 a1 a2 a3 a4) != (lpC Try.prog a0 a1 a2 a3 a4)) then (some (.a (.b false),.none,true)) else (bif ((Nat.ble ((lpN Try.prog a0 a1 a2 a3 a4)) 100000)&&((decide (0<=(1:Int))&&decide ((1:Int)<=1000000))&&sameB (lpA Try.prog a0 a1 a2 a3 a4) (mkA (((lpN Try.prog a0 a1 a2 a3 a4))*1) (1:Int)))) then (bif decide (((1:Int)+((((lpN Try.prog a0 a1 a2 a3 a4))*1:Nat):Int))<(0:Int)) then (some (.a (.b false),.none,true)) else (bif (((1:Int)+((((lpN Try.prog a0 a1 a2 a3 a4))*1:Nat):Int)) != (1:Int)) then (some (.a (.b false),.none,true)) else (some (.a (.b true),.none,true)))) else (none))))))) else (none)) else (bif ((Nat.ble ((lpN Try.prog a0 a1 a2 a3 a4)) 100000)&&(decide (0<=(1:Int))&&decide ((1:Int)<=1000000))) then (bif ((Nat.ble ((lpN Try.prog a0 a1 a2 a3 a4)) 100000)&&((decide (0<=(1:Int))&&decide ((1:Int)<=1000000))&&sameB (mkA (((lpN Try.prog a0 a1 a2 a3 a4))*1) (1:Int)) (mkA (((lpN Try.prog a0 a1 a2 a3 a4))*1) (1:Int)))) then (bif decide (((1:Int)+((((lpN Try.prog a0 a1 a2 a3 a4))*1:Nat):Int))<(0:Int)) then (some (.a (.b false),.none,true)) else (bif (((1:Int)+((((lpN Try.prog a0 a1 a2 a3 a4))*1:Nat):Int)) != ((1:Int)+((((lpN Try.prog a0 a1 a2 a3 a4))*1:Nat):Int))) then (some (.a (.b false),.none,true)) else (bif (!((decide (((lpN Try.prog a0 a1 a2 a3 a4))=((lpN Try.prog a0 a1 a2 a3 a4)))&&sameB (lpA Try.prog a0 a1 a2 a3 a4) (lpA Try.prog a0 a1 a2 a3 a4)))) then (some (.a (.b false),.none,true)) else (bif ((lpV Try.prog a0 a1 a2 a3 a4) != (lpV Try.prog a0 a1 a2 a3 a4)) then (some (.a (.b false),.none,true)) else (bif ((lpC Try.prog a0 a1 a2 a3 a4) != (lpC Try.prog a0 a1 a2 a3 a4)) then (some (.a (.b false),.none,true))
                        else (bif ((Nat.ble ((lpN Try.prog a0 a1 a2 a3 a4)) 100000)&&((decide (0<=(1:Int))&&decide ((1:Int)<=1000000))&&sameB (mkA (((lpN Try.prog a0 a1 a2 a3 a4))*1) (1:Int)) (mkA (((lpN Try.prog a0 a1 a2 a3 a4))*1) (1:Int)))) then (bif decide (((1:Int)+((((lpN Try.prog a0 a1 a2 a3 a4))*1:Nat):Int))<(0:Int)) then (some (.a (.b false),.none,true)) else (bif (((1:Int)+((((lpN Try.prog a0 a1 a2 a3 a4))*1:Nat):Int)) != ((1:Int)+((((lpN Try.prog a0 a1 a2 a3 a4))*1:Nat):Int))) then (some (.a (.b false),.none,true)) else (some (.a (.b true),.none,true)))) else (none))))))) else (none)) else (none)))))):=by kernel_rfl
noncomputable def laws_FnExactLikeliestPath_v0(P:Program)(a0:Array Value)(a1 a2 a3 a4:Int):Bool:=(bif (!((decide (((lpN P a0 a1 a2 a3 a4))=((lpN P a0 a1 a2 a3 a4)))&&sameB (lpA P a0 a1 a2 a3 a4) (lpA P a0 a1 a2 a3 a4)))) then false else (bif ((lpV P a0 a1 a2 a3 a4) != (lpV P a0 a1 a2 a3 a4)) then false else (bif ((lpC P a0 a1 a2 a3 a4) != (lpC P a0 a1 a2 a3 a4)) then false else (bif Nat.beq ((lpN P a0 a1 a2 a3 a4)) 0 then (bif decide (((1:Int)+((((lpN P a0 a1 a2 a3 a4))*1:Nat):Int))<(0:Int)) then false else (bif (((1:Int)+((((lpN P a0 a1 a2 a3 a4))*1:Nat):Int)) != (1:Int)) then false else (bif (!((decide (((lpN P a0 a1 a2 a3 a4))=((lpN P a0 a1 a2 a3 a4)))&&sameB (lpA P a0 a1 a2 a3 a4) (lpA P a0 a1 a2 a3 a4)))) then false else (bif ((lpV P a0 a1 a2 a3 a4) != (lpV P a0 a1 a2 a3 a4)) then false else (bif ((lpC P a0 a1 a2 a3 a4) != (lpC P a0 a1 a2 a3 a4)) then false else (bif decide (((1:Int)+((((lpN P a0 a1 a2 a3 a4))*1:Nat):Int))<(0:Int)) then false else (bif (((1:Int)+((((lpN P a0 a1 a2 a3 a4))*1:Nat):Int)) != (1:Int)) then false else true))))))) else (bif decide (((1:Int)+((((lpN P a0 a1 a2 a3 a4))*1:Nat):Int))<(0:Int)) then false else (bif (((1:Int)+((((lpN P a0 a1 a2 a3 a4))*1:Nat):Int)) != ((1:Int)+((((lpN P a0 a1 a2 a3 a4))*1:Nat):Int))) then false else (bif (!((decide (((lpN P a0 a1 a2 a3 a4))=((lpN P a0 a1 a2 a3 a4)))&&sameB (lpA P a0 a1 a2 a3 a4) (lpA P a0 a1 a2 a3 a4)))) then false else (bif ((lpV P a0 a1 a2 a3 a4) != (lpV P a0 a1 a2 a3 a4)) then false else (bif ((lpC P a0 a1 a2 a3 a4) != (lpC P a0 a1 a2 a3 a4)) then false else (bif decide (((1:Int)+((((lpN P a0 a1 a2 a3 a4))*1:Nat):Int))<(0:Int)) then false else (bif (((1:Int)+((((lpN P a0 a1 a2 a3 a4))*1:Nat):Int)) != ((1:Int)+((((lpN P a0 a1 a2 a3 a4))*1:Nat):Int))) then false else true)))))))))))
noncomputable def laws_FnExactLikeliestPath_gd(a0:Array Value)(a1 a2 a3 a4:Int):Bool:=(bif (!((decide (((lpN Try.prog a0 a1 a2 a3 a4))=((lpN Try.prog a0 a1 a2 a3 a4)))&&sameB (lpA Try.prog a0 a1 a2 a3 a4) (lpA Try.prog a0 a1 a2 a3 a4)))) then true else (bif ((lpV Try.prog a0 a1 a2 a3 a4) != (lpV Try.prog a0 a1 a2 a3 a4)) then true else (bif ((lpC Try.prog a0 a1 a2 a3 a4) != (lpC Try.prog a0 a1 a2 a3 a4)) then true else (bif Nat.beq ((lpN Try.prog a0 a1 a2 a3 a4)) 0 then (bif ((Nat.ble ((lpN Try.prog a0 a1 a2 a3 a4)) 100000)&&((decide (0<=(1:Int))&&decide ((1:Int)<=1000000))&&sameB (lpA Try.prog a0 a1 a2 a3 a4) (mkA (((lpN Try.prog a0 a1 a2 a3 a4))*1) (1:Int)))) then (bif decide (((1:Int)+((((lpN Try.prog a0 a1 a2 a3 a4))*1:Nat):Int))<(0:Int)) then true else (bif (((1:Int)+((((lpN Try.prog a0 a1 a2 a3 a4))*1:Nat):Int)) != (1:Int)) then true else (bif (!((decide (((lpN Try.prog a0 a1 a2 a3 a4))=((lpN Try.prog a0 a1 a2 a3 a4)))&&sameB (lpA Try.prog a0 a1 a2 a3 a4) (lpA Try.prog a0 a1 a2 a3 a4)))) then true else (bif ((lpV Try.prog a0 a1 a2 a3 a4) != (lpV Try.prog a0 a1 a2 a3 a4)) then true else (bif ((lpC Try.prog a0 a1 a2 a3 a4) != (lpC Try.prog a0 a1 a2 a3 a4)) then true else ((Nat.ble ((lpN Try.prog a0 a1 a2 a3 a4)) 100000)&&((decide (0<=(1:Int))&&decide ((1:Int)<=1000000))&&sameB (lpA Try.prog a0 a1 a2 a3 a4) (mkA (((lpN Try.prog a0 a1 a2 a3 a4))*1) (1:Int))))))))) else false) else (bif ((Nat.ble ((lpN Try.prog a0 a1 a2 a3 a4)) 100000)&&(decide (0<=(1:Int))&&decide ((1:Int)<=1000000))) then (bif ((Nat.ble ((lpN Try.prog a0 a1 a2 a3 a4)) 100000)&&((decide (0<=(1:Int))&&decide ((1:Int)<=1000000))&&sameB (mkA (((lpN Try.prog a0 a1 a2 a3 a4))*1) (1:Int)) (mkA (((lpN Try.prog a0 a1 a2 a3 a4))*1) (1:Int)))) then (bif decide (((1:Int)+((((lpN Try.prog a0 a1 a2 a3 a4))*1:Nat):Int))<(0:Int)) then true else (bif (((1:Int)+((((lpN Try.prog a0 a1 a2 a3 a4))*1:Nat):Int)) != ((1:Int)+((((lpN Try.prog a0 a1 a2 a3 a4))*1:Nat):Int))) then true else (bif (!((decide (((lpN Try.prog a0 a1 a2 a3 a4))=((lpN Try.prog a0 a1 a2 a3 a4)))&&sameB (lpA Try.prog a0 a1 a2 a3 a4) (lpA Try.prog a0 a1 a2 a3 a4)))) then true else (bif ((lpV Try.prog a0 a1 a2 a3 a4) != (lpV Try.prog a0 a1 a2 a3 a4)) then true else (bif ((lpC Try.prog a0 a1 a2 a3 a4) != (lpC Try.prog a0 a1 a2 a3 a4)) then true else ((Nat.ble ((lpN Try.prog a0 a1 a2 a3 a4)) 100000)&&((decide (0<=(1:Int))&&decide ((1:Int)<=1000000))&&sameB (mkA (((lpN Try.prog a0 a1 a2 a3 a4))*1) (1:Int)) (mkA (((lpN Try.prog a0 a1 a2 a3 a4))*1) (1:Int))))))))) else false) else false)))))
theorem laws_FnExactLikeliestPath_main (a0:Array Value) (a1 a2 a3 a4:Int) (h_a0:WT Try.prog 28 a0) (h_a1:i64.min≤a1∧a1≤i64.max) (h_a2:i64.min≤a2∧a2≤i64.max) (h_a3:i64.min≤a3∧a3≤i64.max) (h_a4:i64.min≤a4∧a4≤i64.max) (hg:((laws_FnExactLikeliestPath_gd a0 a1 a2 a3 a4))=true):ansV Try.prog laws_FnExactLikeliestPath_G 1000 Try.f5 [] [.g a0 28,.i .i64 (a1),.i .i64 (a2),.i .i64 (a3),.i .i64 (a4)] []=some (.a (.b ((laws_FnExactLikeliestPath_v0 Try.prog a0 a1 a2 a3 a4))),.none,true):=by
 refine(laws_FnExactLikeliestPath_ans 1000 a0 a1 a2 a3 a4).trans ?_;unfold laws_FnExactLikeliestPath_gd at hg;unfold laws_FnExactLikeliestPath_v0;revert hg;generalize ((!((decide (((lpN Try.prog a0 a1 a2 a3 a4))=((lpN Try.prog a0 a1 a2 a3 a4)))&&sameB (lpA Try.prog a0 a1 a2 a3 a4) (lpA Try.prog a0 a1 a2 a3 a4)))))=b2;intro hg;cases b2
 ·skip
  revert hg;generalize (((lpV Try.prog a0 a1 a2 a3 a4) != (lpV Try.prog a0 a1 a2 a3 a4)))=b4;intro hg;cases b4
  ·skip
   revert hg;generalize (((lpC Try.prog a0 a1 a2 a3 a4) != (lpC Try.prog a0 a1 a2 a3 a4)))=b6;intro hg;cases b6
   ·skip
    revert hg;generalize (Nat.beq ((lpN Try.prog a0 a1 a2 a3 a4)) 0)=b8;intro hg;cases b8
    ·skip
     revert hg;generalize (((Nat.ble ((lpN Try.prog a0 a1 a2 a3 a4)) 100000)&&(decide (0<=(1:Int))&&decide ((1:Int)<=1000000))))=b10;intro hg;cases b10
     ·skip
      first|exact(nomatch (hg:false=true)) | (simp only[cond_true,cond_false,Bool.and_true,Bool.true_and,Bool.and_false,Bool.false_and];done)|rfl
     ·skip
      revert hg;generalize (((Nat.ble ((lpN Try.prog a0 a1 a2 a3 a4)) 100000)&&((decide (0<=(1:Int))&&decide ((1:Int)<=1000000))&&sameB (mkA (((lpN Try.prog a0 a1 a2 a3 a4))*1) (1:Int)) (mkA (((lpN Try.prog a0 a1 a2 a3 a4))*1) (1:Int)))))=b12;intro hg;cases b12
      ·skip
       first|exact(nomatch (hg:false=true)) | (simp only[cond_true,cond_false,Bool.and_true,Bool.true_and,Bool.and_false,Bool.false_and];done)|rfl
      ·skip
       revert hg;generalize (decide (((1:Int)+((((lpN Try.prog a0 a1 a2 a3 a4))*1:Nat):Int))<(0:Int)))=b14;intro hg;cases b14
       ·skip
        revert hg;generalize ((((1:Int)+((((lpN Try.prog a0 a1 a2 a3 a4))*1:Nat):Int)) != ((1:Int)+((((lpN Try.prog a0 a1 a2 a3 a4))*1:Nat):Int))))=b16;intro hg;cases b16
        ·skip
         first | (simp only[cond_true,cond_false,Bool.and_true,Bool.true_and,Bool.and_false,Bool.false_and];done)|rfl|exact(nomatch (hg:false=true))
        ·skip
         first | (simp only[cond_true,cond_false,Bool.and_true,Bool.true_and,Bool.and_false,Bool.false_and];done)|rfl|exact(nomatch (hg:false=true))
       ·skip
        first | (simp only[cond_true,cond_false,Bool.and_true,Bool.true_and,Bool.and_false,Bool.false_and];done)|rfl|exact(nomatch (hg:false=true))
    ·skip
     revert hg;generalize (((Nat.ble ((lpN Try.prog a0 a1 a2 a3 a4)) 100000)&&((decide (0<=(1:Int))&&decide ((1:Int)<=1000000))&&sameB (lpA Try.prog a0 a1 a2 a3 a4) (mkA (((lpN Try.prog a0 a1 a2 a3 a4))*1) (1:Int)))))=b10;intro hg;cases b10
     ·skip
      first|exact(nomatch (hg:false=true)) | (simp only[cond_true,cond_false,Bool.and_true,Bool.true_and,Bool.and_false,Bool.false_and];done)|rfl
     ·skip
      revert hg;generalize (decide (((1:Int)+((((lpN Try.prog a0 a1 a2 a3 a4))*1:Nat):Int))<(0:Int)))=b12;intro hg;cases b12
      ·skip
       revert hg;generalize ((((1:Int)+((((lpN Try.prog a0 a1 a2 a3 a4))*1:Nat):Int)) != (1:Int)))=b14;intro hg;cases b14
       ·skip
        first | (simp only[cond_true,cond_false,Bool.and_true,Bool.true_and,Bool.and_false,Bool.false_and];done)|rfl|exact(nomatch (hg:false=true))
       ·skip
        first | (simp only[cond_true,cond_false,Bool.and_true,Bool.true_and,Bool.and_false,Bool.false_and];done)|rfl|exact(nomatch (hg:false=true))
      ·skip
       first | (simp only[cond_true,cond_false,Bool.and_true,Bool.true_and,Bool.and_false,Bool.false_and];done)|rfl|exact(nomatch (hg:false=true))
   ·skip
    first | (simp only[cond_true,cond_false,Bool.and_true,Bool.true_and,Bool.and_false,Bool.false_and];done)|rfl|exact(nomatch (hg:false=true))
  ·skip
   first | (simp only[cond_true,cond_false,Bool.and_true,Bool.true_and,Bool.and_false,Bool.false_and];done)|rfl|exact(nomatch (hg:false=true))
 ·skip
  first | (simp only[cond_true,cond_false,Bool.and_true,Bool.true_and,Bool.and_false,Bool.false_and];done)|rfl|exact(nomatch (hg:false=true))
noncomputable def laws_FnExactLikeliestPath_con:Con:=λargs h=>match args,h with|[.g a0 28,.i .i64 a1,.i .i64 a2,.i .i64 a3,.i .i64 a4],[]=>some (.a (.b ((laws_FnExactLikeliestPath_v0 Try.prog a0 a1 a2 a3 a4))),.none,(laws_FnExactLikeliestPath_gd a0 a1 a2 a3 a4))|_,_=>none
theorem laws_FnExactLikeliestPath_ok:ConOkX mn Try.prog 5 laws_FnExactLikeliestPath_con:=(ansX_ok (N:=1000) (by kernel_rfl) (mkΓw_sX (conSW_okX laws_markInt64S_sok) laws_markInt64S_enter (mKw (con_okX laws_toSea_ok) laws_toSea_enter (mKw (con_okX laws_eqInt64S_ok) laws_eqInt64S_enter (mKw (con_okX laws_heldInt64S_ok) laws_heldInt64S_enter (mKw (con_okX spec_LikeliestPath_ok) spec_LikeliestPath_enter (mKw (con_okX impl_LikeliestPath_ok) impl_LikeliestPath_enter mkΓx_nilX)))))) (fn:=Try.f5) (by kernel_rfl) (by kernel_rfl) []).of (by
 intro ρ h w args vals r e hA hH hr;unfold laws_FnExactLikeliestPath_con at hr;split at hr
 ·rename_i a0 a1 a2 a3 a4;obtain⟨rfl,hg⟩:=Prod.mk.inj (Option.some.inj hr);obtain⟨rfl,hg2⟩:=Prod.mk.inj hg;exact laws_FnExactLikeliestPath_main a0 a1 a2 a3 a4 (hA.wt 0 rfl) (hA.rng 1 rfl) (hA.rng 2 rfl) (hA.rng 3 rfl) (hA.rng 4 rfl) hg2
 ·cases hr)
theorem laws_FnExactLikeliestPath_true(a0:Array Value)(a1 a2 a3 a4:Int)(h_a0:WT Try.prog 28 a0)(h_a1:i64.min<=a1/\a1<=i64.max)(h_a2:i64.min<=a2/\a2<=i64.max)(h_a3:i64.min<=a3/\a3<=i64.max)(h_a4:i64.min<=a4/\a4<=i64.max):((laws_FnExactLikeliestPath_gd a0 a1 a2 a3 a4))=true/\((laws_FnExactLikeliestPath_v0 Try.prog a0 a1 a2 a3 a4))=true:=by
 have hN:=lpN_le (a0:=a0) (a1:=a1) (a2:=a2) (a3:=a3) (a4:=a4);have hD:=lpA_size (a0:=a0) (a1:=a1) (a2:=a2) (a3:=a3) (a4:=a4);unfold laws_FnExactLikeliestPath_gd laws_FnExactLikeliestPath_v0;generalize lpN Try.prog a0 a1 a2 a3 a4=n at hN hD|-
 generalize lpA Try.prog a0 a1 a2 a3 a4=D at hD|-
 generalize lpV Try.prog a0 a1 a2 a3 a4=v;generalize lpC Try.prog a0 a1 a2 a3 a4=c;have b1:Nat.ble n 100000=true:=Nat.ble_eq_true_of_le (by omega);have c1:decide (((1:Int)+((n*1:Nat):Int))<(0:Int))=false:=decide_eq_false (by omega);have c2:decide (0<=(1:Int))=true:=rfl;have c3:decide ((1:Int)<=1000000)=true:=rfl;have c6:decide ((1:Int)<0)=false:=rfl;cases hz:Nat.beq n 0
 case true=>
  obtain rfl:=Nat.eq_of_beq_eq_true hz;obtain rfl:D=#[]:=Array.eq_empty_of_size_eq_zero (by rw[hD]);have c4:((1:Int)+((0*1:Nat):Int) != (1:Int))=false:=rfl;have c5:mkA (0*1) (1:Int)=(#[]:Array Value):=rfl;simp only[c4,c5,b1,c1,c2,c3,c6,hz,decide_true,Bool.and_self,sameB_self,bne_self_eq_false,Bool.not_true,cond_false,cond_true,and_self]
 all_goals simp only[b1,c1,c2,c3,c6,hz,decide_true,Bool.and_self,sameB_self,bne_self_eq_false,Bool.not_true,cond_false,cond_true,and_self]
namespace lawFnExactLikeliestPath
theorem lifted(os:Os)(started:os.Started)(H:Type)(enc:TypeId×Value->H):
  ReturnsInHanded {} Try.checked os 5 .any (Rows.fnExactLikeliestPathSpec.pre6 enc Try.prog Try.f5 Rows.fnExactLikeliestPathRow.domain false) (Rows.fnExactLikeliestPathSpec.post enc Try.prog Try.f5 false true false false):=by
 refine law_alone (C:=Try.checked) (tb:=4) (by kernel_rfl) (by kernel_rfl) Try.func5 (by kernel_rfl) Try.underlying4 (of_decide_eq_true (by kernel_rfl)) rfl ?_ os started H enc
  (ChangeSpec.witness6 (enc:=enc) (C:=Try.checked) false ⟨#[],#[.agg (zc Try.prog 28),.int .i64 0,.int .i64 0,.int .i64 0,.int .i64 0],[]⟩ 8 (by kernel_rfl) (by kernel_rfl) (by kernel_rfl) (by kernel_rfl)) ?_
 ·intro H ds hds;rw[show Try.f5.params.toList.length=5 by kernel_rfl]at hds
  match ds,hds with|[_,_,_,_,_],_=>rfl
 ·intro W base args ds ps hval hA;rw[Try.params5]at hA hval;obtain⟨v0,vs0,d0,ds0,p0,q0,ha0,rfl,rfl,h0,r0⟩:=trodAll_cons hA;obtain⟨v1,vs1,d1,ds1,p1,q1,rfl,rfl,rfl,h1,r1⟩:=trodAll_cons r0;obtain⟨v2,vs2,d2,ds2,p2,q2,rfl,rfl,rfl,h2,r2⟩:=trodAll_cons r1;obtain⟨v3,vs3,d3,ds3,p3,q3,rfl,rfl,rfl,h3,r3⟩:=trodAll_cons r2;obtain⟨v4,vs4,d4,ds4,p4,q4,rfl,rfl,rfl,h4,r4⟩:=trodAll_cons r3;obtain⟨rfl,rfl,rfl⟩:=trodAll_nil r4;have hargs:args=#[v0,v1,v2,v3,v4]:=by cases args;simp_all
  obtain⟨a0,e0,w0⟩:=open_data (t:=28) 8 (by kernel_rfl) (by kernel_rfl) (hval 0 28 v0 rfl (by rw[hargs];rfl)) h0;obtain⟨a1,e1,_,_,w1⟩:=open_int Try.underlying2 (hval 1 2 v1 rfl (by rw[hargs];rfl)) h1;obtain⟨a2,e2,_,_,w2⟩:=open_int Try.underlying2 (hval 2 2 v2 rfl (by rw[hargs];rfl)) h2;obtain⟨a3,e3,_,_,w3⟩:=open_int Try.underlying2 (hval 3 2 v3 rfl (by rw[hargs];rfl)) h3;obtain⟨a4,e4,_,_,w4⟩:=open_int Try.underlying2 (hval 4 2 v4 rfl (by rw[hargs];rfl)) h4;obtain rfl:args=#[.agg a0,.int .i64 a1,.int .i64 a2,.int .i64 a3,.int .i64 a4]:=by rw[hargs,e0,e1,e2,e3,e4]
  obtain⟨hg,hv⟩:=laws_FnExactLikeliestPath_true a0 a1 a2 a3 a4 w0 (wfb w1) (wfb w2) (wfb w3) (wfb w4);have hr:laws_FnExactLikeliestPath_con [.g a0 28,.i .i64 a1,.i .i64 a2,.i .i64 a3,.i .i64 a4] []=some (.a (.b true),.none,true):=by
   show (some (SV.a (SA.b ((laws_FnExactLikeliestPath_v0 Try.prog a0 a1 a2 a3 a4))),Eff.none,(laws_FnExactLikeliestPath_gd a0 a1 a2 a3 a4)):Option (SV×Eff×Bool))=_
   rw[hg,hv]
  exact endsL_con2 (by kernel_rfl) laws_FnExactLikeliestPath_ok (hh:=[]) (by kernel_rfl) hr W (vals:=[.agg a0,.int .i64 a1,.int .i64 a2,.int .i64 a3,.int .i64 a4]) .nil (allCons2 ⟨rfl,w0⟩ (allCons2 ⟨rfl,wfb w1⟩ (allCons2 ⟨rfl,wfb w2⟩ (allCons2 ⟨rfl,wfb w3⟩ (allCons2 ⟨rfl,wfb w4⟩ (allNil2 _))))))
theorem over:Rows.fnExactLikeliestPathRow.holds Try.pinned (OpenSpec.ofChange Rows.fnExactLikeliestPathSpec):=
 OpenClaim.holds_of_wide 5 Try.f5 rfl rfl rfl rfl rfl rfl rfl ⟨rfl,rfl,rfl,rfl,rfl⟩ rfl rfl rfl rfl rfl (by kernel_rfl) Try.func5 (by kernel_rfl)
  (of_decide_eq_true (by kernel_rfl)) (by unfold Func.isWrapper;first | (rw[if_pos (by decide +kernel)];kernel_rfl) | (rw[if_neg (by decide +kernel)];exact⟨rfl,rfl⟩))
  (λos started H enc _=>lifted os started H enc)
theorem proved:Rows.FnExactLikeliestPathSaid:=over
#print axioms proved
end lawFnExactLikeliestPath
end
end Go.Proofs.Ytnhilgpdgicgfaa
