/- Parts of twelve, in company. -/
import Derived.Test.YtnhilgpdgicgfaaProg
import Derived.Test.YtnhilgpdgicgfaaCxC
namespace Go.Proofs.Ytnhilgpdgicgfaa
open Go.ChangeShapes Go.WideShapes Go.ChangeAt Go.RowKit Ve Vc
open IntKind (i64)
set_option linter.unusedVariables false
set_option linter.unusedSimpArgs false
set_option maxRecDepth 100000
noncomputable section
variable {mn:Md}
noncomputable def laws_toChances_t0(a0:Array Value):St:=(⟨.a (.g a0 24)::.a (.w 0)::.a (.w 1)::.a (.w 2)::.a (.i .i64 0)::us 10 ([]),[.row a0 24,.row #[.int .u8 0,.int .u8 0,.int .u8 0,.int .u8 0,.int .u8 0] 33,.row #[.int .u8 0,.int .u8 0,.int .u8 0,.int .u8 0,.int .u8 0] 33],[]⟩:St)
noncomputable def laws_toChances_e0:Int×Array Value->LS
 |(y0_4,r0_2)=>([.a (.i .i64 y0_4)],[.row r0_2 33])
noncomputable def laws_toChances_x0:Int×Array Value->Exit×LS
 |t=>((.exit 0),laws_toChances_e0 t)
noncomputable def laws_toChances_g0(P:Program)(a0:Array Value):Int×Array Value->Option (Stp (Int×Array Value) (Int×Array Value))
 |(y0_4,r0_2)=>bif decide (y0_4<(5:Int)) then (bif (decide (0<=y0_4)&&decide (y0_4<5)) then (bif (decide (0<=y0_4)&&decide (y0_4<5)) then (some (.more ((i64.wrap (y0_4+(1:Int))),(r0_2.setIfInBounds ((y0_4).toNat*1) (.int .u8 (num a0 ((y0_4).toNat*1))))))) else (none)) else (none)) else (some (.done (y0_4,r0_2)))
theorem laws_toChances_s0(N:Nat)(a0:Array Value):∀t:Int×Array Value,stepV Try.prog (mkΓ []) N (cAt (codeOf Try.f91) [1,1,0,1,0,0]) (pAt (mkPlan (codeOf Try.f91) [([4],[2])]).1 [1,1,0,1,0]) [4] [2] (laws_toChances_t0 a0) (laws_toChances_e0 t)=mapS laws_toChances_e0 laws_toChances_x0 (laws_toChances_g0 Try.prog a0 t):=by
 rintro⟨y0_4,r0_2⟩
 conv=>rhs;simp only[laws_toChances_g0,mapS_cond,mapS_more,mapS_done,mapS_none,laws_toChances_e0,laws_toChances_x0]
 kernel_rfl
noncomputable def laws_toChances_k0_0(P:Program)(N:Nat)(a0:Array Value)(z0_4:Int)(q0_2:Array Value):Option (SV×Eff×Bool):=some (.a (.g q0_2 33),.none,true)
theorem laws_toChances_k0_0_eq(N:Nat)(a0:Array Value)(z0_4:Int)(q0_2:Array Value):(kBlock 0 (kSeq (veC Try.prog (mkΓ []) N (cAt (codeOf Try.f91) [1,1,1]) (pAt (mkPlan (codeOf Try.f91) [([4],[2])]).1 [1,1,1]) (SV×Eff×Bool)) (finK Try.prog [] [.cell 2 33]))) (.exit 0) (left (writes (cAt (codeOf Try.f91) [1,1,0,1,0,0])) [4] [2] (laws_toChances_t0 a0) ([.a (.i .i64 z0_4)],[.row q0_2 33]))=laws_toChances_k0_0 Try.prog N a0 z0_4 q0_2:=by kernel_rfl
theorem laws_toChances_n0(N:Nat)(a0:Array Value):bindX (iterO (stepV Try.prog (mkΓ []) N (cAt (codeOf Try.f91) [1,1,0,1,0,0]) (pAt (mkPlan (codeOf Try.f91) [([4],[2])]).1 [1,1,0,1,0]) [4] [2] (laws_toChances_t0 a0)) N ([.a (.i .i64 0)],[.row (#[.int .u8 0,.int .u8 0,.int .u8 0,.int .u8 0,.int .u8 0]:Array Value) 33])) (λe s=>(kBlock 0 (kSeq (veC Try.prog (mkΓ []) N (cAt (codeOf Try.f91) [1,1,1]) (pAt (mkPlan (codeOf Try.f91) [([4],[2])]).1 [1,1,1]) (SV×Eff×Bool)) (finK Try.prog [] [.cell 2 33]))) e (left (writes (cAt (codeOf Try.f91) [1,1,0,1,0,0])) [4] [2] (laws_toChances_t0 a0) s))=nodeX (iterO (laws_toChances_g0 Try.prog a0) N ((0:Int),(#[.int .u8 0,.int .u8 0,.int .u8 0,.int .u8 0,.int .u8 0]:Array Value))) (λx=>laws_toChances_k0_0 Try.prog N a0 x.1 x.2):=by refine loop_node laws_toChances_e0 laws_toChances_x0 _ _ (laws_toChances_s0 N a0) N ((0:Int),(#[.int .u8 0,.int .u8 0,.int .u8 0,.int .u8 0,.int .u8 0]:Array Value)) _ _ ?_;intro x;exact laws_toChances_k0_0_eq N a0 x.1 x.2
theorem laws_toChances_ans(N:Nat)(a0:Array Value):ansV Try.prog (mkΓ []) N Try.f91 [([4],[2])] [.g a0 24] []=(nodeX (iterO (laws_toChances_g0 Try.prog a0) N ((0:Int),(#[.int .u8 0,.int .u8 0,.int .u8 0,.int .u8 0,.int .u8 0]:Array Value))) (λx=>laws_toChances_k0_0 Try.prog N a0 x.1 x.2)):=by
 conv=>rhs;simp only[<- laws_toChances_n0 N a0]
 kernel_rfl
theorem laws_toChances_main(a0:Array Value)(h_a0:WT Try.prog 24 a0)(hg:(true)=true):ansV Try.prog (mkΓ []) 1000 Try.f91 [([4],[2])] [.g a0 24] []=some (.a (.g a0 33),.none,true):=by
 have hs:a0.size=(#[.int .u8 0,.int .u8 0,.int .u8 0,.int .u8 0,.int .u8 0]:Array Value).size:=by rw[h_a0.layLen];kernel_rfl
 have hz:a0.size=5:=by rw[h_a0.layLen];kernel_rfl
 have hL:∀k,k<5->(lay Try.prog 24)[k*1]?=some 4:=by
  intro k hk;have h:(List.range 5).all (λk=>(lay Try.prog 24)[k*1]?==some 4)=true:=by kernel_rfl
  exact eq_of_beq (List.all_eq_true.1 h k (List.mem_range.2 hk))
 have h:=iter_all (g:=laws_toChances_g0 Try.prog a0) (λk=>((k:Int),upto a0 (#[.int .u8 0,.int .u8 0,.int .u8 0,.int .u8 0,.int .u8 0]:Array Value) (k*1))) (m:=5) (x:=(((5:Nat):Int),upto a0 (#[.int .u8 0,.int .u8 0,.int .u8 0,.int .u8 0,.int .u8 0]:Array Value) (5*1))) (N:=1000) (λk hk=>by
  have h1:decide ((k:Int)<5)=true:=decide_eq_true (by omega);have h0:decide (0<=(k:Int))=true:=decide_eq_true (by omega);have h3:i64.wrap ((k:Int)+1)=((k+1:Nat):Int):=by rw[IntWalk.i64_in _ (by omega)];omega
  have h4:((k:Int)).toNat=k:=Int.toNat_natCast k;have h5:(upto a0 (#[.int .u8 0,.int .u8 0,.int .u8 0,.int .u8 0,.int .u8 0]:Array Value) (k*1)).setIfInBounds (k*1) (.int .u8 (num a0 (k*1)))=upto a0 (#[.int .u8 0,.int .u8 0,.int .u8 0,.int .u8 0,.int .u8 0]:Array Value) ((k+1)*1):=by rw[Nat.add_mul];exact upto_set hs (h_a0.int (k:=.u8) (hL k hk)).1
  simp only[laws_toChances_g0,h1,h0,Bool.and_self,h4,cond_true,h3,h5]) (by
  have h1:decide (((5:Nat):Int)<5)=false:=by decide
  simp only[laws_toChances_g0,h1,cond_false]) (by omega)
 simp only[Nat.zero_mul,upto_zero hs,upto_all hs hz]at h;refine(laws_toChances_ans 1000 a0).trans ?_;have h':iterO (laws_toChances_g0 Try.prog a0) 1000 ((0:Int),(#[.int .u8 0,.int .u8 0,.int .u8 0,.int .u8 0,.int .u8 0]:Array Value))=some (((5:Nat):Int),a0):=h;rw[h'];rfl
noncomputable def laws_toChances_con:Con:=λargs h=>match args,h with|[.g a0 24],[]=>some (.a (.g a0 33),.none,true)|_,_=>none
theorem laws_toChances_enter:EntX Try.prog 91:=entX_ok (fn:=Try.f91) (by kernel_rfl) (by kernel_rfl) (by kernel_rfl)
theorem laws_toChances_ok:ConOkX mn Try.prog 91 laws_toChances_con:=(ansX_ok (N:=1000) (by kernel_rfl) mKn (fn:=Try.f91) (by kernel_rfl) (by kernel_rfl) [([4],[2])]).of (by
 intro ρ h w args vals r e hA hH hr;unfold laws_toChances_con at hr;split at hr
 ·rename_i a0;obtain⟨rfl,hg⟩:=Prod.mk.inj (Option.some.inj hr);obtain⟨rfl,hg2⟩:=Prod.mk.inj hg;exact laws_toChances_main a0 (hA.wt 0 rfl) hg2
 ·cases hr)
noncomputable def laws_toChancesA36_t0(a0:Array Value):St:=(⟨.a (.g a0 25)::.a (.w 0)::.a (.w 1)::.a (.w 2)::.a (.i .i64 0)::us 11 ([]),[.row a0 25,.row (zc Try.prog 34) 34,.row (zc Try.prog 34) 34],[]⟩:St)
noncomputable def laws_toChancesA36_e0:Int×Array Value->LS
 |(y0_4,r0_2)=>([.a (.i .i64 y0_4)],[.row r0_2 34])
noncomputable def laws_toChancesA36_x0:Int×Array Value->Exit×LS
 |t=>((.exit 0),laws_toChancesA36_e0 t)
noncomputable def laws_toChancesA36_g0(P:Program)(a0:Array Value):Int×Array Value->Option (Stp (Int×Array Value) (Int×Array Value))
 |(y0_4,r0_2)=>bif decide (y0_4<(36:Int)) then (bif (decide (0<=y0_4)&&decide (y0_4<36)) then (bif (decide (0<=y0_4)&&decide (y0_4<36)) then (some (.more ((i64.wrap (y0_4+(1:Int))),(spl r0_2 ((y0_4).toNat*5) (a0.extract ((y0_4).toNat*5) (((y0_4).toNat*5)+5)).toList)))) else (none)) else (none)) else (some (.done (y0_4,r0_2)))
theorem laws_toChancesA36_s0(N:Nat)(a0:Array Value):∀t:Int×Array Value,stepV Try.prog (mkΓ [(91,con laws_toChances_con)]) N (cAt (codeOf Try.f65) [1,1,0,1,0,0]) (pAt (mkPlan (codeOf Try.f65) [([4],[2])]).1 [1,1,0,1,0]) [4] [2] (laws_toChancesA36_t0 a0) (laws_toChancesA36_e0 t)=mapS laws_toChancesA36_e0 laws_toChancesA36_x0 (laws_toChancesA36_g0 Try.prog a0 t):=by
 rintro⟨y0_4,r0_2⟩
 conv=>rhs;simp only[laws_toChancesA36_g0,mapS_cond,mapS_more,mapS_done,mapS_none,laws_toChancesA36_e0,laws_toChancesA36_x0]
 kernel_rfl
noncomputable def laws_toChancesA36_k0_0(P:Program)(N:Nat)(a0:Array Value)(z0_4:Int)(q0_2:Array Value):Option (SV×Eff×Bool):=some (.a (.g q0_2 34),.none,true)
theorem laws_toChancesA36_k0_0_eq(N:Nat)(a0:Array Value)(z0_4:Int)(q0_2:Array Value):(kBlock 0 (kSeq (veC Try.prog (mkΓ [(91,con laws_toChances_con)]) N (cAt (codeOf Try.f65) [1,1,1]) (pAt (mkPlan (codeOf Try.f65) [([4],[2])]).1 [1,1,1]) (SV×Eff×Bool)) (finK Try.prog [] [.cell 2 34]))) (.exit 0) (left (writes (cAt (codeOf Try.f65) [1,1,0,1,0,0])) [4] [2] (laws_toChancesA36_t0 a0) ([.a (.i .i64 z0_4)],[.row q0_2 34]))=laws_toChancesA36_k0_0 Try.prog N a0 z0_4 q0_2:=by kernel_rfl
theorem laws_toChancesA36_n0(N:Nat)(a0:Array Value):bindX (iterO (stepV Try.prog (mkΓ [(91,con laws_toChances_con)]) N (cAt (codeOf Try.f65) [1,1,0,1,0,0]) (pAt (mkPlan (codeOf Try.f65) [([4],[2])]).1 [1,1,0,1,0]) [4] [2] (laws_toChancesA36_t0 a0)) N ([.a (.i .i64 0)],[.row (zc Try.prog 34) 34])) (λe s=>(kBlock 0 (kSeq (veC Try.prog (mkΓ [(91,con laws_toChances_con)]) N (cAt (codeOf Try.f65) [1,1,1]) (pAt (mkPlan (codeOf Try.f65) [([4],[2])]).1 [1,1,1]) (SV×Eff×Bool)) (finK Try.prog [] [.cell 2 34]))) e (left (writes (cAt (codeOf Try.f65) [1,1,0,1,0,0])) [4] [2] (laws_toChancesA36_t0 a0) s))=nodeX (iterO (laws_toChancesA36_g0 Try.prog a0) N ((0:Int),(zc Try.prog 34))) (λx=>laws_toChancesA36_k0_0 Try.prog N a0 x.1 x.2):=by refine loop_node laws_toChancesA36_e0 laws_toChancesA36_x0 _ _ (laws_toChancesA36_s0 N a0) N ((0:Int),(zc Try.prog 34)) _ _ ?_;intro x;exact laws_toChancesA36_k0_0_eq N a0 x.1 x.2
theorem laws_toChancesA36_ans(N:Nat)(a0:Array Value):ansV Try.prog (mkΓ [(91,con laws_toChances_con)]) N Try.f65 [([4],[2])] [.g a0 25] []=(nodeX (iterO (laws_toChancesA36_g0 Try.prog a0) N ((0:Int),(zc Try.prog 34))) (λx=>laws_toChancesA36_k0_0 Try.prog N a0 x.1 x.2)):=by
 conv=>rhs;simp only[<- laws_toChancesA36_n0 N a0]
 kernel_rfl
theorem laws_toChancesA36_main(a0:Array Value)(h_a0:WT Try.prog 25 a0)(hg:(true)=true):ansV Try.prog (mkΓ [(91,con laws_toChances_con)]) 1000 Try.f65 [([4],[2])] [.g a0 25] []=some (.a (.g a0 34),.none,true):=by
 have hs:a0.size=(zc Try.prog 34).size:=by rw[h_a0.layLen];kernel_rfl
 have hz:a0.size=180:=by rw[h_a0.layLen];kernel_rfl
 have hL:∀k,k<36->(lay Try.prog 25)[k*5]?=some 4:=by
  intro k hk;have h:(List.range 36).all (λk=>(lay Try.prog 25)[k*5]?==some 4)=true:=by kernel_rfl
  exact eq_of_beq (List.all_eq_true.1 h k (List.mem_range.2 hk))
 have h:=iter_all (g:=laws_toChancesA36_g0 Try.prog a0) (λk=>((k:Int),upto a0 (zc Try.prog 34) (k*5))) (m:=36) (x:=(((36:Nat):Int),upto a0 (zc Try.prog 34) (36*5))) (N:=1000) (λk hk=>by
  have h1:decide ((k:Int)<36)=true:=decide_eq_true (by omega);have h0:decide (0<=(k:Int))=true:=decide_eq_true (by omega);have h3:i64.wrap ((k:Int)+1)=((k+1:Nat):Int):=by rw[IntWalk.i64_in _ (by omega)];omega
  have h4:((k:Int)).toNat=k:=Int.toNat_natCast k;have h5:spl (upto a0 (zc Try.prog 34) (k*5)) (k*5) (a0.extract (k*5) (k*5+5)).toList=upto a0 (zc Try.prog 34) ((k+1)*5):=by rw[Nat.add_mul];exact upto_spl hs (by omega) rfl
  simp only[laws_toChancesA36_g0,h1,h0,Bool.and_self,h4,cond_true,h3,h5]) (by
  have h1:decide (((36:Nat):Int)<36)=false:=by decide
  simp only[laws_toChancesA36_g0,h1,cond_false]) (by omega)
 simp only[Nat.zero_mul,upto_zero hs,upto_all hs hz]at h;refine(laws_toChancesA36_ans 1000 a0).trans ?_;have h':iterO (laws_toChancesA36_g0 Try.prog a0) 1000 ((0:Int),(zc Try.prog 34))=some (((36:Nat):Int),a0):=h;rw[h'];rfl
noncomputable def laws_toChancesA36_con:Con:=λargs h=>match args,h with|[.g a0 25],[]=>some (.a (.g a0 34),.none,true)|_,_=>none
theorem laws_toChancesA36_enter:EntX Try.prog 65:=entX_ok (fn:=Try.f65) (by kernel_rfl) (by kernel_rfl) (by kernel_rfl)
theorem laws_toChancesA36_ok:ConOkX mn Try.prog 65 laws_toChancesA36_con:=(ansX_ok (N:=1000) (by kernel_rfl) (mKc (con_okX laws_toChances_ok) laws_toChances_enter mKn) (fn:=Try.f65) (by kernel_rfl) (by kernel_rfl) [([4],[2])]).of (by
 intro ρ h w args vals r e hA hH hr;unfold laws_toChancesA36_con at hr;split at hr
 ·rename_i a0;obtain⟨rfl,hg⟩:=Prod.mk.inj (Option.some.inj hr);obtain⟨rfl,hg2⟩:=Prod.mk.inj hg;exact laws_toChancesA36_main a0 (hA.wt 0 rfl) hg2
 ·cases hr)
noncomputable def laws_toChancesA36A2_t0(a0:Array Value):St:=(⟨.a (.g a0 26)::.a (.w 0)::.a (.w 1)::.a (.w 2)::.a (.i .i64 0)::us 11 ([]),[.row a0 26,.row (zc Try.prog 35) 35,.row (zc Try.prog 35) 35],[]⟩:St)
noncomputable def laws_toChancesA36A2_e0:Int×Array Value->LS
 |(y0_4,r0_2)=>([.a (.i .i64 y0_4)],[.row r0_2 35])
noncomputable def laws_toChancesA36A2_x0:Int×Array Value->Exit×LS
 |t=>((.exit 0),laws_toChancesA36A2_e0 t)
noncomputable def laws_toChancesA36A2_g0(P:Program)(a0:Array Value):Int×Array Value->Option (Stp (Int×Array Value) (Int×Array Value))
 |(y0_4,r0_2)=>bif decide (y0_4<(2:Int)) then (bif (decide (0<=y0_4)&&decide (y0_4<2)) then (bif (decide (0<=y0_4)&&decide (y0_4<2)) then (some (.more ((i64.wrap (y0_4+(1:Int))),(spl r0_2 ((y0_4).toNat*180) (a0.extract ((y0_4).toNat*180) (((y0_4).toNat*180)+180)).toList)))) else (none)) else (none)) else (some (.done (y0_4,r0_2)))
theorem laws_toChancesA36A2_s0(N:Nat)(a0:Array Value):∀t:Int×Array Value,stepV Try.prog (mkΓ [(65,con laws_toChancesA36_con)]) N (cAt (codeOf Try.f35) [1,1,0,1,0,0]) (pAt (mkPlan (codeOf Try.f35) [([4],[2])]).1 [1,1,0,1,0]) [4] [2] (laws_toChancesA36A2_t0 a0) (laws_toChancesA36A2_e0 t)=mapS laws_toChancesA36A2_e0 laws_toChancesA36A2_x0 (laws_toChancesA36A2_g0 Try.prog a0 t):=by
 rintro⟨y0_4,r0_2⟩
 conv=>rhs;simp only[laws_toChancesA36A2_g0,mapS_cond,mapS_more,mapS_done,mapS_none,laws_toChancesA36A2_e0,laws_toChancesA36A2_x0]
 kernel_rfl
noncomputable def laws_toChancesA36A2_k0_0(P:Program)(N:Nat)(a0:Array Value)(z0_4:Int)(q0_2:Array Value):Option (SV×Eff×Bool):=some (.a (.g q0_2 35),.none,true)
theorem laws_toChancesA36A2_k0_0_eq(N:Nat)(a0:Array Value)(z0_4:Int)(q0_2:Array Value):(kBlock 0 (kSeq (veC Try.prog (mkΓ [(65,con laws_toChancesA36_con)]) N (cAt (codeOf Try.f35) [1,1,1]) (pAt (mkPlan (codeOf Try.f35) [([4],[2])]).1 [1,1,1]) (SV×Eff×Bool)) (finK Try.prog [] [.cell 2 35]))) (.exit 0) (left (writes (cAt (codeOf Try.f35) [1,1,0,1,0,0])) [4] [2] (laws_toChancesA36A2_t0 a0) ([.a (.i .i64 z0_4)],[.row q0_2 35]))=laws_toChancesA36A2_k0_0 Try.prog N a0 z0_4 q0_2:=by kernel_rfl
theorem laws_toChancesA36A2_n0(N:Nat)(a0:Array Value):bindX (iterO (stepV Try.prog (mkΓ [(65,con laws_toChancesA36_con)]) N (cAt (codeOf Try.f35) [1,1,0,1,0,0]) (pAt (mkPlan (codeOf Try.f35) [([4],[2])]).1 [1,1,0,1,0]) [4] [2] (laws_toChancesA36A2_t0 a0)) N ([.a (.i .i64 0)],[.row (zc Try.prog 35) 35])) (λe s=>(kBlock 0 (kSeq (veC Try.prog (mkΓ [(65,con laws_toChancesA36_con)]) N (cAt (codeOf Try.f35) [1,1,1]) (pAt (mkPlan (codeOf Try.f35) [([4],[2])]).1 [1,1,1]) (SV×Eff×Bool)) (finK Try.prog [] [.cell 2 35]))) e (left (writes (cAt (codeOf Try.f35) [1,1,0,1,0,0])) [4] [2] (laws_toChancesA36A2_t0 a0) s))=nodeX (iterO (laws_toChancesA36A2_g0 Try.prog a0) N ((0:Int),(zc Try.prog 35))) (λx=>laws_toChancesA36A2_k0_0 Try.prog N a0 x.1 x.2):=by refine loop_node laws_toChancesA36A2_e0 laws_toChancesA36A2_x0 _ _ (laws_toChancesA36A2_s0 N a0) N ((0:Int),(zc Try.prog 35)) _ _ ?_;intro x;exact laws_toChancesA36A2_k0_0_eq N a0 x.1 x.2
theorem laws_toChancesA36A2_ans(N:Nat)(a0:Array Value):ansV Try.prog (mkΓ [(65,con laws_toChancesA36_con)]) N Try.f35 [([4],[2])] [.g a0 26] []=(nodeX (iterO (laws_toChancesA36A2_g0 Try.prog a0) N ((0:Int),(zc Try.prog 35))) (λx=>laws_toChancesA36A2_k0_0 Try.prog N a0 x.1 x.2)):=by
 conv=>rhs;simp only[<- laws_toChancesA36A2_n0 N a0]
 kernel_rfl
theorem laws_toChancesA36A2_main(a0:Array Value)(h_a0:WT Try.prog 26 a0)(hg:(true)=true):ansV Try.prog (mkΓ [(65,con laws_toChancesA36_con)]) 1000 Try.f35 [([4],[2])] [.g a0 26] []=some (.a (.g a0 35),.none,true):=by
 have hs:a0.size=(zc Try.prog 35).size:=by rw[h_a0.layLen];kernel_rfl
 have hz:a0.size=360:=by rw[h_a0.layLen];kernel_rfl
 have hL:∀k,k<2->(lay Try.prog 26)[k*180]?=some 4:=by
  intro k hk;have h:(List.range 2).all (λk=>(lay Try.prog 26)[k*180]?==some 4)=true:=by kernel_rfl
  exact eq_of_beq (List.all_eq_true.1 h k (List.mem_range.2 hk))
 have h:=iter_all (g:=laws_toChancesA36A2_g0 Try.prog a0) (λk=>((k:Int),upto a0 (zc Try.prog 35) (k*180))) (m:=2) (x:=(((2:Nat):Int),upto a0 (zc Try.prog 35) (2*180))) (N:=1000) (λk hk=>by
  have h1:decide ((k:Int)<2)=true:=decide_eq_true (by omega);have h0:decide (0<=(k:Int))=true:=decide_eq_true (by omega);have h3:i64.wrap ((k:Int)+1)=((k+1:Nat):Int):=by rw[IntWalk.i64_in _ (by omega)];omega
  have h4:((k:Int)).toNat=k:=Int.toNat_natCast k;have h5:spl (upto a0 (zc Try.prog 35) (k*180)) (k*180) (a0.extract (k*180) (k*180+180)).toList=upto a0 (zc Try.prog 35) ((k+1)*180):=by rw[Nat.add_mul];exact upto_spl hs (by omega) rfl
  simp only[laws_toChancesA36A2_g0,h1,h0,Bool.and_self,h4,cond_true,h3,h5]) (by
  have h1:decide (((2:Nat):Int)<2)=false:=by decide
  simp only[laws_toChancesA36A2_g0,h1,cond_false]) (by omega)
 simp only[Nat.zero_mul,upto_zero hs,upto_all hs hz]at h;refine(laws_toChancesA36A2_ans 1000 a0).trans ?_;have h':iterO (laws_toChancesA36A2_g0 Try.prog a0) 1000 ((0:Int),(zc Try.prog 35))=some (((2:Nat):Int),a0):=h;rw[h'];rfl
noncomputable def laws_toChancesA36A2_con:Con:=λargs h=>match args,h with|[.g a0 26],[]=>some (.a (.g a0 35),.none,true)|_,_=>none
theorem laws_toChancesA36A2_enter:EntX Try.prog 35:=entX_ok (fn:=Try.f35) (by kernel_rfl) (by kernel_rfl) (by kernel_rfl)
theorem laws_toChancesA36A2_ok:ConOkX mn Try.prog 35 laws_toChancesA36A2_con:=(ansX_ok (N:=1000) (by kernel_rfl) (mKc (con_okX laws_toChancesA36_ok) laws_toChancesA36_enter mKn) (fn:=Try.f35) (by kernel_rfl) (by kernel_rfl) [([4],[2])]).of (by
 intro ρ h w args vals r e hA hH hr;unfold laws_toChancesA36A2_con at hr;split at hr
 ·rename_i a0;obtain⟨rfl,hg⟩:=Prod.mk.inj (Option.some.inj hr);obtain⟨rfl,hg2⟩:=Prod.mk.inj hg;exact laws_toChancesA36A2_main a0 (hA.wt 0 rfl) hg2
 ·cases hr)
noncomputable def laws_toSea_G:Cons:=(mkΓ [(35,con laws_toChancesA36A2_con)])
theorem laws_toSea_ans(N:Nat)(a0:Array Value):ansV Try.prog laws_toSea_G N Try.f11 [] [.g a0 28] []=(some (.a (.g (spl ((((zc Try.prog 37).setIfInBounds 0 (.int .i8 (num a0 0))).setIfInBounds 1 (.int .i8 (num a0 1))).setIfInBounds 2 (.int .u64 (num a0 2))) 3 (a0.extract 3 (3+360)).toList) 37),.none,true)):=by kernel_rfl
theorem laws_toSea_main(a0:Array Value)(h_a0:WT Try.prog 28 a0)(hg:(true)=true):ansV Try.prog laws_toSea_G 1000 Try.f11 [] [.g a0 28] []=some (.a (.g a0 37),.none,true):=by
 have hs:a0.size=(zc Try.prog 37).size:=by rw[h_a0.layLen];kernel_rfl
 have hz:a0.size=363:=by rw[h_a0.layLen];kernel_rfl
 have e0:(upto a0 (zc Try.prog 37) 0).setIfInBounds 0 (.int .i8 (num a0 0))=upto a0 (zc Try.prog 37) 1:=upto_set hs (h_a0.int (k:=.i8) (by kernel_rfl)).1;rw[upto_zero hs]at e0;have e1:(upto a0 (zc Try.prog 37) 1).setIfInBounds 1 (.int .i8 (num a0 1))=upto a0 (zc Try.prog 37) 2:=upto_set hs (h_a0.int (k:=.i8) (by kernel_rfl)).1;have e2:(upto a0 (zc Try.prog 37) 2).setIfInBounds 2 (.int .u64 (num a0 2))=upto a0 (zc Try.prog 37) 3:=upto_set hs (h_a0.int (k:=.u64) (by kernel_rfl)).1;have e3:spl (upto a0 (zc Try.prog 37) 3) 3 (a0.extract 3 (3+360)).toList=upto a0 (zc Try.prog 37) 363:=upto_spl hs (by omega) rfl;refine(laws_toSea_ans 1000 a0).trans ?_;rw[e0,e1,e2,e3,upto_all hs hz]
noncomputable def laws_toSea_con:Con:=λargs h=>match args,h with|[.g a0 28],[]=>some (.a (.g a0 37),.none,true)|_,_=>none
theorem laws_toSea_enter:EntX Try.prog 11:=entX_ok (fn:=Try.f11) (by kernel_rfl) (by kernel_rfl) (by kernel_rfl)
theorem laws_toSea_ok:ConOkX mn Try.prog 11 laws_toSea_con:=(ansX_ok (N:=1000) (by kernel_rfl) (mKc (con_okX laws_toChancesA36A2_ok) laws_toChancesA36A2_enter mKn) (fn:=Try.f11) (by kernel_rfl) (by kernel_rfl) []).of (by
 intro ρ h w args vals r e hA hH hr;unfold laws_toSea_con at hr;split at hr
 ·rename_i a0;obtain⟨rfl,hg⟩:=Prod.mk.inj (Option.some.inj hr);obtain⟨rfl,hg2⟩:=Prod.mk.inj hg;exact laws_toSea_main a0 (hA.wt 0 rfl) hg2
 ·cases hr)
theorem impl_hasHours_ans(N:Nat)(a0:Int):ansV Try.prog (mkΓ []) N Try.f67 [] [.i .i64 a0] []=(bif decide (a0>=(0:Int)) then (some (.a (.b (decide (a0<=(14:Int)))),.none,true)) else (some (.a (.b false),.none,true))):=by kernel_rfl
noncomputable def impl_hasHours_v0(a0:Int):Bool:=(bif decide (a0>=(0:Int)) then decide (a0<=(14:Int)) else false)
theorem impl_hasHours_main(a0:Int)(h_a0:i64.min<=a0/\a0<=i64.max)(hg:(true)=true):ansV Try.prog (mkΓ []) 1000 Try.f67 [] [.i .i64 a0] []=some (.a (.b ((impl_hasHours_v0 a0))),.none,true):=by
 refine(impl_hasHours_ans 1000 a0).trans ?_;unfold impl_hasHours_v0;revert hg;generalize (decide (a0>=(0:Int)))=b2;intro hg;cases b2
 ·skip
  first | (simp only[cond_true,cond_false,Bool.and_true,Bool.true_and,Bool.and_false,Bool.false_and];done)|rfl|exact(nomatch (hg:false=true))
 ·skip
  first | (simp only[cond_true,cond_false,Bool.and_true,Bool.true_and,Bool.and_false,Bool.false_and];done)|rfl|exact(nomatch (hg:false=true))
noncomputable def impl_hasHours_con:Con:=λargs h=>match args,h with|[.i .i64 a0],[]=>some (.a (.b ((impl_hasHours_v0 a0))),.none,true)|_,_=>none
theorem impl_hasHours_enter:EntX Try.prog 67:=entX_ok (fn:=Try.f67) (by kernel_rfl) (by kernel_rfl) (by kernel_rfl)
theorem impl_hasHours_ok:ConOkX mn Try.prog 67 impl_hasHours_con:=(ansX_ok (N:=1000) (by kernel_rfl) mKn (fn:=Try.f67) (by kernel_rfl) (by kernel_rfl) []).of (by
 intro ρ h w args vals r e hA hH hr;unfold impl_hasHours_con at hr;split at hr
 ·rename_i a0;obtain⟨rfl,hg⟩:=Prod.mk.inj (Option.some.inj hr);obtain⟨rfl,hg2⟩:=Prod.mk.inj hg;exact impl_hasHours_main a0 (hA.rng 0 rfl) hg2
 ·cases hr)
theorem in_range{x a b:Int}(h:spec_l00In_v0 x a b=true):a<=x/\x<=b:=by unfold spec_l00In_v0 at h;cases h0:decide (x>=a) with|false=>rw[h0]at h;exact nomatch h|true=>rw[h0]at h;exact⟨of_decide_eq_true h0,of_decide_eq_true h⟩
end
end Go.Proofs.Ytnhilgpdgicgfaa
