/- What a valid sea is, in company. -/
import Derived.Test.YtnhilgpdgicgfaaProg
import Derived.Test.YtnhilgpdgicgfaaCxB
namespace Go.Proofs.Ytnhilgpdgicgfaa
open Go.ChangeShapes Go.WideShapes Go.ChangeAt Go.RowKit Ve Vc
open IntKind (i64)
set_option linter.unusedVariables false
set_option linter.unusedSimpArgs false
set_option maxRecDepth 100000
noncomputable section
variable {mn:Md}
noncomputable def sumW(a:Array Value):Nat->Int
 |0=>0
 |k+1=>i64.wrap (sumW a k+i64.wrap (num a (k*1)))
theorem tide_eq(t:Int):impl_hasTide_v0 t=spec_l00In_v0 t 0 1:=by
 unfold impl_hasTide_v0 spec_l00In_v0
 by_cases h0:t=0
 ·subst h0;rfl
 ·by_cases h1:t=1
  ·subst h1;rfl
  ·rw[show (t==0)=false from beq_eq_false_iff_ne.2 h0,show (t==1)=false from beq_eq_false_iff_ne.2 h1]
   by_cases h2:t>=0
   ·rw[decide_eq_true h2,decide_eq_false (show ¬t<=1 by omega)];rfl
   ·rw[decide_eq_false h2];rfl
noncomputable def impl_ValidChances_t0(a0:Array Value):St:=(⟨.a (.g a0 33)::.a (.w 0)::.a (.b false)::.a (.i .i64 0)::.a (.u)::.a (.u)::.a (.g a0 33)::.a (.i .i64 0)::us 9 ([]),[.row a0 33,.no],[]⟩:St)
noncomputable def impl_ValidChances_e0:Int×Int->LS
 |(y0_3,y0_7)=>([.a (.i .i64 y0_3),.a (.i .i64 y0_7)],[])
noncomputable def impl_ValidChances_x0:Int×Int->Exit×LS
 |t=>((.exit 0),impl_ValidChances_e0 t)
noncomputable def impl_ValidChances_g0(P:Program)(a0:Array Value):Int×Int->Option (Stp (Int×Int) (Int×Int))
 |(y0_3,y0_7)=>bif decide (y0_7<(5:Int)) then (bif (decide (0<=y0_7)&&decide (y0_7<5)) then (some (.more ((i64.wrap (y0_3+(i64.wrap (num a0 ((y0_7).toNat*1))))),(i64.wrap (y0_7+(1:Int)))))) else (none)) else (some (.done (y0_3,y0_7)))
theorem impl_ValidChances_s0(N:Nat)(a0:Array Value):∀t:Int×Int,stepV Try.prog (mkΓ []) N (cAt (codeOf Try.f120) [1,1,0,1,0,0]) (pAt (mkPlan (codeOf Try.f120) [([3,7],[])]).1 [1,1,0,1,0]) [3,7] [] (impl_ValidChances_t0 a0) (impl_ValidChances_e0 t)=mapS impl_ValidChances_e0 impl_ValidChances_x0 (impl_ValidChances_g0 Try.prog a0 t):=by
 rintro⟨y0_3,y0_7⟩
 conv=>rhs;simp only[impl_ValidChances_g0,mapS_cond,mapS_more,mapS_done,mapS_none,impl_ValidChances_e0,impl_ValidChances_x0]
 kernel_rfl
noncomputable def impl_ValidChances_k0_0(P:Program)(N:Nat)(a0:Array Value)(z0_3:Int)(z0_7:Int):Option (SV×Eff×Bool):=some (.a (.b ((z0_3==(12:Int)))),.none,true)
theorem impl_ValidChances_k0_0_eq(N:Nat)(a0:Array Value)(z0_3:Int)(z0_7:Int):(kBlock 0 (kSeq (veC Try.prog (mkΓ []) N (cAt (codeOf Try.f120) [1,1,1]) (pAt (mkPlan (codeOf Try.f120) [([3,7],[])]).1 [1,1,1]) (SV×Eff×Bool)) (finK Try.prog [] [.tmp 2]))) (.exit 0) (left (writes (cAt (codeOf Try.f120) [1,1,0,1,0,0])) [3,7] [] (impl_ValidChances_t0 a0) ([.a (.i .i64 z0_3),.a (.i .i64 z0_7)],[]))=impl_ValidChances_k0_0 Try.prog N a0 z0_3 z0_7:=by kernel_rfl
theorem impl_ValidChances_n0(N:Nat)(a0:Array Value):bindX (iterO (stepV Try.prog (mkΓ []) N (cAt (codeOf Try.f120) [1,1,0,1,0,0]) (pAt (mkPlan (codeOf Try.f120) [([3,7],[])]).1 [1,1,0,1,0]) [3,7] [] (impl_ValidChances_t0 a0)) N ([.a (.i .i64 0),.a (.i .i64 0)],[])) (λe s=>(kBlock 0 (kSeq (veC Try.prog (mkΓ []) N (cAt (codeOf Try.f120) [1,1,1]) (pAt (mkPlan (codeOf Try.f120) [([3,7],[])]).1 [1,1,1]) (SV×Eff×Bool)) (finK Try.prog [] [.tmp 2]))) e (left (writes (cAt (codeOf Try.f120) [1,1,0,1,0,0])) [3,7] [] (impl_ValidChances_t0 a0) s))=nodeX (iterO (impl_ValidChances_g0 Try.prog a0) N ((0:Int),(0:Int))) (λx=>impl_ValidChances_k0_0 Try.prog N a0 x.1 x.2):=by refine loop_node impl_ValidChances_e0 impl_ValidChances_x0 _ _ (impl_ValidChances_s0 N a0) N ((0:Int),(0:Int)) _ _ ?_;intro x;exact impl_ValidChances_k0_0_eq N a0 x.1 x.2
theorem impl_ValidChances_ans(N:Nat)(a0:Array Value):ansV Try.prog (mkΓ []) N Try.f120 [([3,7],[])] [.g a0 33] []=(nodeX (iterO (impl_ValidChances_g0 Try.prog a0) N ((0:Int),(0:Int))) (λx=>impl_ValidChances_k0_0 Try.prog N a0 x.1 x.2)):=by
 conv=>rhs;simp only[<- impl_ValidChances_n0 N a0]
 kernel_rfl
theorem impl_ValidChances_main(a0:Array Value)(h_a0:WT Try.prog 33 a0)(hg:(true)=true):ansV Try.prog (mkΓ []) 1000 Try.f120 [([3,7],[])] [.g a0 33] []=some (.a (.b ((sumW a0 5==(12:Int)))),.none,true):=by
 have h:=iter_all (g:=impl_ValidChances_g0 Try.prog a0) (λk=>(sumW a0 k,(k:Int))) (m:=5) (x:=(sumW a0 5,((5:Nat):Int))) (N:=1000) (λk hk=>by
  have h1:decide ((k:Int)<5)=true:=decide_eq_true (by omega);have h0:decide (0<=(k:Int))=true:=decide_eq_true (by omega);have h3:i64.wrap ((k:Int)+1)=((k+1:Nat):Int):=by rw[IntWalk.i64_in _ (by omega)];omega
  have h4:((k:Int)).toNat=k:=Int.toNat_natCast k;simp only[impl_ValidChances_g0,h1,h0,Bool.and_self,h4,cond_true,h3,sumW]) (by
  have h1:decide (((5:Nat):Int)<5)=false:=by decide
  simp only[impl_ValidChances_g0,h1,cond_false]) (by omega)
 refine(impl_ValidChances_ans 1000 a0).trans ?_;have h':iterO (impl_ValidChances_g0 Try.prog a0) 1000 ((0:Int),(0:Int))=some (sumW a0 5,((5:Nat):Int)):=h;rw[h'];rfl
noncomputable def impl_ValidChances_con:Con:=λargs h=>match args,h with|[.g a0 33],[]=>some (.a (.b ((sumW a0 5==(12:Int)))),.none,true)|_,_=>none
theorem impl_ValidChances_enter:EntX Try.prog 120:=entX_ok (fn:=Try.f120) (by kernel_rfl) (by kernel_rfl) (by kernel_rfl)
theorem impl_ValidChances_ok:ConOkX mn Try.prog 120 impl_ValidChances_con:=(ansX_ok (N:=1000) (by kernel_rfl) mKn (fn:=Try.f120) (by kernel_rfl) (by kernel_rfl) [([3,7],[])]).of (by
 intro ρ h w args vals r e hA hH hr;unfold impl_ValidChances_con at hr;split at hr
 ·rename_i a0;obtain⟨rfl,hg⟩:=Prod.mk.inj (Option.some.inj hr);obtain⟨rfl,hg2⟩:=Prod.mk.inj hg;exact impl_ValidChances_main a0 (hA.wt 0 rfl) hg2
 ·cases hr)
noncomputable def spec_l01Chances_t0(a0:Array Value):St:=(⟨.a (.g a0 33)::.a (.w 0)::.a (.b false)::.a (.i .i64 0)::.a (.i .i64 0)::us 12 ([]),[.row a0 33,.no],[]⟩:St)
noncomputable def spec_l01Chances_e0:Int×Int->LS
 |(y0_3,y0_4)=>([.a (.i .i64 y0_3),.a (.i .i64 y0_4)],[])
noncomputable def spec_l01Chances_x0:Int×Int->Exit×LS
 |t=>((.exit 0),spec_l01Chances_e0 t)
noncomputable def spec_l01Chances_g0(P:Program)(a0:Array Value):Int×Int->Option (Stp (Int×Int) (Int×Int))
 |(y0_3,y0_4)=>bif decide (y0_4<(5:Int)) then (bif (decide (0<=y0_4)&&decide (y0_4<5)) then (some (.more ((i64.wrap (y0_3+(i64.wrap (num a0 ((y0_4).toNat*1))))),(i64.wrap (y0_4+(1:Int)))))) else (none)) else (some (.done (y0_3,y0_4)))
theorem spec_l01Chances_s0(N:Nat)(a0:Array Value):∀t:Int×Int,stepV Try.prog (mkΓ []) N (cAt (codeOf Try.f84) [1,1,0,1,0,0]) (pAt (mkPlan (codeOf Try.f84) [([3,4],[])]).1 [1,1,0,1,0]) [3,4] [] (spec_l01Chances_t0 a0) (spec_l01Chances_e0 t)=mapS spec_l01Chances_e0 spec_l01Chances_x0 (spec_l01Chances_g0 Try.prog a0 t):=by
 rintro⟨y0_3,y0_4⟩
 conv=>rhs;simp only[spec_l01Chances_g0,mapS_cond,mapS_more,mapS_done,mapS_none,spec_l01Chances_e0,spec_l01Chances_x0]
 kernel_rfl
noncomputable def spec_l01Chances_k0_0(P:Program)(N:Nat)(a0:Array Value)(z0_3:Int)(z0_4:Int):Option (SV×Eff×Bool):=some (.a (.b ((z0_3==(12:Int)))),.none,true)
theorem spec_l01Chances_k0_0_eq(N:Nat)(a0:Array Value)(z0_3:Int)(z0_4:Int):(kBlock 0 (kSeq (veC Try.prog (mkΓ []) N (cAt (codeOf Try.f84) [1,1,1]) (pAt (mkPlan (codeOf Try.f84) [([3,4],[])]).1 [1,1,1]) (SV×Eff×Bool)) (finK Try.prog [] [.tmp 2]))) (.exit 0) (left (writes (cAt (codeOf Try.f84) [1,1,0,1,0,0])) [3,4] [] (spec_l01Chances_t0 a0) ([.a (.i .i64 z0_3),.a (.i .i64 z0_4)],[]))=spec_l01Chances_k0_0 Try.prog N a0 z0_3 z0_4:=by kernel_rfl
theorem spec_l01Chances_n0(N:Nat)(a0:Array Value):bindX (iterO (stepV Try.prog (mkΓ []) N (cAt (codeOf Try.f84) [1,1,0,1,0,0]) (pAt (mkPlan (codeOf Try.f84) [([3,4],[])]).1 [1,1,0,1,0]) [3,4] [] (spec_l01Chances_t0 a0)) N ([.a (.i .i64 0),.a (.i .i64 0)],[])) (λe s=>(kBlock 0 (kSeq (veC Try.prog (mkΓ []) N (cAt (codeOf Try.f84) [1,1,1]) (pAt (mkPlan (codeOf Try.f84) [([3,4],[])]).1 [1,1,1]) (SV×Eff×Bool)) (finK Try.prog [] [.tmp 2]))) e (left (writes (cAt (codeOf Try.f84) [1,1,0,1,0,0])) [3,4] [] (spec_l01Chances_t0 a0) s))=nodeX (iterO (spec_l01Chances_g0 Try.prog a0) N ((0:Int),(0:Int))) (λx=>spec_l01Chances_k0_0 Try.prog N a0 x.1 x.2):=by refine loop_node spec_l01Chances_e0 spec_l01Chances_x0 _ _ (spec_l01Chances_s0 N a0) N ((0:Int),(0:Int)) _ _ ?_;intro x;exact spec_l01Chances_k0_0_eq N a0 x.1 x.2
theorem spec_l01Chances_ans(N:Nat)(a0:Array Value):ansV Try.prog (mkΓ []) N Try.f84 [([3,4],[])] [.g a0 33] []=(nodeX (iterO (spec_l01Chances_g0 Try.prog a0) N ((0:Int),(0:Int))) (λx=>spec_l01Chances_k0_0 Try.prog N a0 x.1 x.2)):=by
 conv=>rhs;simp only[<- spec_l01Chances_n0 N a0]
 kernel_rfl
theorem spec_l01Chances_main(a0:Array Value)(h_a0:WT Try.prog 33 a0)(hg:(true)=true):ansV Try.prog (mkΓ []) 1000 Try.f84 [([3,4],[])] [.g a0 33] []=some (.a (.b ((sumW a0 5==(12:Int)))),.none,true):=by
 have h:=iter_all (g:=spec_l01Chances_g0 Try.prog a0) (λk=>(sumW a0 k,(k:Int))) (m:=5) (x:=(sumW a0 5,((5:Nat):Int))) (N:=1000) (λk hk=>by
  have h1:decide ((k:Int)<5)=true:=decide_eq_true (by omega);have h0:decide (0<=(k:Int))=true:=decide_eq_true (by omega);have h3:i64.wrap ((k:Int)+1)=((k+1:Nat):Int):=by rw[IntWalk.i64_in _ (by omega)];omega
  have h4:((k:Int)).toNat=k:=Int.toNat_natCast k;simp only[spec_l01Chances_g0,h1,h0,Bool.and_self,h4,cond_true,h3,sumW]) (by
  have h1:decide (((5:Nat):Int)<5)=false:=by decide
  simp only[spec_l01Chances_g0,h1,cond_false]) (by omega)
 refine(spec_l01Chances_ans 1000 a0).trans ?_;have h':iterO (spec_l01Chances_g0 Try.prog a0) 1000 ((0:Int),(0:Int))=some (sumW a0 5,((5:Nat):Int)):=h;rw[h'];rfl
noncomputable def spec_l01Chances_con:Con:=λargs h=>match args,h with|[.g a0 33],[]=>some (.a (.b ((sumW a0 5==(12:Int)))),.none,true)|_,_=>none
theorem spec_l01Chances_enter:EntX Try.prog 84:=entX_ok (fn:=Try.f84) (by kernel_rfl) (by kernel_rfl) (by kernel_rfl)
theorem spec_l01Chances_ok:ConOkX mn Try.prog 84 spec_l01Chances_con:=(ansX_ok (N:=1000) (by kernel_rfl) mKn (fn:=Try.f84) (by kernel_rfl) (by kernel_rfl) [([3,4],[])]).of (by
 intro ρ h w args vals r e hA hH hr;unfold spec_l01Chances_con at hr;split at hr
 ·rename_i a0;obtain⟨rfl,hg⟩:=Prod.mk.inj (Option.some.inj hr);obtain⟨rfl,hg2⟩:=Prod.mk.inj hg;exact spec_l01Chances_main a0 (hA.wt 0 rfl) hg2
 ·cases hr)
noncomputable def impl_chancesFit_G:Cons:=(mkΓ [(75,con impl_hasCell_con),(118,con impl_isWater_con),(120,con impl_ValidChances_con)])
theorem impl_chancesFit_ans(N:Nat)(a0:Array Value)(a1:Int)(a2:Array Value):ansV Try.prog impl_chancesFit_G N Try.f109 [] [.g a0 37,.i .i64 a1,.g a2 33] []=(bif (impl_hasCell_v0 a0 a1) then (bif decide (0<=a1) then (bif (impl_isWater_v0 a0 a1) then (some (.a (.b ((sumW a2 5==(12:Int)))),.none,true)) else (some (.a (.b ((sameB a2 (#[.int .u8 0,.int .u8 0,.int .u8 0,.int .u8 0,.int .u8 0]:Array Value)))),.none,true))) else (none)) else (some (.a (.b ((sameB a2 (#[.int .u8 0,.int .u8 0,.int .u8 0,.int .u8 0,.int .u8 0]:Array Value)))),.none,true))):=by kernel_rfl
noncomputable def impl_chancesFit_v0(a0:Array Value)(a1:Int)(a2:Array Value):Bool:=(bif (impl_hasCell_v0 a0 a1) then (bif (impl_isWater_v0 a0 a1) then (sumW a2 5==(12:Int)) else (sameB a2 (#[.int .u8 0,.int .u8 0,.int .u8 0,.int .u8 0,.int .u8 0]:Array Value))) else (sameB a2 (#[.int .u8 0,.int .u8 0,.int .u8 0,.int .u8 0,.int .u8 0]:Array Value)))
theorem impl_chancesFit_main(a0:Array Value)(a1:Int)(a2:Array Value)(h_a0:WT Try.prog 37 a0)(h_a1:i64.min<=a1/\a1<=i64.max)(h_a2:WT Try.prog 33 a2)(hg:((bif (impl_hasCell_v0 a0 a1) then decide (0<=a1) else true))=true):ansV Try.prog impl_chancesFit_G 1000 Try.f109 [] [.g a0 37,.i .i64 a1,.g a2 33] []=some (.a (.b ((impl_chancesFit_v0 a0 a1 a2))),.none,true):=by
 refine(impl_chancesFit_ans 1000 a0 a1 a2).trans ?_;unfold impl_chancesFit_v0;revert hg;generalize ((impl_hasCell_v0 a0 a1))=b2;intro hg;cases b2
 ·skip
  first | (simp only[cond_true,cond_false,Bool.and_true,Bool.true_and,Bool.and_false,Bool.false_and];done)|rfl|exact(nomatch (hg:false=true))
 ·skip
  revert hg;generalize (decide (0<=a1))=b4;intro hg;cases b4
  ·skip
   first|exact(nomatch (hg:false=true)) | (simp only[cond_true,cond_false,Bool.and_true,Bool.true_and,Bool.and_false,Bool.false_and];done)|rfl
  ·skip
   revert hg;generalize ((impl_isWater_v0 a0 a1))=b6;intro hg;cases b6
   ·skip
    first | (simp only[cond_true,cond_false,Bool.and_true,Bool.true_and,Bool.and_false,Bool.false_and];done)|rfl|exact(nomatch (hg:false=true))
   ·skip
    first | (simp only[cond_true,cond_false,Bool.and_true,Bool.true_and,Bool.and_false,Bool.false_and];done)|rfl|exact(nomatch (hg:false=true))
noncomputable def impl_chancesFit_con:Con:=λargs h=>match args,h with|[.g a0 37,.i .i64 a1,.g a2 33],[]=>some (.a (.b ((impl_chancesFit_v0 a0 a1 a2))),.none,(bif (impl_hasCell_v0 a0 a1) then decide (0<=a1) else true))|_,_=>none
theorem impl_chancesFit_enter:EntX Try.prog 109:=entX_ok (fn:=Try.f109) (by kernel_rfl) (by kernel_rfl) (by kernel_rfl)
theorem impl_chancesFit_ok:ConOkX mn Try.prog 109 impl_chancesFit_con:=(ansX_ok (N:=1000) (by kernel_rfl) (mKc (con_okX impl_hasCell_ok) impl_hasCell_enter (mKc (con_okX impl_isWater_ok) impl_isWater_enter (mKc (con_okX impl_ValidChances_ok) impl_ValidChances_enter mKn))) (fn:=Try.f109) (by kernel_rfl) (by kernel_rfl) []).of (by
 intro ρ h w args vals r e hA hH hr;unfold impl_chancesFit_con at hr;split at hr
 ·rename_i a0 a1 a2;obtain⟨rfl,hg⟩:=Prod.mk.inj (Option.some.inj hr);obtain⟨rfl,hg2⟩:=Prod.mk.inj hg;exact impl_chancesFit_main a0 a1 a2 (hA.wt 0 rfl) (hA.rng 1 rfl) (hA.wt 2 rfl) hg2
 ·cases hr)
noncomputable def chR(S:Array Value)(t k:Nat):Array Value:=S.extract (3+t*180+k*5) (3+t*180+k*5+5)
noncomputable def fitS(S:Array Value)(t k:Nat):Bool:=bif inC (num S 0) (num S 1) k && !(bitI (num S 2) k) then (sumW (chR S t k) 5==(12:Int)) else sameB (chR S t k) (#[.int .u8 0,.int .u8 0,.int .u8 0,.int .u8 0,.int .u8 0]:Array Value)
noncomputable def okD(S:Array Value):Bool:=decide (1<=num S 0)&&decide (num S 0<=6)&&(decide (1<=num S 1)&&decide (num S 1<=6))
noncomputable def okS(S:Array Value):Bool:=okD S&&((andNotI (num S 2) (gridI (num S 0) (num S 1) 36)==0)&&(List.range 36).all λk=>fitS S 0 k&&fitS S 1 k)
theorem find_all(n:Nat)(p:Nat->Bool):((List.range n).find? (λk=> !(p k))).isNone=(List.range n).all p:=by rw[Bool.eq_iff_iff,Option.isNone_iff_eq_none,List.find?_eq_none,List.all_eq_true];simp
theorem all_two(n:Nat)(p q:Nat->Bool):(List.range n).all (λk=>p k&&q k)=((List.range n).all p&&(List.range n).all q):=by rw[Bool.eq_iff_iff,Bool.and_eq_true,List.all_eq_true,List.all_eq_true,List.all_eq_true];simp only[Bool.and_eq_true];exact⟨λh=>⟨λx hx=>(h x hx).1,λx hx=>(h x hx).2⟩,λh x hx=>⟨h.1 x hx,h.2 x hx⟩⟩
theorem cells_inC{S:Array Value}(h:WT Try.prog 37 S){k:Nat}(hk:k<36):impl_hasCell_v0 S (k:Int)=inC (num S 0) (num S 1) k:=by rw[cell_is,is_inC h hk]
theorem fit_impl{S:Array Value}(h:WT Try.prog 37 S){k:Nat}(hk:k<36)(t:Nat):impl_chancesFit_v0 S (k:Int) (chR S t k)=fitS S t k:=by unfold impl_chancesFit_v0 fitS;rw[cells_inC h hk];unfold impl_isWater_v0;rw[isLand_bit hk];cases inC (num S 0) (num S 1) k<;>cases bitI (num S 2) k<;>rfl
theorem wet_in{S:Array Value}(h:WT Try.prog 37 S){k:Nat}(hk:k<36):spec_l01Wet_gd (k:Int) S=true/\spec_l01Wet_v0 (k:Int) S=(inC (num S 0) (num S 1) k && !(bitI (num S 2) k)):=by
 have hu:decide (0<=IntKind.u64.wrap (k:Int))=true:=decide_eq_true (wrap_in .u64 _).1;unfold spec_l01Wet_gd spec_l01Wet_v0;rw[is_inC h hk,dry_bit h hk];constructor
 ·cases inC (num S 0) (num S 1) k<;>simp[hu]
 ·cases inC (num S 0) (num S 1) k<;>simp
noncomputable def impl_ValidSea_G:Cons:=(mkΓ [(108,con impl_cellBits_con),(109,con impl_chancesFit_con)])
noncomputable def impl_ValidSea_t0(a0:Array Value):St:=(⟨.a (.g a0 37)::.a (.w 0)::.a (.b false)::.a (.u)::.a (.p 0 (0) 22)::.a (.i .i8 (num a0 0))::.a (.b (decide ((num a0 0)<(1:Int))))::.a (.b false)::.a (.p 0 (0) 22)::.a (.i .i8 (num a0 0))::.a (.b (decide ((num a0 0) > (6:Int))))::.a (.b (decide ((num a0 0) > (6:Int))))::.a (.b false)::.a (.p 0 (1) 22)::.a (.i .i8 (num a0 1))::.a (.b (decide ((num a0 1)<(1:Int))))::.a (.b (decide ((num a0 1)<(1:Int))))::.a (.b false)::.a (.p 0 (1) 22)::.a (.i .i8 (num a0 1))::.a (.b (decide ((num a0 1) > (6:Int))))::.a (.b (decide ((num a0 1) > (6:Int))))::.a (.p 0 (2) 23)::.a (.i .u64 (num a0 2))::.a (.g a0 37)::.a (.i .u64 (gridI (num a0 0) (num a0 1) 36))::.a (.i .u64 (IntKind.u64.wrap (BitVec.ofInt IntKind.u64.bits (num a0 2) &&& ~~~(BitVec.ofInt IntKind.u64.bits (gridI (num a0 0) (num a0 1) 36))).toNat))::.a (.b (((IntKind.u64.wrap (BitVec.ofInt IntKind.u64.bits (num a0 2) &&& ~~~(BitVec.ofInt IntKind.u64.bits (gridI (num a0 0) (num a0 1) 36))).toNat) != (0:Int))))::.a (.i .i64 0)::us 23 ([]),[.row a0 37,.no,.no,.no,.no,.no,.no,.no],[]⟩:St)
noncomputable def impl_ValidSea_e0:Bool×Int->LS
 |(y0_2,y0_28)=>([.a (.b y0_2),.a (.i .i64 y0_28)],[])
noncomputable def impl_ValidSea_x0:(Stp (Bool×Int) (Bool×Int))->Exit×LS
 |.more t=>(.ret,impl_ValidSea_e0 t)
 |.done t=>((.exit 0),impl_ValidSea_e0 t)
noncomputable def impl_ValidSea_g0(P:Program)(a0:Array Value):Bool×Int->Option (Stp (Bool×Int) (Stp (Bool×Int) (Bool×Int)))
  |(y0_2,y0_28)=>bif decide (y0_28<(36:Int)) then (bif (decide (0<=y0_28)&&decide (y0_28<36)) then (bif (bif (impl_hasCell_v0 a0 y0_28) then decide (0<=y0_28) else true) then (bif (!((impl_chancesFit_v0 a0 y0_28 (a0.extract (3+((y0_28).toNat*5)) ((3+((y0_28).toNat*5))+5))))) then (some (.done (.more (false,y0_28)))) else (bif (decide (0<=y0_28)&&decide (y0_28<36)) then (bif (bif (impl_hasCell_v0 a0 y0_28) then decide (0<=y0_28) else true) then (bif (!((impl_chancesFit_v0 a0 y0_28 (a0.extract (183+((y0_28).toNat*5)) ((183+((y0_28).toNat*5))+5))))) then (some (.done (.more (false,y0_28)))) else (some (.more (y0_2,(i64.wrap (y0_28+(1:Int))))))) else (none)) else (none))) else (none)) else (none)) else (some (.done (.done (y0_2,y0_28))))
theorem impl_ValidSea_s0(N:Nat)(a0:Array Value):∀t:Bool×Int,stepV Try.prog impl_ValidSea_G N (cAt (codeOf Try.f90) [1,1,1,0,1,0,0]) (pAt (mkPlan (codeOf Try.f90) [([2,28],[])]).1 [1,1,1,0,1,0]) [2,28] [] (impl_ValidSea_t0 a0) (impl_ValidSea_e0 t)=mapS impl_ValidSea_e0 impl_ValidSea_x0 (impl_ValidSea_g0 Try.prog a0 t):=by
  rintro⟨y0_2,y0_28⟩
  conv=>rhs;simp only[impl_ValidSea_g0,mapS_cond,mapS_more,mapS_done,mapS_none,impl_ValidSea_e0,impl_ValidSea_x0]
  kernel_rfl
noncomputable def impl_ValidSea_k0_0(P:Program)(N:Nat)(a0:Array Value)(z0_2:Bool)(z0_28:Int):Option (SV×Eff×Bool):=some (.a (.b z0_2),.none,true)
theorem impl_ValidSea_k0_0_eq(N:Nat)(a0:Array Value)(z0_2:Bool)(z0_28:Int):(kBlock 0 (kSeq (veC Try.prog impl_ValidSea_G N (cAt (codeOf Try.f90) [1,1,1,1]) (pAt (mkPlan (codeOf Try.f90) [([2,28],[])]).1 [1,1,1,1]) (SV×Eff×Bool)) (finK Try.prog [] [.tmp 2]))) .ret (left (writes (cAt (codeOf Try.f90) [1,1,1,0,1,0,0])) [2,28] [] (impl_ValidSea_t0 a0) ([.a (.b z0_2),.a (.i .i64 z0_28)],[]))=impl_ValidSea_k0_0 Try.prog N a0 z0_2 z0_28:=by kernel_rfl
noncomputable def impl_ValidSea_k0_1(P:Program)(N:Nat)(a0:Array Value)(z0_2:Bool)(z0_28:Int):Option (SV×Eff×Bool):=some (.a (.b true),.none,true)
theorem impl_ValidSea_k0_1_eq(N:Nat)(a0:Array Value)(z0_2:Bool)(z0_28:Int):(kBlock 0 (kSeq (veC Try.prog impl_ValidSea_G N (cAt (codeOf Try.f90) [1,1,1,1]) (pAt (mkPlan (codeOf Try.f90) [([2,28],[])]).1 [1,1,1,1]) (SV×Eff×Bool)) (finK Try.prog [] [.tmp 2]))) (.exit 0) (left (writes (cAt (codeOf Try.f90) [1,1,1,0,1,0,0])) [2,28] [] (impl_ValidSea_t0 a0) ([.a (.b z0_2),.a (.i .i64 z0_28)],[]))=impl_ValidSea_k0_1 Try.prog N a0 z0_2 z0_28:=by kernel_rfl
theorem impl_ValidSea_n0(N:Nat)(a0:Array Value):bindX (iterO (stepV Try.prog impl_ValidSea_G N (cAt (codeOf Try.f90) [1,1,1,0,1,0,0]) (pAt (mkPlan (codeOf Try.f90) [([2,28],[])]).1 [1,1,1,0,1,0]) [2,28] [] (impl_ValidSea_t0 a0)) N ([.a (.b false),.a (.i .i64 0)],[])) (λe s=>(kBlock 0 (kSeq (veC Try.prog impl_ValidSea_G N (cAt (codeOf Try.f90) [1,1,1,1]) (pAt (mkPlan (codeOf Try.f90) [([2,28],[])]).1 [1,1,1,1]) (SV×Eff×Bool)) (finK Try.prog [] [.tmp 2]))) e (left (writes (cAt (codeOf Try.f90) [1,1,1,0,1,0,0])) [2,28] [] (impl_ValidSea_t0 a0) s))=nodeX (iterO (impl_ValidSea_g0 Try.prog a0) N (false,(0:Int))) (st2 (λx=>impl_ValidSea_k0_0 Try.prog N a0 x.1 x.2) (λx=>impl_ValidSea_k0_1 Try.prog N a0 x.1 x.2)):=by refine loop_node impl_ValidSea_e0 impl_ValidSea_x0 _ _ (impl_ValidSea_s0 N a0) N (false,(0:Int)) _ _ ?_;intro x;cases x with|more x=>exact impl_ValidSea_k0_0_eq N a0 x.1 x.2|done x=>exact impl_ValidSea_k0_1_eq N a0 x.1 x.2
theorem impl_ValidSea_ans(N:Nat)(a0:Array Value):ansV Try.prog impl_ValidSea_G N Try.f90 [([2,28],[])] [.g a0 37] []=(bif decide ((num a0 0)<(1:Int)) then (some (.a (.b false),.none,true)) else (bif decide ((num a0 0) > (6:Int)) then (some (.a (.b false),.none,true)) else (bif decide ((num a0 1)<(1:Int)) then (some (.a (.b false),.none,true)) else (bif decide ((num a0 1) > (6:Int)) then (some (.a (.b false),.none,true)) else (bif (decide (0<=num a0 0)&&decide (num a0 0<=6)&&(decide (0<=num a0 1)&&decide (num a0 1<=6))) then (bif ((IntKind.u64.wrap (BitVec.ofInt IntKind.u64.bits (num a0 2) &&& ~~~(BitVec.ofInt IntKind.u64.bits (gridI (num a0 0) (num a0 1) 36))).toNat) != (0:Int)) then (some (.a (.b false),.none,true)) else (nodeX (iterO (impl_ValidSea_g0 Try.prog a0) N (false,(0:Int))) (st2 (λx=>impl_ValidSea_k0_0 Try.prog N a0 x.1 x.2) (λx=>impl_ValidSea_k0_1 Try.prog N a0 x.1 x.2)))) else (none)))))):=by
  conv=>rhs;simp only[<- impl_ValidSea_n0 N a0]
  kernel_rfl
theorem impl_ValidSea_main(a0:Array Value)(h_a0:WT Try.prog 37 a0)(hg:(true)=true):ansV Try.prog impl_ValidSea_G 1000 Try.f90 [([2,28],[])] [.g a0 37] []=some (.a (.b ((okS a0))),.none,true):=by
 refine(impl_ValidSea_ans 1000 a0).trans ?_;have h:=iter_find (g:=impl_ValidSea_g0 Try.prog a0) (λk=>(false,(k:Int))) (λk=> !(fitS a0 0 k&&fitS a0 1 k)) 36 (N:=1000) (by omega) (xd:=.done (false,((36:Nat):Int))) (λk=>.more (false,(k:Int))) (λk hk hp=>by
  have h1:decide ((k:Int)<36)=true:=decide_eq_true (by omega);have h0:decide (0<=(k:Int))=true:=decide_eq_true (by omega);have h3:i64.wrap ((k:Int)+1)=((k+1:Nat):Int):=by rw[IntWalk.i64_in _ (by omega)];omega
  have f0:=fit_impl h_a0 hk 0;have f1:=fit_impl h_a0 hk 1;unfold chR at f0 f1;rw[show 3+0*180+k*5=3+k*5 by omega]at f0;rw[show 3+1*180+k*5=183+k*5 by omega]at f1;have hg:(bif impl_hasCell_v0 a0 (k:Int) then true else true)=true:=by cases impl_hasCell_v0 a0 (k:Int)<;>rfl
  simp only[Bool.not_eq_false',Bool.and_eq_true]at hp;simp only[impl_ValidSea_g0,h1,h0,h3,Bool.and_self,cond_true,Int.toNat_natCast,hg,f0,f1,hp.1,hp.2,Bool.not_true,cond_false]) (λk hk hp=>by
  have h1:decide ((k:Int)<36)=true:=decide_eq_true (by omega);have h0:decide (0<=(k:Int))=true:=decide_eq_true (by omega);have f0:=fit_impl h_a0 hk 0;have f1:=fit_impl h_a0 hk 1;unfold chR at f0 f1;rw[show 3+0*180+k*5=3+k*5 by omega]at f0;rw[show 3+1*180+k*5=183+k*5 by omega]at f1;have hg:(bif impl_hasCell_v0 a0 (k:Int) then true else true)=true:=by cases impl_hasCell_v0 a0 (k:Int)<;>rfl
  cases e0:fitS a0 0 k with
  |false=>simp only[impl_ValidSea_g0,h1,h0,Bool.and_self,cond_true,Int.toNat_natCast,hg,f0,e0,Bool.not_false]
  |true=>
   rw[e0]at hp;have e1:fitS a0 1 k=false:=by simpa using hp
   simp only[impl_ValidSea_g0,h1,h0,Bool.and_self,cond_true,Int.toNat_natCast,hg,f0,f1,e0,e1,Bool.not_false,Bool.not_true,cond_false]) (by
  have h1:decide (((36:Nat):Int)<36)=false:=by decide
  simp only[impl_ValidSea_g0,h1,cond_false])
 have h':iterO (impl_ValidSea_g0 Try.prog a0) 1000 (false,(0:Int))=some (match (List.range 36).find? (λk=> !(fitS a0 0 k&&fitS a0 1 k)) with|some k=>.more (false,(k:Int))|none=>.done (false,((36:Nat):Int))):=h;have hf:=find_all 36 (λk=>fitS a0 0 k&&fitS a0 1 k);unfold okS okD
 by_cases d1:1<=num a0 0
 ·rw [decide_eq_true d1,decide_eq_false (show ¬ num a0 0<1 by omega)]
  by_cases d2:num a0 0<=6
  ·rw [decide_eq_true d2,decide_eq_false (show ¬ num a0 0 > 6 by omega)]
   by_cases d3:1<=num a0 1
   ·rw[decide_eq_true d3,decide_eq_false (show ¬num a0 1<1 by omega)]
    by_cases d4:num a0 1<=6
    ·rw[decide_eq_true d4,decide_eq_false (show ¬num a0 1 > 6 by omega),decide_eq_true (show 0<=num a0 0 by omega),decide_eq_true (show 0<=num a0 1 by omega)];simp only[Bool.and_self,cond_true,cond_false,Bool.true_and,h'];rw[show IntKind.u64.wrap (BitVec.ofInt IntKind.u64.bits (num a0 2) &&& ~~~(BitVec.ofInt IntKind.u64.bits (gridI (num a0 0) (num a0 1) 36))).toNat=andNotI (num a0 2) (gridI (num a0 0) (num a0 1) 36) from rfl];cases hb:(andNotI (num a0 2) (gridI (num a0 0) (num a0 1) 36)==0) with|false=>rw[show (andNotI (num a0 2) (gridI (num a0 0) (num a0 1) 36) != 0)=true by simp[bne,hb]];rfl|true=>rw[show (andNotI (num a0 2) (gridI (num a0 0) (num a0 1) 36) != 0)=false by simp[bne,hb],<- hf];cases (List.range 36).find? (λk=> !(fitS a0 0 k&&fitS a0 1 k))<;>rfl
    ·rw[decide_eq_false d4,decide_eq_true (show num a0 1 > 6 by omega)];rfl
   ·rw[decide_eq_false d3,decide_eq_true (show num a0 1<1 by omega)];rfl
  ·rw[decide_eq_false d2,decide_eq_true (show num a0 0 > 6 by omega)];rfl
 ·rw[decide_eq_false d1,decide_eq_true (show num a0 0<1 by omega)];rfl
noncomputable def impl_ValidSea_con:Con:=λargs h=>match args,h with|[.g a0 37],[]=>some (.a (.b ((okS a0))),.none,true)|_,_=>none
theorem impl_ValidSea_enter:EntX Try.prog 90:=entX_ok (fn:=Try.f90) (by kernel_rfl) (by kernel_rfl) (by kernel_rfl)
theorem impl_ValidSea_ok:ConOkX mn Try.prog 90 impl_ValidSea_con:=(ansX_ok (N:=1000) (by kernel_rfl) (mKc (con_okX impl_cellBits_ok) impl_cellBits_enter (mKc (con_okX impl_chancesFit_ok) impl_chancesFit_enter mKn)) (fn:=Try.f90) (by kernel_rfl) (by kernel_rfl) [([2,28],[])]).of (by
 intro ρ h w args vals r e hA hH hr;unfold impl_ValidSea_con at hr;split at hr
 ·rename_i a0;obtain⟨rfl,hg⟩:=Prod.mk.inj (Option.some.inj hr);obtain⟨rfl,hg2⟩:=Prod.mk.inj hg;exact impl_ValidSea_main a0 (hA.wt 0 rfl) hg2
 ·cases hr)
noncomputable def spec_l01Ok_G:Cons:=(mkΓ [(39,con spec_l00In_con),(82,con spec_l01Cells_con),(83,con spec_l01Wet_con),(84,con spec_l01Chances_con)])
noncomputable def spec_l01Ok_t1(a0:Array Value)(y0_2:Bool)(y0_3:Int):St:=(⟨.a (.w 0)::.a (.u)::.a (.b y0_2)::.a (.i .i64 y0_3)::.a (.i .i64 0)::.a (.x)::.a (.w 0)::.a (.w 0)::.a (.p 0 (0) 22)::.a (.i .i8 (num a0 0))::.a (.i .i64 (i64.wrap (num a0 0)))::.a (.b ((spec_l00In_v0 (i64.wrap (num a0 0)) (1:Int) (6:Int))))::.a (.b ((!((spec_l00In_v0 (i64.wrap (num a0 0)) (1:Int) (6:Int))))))::.a (.b false)::.a (.w 0)::.a (.w 0)::.a (.p 0 (1) 22)::.a (.i .i8 (num a0 1))::.a (.i .i64 (i64.wrap (num a0 1)))::.a (.b ((spec_l00In_v0 (i64.wrap (num a0 1)) (1:Int) (6:Int))))::.a (.b ((!((spec_l00In_v0 (i64.wrap (num a0 1)) (1:Int) (6:Int))))))::.a (.b ((!((spec_l00In_v0 (i64.wrap (num a0 1)) (1:Int) (6:Int))))))::.a (.b false)::.a (.w 0)::.a (.w 0)::.a (.p 0 (2) 23)::.a (.i .u64 (num a0 2))::.a (.w 0)::.a (.i .u64 (gridI (num a0 0) (num a0 1) 36))::.a (.i .u64 (IntKind.u64.wrap (BitVec.ofInt IntKind.u64.bits (num a0 2) &&& ~~~(BitVec.ofInt IntKind.u64.bits (gridI (num a0 0) (num a0 1) 36))).toNat))::.a (.b (((IntKind.u64.wrap (BitVec.ofInt IntKind.u64.bits (num a0 2) &&& ~~~(BitVec.ofInt IntKind.u64.bits (gridI (num a0 0) (num a0 1) 36))).toNat) != (0:Int))))::.a (.b (((IntKind.u64.wrap (BitVec.ofInt IntKind.u64.bits (num a0 2) &&& ~~~(BitVec.ofInt IntKind.u64.bits (gridI (num a0 0) (num a0 1) 36))).toNat) != (0:Int))))::.a (.i .i64 y0_3)::.a (.b (decide (y0_3<(2:Int))))::xs 33 ([]),[.row a0 37,.no,.no,.no,.no,.no,.no,.no,.no,.no,.no,.no,.no,.no,.no,.no,.no,.no,.no,.no,.no,.no,.no,.no,.no,.no,.no],[]⟩:St)
noncomputable def spec_l01Ok_e1:Bool×Int->LS
 |(y1_2,y1_4)=>([.a (.b y1_2),.a (.i .i64 y1_4)],[])
noncomputable def spec_l01Ok_x1:(Stp (Bool×Int) (Bool×Int))->Exit×LS
 |.more t=>(.ret,spec_l01Ok_e1 t)
 |.done t=>((.exit 2),spec_l01Ok_e1 t)
noncomputable def spec_l01Ok_g1(P:Program)(a0:Array Value)(y0_2:Bool)(y0_3:Int):Bool×Int->Option (Stp (Bool×Int) (Stp (Bool×Int) (Bool×Int)))
  |(y1_2,y1_4)=>bif decide (y1_4<(36:Int)) then (bif (decide (0<=y0_3)&&decide (y0_3<2)) then (bif (decide (0<=y1_4)&&decide (y1_4<36)) then (bif (spec_l01Wet_gd y1_4 a0) then (bif (spec_l01Wet_v0 y1_4 a0) then (bif (!((sumW (a0.extract ((3+((y0_3).toNat*180))+((y1_4).toNat*5)) (((3+((y0_3).toNat*180))+((y1_4).toNat*5))+5)) 5==(12:Int)))) then (some (.done (.more (false,y1_4)))) else (bif (spec_l01Wet_gd y1_4 a0) then (bif (!((spec_l01Wet_v0 y1_4 a0))) then (bif (!(sameB (a0.extract ((3+((y0_3).toNat*180))+((y1_4).toNat*5)) (((3+((y0_3).toNat*180))+((y1_4).toNat*5))+5)) (#[.int .u8 0,.int .u8 0,.int .u8 0,.int .u8 0,.int .u8 0]:Array Value))) then (some (.done (.more (false,y1_4)))) else (some (.more (y1_2,(i64.wrap (y1_4+(1:Int))))))) else (some (.more (y1_2,(i64.wrap (y1_4+(1:Int))))))) else (none))) else (bif (spec_l01Wet_gd y1_4 a0) then (bif (!((spec_l01Wet_v0 y1_4 a0))) then (bif (!(sameB (a0.extract ((3+((y0_3).toNat*180))+((y1_4).toNat*5)) (((3+((y0_3).toNat*180))+((y1_4).toNat*5))+5)) (#[.int .u8 0,.int .u8 0,.int .u8 0,.int .u8 0,.int .u8 0]:Array Value))) then (some (.done (.more (false,y1_4)))) else (some (.more (y1_2,(i64.wrap (y1_4+(1:Int))))))) else (some (.more (y1_2,(i64.wrap (y1_4+(1:Int))))))) else (none))) else (none)) else (none)) else (none)) else (some (.done (.done (y1_2,y1_4))))
theorem spec_l01Ok_s1(N:Nat)(a0:Array Value)(y0_2:Bool)(y0_3:Int):∀t:Bool×Int,stepV Try.prog spec_l01Ok_G N (cAt (codeOf Try.f50) [1,1,0,1,0,0,1,0,0,1,0,0]) (pAt (mkPlan (codeOf Try.f50) [([2,3],[]),([2,4],[])]).1 [1,1,0,1,0,1,0,1,0]) [2,4] [] (spec_l01Ok_t1 a0 y0_2 y0_3) (spec_l01Ok_e1 t)=mapS spec_l01Ok_e1 spec_l01Ok_x1 (spec_l01Ok_g1 Try.prog a0 y0_2 y0_3 t):=by
  rintro⟨y1_2,y1_4⟩
  conv=>rhs;simp only[spec_l01Ok_g1,mapS_cond,mapS_more,mapS_done,mapS_none,spec_l01Ok_e1,spec_l01Ok_x1]
  kernel_rfl
noncomputable def spec_l01Ok_t0(a0:Array Value):St:=(⟨.a (.w 0)::.a (.u)::.a (.b false)::.a (.i .i64 0)::.a (.u)::.a (.u)::.a (.w 0)::.a (.w 0)::.a (.p 0 (0) 22)::.a (.i .i8 (num a0 0))::.a (.i .i64 (i64.wrap (num a0 0)))::.a (.b ((spec_l00In_v0 (i64.wrap (num a0 0)) (1:Int) (6:Int))))::.a (.b ((!((spec_l00In_v0 (i64.wrap (num a0 0)) (1:Int) (6:Int))))))::.a (.b false)::.a (.w 0)::.a (.w 0)::.a (.p 0 (1) 22)::.a (.i .i8 (num a0 1))::.a (.i .i64 (i64.wrap (num a0 1)))::.a (.b ((spec_l00In_v0 (i64.wrap (num a0 1)) (1:Int) (6:Int))))::.a (.b ((!((spec_l00In_v0 (i64.wrap (num a0 1)) (1:Int) (6:Int))))))::.a (.b ((!((spec_l00In_v0 (i64.wrap (num a0 1)) (1:Int) (6:Int))))))::.a (.b false)::.a (.w 0)::.a (.w 0)::.a (.p 0 (2) 23)::.a (.i .u64 (num a0 2))::.a (.w 0)::.a (.i .u64 (gridI (num a0 0) (num a0 1) 36))::.a (.i .u64 (IntKind.u64.wrap (BitVec.ofInt IntKind.u64.bits (num a0 2) &&& ~~~(BitVec.ofInt IntKind.u64.bits (gridI (num a0 0) (num a0 1) 36))).toNat))::.a (.b (((IntKind.u64.wrap (BitVec.ofInt IntKind.u64.bits (num a0 2) &&& ~~~(BitVec.ofInt IntKind.u64.bits (gridI (num a0 0) (num a0 1) 36))).toNat) != (0:Int))))::.a (.b (((IntKind.u64.wrap (BitVec.ofInt IntKind.u64.bits (num a0 2) &&& ~~~(BitVec.ofInt IntKind.u64.bits (gridI (num a0 0) (num a0 1) 36))).toNat) != (0:Int))))::us 35 ([]),[.row a0 37,.no,.no,.no,.no,.no,.no,.no,.no,.no,.no,.no,.no,.no,.no,.no,.no,.no,.no,.no,.no,.no,.no,.no,.no,.no,.no],[]⟩:St)
noncomputable def spec_l01Ok_e0:Bool×Int->LS
 |(y0_2,y0_3)=>([.a (.b y0_2),.a (.i .i64 y0_3)],[])
noncomputable def spec_l01Ok_x0:(Stp (Bool×Int) (Bool×Int))->Exit×LS
 |.more t=>(.ret,spec_l01Ok_e0 t)
 |.done t=>((.exit 0),spec_l01Ok_e0 t)
noncomputable def spec_l01Ok_k1_0(P:Program)(N:Nat)(a0:Array Value)(y0_2:Bool)(y0_3:Int)(z1_2:Bool)(z1_4:Int):Option (Stp (Bool×Int) (Stp (Bool×Int) (Bool×Int))):=some (.done (.more (z1_2,y0_3)))
theorem spec_l01Ok_k1_0_eq(N:Nat)(a0:Array Value)(y0_2:Bool)(y0_3:Int)(z1_2:Bool)(z1_4:Int):(kBlock 2 (kBlock 1 (kSeq (veC Try.prog spec_l01Ok_G N (cAt (codeOf Try.f50) [1,1,0,1,0,0,1,1]) (pAt (mkPlan (codeOf Try.f50) [([2,3],[]),([2,4],[])]).1 [1,1,0,1,0,1,1]) (Stp LS (Exit×LS))) (kBody 27 [2,3] [])))) .ret (left (writes (cAt (codeOf Try.f50) [1,1,0,1,0,0,1,0,0,1,0,0])) [2,4] [] (spec_l01Ok_t1 a0 y0_2 y0_3) ([.a (.b z1_2),.a (.i .i64 z1_4)],[]))=mapS spec_l01Ok_e0 spec_l01Ok_x0 (spec_l01Ok_k1_0 Try.prog N a0 y0_2 y0_3 z1_2 z1_4):=by
 conv=>rhs;simp only[spec_l01Ok_k1_0,mapS_cond,mapS_more,mapS_done,mapS_none,spec_l01Ok_e0,spec_l01Ok_x0]
 kernel_rfl
noncomputable def spec_l01Ok_k1_1(P:Program)(N:Nat)(a0:Array Value)(y0_2:Bool)(y0_3:Int)(z1_2:Bool)(z1_4:Int):Option (Stp (Bool×Int) (Stp (Bool×Int) (Bool×Int))):=some (.more (z1_2,(i64.wrap (y0_3+(1:Int)))))
theorem spec_l01Ok_k1_1_eq(N:Nat)(a0:Array Value)(y0_2:Bool)(y0_3:Int)(z1_2:Bool)(z1_4:Int):(kBlock 2 (kBlock 1 (kSeq (veC Try.prog spec_l01Ok_G N (cAt (codeOf Try.f50) [1,1,0,1,0,0,1,1]) (pAt (mkPlan (codeOf Try.f50) [([2,3],[]),([2,4],[])]).1 [1,1,0,1,0,1,1]) (Stp LS (Exit×LS))) (kBody 27 [2,3] [])))) (.exit 2) (left (writes (cAt (codeOf Try.f50) [1,1,0,1,0,0,1,0,0,1,0,0])) [2,4] [] (spec_l01Ok_t1 a0 y0_2 y0_3) ([.a (.b z1_2),.a (.i .i64 z1_4)],[]))=mapS spec_l01Ok_e0 spec_l01Ok_x0 (spec_l01Ok_k1_1 Try.prog N a0 y0_2 y0_3 z1_2 z1_4):=by
 conv=>rhs;simp only[spec_l01Ok_k1_1,mapS_cond,mapS_more,mapS_done,mapS_none,spec_l01Ok_e0,spec_l01Ok_x0]
 kernel_rfl
theorem spec_l01Ok_n1(N:Nat)(a0:Array Value)(y0_2:Bool)(y0_3:Int):bindX (iterO (stepV Try.prog spec_l01Ok_G N (cAt (codeOf Try.f50) [1,1,0,1,0,0,1,0,0,1,0,0]) (pAt (mkPlan (codeOf Try.f50) [([2,3],[]),([2,4],[])]).1 [1,1,0,1,0,1,0,1,0]) [2,4] [] (spec_l01Ok_t1 a0 y0_2 y0_3)) N ([.a (.b y0_2),.a (.i .i64 0)],[])) (λe s=>(kBlock 2 (kBlock 1 (kSeq (veC Try.prog spec_l01Ok_G N (cAt (codeOf Try.f50) [1,1,0,1,0,0,1,1]) (pAt (mkPlan (codeOf Try.f50) [([2,3],[]),([2,4],[])]).1 [1,1,0,1,0,1,1]) (Stp LS (Exit×LS))) (kBody 27 [2,3] [])))) e (left (writes (cAt (codeOf Try.f50) [1,1,0,1,0,0,1,0,0,1,0,0])) [2,4] [] (spec_l01Ok_t1 a0 y0_2 y0_3) s))=mapS spec_l01Ok_e0 spec_l01Ok_x0 (nodeX (iterO (spec_l01Ok_g1 Try.prog a0 y0_2 y0_3) N (y0_2,(0:Int))) (st2 (λx=>spec_l01Ok_k1_0 Try.prog N a0 y0_2 y0_3 x.1 x.2) (λx=>spec_l01Ok_k1_1 Try.prog N a0 y0_2 y0_3 x.1 x.2))):=by
 rw[mapS_nodeX spec_l01Ok_e0 spec_l01Ok_x0]
 first
 |(have h:=loop_node (α:=Stp LS (Exit×LS)) spec_l01Ok_e1 spec_l01Ok_x1 _ _ (spec_l01Ok_s1 N a0 y0_2 y0_3) N (y0_2,(0:Int));refine h _ _ ?_)
 |(have h:=loop_node (α:=Stp BS (Exit×BS)) spec_l01Ok_e1 spec_l01Ok_x1 _ _ (spec_l01Ok_s1 N a0 y0_2 y0_3) N (y0_2,(0:Int));refine h _ _ ?_)
 |(have h:=loop_node (α:=Stp LS ((Exit×LS)⊕(SV×Eff×Bool))) spec_l01Ok_e1 spec_l01Ok_x1 _ _ (spec_l01Ok_s1 N a0 y0_2 y0_3) N (y0_2,(0:Int));refine h _ _ ?_)
 intro x;cases x with|more x=>exact spec_l01Ok_k1_0_eq N a0 y0_2 y0_3 x.1 x.2|done x=>exact spec_l01Ok_k1_1_eq N a0 y0_2 y0_3 x.1 x.2
noncomputable def spec_l01Ok_g0(P:Program)(N:Nat)(a0:Array Value):Bool×Int->Option (Stp (Bool×Int) (Stp (Bool×Int) (Bool×Int)))
 |(y0_2,y0_3)=>bif decide (y0_3<(2:Int)) then (nodeX (iterO (spec_l01Ok_g1 P a0 y0_2 y0_3) N (y0_2,(0:Int))) (st2 (λx=>spec_l01Ok_k1_0 P N a0 y0_2 y0_3 x.1 x.2) (λx=>spec_l01Ok_k1_1 P N a0 y0_2 y0_3 x.1 x.2))) else (some (.done (.done (y0_2,y0_3))))
theorem spec_l01Ok_s0(N:Nat)(a0:Array Value):∀t:Bool×Int,stepV Try.prog spec_l01Ok_G N (cAt (codeOf Try.f50) [1,1,0,1,0,0]) (pAt (mkPlan (codeOf Try.f50) [([2,3],[]),([2,4],[])]).1 [1,1,0,1,0]) [2,3] [] (spec_l01Ok_t0 a0) (spec_l01Ok_e0 t)=mapS spec_l01Ok_e0 spec_l01Ok_x0 (spec_l01Ok_g0 Try.prog N a0 t):=by
 rintro⟨y0_2,y0_3⟩
 conv=>rhs;simp only[<- spec_l01Ok_n1 N a0 y0_2 y0_3,spec_l01Ok_g0,mapS_cond,mapS_more,mapS_done,mapS_none,spec_l01Ok_e0,spec_l01Ok_x0]
 kernel_rfl
noncomputable def spec_l01Ok_k0_0(P:Program)(N:Nat)(a0:Array Value)(z0_2:Bool)(z0_3:Int):Option (SV×Eff×Bool):=some (.a (.b z0_2),.none,true)
theorem spec_l01Ok_k0_0_eq(N:Nat)(a0:Array Value)(z0_2:Bool)(z0_3:Int):(kBlock 0 (kSeq (veC Try.prog spec_l01Ok_G N (cAt (codeOf Try.f50) [1,1,1]) (pAt (mkPlan (codeOf Try.f50) [([2,3],[]),([2,4],[])]).1 [1,1,1]) (SV×Eff×Bool)) (finK Try.prog [.row a0 37] [.tmp 2]))) .ret (left (writes (cAt (codeOf Try.f50) [1,1,0,1,0,0])) [2,3] [] (spec_l01Ok_t0 a0) ([.a (.b z0_2),.a (.i .i64 z0_3)],[]))=spec_l01Ok_k0_0 Try.prog N a0 z0_2 z0_3:=by kernel_rfl
noncomputable def spec_l01Ok_k0_1(P:Program)(N:Nat)(a0:Array Value)(z0_2:Bool)(z0_3:Int):Option (SV×Eff×Bool):=some (.a (.b true),.none,true)
theorem spec_l01Ok_k0_1_eq(N:Nat)(a0:Array Value)(z0_2:Bool)(z0_3:Int):(kBlock 0 (kSeq (veC Try.prog spec_l01Ok_G N (cAt (codeOf Try.f50) [1,1,1]) (pAt (mkPlan (codeOf Try.f50) [([2,3],[]),([2,4],[])]).1 [1,1,1]) (SV×Eff×Bool)) (finK Try.prog [.row a0 37] [.tmp 2]))) (.exit 0) (left (writes (cAt (codeOf Try.f50) [1,1,0,1,0,0])) [2,3] [] (spec_l01Ok_t0 a0) ([.a (.b z0_2),.a (.i .i64 z0_3)],[]))=spec_l01Ok_k0_1 Try.prog N a0 z0_2 z0_3:=by kernel_rfl
theorem spec_l01Ok_n0(N:Nat)(a0:Array Value):bindX (iterO (stepV Try.prog spec_l01Ok_G N (cAt (codeOf Try.f50) [1,1,0,1,0,0]) (pAt (mkPlan (codeOf Try.f50) [([2,3],[]),([2,4],[])]).1 [1,1,0,1,0]) [2,3] [] (spec_l01Ok_t0 a0)) N ([.a (.b false),.a (.i .i64 0)],[])) (λe s=>(kBlock 0 (kSeq (veC Try.prog spec_l01Ok_G N (cAt (codeOf Try.f50) [1,1,1]) (pAt (mkPlan (codeOf Try.f50) [([2,3],[]),([2,4],[])]).1 [1,1,1]) (SV×Eff×Bool)) (finK Try.prog [.row a0 37] [.tmp 2]))) e (left (writes (cAt (codeOf Try.f50) [1,1,0,1,0,0])) [2,3] [] (spec_l01Ok_t0 a0) s))=nodeX (iterO (spec_l01Ok_g0 Try.prog N a0) N (false,(0:Int))) (st2 (λx=>spec_l01Ok_k0_0 Try.prog N a0 x.1 x.2) (λx=>spec_l01Ok_k0_1 Try.prog N a0 x.1 x.2)):=by refine loop_node spec_l01Ok_e0 spec_l01Ok_x0 _ _ (spec_l01Ok_s0 N a0) N (false,(0:Int)) _ _ ?_;intro x;cases x with|more x=>exact spec_l01Ok_k0_0_eq N a0 x.1 x.2|done x=>exact spec_l01Ok_k0_1_eq N a0 x.1 x.2
theorem spec_l01Ok_ans(N:Nat)(a0:Array Value):ansV Try.prog spec_l01Ok_G N Try.f50 [([2,3],[]),([2,4],[])] [.w 0] [.row a0 37]=(bif (!((spec_l00In_v0 (i64.wrap (num a0 0)) (1:Int) (6:Int)))) then (some (.a (.b false),.none,true)) else (bif (!((spec_l00In_v0 (i64.wrap (num a0 1)) (1:Int) (6:Int)))) then (some (.a (.b false),.none,true)) else (bif ((IntKind.u64.wrap (BitVec.ofInt IntKind.u64.bits (num a0 2) &&& ~~~(BitVec.ofInt IntKind.u64.bits (gridI (num a0 0) (num a0 1) 36))).toNat) != (0:Int)) then (some (.a (.b false),.none,true)) else (nodeX (iterO (spec_l01Ok_g0 Try.prog N a0) N (false,(0:Int))) (st2 (λx=>spec_l01Ok_k0_0 Try.prog N a0 x.1 x.2) (λx=>spec_l01Ok_k0_1 Try.prog N a0 x.1 x.2)))))):=by
 conv=>rhs;simp only[<- spec_l01Ok_n0 N a0]
 kernel_rfl
theorem ok_inner{S:Array Value}(h:WT Try.prog 37 S){t:Nat}(ht:t<2)(b:Bool):iterO (spec_l01Ok_g1 Try.prog S b (t:Int)) 1000 (b,(0:Int))=some (match (List.range 36).find? (λk=> !(fitS S t k)) with|some k=>.more (false,(k:Int))|none=>.done (b,((36:Nat):Int))):=by
 have htt:decide (0<=(t:Int))=true:=decide_eq_true (by omega);have ht2:decide ((t:Int)<2)=true:=decide_eq_true (by omega);exact iter_find (g:=spec_l01Ok_g1 Try.prog S b (t:Int)) (λk=>(b,(k:Int))) (λk=> !(fitS S t k)) 36 (N:=1000) (by omega) (xd:=.done (b,((36:Nat):Int))) (λk=>.more (false,(k:Int))) (λk hk hp=>by
  have h1:decide ((k:Int)<36)=true:=decide_eq_true (by omega);have h0:decide (0<=(k:Int))=true:=decide_eq_true (by omega);have h3:i64.wrap ((k:Int)+1)=((k+1:Nat):Int):=by rw[IntWalk.i64_in _ (by omega)];omega
  obtain⟨w1,w2⟩:=wet_in h hk;rw[Bool.not_eq_false']at hp;unfold fitS chR at hp;rw[<- w2]at hp;cases hw:spec_l01Wet_v0 (k:Int) S with
  |false=>rw[hw]at hp;simp only[cond_false]at hp;simp only[spec_l01Ok_g1,h1,h0,h3,htt,ht2,w1,hw,Bool.and_self,Bool.not_false,cond_true,cond_false,Int.toNat_natCast,hp,Bool.not_true]
  |true=>rw[hw]at hp;simp only[cond_true]at hp;simp only[spec_l01Ok_g1,h1,h0,h3,htt,ht2,w1,hw,Bool.and_self,Bool.not_true,cond_true,cond_false,Int.toNat_natCast,hp]) (λk hk hp=>by
  have h1:decide ((k:Int)<36)=true:=decide_eq_true (by omega);have h0:decide (0<=(k:Int))=true:=decide_eq_true (by omega);obtain⟨w1,w2⟩:=wet_in h hk;rw[Bool.not_eq_true']at hp;unfold fitS chR at hp;rw[<- w2]at hp;cases hw:spec_l01Wet_v0 (k:Int) S with
  |false=>rw[hw]at hp;simp only[cond_false]at hp;simp only[spec_l01Ok_g1,h1,h0,htt,ht2,w1,hw,Bool.and_self,Bool.not_false,cond_true,cond_false,Int.toNat_natCast,hp]
  |true=>rw[hw]at hp;simp only[cond_true]at hp;simp only[spec_l01Ok_g1,h1,h0,htt,ht2,w1,hw,Bool.and_self,Bool.not_true,Bool.not_false,cond_true,cond_false,Int.toNat_natCast,hp]) (by
  have h1:decide (((36:Nat):Int)<36)=false:=by decide
  simp only[spec_l01Ok_g1,h1,cond_false])
theorem spec_l01Ok_main(a0:Array Value)(h_a0:WT Try.prog 37 a0)(hg:(true)=true):ansV Try.prog spec_l01Ok_G 1000 Try.f50 [([2,3],[]),([2,4],[])] [.w 0] [.row a0 37]=some (.a (.b ((okS a0))),.none,true):=by
 refine(spec_l01Ok_ans 1000 a0).trans ?_;obtain⟨s0,b0,b1⟩:=h_a0.int (o:=0) (k:=.i8) (by kernel_rfl);obtain⟨s1,b2,b3⟩:=h_a0.int (o:=1) (k:=.i8) (by kernel_rfl);have e1:IntKind.i8.min=-128:=rfl;have e2:IntKind.i8.max=127:=rfl;have h:=iter_find (g:=spec_l01Ok_g0 Try.prog 1000 a0) (λt=>(false,(t:Int))) (λt=>((List.range 36).find? (λk=> !(fitS a0 t k))).isSome) 2 (N:=1000) (by omega) (xd:=.done (false,((2:Nat):Int))) (λt=>.more (false,(t:Int))) (λt ht hp=>by
  have h1:decide ((t:Int)<2)=true:=decide_eq_true (by omega);have h3:i64.wrap ((t:Int)+1)=((t+1:Nat):Int):=by rw[IntWalk.i64_in _ (by omega)];omega
  have hn:(List.range 36).find? (λk=> !(fitS a0 t k))=none:=by simpa using hp
  have hi:=ok_inner h_a0 ht false;rw[hn]at hi;simp only[spec_l01Ok_g0,h1,cond_true,hi,nodeX,st2,spec_l01Ok_k1_1,h3]) (λt ht hp=>by
  have h1:decide ((t:Int)<2)=true:=decide_eq_true (by omega);obtain⟨k,hn⟩:=Option.isSome_iff_exists.1 hp;have hi:=ok_inner h_a0 ht false;rw[hn]at hi;simp only[spec_l01Ok_g0,h1,cond_true,hi,nodeX,st2,spec_l01Ok_k1_0]) (by
  have h1:decide (((2:Nat):Int)<2)=false:=by decide
  simp only[spec_l01Ok_g0,h1,cond_false])
 have h':iterO (spec_l01Ok_g0 Try.prog 1000 a0) 1000 (false,(0:Int))=some (match (List.range 2).find? (λt=>((List.range 36).find? (λk=> !(fitS a0 t k))).isSome) with|some t=>.more (false,(t:Int))|none=>.done (false,((2:Nat):Int))):=h;have i0:spec_l00In_v0 (i64.wrap (num a0 0)) 1 6=(decide (1<=num a0 0)&&decide (num a0 0<=6)):=by rw[IntWalk.i64_in _ (by omega)];unfold spec_l00In_v0;cases h1:decide (num a0 0>=1)<;>simp_all
 have i1:spec_l00In_v0 (i64.wrap (num a0 1)) 1 6=(decide (1<=num a0 1)&&decide (num a0 1<=6)):=by rw[IntWalk.i64_in _ (by omega)];unfold spec_l00In_v0;cases h1:decide (num a0 1>=1)<;>simp_all
 unfold okS okD;rw[i0,i1,h',all_two,<- find_all,<- find_all,show IntKind.u64.wrap (BitVec.ofInt IntKind.u64.bits (num a0 2) &&& ~~~(BitVec.ofInt IntKind.u64.bits (gridI (num a0 0) (num a0 1) 36))).toNat=andNotI (num a0 2) (gridI (num a0 0) (num a0 1) 36) from rfl,show (List.range 2)=[0,1] from rfl];cases decide (1<=num a0 0)&&decide (num a0 0<=6)
 ·rfl
 cases decide (1<=num a0 1)&&decide (num a0 1<=6)
 ·rfl
 cases hb:(andNotI (num a0 2) (gridI (num a0 0) (num a0 1) 36)==0) with|false=>rw[show (andNotI (num a0 2) (gridI (num a0 0) (num a0 1) 36) != 0)=true by simp[bne,hb]];rfl|true=>rw[show (andNotI (num a0 2) (gridI (num a0 0) (num a0 1) 36) != 0)=false by simp[bne,hb]];simp only[List.find?];generalize (List.range 36).find? (λk=> !(fitS a0 0 k))=f0;generalize (List.range 36).find? (λk=> !(fitS a0 1 k))=f1;cases f0<;>cases f1<;>rfl
noncomputable def spec_l01Ok_con:Con:=λargs h=>match args,h with|[.w 0],[.row a0 37]=>some (.a (.b ((okS a0))),.none,true)|_,_=>none
theorem spec_l01Ok_enter:EntX Try.prog 50:=entX_ok (fn:=Try.f50) (by kernel_rfl) (by kernel_rfl) (by kernel_rfl)
theorem spec_l01Ok_ok:ConOkX mn Try.prog 50 spec_l01Ok_con:=(ansX_ok (N:=1000) (by kernel_rfl) (mKc (con_okX spec_l00In_ok) spec_l00In_enter (mKc (con_okX spec_l01Cells_ok) spec_l01Cells_enter (mKc (con_okX spec_l01Wet_ok) spec_l01Wet_enter (mKc (con_okX spec_l01Chances_ok) spec_l01Chances_enter mKn)))) (fn:=Try.f50) (by kernel_rfl) (by kernel_rfl) [([2,3],[]),([2,4],[])]).of (by
 intro ρ h w args vals r e hA hH hr;unfold spec_l01Ok_con at hr;split at hr
 ·rename_i a0;obtain⟨rfl,hg⟩:=Prod.mk.inj (Option.some.inj hr);obtain⟨rfl,hg2⟩:=Prod.mk.inj hg;exact spec_l01Ok_main a0 (hH.wt 0 rfl) hg2
 ·cases hr)
theorem okS_dims{S:Array Value}(h:okS S=true):1<=num S 0/\num S 0<=6/\1<=num S 1/\num S 1<=6:=by unfold okS okD at h;simp only[Bool.and_eq_true,decide_eq_true_eq]at h;exact⟨h.1.1.1,h.1.1.2,h.1.2.1,h.1.2.2⟩
theorem okS_iter{S:Array Value}(h:okS S=true):(decide (0<=num S 0)&&decide (num S 0<=6)&&(decide (0<=num S 1)&&decide (num S 1<=6)))=true:=by obtain⟨h1,h2,h3,h4⟩:=okS_dims h;rw[decide_eq_true (show 0<=num S 0 by omega),decide_eq_true h2,decide_eq_true (show 0<=num S 1 by omega),decide_eq_true h4];rfl
theorem impl_seaCode_ans(N:Nat)(a0:Array Value):ansV Try.prog (mkΓ [(90,con impl_ValidSea_con)]) N Try.f58 [] [.g a0 37] []=(bif (!((okS a0))) then (some (.a (.i .i64 1),.none,true)) else (some (.a (.i .i64 0),.none,true))):=by kernel_rfl
noncomputable def impl_seaCode_v0(a0:Array Value):Int:=(bif (!((okS a0))) then (1:Int) else (0:Int))
theorem impl_seaCode_main(a0:Array Value)(h_a0:WT Try.prog 37 a0)(hg:(true)=true):ansV Try.prog (mkΓ [(90,con impl_ValidSea_con)]) 1000 Try.f58 [] [.g a0 37] []=some (.a (.i .i64 (impl_seaCode_v0 a0)),.none,true):=by
 refine(impl_seaCode_ans 1000 a0).trans ?_;unfold impl_seaCode_v0;revert hg;generalize ((!((okS a0))))=b2;intro hg;cases b2
 ·skip
  first | (simp only[cond_true,cond_false,Bool.and_true,Bool.true_and,Bool.and_false,Bool.false_and];done)|rfl|exact(nomatch (hg:false=true))
 ·skip
  first | (simp only[cond_true,cond_false,Bool.and_true,Bool.true_and,Bool.and_false,Bool.false_and];done)|rfl|exact(nomatch (hg:false=true))
noncomputable def impl_seaCode_con:Con:=λargs h=>match args,h with|[.g a0 37],[]=>some (.a (.i .i64 (impl_seaCode_v0 a0)),.none,true)|_,_=>none
theorem impl_seaCode_enter:EntX Try.prog 58:=entX_ok (fn:=Try.f58) (by kernel_rfl) (by kernel_rfl) (by kernel_rfl)
theorem impl_seaCode_ok:ConOkX mn Try.prog 58 impl_seaCode_con:=(ansX_ok (N:=1000) (by kernel_rfl) (mKc (con_okX impl_ValidSea_ok) impl_ValidSea_enter mKn) (fn:=Try.f58) (by kernel_rfl) (by kernel_rfl) []).of (by
 intro ρ h w args vals r e hA hH hr;unfold impl_seaCode_con at hr;split at hr
 ·rename_i a0;obtain⟨rfl,hg⟩:=Prod.mk.inj (Option.some.inj hr);obtain⟨rfl,hg2⟩:=Prod.mk.inj hg;exact impl_seaCode_main a0 (hA.wt 0 rfl) hg2
 ·cases hr)
noncomputable def impl_cellCode_G:Cons:=(mkΓ [(58,con impl_seaCode_con),(75,con impl_hasCell_con)])
theorem impl_cellCode_ans(N:Nat)(a0:Array Value)(a1:Int):ansV Try.prog impl_cellCode_G N Try.f92 [] [.g a0 37,.i .i64 a1] []=(bif ((impl_seaCode_v0 a0)==(0:Int)) then (bif (!((impl_hasCell_v0 a0 a1))) then (some (.a (.i .i64 2),.none,true)) else (some (.a (.i .i64 (impl_seaCode_v0 a0)),.none,true))) else (some (.a (.i .i64 (impl_seaCode_v0 a0)),.none,true))):=by kernel_rfl
noncomputable def impl_cellCode_v0(a0:Array Value)(a1:Int):Int:=(bif ((impl_seaCode_v0 a0)==(0:Int)) then (bif (!((impl_hasCell_v0 a0 a1))) then (2:Int) else (impl_seaCode_v0 a0)) else (impl_seaCode_v0 a0))
theorem impl_cellCode_main(a0:Array Value)(a1:Int)(h_a0:WT Try.prog 37 a0)(h_a1:i64.min<=a1/\a1<=i64.max)(hg:(true)=true):ansV Try.prog impl_cellCode_G 1000 Try.f92 [] [.g a0 37,.i .i64 a1] []=some (.a (.i .i64 (impl_cellCode_v0 a0 a1)),.none,true):=by
 refine(impl_cellCode_ans 1000 a0 a1).trans ?_;unfold impl_cellCode_v0;revert hg;generalize (((impl_seaCode_v0 a0)==(0:Int)))=b2;intro hg;cases b2
 ·skip
  first | (simp only[cond_true,cond_false,Bool.and_true,Bool.true_and,Bool.and_false,Bool.false_and];done)|rfl|exact(nomatch (hg:false=true))
 ·skip
  revert hg;generalize ((!((impl_hasCell_v0 a0 a1))))=b4;intro hg;cases b4
  ·skip
   first | (simp only[cond_true,cond_false,Bool.and_true,Bool.true_and,Bool.and_false,Bool.false_and];done)|rfl|exact(nomatch (hg:false=true))
  ·skip
   first | (simp only[cond_true,cond_false,Bool.and_true,Bool.true_and,Bool.and_false,Bool.false_and];done)|rfl|exact(nomatch (hg:false=true))
noncomputable def impl_cellCode_con:Con:=λargs h=>match args,h with|[.g a0 37,.i .i64 a1],[]=>some (.a (.i .i64 (impl_cellCode_v0 a0 a1)),.none,true)|_,_=>none
theorem impl_cellCode_enter:EntX Try.prog 92:=entX_ok (fn:=Try.f92) (by kernel_rfl) (by kernel_rfl) (by kernel_rfl)
theorem impl_cellCode_ok:ConOkX mn Try.prog 92 impl_cellCode_con:=(ansX_ok (N:=1000) (by kernel_rfl) (mKc (con_okX impl_seaCode_ok) impl_seaCode_enter (mKc (con_okX impl_hasCell_ok) impl_hasCell_enter mKn)) (fn:=Try.f92) (by kernel_rfl) (by kernel_rfl) []).of (by
 intro ρ h w args vals r e hA hH hr;unfold impl_cellCode_con at hr;split at hr
 ·rename_i a0 a1;obtain⟨rfl,hg⟩:=Prod.mk.inj (Option.some.inj hr);obtain⟨rfl,hg2⟩:=Prod.mk.inj hg;exact impl_cellCode_main a0 a1 (hA.wt 0 rfl) (hA.rng 1 rfl) hg2
 ·cases hr)
noncomputable def impl_spotCode_G:Cons:=(mkΓ [(92,con impl_cellCode_con),(93,con impl_hasTide_con)])
theorem impl_spotCode_ans(N:Nat)(a0:Array Value)(a1 a2:Int):ansV Try.prog impl_spotCode_G N Try.f66 [] [.g a0 37,.i .i64 a1,.i .i64 a2] []=(bif ((impl_cellCode_v0 a0 a2)==(0:Int)) then (bif (!((impl_hasTide_v0 a1))) then (some (.a (.i .i64 2),.none,true)) else (some (.a (.i .i64 (impl_cellCode_v0 a0 a2)),.none,true))) else (some (.a (.i .i64 (impl_cellCode_v0 a0 a2)),.none,true))):=by kernel_rfl
noncomputable def impl_spotCode_v0(a0:Array Value)(a1 a2:Int):Int:=(bif ((impl_cellCode_v0 a0 a2)==(0:Int)) then (bif (!((impl_hasTide_v0 a1))) then (2:Int) else (impl_cellCode_v0 a0 a2)) else (impl_cellCode_v0 a0 a2))
theorem impl_spotCode_main(a0:Array Value)(a1 a2:Int)(h_a0:WT Try.prog 37 a0)(h_a1:i64.min<=a1/\a1<=i64.max)(h_a2:i64.min<=a2/\a2<=i64.max)(hg:(true)=true):ansV Try.prog impl_spotCode_G 1000 Try.f66 [] [.g a0 37,.i .i64 a1,.i .i64 a2] []=some (.a (.i .i64 (impl_spotCode_v0 a0 a1 a2)),.none,true):=by
 refine(impl_spotCode_ans 1000 a0 a1 a2).trans ?_;unfold impl_spotCode_v0;revert hg;generalize (((impl_cellCode_v0 a0 a2)==(0:Int)))=b2;intro hg;cases b2
 ·skip
  first | (simp only[cond_true,cond_false,Bool.and_true,Bool.true_and,Bool.and_false,Bool.false_and];done)|rfl|exact(nomatch (hg:false=true))
 ·skip
  revert hg;generalize ((!((impl_hasTide_v0 a1))))=b4;intro hg;cases b4
  ·skip
   first | (simp only[cond_true,cond_false,Bool.and_true,Bool.true_and,Bool.and_false,Bool.false_and];done)|rfl|exact(nomatch (hg:false=true))
  ·skip
   first | (simp only[cond_true,cond_false,Bool.and_true,Bool.true_and,Bool.and_false,Bool.false_and];done)|rfl|exact(nomatch (hg:false=true))
noncomputable def impl_spotCode_con:Con:=λargs h=>match args,h with|[.g a0 37,.i .i64 a1,.i .i64 a2],[]=>some (.a (.i .i64 (impl_spotCode_v0 a0 a1 a2)),.none,true)|_,_=>none
theorem impl_spotCode_enter:EntX Try.prog 66:=entX_ok (fn:=Try.f66) (by kernel_rfl) (by kernel_rfl) (by kernel_rfl)
theorem impl_spotCode_ok:ConOkX mn Try.prog 66 impl_spotCode_con:=(ansX_ok (N:=1000) (by kernel_rfl) (mKc (con_okX impl_cellCode_ok) impl_cellCode_enter (mKc (con_okX impl_hasTide_ok) impl_hasTide_enter mKn)) (fn:=Try.f66) (by kernel_rfl) (by kernel_rfl) []).of (by
 intro ρ h w args vals r e hA hH hr;unfold impl_spotCode_con at hr;split at hr
 ·rename_i a0 a1 a2;obtain⟨rfl,hg⟩:=Prod.mk.inj (Option.some.inj hr);obtain⟨rfl,hg2⟩:=Prod.mk.inj hg;exact impl_spotCode_main a0 a1 a2 (hA.wt 0 rfl) (hA.rng 1 rfl) (hA.rng 2 rfl) hg2
 ·cases hr)
end
end Go.Proofs.Ytnhilgpdgicgfaa
