/- The likeliest path out of bounds. -/
import Derived.Test.YtnhilgpdgicgfaaProg
import Derived.Test.YtnhilgpdgicgfaaLpG
namespace Go.Proofs.Ytnhilgpdgicgfaa
open Go.ChangeShapes Go.WideShapes Go.ChangeAt Go.RowKit Ve Vc
open IntKind (i64)
set_option linter.unusedVariables false
set_option linter.unusedSimpArgs false
set_option maxRecDepth 100000
noncomputable section
variable {mn:Md}
theorem ask_bottle(S:Array Value)(c b h:Int):impl_bottleCode_v0 S c b h=spec_l04Asked_v0 c c b h S:=by unfold impl_bottleCode_v0 spec_l04Asked_v0 impl_spotCode_v0 impl_cellCode_v0 impl_seaCode_v0;rw[tide_eq,cell_is,show impl_hasHours_v0 h=spec_l00In_v0 h 0 14 from rfl];cases okS S<;>cases spec_l01Is_v0 c S<;>cases spec_l00In_v0 b 0 1<;>cases spec_l00In_v0 h 0 14<;>rfl
theorem ask_ends(S:Array Value)(c b h to:Int):impl_endsCode_v0 S c b h to=spec_l04Asked_v0 c to b h S:=by unfold impl_endsCode_v0;rw[ask_bottle,cell_is];unfold spec_l04Asked_v0;cases okS S<;>cases spec_l01Is_v0 c S<;>cases spec_l01Is_v0 to S<;>cases spec_l00In_v0 b 0 1<;>cases spec_l00In_v0 h 0 14<;>rfl
theorem ask_all{S:Array Value}{c to b h:Int}(h0:(spec_l04Asked_v0 c to b h S==0)=true):okS S=true/\spec_l01Is_v0 c S=true/\spec_l01Is_v0 to S=true/\spec_l00In_v0 b 0 1=true/\spec_l00In_v0 h 0 14=true:=by
 unfold spec_l04Asked_v0 at h0;cases h1:okS S
 ·rw[h1]at h0;exact nomatch h0
 ·cases h2:spec_l01Is_v0 c S
  ·rw[h1,h2]at h0;exact nomatch h0
  ·cases h3:spec_l01Is_v0 to S
   ·rw[h1,h2,h3]at h0;exact nomatch h0
   ·cases h4:spec_l00In_v0 b 0 1
    ·rw[h1,h2,h3,h4]at h0;exact nomatch h0
    ·cases h5:spec_l00In_v0 h 0 14
     ·rw[h1,h2,h3,h4,h5]at h0;exact nomatch h0
     ·exact⟨rfl,rfl,rfl,rfl,rfl⟩
theorem ask_guard{S:Array Value}{c to b h:Int}(h0:(spec_l04Asked_v0 c to b h S==0)=true):(decide (0<=c)&&decide (c<36))=true/\(decide (0<=to)&&decide (to<36))=true/\((okS S&&(decide (0<=b)&&decide (b<2)))&&(decide (0<=h)&&decide (h<=14)))=true/\impl_boundsFor_gd S to b h=true:=by
 obtain⟨h1,h2,h3,h4,h5⟩:=ask_all h0;have r2:=is_range h2;have r3:=is_range h3;have r4:=in_range h4;have r5:=in_range h5;have e2:(decide (0<=c)&&decide (c<36))=true:=by rw[decide_eq_true r2.1,decide_eq_true (show c<36 by omega)];rfl
 have e3:(decide (0<=to)&&decide (to<36))=true:=by rw[decide_eq_true r3.1,decide_eq_true (show to<36 by omega)];rfl
 have e4:((okS S&&(decide (0<=b)&&decide (b<2)))&&(decide (0<=h)&&decide (h<=14)))=true:=by rw[h1,decide_eq_true r4.1,decide_eq_true (show b<2 by omega),decide_eq_true r5.1,decide_eq_true r5.2];rfl
 refine⟨e2,e3,e4,?_⟩;unfold impl_boundsFor_gd;rw[e3,e4];rfl
theorem ne_of{x:Int}(h:(x==0)=true):(x != 0)=false:=by unfold bne;rw[h];rfl
theorem ne_of'{x:Int}(h:(x==0)=false):(x != 0)=true:=by unfold bne;rw[h];rfl
theorem impl_Bounds_hours_ans(N:Nat)(b_a0:Option (Option Addr))(n_a0:Nat)(a0:Array Value):ansV Try.prog (mkΓ []) N Try.f79 [] [.l 0] [.sl (.came b_a0) n_a0 a0 42]=(some (.a (.i .i64 (i64.wrap ((n_a0:Int) - (1:Int)))),.none,true)):=by kernel_rfl
theorem impl_Bounds_hours_main(b_a0:Option (Option Addr))(n_a0:Nat)(a0:Array Value)(h_a0:a0.size=n_a0*(lay Try.prog 42).length/\(∀k,k<n_a0->WT Try.prog 42 (a0.extract (k*(lay Try.prog 42).length) (k*(lay Try.prog 42).length+(lay Try.prog 42).length)))/\n_a0<=9223372036854775807)(hg:(true)=true):ansV Try.prog (mkΓ []) 1000 Try.f79 [] [.l 0] [.sl (.came b_a0) n_a0 a0 42]=some (.a (.i .i64 (i64.wrap ((n_a0:Int) - (1:Int)))),.none,true):=by refine(impl_Bounds_hours_ans 1000 b_a0 n_a0 a0).trans ?_;rfl
noncomputable def impl_Bounds_hours_con:Con:=λargs h=>match args,h with|[.l 0],[.sl (.came b_a0) n_a0 a0 42]=>some (.a (.i .i64 (i64.wrap ((n_a0:Int) - (1:Int)))),.none,true)|_,_=>none
theorem impl_Bounds_hours_enter:EntX Try.prog 79:=entX_ok (fn:=Try.f79) (by kernel_rfl) (by kernel_rfl) (by kernel_rfl)
theorem impl_Bounds_hours_ok:ConOkX mn Try.prog 79 impl_Bounds_hours_con:=(ansX_ok (N:=1000) (by kernel_rfl) mKn (fn:=Try.f79) (by kernel_rfl) (by kernel_rfl) []).of (by
 intro ρ h w args vals r e hA hH hr;unfold impl_Bounds_hours_con at hr;split at hr
 ·rename_i b_a0 n_a0 a0;obtain⟨rfl,hg⟩:=Prod.mk.inj (Option.some.inj hr);obtain⟨rfl,hg2⟩:=Prod.mk.inj hg;exact impl_Bounds_hours_main b_a0 n_a0 a0 (hH.slw 0 rfl) hg2
 ·cases hr)
theorem impl_Bounds_from_ans(N:Nat)(a1:Int)(b_a0:Option (Option Addr))(n_a0:Nat)(a0:Array Value):ansV Try.prog (mkΓ [(79,con impl_Bounds_hours_con)]) N Try.f48 [] [.l 0,.i .i64 a1] [.sl (.came b_a0) n_a0 a0 42]=(bif (decide (0<=(i64.wrap ((n_a0:Int) - (1:Int))))&&decide ((i64.wrap ((n_a0:Int) - (1:Int)))<(n_a0:Int))) then (bif (decide (0<=a1)&&decide (a1<36)) then (some (.a (.i .i64 (num a0 (((i64.wrap ((n_a0:Int) - (1:Int))).toNat*36)+((a1).toNat*1)))),.none,true)) else (none)) else (none)):=by kernel_rfl
noncomputable def impl_Bounds_from_v0(a1:Int)(b_a0:Option (Option Addr))(n_a0:Nat)(a0:Array Value):Int:=(num a0 (((i64.wrap ((n_a0:Int) - (1:Int))).toNat*36)+((a1).toNat*1)))
noncomputable def impl_Bounds_from_gd(a1:Int)(b_a0:Option (Option Addr))(n_a0:Nat)(a0:Array Value):Bool:=(bif (decide (0<=(i64.wrap ((n_a0:Int) - (1:Int))))&&decide ((i64.wrap ((n_a0:Int) - (1:Int)))<(n_a0:Int))) then (decide (0<=a1)&&decide (a1<36)) else false)
theorem impl_Bounds_from_main(a1:Int)(b_a0:Option (Option Addr))(n_a0:Nat)(a0:Array Value)(h_a1:i64.min<=a1/\a1<=i64.max)(h_a0:a0.size=n_a0*(lay Try.prog 42).length/\(∀k,k<n_a0->WT Try.prog 42 (a0.extract (k*(lay Try.prog 42).length) (k*(lay Try.prog 42).length+(lay Try.prog 42).length)))/\n_a0<=9223372036854775807)(hg:((impl_Bounds_from_gd a1 b_a0 n_a0 a0))=true):ansV Try.prog (mkΓ [(79,con impl_Bounds_hours_con)]) 1000 Try.f48 [] [.l 0,.i .i64 a1] [.sl (.came b_a0) n_a0 a0 42]=some (.a (.i .i64 (impl_Bounds_from_v0 a1 b_a0 n_a0 a0)),.none,true):=by
 refine(impl_Bounds_from_ans 1000 a1 b_a0 n_a0 a0).trans ?_;unfold impl_Bounds_from_gd at hg;unfold impl_Bounds_from_v0;revert hg;generalize (decide (0<=(i64.wrap ((n_a0:Int) - (1:Int)))))=b2;intro hg;cases b2
 ·skip
  first|exact(nomatch (hg:false=true)) | (simp only[cond_true,cond_false,Bool.and_true,Bool.true_and,Bool.and_false,Bool.false_and];done)|rfl
 ·skip
  revert hg;generalize (decide ((i64.wrap ((n_a0:Int) - (1:Int)))<(n_a0:Int)))=b4;intro hg;cases b4
  ·skip
   first|exact(nomatch (hg:false=true)) | (simp only[cond_true,cond_false,Bool.and_true,Bool.true_and,Bool.and_false,Bool.false_and];done)|rfl
  ·skip
   revert hg;generalize (decide (0<=a1))=b6;intro hg;cases b6
   ·skip
    first|exact(nomatch (hg:false=true)) | (simp only[cond_true,cond_false,Bool.and_true,Bool.true_and,Bool.and_false,Bool.false_and];done)|rfl
   ·skip
    revert hg;generalize (decide (a1<36))=b8;intro hg;cases b8
    ·skip
     first|exact(nomatch (hg:false=true)) | (simp only[cond_true,cond_false,Bool.and_true,Bool.true_and,Bool.and_false,Bool.false_and];done)|rfl
    ·skip
     first | (simp only[cond_true,cond_false,Bool.and_true,Bool.true_and,Bool.and_false,Bool.false_and];done)|rfl|exact(nomatch (hg:false=true))
noncomputable def impl_Bounds_from_con:Con:=λargs h=>match args,h with|[.l 0,.i .i64 a1],[.sl (.came b_a0) n_a0 a0 42]=>some (.a (.i .i64 (impl_Bounds_from_v0 a1 b_a0 n_a0 a0)),.none,(impl_Bounds_from_gd a1 b_a0 n_a0 a0))|_,_=>none
theorem impl_Bounds_from_enter:EntX Try.prog 48:=entX_ok (fn:=Try.f48) (by kernel_rfl) (by kernel_rfl) (by kernel_rfl)
theorem impl_Bounds_from_ok:ConOkX mn Try.prog 48 impl_Bounds_from_con:=(ansX_ok (N:=1000) (by kernel_rfl) (mKc (con_okX impl_Bounds_hours_ok) impl_Bounds_hours_enter mKn) (fn:=Try.f48) (by kernel_rfl) (by kernel_rfl) []).of (by
 intro ρ h w args vals r e hA hH hr;unfold impl_Bounds_from_con at hr;split at hr
 ·rename_i a1 b_a0 n_a0 a0;obtain⟨rfl,hg⟩:=Prod.mk.inj (Option.some.inj hr);obtain⟨rfl,hg2⟩:=Prod.mk.inj hg;exact impl_Bounds_from_main a1 b_a0 n_a0 a0 (hA.rng 1 rfl) (hH.slw 0 rfl) hg2
 ·cases hr)
noncomputable def vlL(L:Array Value)(p:Int×Int):Int:=i64.wrap (p.2*laterOf L p.1)
theorem lkF_is(L:Array Value)(b p:Int×Int):lkF L b p=bif decide (vlL L p > b.2) then (p.1,vlL L p) else b:=rfl
theorem lk_gen(L:Array Value):∀(l:List (Int×Int)) (b:Int×Int),(l.foldl (lkF L) b=b/\∀p∈l,vlL L p<=b.2)\/(b.2<(l.foldl (lkF L) b).2/\∃p,l.find? (λp=>vlL L p==(l.foldl (lkF L) b).2)=some p/\l.foldl (lkF L) b=(p.1,vlL L p))
 |[],b=>.inl ⟨rfl,λp hp=>nomatch hp⟩
 | p::t,b=>by
  rw[List.foldl_cons,lkF_is]
  by_cases h:vlL L p > b.2
  ·rw[decide_eq_true h,cond_true];rcases lk_gen L t (p.1,vlL L p) with ⟨h1,h2⟩ | ⟨h1,q,h2,h3⟩
   ·refine .inr ⟨by rw[h1];exact h,p,?_,h1⟩;rw[h1,List.find?_cons_of_pos (by simp)]
   ·refine .inr ⟨by dsimp only at h1;omega,q,?_,h3⟩;rw[List.find?_cons_of_neg (by simp only[beq_iff_eq];dsimp only at h1;omega)];exact h2
  ·rw[decide_eq_false h,cond_false];rcases lk_gen L t b with ⟨h1,h2⟩ | ⟨h1,q,h2,h3⟩
   ·refine .inl ⟨h1,λq hq=> ?_⟩;rcases List.mem_cons.1 hq with rfl|hq
    ·omega
    ·exact h2 q hq
   ·refine .inr ⟨h1,q,?_,h3⟩;rw[List.find?_cons_of_neg (by simp only[beq_iff_eq];omega)];exact h2
noncomputable def tdP(b:Int)(k:Nat):Int:=(i64.wrap (b+(k:Int))).tmod 2
noncomputable def psI(S A:Array Value)(b c:Int)(h:Nat):Nat->Int
 |0=>c
 |k+1=>(lkL (stL S (tdP b k) (psI S A b c h k).toNat) (A.extract ((h - k - 1)*36) ((h - k - 1)*36+36))).1
noncomputable def psA(S A:Array Value)(b c:Int)(h n:Nat):Array Value:=⟨(List.range n).map λk=>.int .i64 (psI S A b c h k)⟩
noncomputable def roA(S A:Array Value)(b c:Int)(h k:Nat):Array Value:=⟨(List.range 15).map λi=>.int .i64 (bif Nat.ble i k then psI S A b c h i else 0)⟩
noncomputable def isA(S A:Array Value)(b c:Int)(h n:Nat):Bool:=(List.range n).all λk=>spec_l01Is_v0 (psI S A b c h k) S
theorem roA_at{S A:Array Value}{b c:Int}{h k i:Nat}(hi:i<15):(roA S A b c h k)[i]?=some (.int .i64 (bif Nat.ble i k then psI S A b c h i else 0)):=by unfold roA;simp[hi]
theorem roA_no{S A:Array Value}{b c:Int}{h k i:Nat}(hi:¬i<15):(roA S A b c h k)[i]?=none:=by unfold roA;simp;omega
theorem roA_size(S A:Array Value)(b c:Int)(h k:Nat):(roA S A b c h k).size=15:=by unfold roA;simp
theorem psA_at{S A:Array Value}{b c:Int}{h n i:Nat}(hi:i<n):(psA S A b c h n)[i]?=some (.int .i64 (psI S A b c h i)):=by unfold psA;simp[hi]
theorem psA_no{S A:Array Value}{b c:Int}{h n i:Nat}(hi:¬i<n):(psA S A b c h n)[i]?=none:=by unfold psA;simp;omega
theorem psA_size(S A:Array Value)(b c:Int)(h n:Nat):(psA S A b c h n).size=n:=by unfold psA;simp
theorem tdP_in{b:Int}(hb:0<=b/\b<2){k:Nat}(hk:k<=14):(decide (0<=tdP b k)&&decide (tdP b k<2))=true:=by unfold tdP;rw[IntWalk.i64_in _ (by omega),Int.tmod_eq_emod_of_nonneg (by omega),decide_eq_true (by omega),decide_eq_true (by omega)];rfl
noncomputable def impl_Bounds_pathFrom_G:Cons:=(mkΓ [(69,con impl_tideIn_con),(79,con impl_Bounds_hours_con),(80,con impl_stepsFrom_con),(81,con impl_steps_likeliest_con)])
noncomputable def impl_Bounds_pathFrom_t0(a1:Array Value)(a2 a3:Int)(b_a0:Option (Option Addr))(n_a0:Nat)(a0:Array Value):St:=(⟨.a (.l 0)::.a (.g a1 37)::.a (.i .i64 a2)::.a (.i .i64 a3)::.a (.u)::.a (.w 1)::.a (.u)::.a (.u)::.a (.v (.slice none 0 0))::.a (.w 3)::.a (.i .i64 (i64.wrap ((n_a0:Int) - (1:Int))))::.a (.u)::.a (.u)::.a (.i .i64 a2)::.a (.p 3 (0) 2)::.a (.l 0)::.a (.i .i64 (i64.wrap ((n_a0:Int) - (1:Int))))::.a (.i .i64 (i64.wrap ((n_a0:Int) - (1:Int))))::.a (.i .i64 0)::us 29 ([]),[.sl (.came b_a0) n_a0 a0 42,.row a1 37,.no,.row ((zc Try.prog 113).setIfInBounds 0 (.int .i64 a2)) 113],[3]⟩:St)
noncomputable def impl_Bounds_pathFrom_e0:Int×Array Value->LS
 |(y0_18,r0_3)=>([.a (.i .i64 y0_18)],[.row r0_3 113])
noncomputable def impl_Bounds_pathFrom_x0:Int×Array Value->Exit×LS
 |t=>((.exit 0),impl_Bounds_pathFrom_e0 t)
noncomputable def impl_Bounds_pathFrom_g0(P:Program)(a1:Array Value)(a2 a3:Int)(b_a0:Option (Option Addr))(n_a0:Nat)(a0:Array Value):Int×Array Value->Option (Stp (Int×Array Value) (Int×Array Value))
 |(y0_18,r0_3)=>bif decide (y0_18<(i64.wrap ((n_a0:Int) - (1:Int)))) then (bif (decide (0<=y0_18)&&decide (y0_18<15)) then (bif (okS a1&&(spec_l01Is_v0 (num r0_3 ((y0_18).toNat*1)) a1&&(decide (0<=(((i64.wrap (a3+y0_18))).tmod (2:Int)))&&decide ((((i64.wrap (a3+y0_18))).tmod (2:Int))<2)))) then (bif (decide (0<=(i64.wrap ((i64.wrap ((i64.wrap ((n_a0:Int) - (1:Int))) - y0_18)) - (1:Int))))&&decide ((i64.wrap ((i64.wrap ((i64.wrap ((n_a0:Int) - (1:Int))) - y0_18)) - (1:Int)))<(n_a0:Int))) then (bif (okSt ((stL a1 (((i64.wrap (a3+y0_18))).tmod (2:Int)) (num r0_3 ((y0_18).toNat*1)).toNat).length) (encSt (stL a1 (((i64.wrap (a3+y0_18))).tmod (2:Int)) (num r0_3 ((y0_18).toNat*1)).toNat))) then (bif (decide (0<=(i64.wrap (y0_18+(1:Int))))&&decide ((i64.wrap (y0_18+(1:Int)))<15)) then (some (.more ((i64.wrap (y0_18+(1:Int))),(r0_3.setIfInBounds ((i64.wrap (y0_18+(1:Int))).toNat*1) (.int .i64 (num (#[.int .i64 (lkL (rdSt ((stL a1 (((i64.wrap (a3+y0_18))).tmod (2:Int)) (num r0_3 ((y0_18).toNat*1)).toNat).length) (encSt (stL a1 (((i64.wrap (a3+y0_18))).tmod (2:Int)) (num r0_3 ((y0_18).toNat*1)).toNat))) (a0.extract ((i64.wrap ((i64.wrap ((i64.wrap ((n_a0:Int) - (1:Int))) - y0_18)) - (1:Int))).toNat*36) (((i64.wrap ((i64.wrap ((i64.wrap ((n_a0:Int) - (1:Int))) - y0_18)) - (1:Int))).toNat*36)+36))).1,.int .i64 (lkL (rdSt ((stL a1 (((i64.wrap (a3+y0_18))).tmod (2:Int)) (num r0_3 ((y0_18).toNat*1)).toNat).length) (encSt (stL a1 (((i64.wrap (a3+y0_18))).tmod (2:Int)) (num r0_3 ((y0_18).toNat*1)).toNat))) (a0.extract ((i64.wrap ((i64.wrap ((i64.wrap ((n_a0:Int) - (1:Int))) - y0_18)) - (1:Int))).toNat*36) (((i64.wrap ((i64.wrap ((i64.wrap ((n_a0:Int) - (1:Int))) - y0_18)) - (1:Int))).toNat*36)+36))).2]:Array Value) 0)))))) else (none)) else (none)) else (none)) else (none)) else (none)) else (some (.done (y0_18,r0_3)))
theorem impl_Bounds_pathFrom_s0(N:Nat)(a1:Array Value)(a2 a3:Int)(b_a0:Option (Option Addr))(n_a0:Nat)(a0:Array Value):∀t:Int×Array Value,stepV Try.prog impl_Bounds_pathFrom_G N (cAt (codeOf Try.f49) [1,1,1,1,0,1,0,0]) (pAt (mkPlan (codeOf Try.f49) [([18],[3])]).1 [1,1,1,1,0,1,0]) [18] [3] (impl_Bounds_pathFrom_t0 a1 a2 a3 b_a0 n_a0 a0) (impl_Bounds_pathFrom_e0 t)=mapS impl_Bounds_pathFrom_e0 impl_Bounds_pathFrom_x0 (impl_Bounds_pathFrom_g0 Try.prog a1 a2 a3 b_a0 n_a0 a0 t):=by
 rintro⟨y0_18,r0_3⟩
 conv=>rhs;simp only[impl_Bounds_pathFrom_g0,mapS_cond,mapS_more,mapS_done,mapS_none,impl_Bounds_pathFrom_e0,impl_Bounds_pathFrom_x0]
 kernel_rfl
noncomputable def impl_Bounds_pathFrom_k0_0(P:Program)(N:Nat)(a1:Array Value)(a2 a3:Int)(b_a0:Option (Option Addr))(n_a0:Nat)(a0:Array Value)(z0_18:Int)(q0_3:Array Value):Option (SV×Eff×Bool):=bif (decide (0<=(i64.wrap ((i64.wrap ((n_a0:Int) - (1:Int)))+(1:Int))))&&(decide ((i64.wrap ((i64.wrap ((n_a0:Int) - (1:Int)))+(1:Int)))<=(i64.wrap ((i64.wrap ((n_a0:Int) - (1:Int)))+(1:Int))))&&decide ((i64.wrap ((i64.wrap ((n_a0:Int) - (1:Int)))+(1:Int)))<=((15:Nat):Int)))) then (bif (Nat.beq (((i64.wrap ((i64.wrap ((n_a0:Int) - (1:Int)))+(1:Int)))).toNat) (((i64.wrap ((i64.wrap ((n_a0:Int) - (1:Int)))+(1:Int)))).toNat) && !(Nat.beq (((i64.wrap ((i64.wrap ((n_a0:Int) - (1:Int)))+(1:Int)))).toNat) 0)) then (some (.a .x,.newS none (((i64.wrap ((i64.wrap ((n_a0:Int) - (1:Int)))+(1:Int)))).toNat) (Array.extract q0_3 0 ((((i64.wrap ((i64.wrap ((n_a0:Int) - (1:Int)))+(1:Int)))).toNat)*1)) 2,true)) else (none)) else (none)
theorem impl_Bounds_pathFrom_k0_0_eq(N:Nat)(a1:Array Value)(a2 a3:Int)(b_a0:Option (Option Addr))(n_a0:Nat)(a0:Array Value)(z0_18:Int)(q0_3:Array Value):(kBlock 0 (kSeq (veC Try.prog impl_Bounds_pathFrom_G N (cAt (codeOf Try.f49) [1,1,1,1,1]) (pAt (mkPlan (codeOf Try.f49) [([18],[3])]).1 [1,1,1,1,1]) (SV×Eff×Bool)) (finK Try.prog [.sl (.came b_a0) n_a0 a0 42] [.tmp 8]))) (.exit 0) (left (writes (cAt (codeOf Try.f49) [1,1,1,1,0,1,0,0])) [18] [3] (impl_Bounds_pathFrom_t0 a1 a2 a3 b_a0 n_a0 a0) ([.a (.i .i64 z0_18)],[.row q0_3 113]))=impl_Bounds_pathFrom_k0_0 Try.prog N a1 a2 a3 b_a0 n_a0 a0 z0_18 q0_3:=by kernel_rfl
theorem impl_Bounds_pathFrom_n0(N:Nat)(a1:Array Value)(a2 a3:Int)(b_a0:Option (Option Addr))(n_a0:Nat)(a0:Array Value):bindX (iterO (stepV Try.prog impl_Bounds_pathFrom_G N (cAt (codeOf Try.f49) [1,1,1,1,0,1,0,0]) (pAt (mkPlan (codeOf Try.f49) [([18],[3])]).1 [1,1,1,1,0,1,0]) [18] [3] (impl_Bounds_pathFrom_t0 a1 a2 a3 b_a0 n_a0 a0)) N ([.a (.i .i64 0)],[.row ((zc Try.prog 113).setIfInBounds 0 (.int .i64 a2)) 113])) (λe s=>(kBlock 0 (kSeq (veC Try.prog impl_Bounds_pathFrom_G N (cAt (codeOf Try.f49) [1,1,1,1,1]) (pAt (mkPlan (codeOf Try.f49) [([18],[3])]).1 [1,1,1,1,1]) (SV×Eff×Bool)) (finK Try.prog [.sl (.came b_a0) n_a0 a0 42] [.tmp 8]))) e (left (writes (cAt (codeOf Try.f49) [1,1,1,1,0,1,0,0])) [18] [3] (impl_Bounds_pathFrom_t0 a1 a2 a3 b_a0 n_a0 a0) s))=nodeX (iterO (impl_Bounds_pathFrom_g0 Try.prog a1 a2 a3 b_a0 n_a0 a0) N ((0:Int),((zc Try.prog 113).setIfInBounds 0 (.int .i64 a2)))) (λx=>impl_Bounds_pathFrom_k0_0 Try.prog N a1 a2 a3 b_a0 n_a0 a0 x.1 x.2):=by refine loop_node impl_Bounds_pathFrom_e0 impl_Bounds_pathFrom_x0 _ _ (impl_Bounds_pathFrom_s0 N a1 a2 a3 b_a0 n_a0 a0) N ((0:Int),((zc Try.prog 113).setIfInBounds 0 (.int .i64 a2))) _ _ ?_;intro x;exact impl_Bounds_pathFrom_k0_0_eq N a1 a2 a3 b_a0 n_a0 a0 x.1 x.2
theorem impl_Bounds_pathFrom_ans(N:Nat)(a1:Array Value)(a2 a3:Int)(b_a0:Option (Option Addr))(n_a0:Nat)(a0:Array Value):ansV Try.prog impl_Bounds_pathFrom_G N Try.f49 [([18],[3])] [.l 0,.g a1 37,.i .i64 a2,.i .i64 a3] [.sl (.came b_a0) n_a0 a0 42]=(nodeX (iterO (impl_Bounds_pathFrom_g0 Try.prog a1 a2 a3 b_a0 n_a0 a0) N ((0:Int),((zc Try.prog 113).setIfInBounds 0 (.int .i64 a2)))) (λx=>impl_Bounds_pathFrom_k0_0 Try.prog N a1 a2 a3 b_a0 n_a0 a0 x.1 x.2)):=by
 conv=>rhs;simp only[<- impl_Bounds_pathFrom_n0 N a1 a2 a3 b_a0 n_a0 a0]
 kernel_rfl
theorem impl_Bounds_pathFrom_main(a1:Array Value)(a2 a3:Int)(b_a0:Option (Option Addr))(n_a0:Nat)(a0:Array Value)(h_a1:WT Try.prog 37 a1)(h_a2:i64.min<=a2/\a2<=i64.max)(h_a3:i64.min<=a3/\a3<=i64.max)(h_a0:a0.size=n_a0*(lay Try.prog 42).length/\(∀k,k<n_a0->WT Try.prog 42 (a0.extract (k*(lay Try.prog 42).length) (k*(lay Try.prog 42).length+(lay Try.prog 42).length)))/\n_a0<=9223372036854775807)(hg:(((okS a1&&(decide (0<=a3)&&decide (a3<2)))&&((Nat.blt 0 n_a0&&Nat.ble n_a0 15)&&isA a1 a0 a3 a2 (n_a0 - 1) (n_a0 - 1))))=true):ansV Try.prog impl_Bounds_pathFrom_G 1000 Try.f49 [([18],[3])] [.l 0,.g a1 37,.i .i64 a2,.i .i64 a3] [.sl (.came b_a0) n_a0 a0 42]=some (.a .x,.newS none n_a0 (psA a1 a0 a3 a2 (n_a0 - 1) n_a0) 2,true):=by
 simp only[Bool.and_eq_true,decide_eq_true_eq]at hg;obtain⟨⟨hok,hb⟩,⟨hn0,hn1⟩,hall⟩:=hg;have hn1:=Nat.le_of_ble_eq_true hn1;have hn0:1<=n_a0:=by simpa [Nat.blt] using hn0
 obtain⟨h,rfl⟩:∃h,n_a0=h+1:=⟨n_a0 - 1,by omega⟩;rw[Nat.add_sub_cancel]at hall|-
 have h0:=okS_dims hok;have en:i64.wrap (((h+1:Nat):Int) - 1)=(h:Int):=by rw[w64 (by omega)];omega
 have hz:∀i,i<15->(zc Try.prog 113)[i]?=some (.int .i64 0):=λi hi=>by
  have e:zc Try.prog 113=⟨List.replicate 15 (.int .i64 0)⟩:=by kernel_rfl
  rw[e];simp only[List.getElem?_toArray,List.getElem?_replicate,if_pos hi]
 have hzs:(zc Try.prog 113).size=15:=by kernel_rfl
 have hF0:(zc Try.prog 113).setIfInBounds 0 (.int .i64 a2)=roA a1 a0 a3 a2 h 0:=arr_ext λi=>by
  rw[Array.getElem?_setIfInBounds,hzs]
  by_cases hi:i<15
  ·rw[roA_at hi]
   by_cases h1:0=i
   ·rw[if_pos h1,if_pos (by omega)];subst h1;rfl
   ·rw[if_neg h1,hz i hi];cases hb':Nat.ble i 0 with|false=>rfl|true=>have:=Nat.le_of_ble_eq_true hb';omega
  ·rw[if_neg (by omega),roA_no hi,Array.getElem?_eq_none (by omega)]
 refine(impl_Bounds_pathFrom_ans 1000 a1 a2 a3 b_a0 (h+1) a0).trans ?_
 have hit:=iter_all (g:=impl_Bounds_pathFrom_g0 Try.prog a1 a2 a3 b_a0 (h+1) a0) (fun k=>((k:Int),roA a1 a0 a3 a2 h k)) (m:=h) (x:=((h:Int),roA a1 a0 a3 a2 h h)) (N:=1000) (fun k hk=>by
  have e1:decide ((k:Int)<(h:Int))=true:=decide_eq_true (by omega);have e2:(decide (0<=(k:Int))&&decide ((k:Int)<15))=true:=by rw[decide_eq_true (by omega),decide_eq_true (by omega)];rfl
  have e3:num (roA a1 a0 a3 a2 h k) (k*1)=psI a1 a0 a3 a2 h k:=by unfold num;rw[Nat.mul_one,roA_at (by omega),Nat.ble_self_eq_true];rfl
  have e4:spec_l01Is_v0 (psI a1 a0 a3 a2 h k) a1=true:=List.all_eq_true.1 hall k (List.mem_range.2 hk);have e5:(decide (0<=(i64.wrap (a3+(k:Int))).tmod 2)&&decide ((i64.wrap (a3+(k:Int))).tmod 2<2))=true:=tdP_in hb (by omega);have e6:i64.wrap (i64.wrap ((h:Int) - (k:Int)) - 1)=((h - k - 1:Nat):Int):=by rw[w64 (n:=(h:Int) - (k:Int)) (by omega),w64 (by omega)];omega
  have e7:(decide (0<=((h - k - 1:Nat):Int))&&decide (((h - k - 1:Nat):Int)<((h+1:Nat):Int)))=true:=by rw[decide_eq_true (by omega),decide_eq_true (by omega)];rfl
  have r4:=is_range e4;obtain⟨q,hq⟩:=Int.eq_ofNat_of_zero_le r4.1;have hi:inC (num a1 0) (num a1 1) q=true:=by rw[<- is_inC h_a1 (by omega),<- hq];exact e4
  have e8:okSt (stL a1 ((i64.wrap (a3+(k:Int))).tmod 2) (psI a1 a0 a3 a2 h k).toNat).length (encSt (stL a1 ((i64.wrap (a3+(k:Int))).tmod 2) (psI a1 a0 a3 a2 h k).toNat))=true:=by rw[hq,Int.toNat_natCast];exact ok_enc (stL_range h0 (by omega) hi _)
  have e9:i64.wrap ((k:Int)+1)=((k+1:Nat):Int):=by rw[w64 (by omega)];omega
  have e10:(decide (0<=((k+1:Nat):Int))&&decide (((k+1:Nat):Int)<15))=true:=by rw[decide_eq_true (by omega),decide_eq_true (by omega)];rfl
  have e11:(roA a1 a0 a3 a2 h k).setIfInBounds ((k+1)*1) (.int .i64 (psI a1 a0 a3 a2 h (k+1)))=roA a1 a0 a3 a2 h (k+1):=arr_ext λi=>by
   rw[Array.getElem?_setIfInBounds,roA_size,Nat.mul_one]
   by_cases hi':i<15
   ·by_cases hik:k+1=i
    ·rw[if_pos hik,if_pos (by omega),<- hik,roA_at (by omega),Nat.ble_self_eq_true];rfl
    ·rw[if_neg hik,roA_at hi',roA_at hi'];have:Nat.ble i k=Nat.ble i (k+1):=by
      rw[Bool.eq_iff_iff,Nat.ble_eq,Nat.ble_eq];omega
     rw[this]
   ·rw[if_neg (by omega),roA_no hi',roA_no hi']
  have e12:num (#[.int .i64 (lkL (stL a1 ((i64.wrap (a3+(k:Int))).tmod 2) (psI a1 a0 a3 a2 h k).toNat) (a0.extract ((h - k - 1)*36) ((h - k - 1)*36+36))).1,.int .i64 (lkL (stL a1 ((i64.wrap (a3+(k:Int))).tmod 2) (psI a1 a0 a3 a2 h k).toNat) (a0.extract ((h - k - 1)*36) ((h - k - 1)*36+36))).2]:Array Value) 0=psI a1 a0 a3 a2 h (k+1):=rfl;simp only[impl_Bounds_pathFrom_g0,en,e1,e2,Int.toNat_natCast,e3,hok,e4,e5,e6,e7,e8,e9,e10,rd_enc,e12,e11,Bool.and_self,cond_true]) (by
  have e1:decide ((h:Int)<(h:Int))=false:=decide_eq_false (by omega);simp only[impl_Bounds_pathFrom_g0,en,e1,cond_false]) (by omega)
 rw[hF0];have hit':iterO (impl_Bounds_pathFrom_g0 Try.prog a1 a2 a3 b_a0 (h+1) a0) 1000 ((0:Int),roA a1 a0 a3 a2 h 0)=_:=hit;rw[hit'];have e13:i64.wrap ((h:Int)+1)=((h+1:Nat):Int):=by rw[w64 (by omega)];omega
 have e14:(decide (0<=((h+1:Nat):Int))&&(decide (((h+1:Nat):Int)<=((h+1:Nat):Int))&&decide (((h+1:Nat):Int)<=((15:Nat):Int))))=true:=by rw[decide_eq_true (by omega),decide_eq_true (by omega),decide_eq_true (by omega)];rfl
 have e15:(Nat.beq (h+1) (h+1) && !(Nat.beq (h+1) 0))=true:=by rw[Nat.beq_refl];rfl
 have e16:Array.extract (roA a1 a0 a3 a2 h h) 0 ((h+1)*1)=psA a1 a0 a3 a2 h (h+1):=arr_ext λi=>by
  rw[Array.getElem?_extract,roA_size,Nat.zero_add]
  by_cases hi:i<h+1
  ·rw[if_pos (by omega),roA_at (by omega),psA_at hi,Nat.ble_eq_true_of_le (by omega)];rfl
  ·rw[if_neg (by omega),psA_no hi]
 simp only[nodeX,impl_Bounds_pathFrom_k0_0,en,e13,Int.toNat_natCast,e14,e15,e16,cond_true]
noncomputable def impl_Bounds_pathFrom_con:Con:=λargs h=>match args,h with|[.l 0,.g a1 37,.i .i64 a2,.i .i64 a3],[.sl (.came b_a0) n_a0 a0 42]=>some (.a .x,.newS none n_a0 (psA a1 a0 a3 a2 (n_a0 - 1) n_a0) 2,((okS a1&&(decide (0<=a3)&&decide (a3<2)))&&((Nat.blt 0 n_a0&&Nat.ble n_a0 15)&&isA a1 a0 a3 a2 (n_a0 - 1) (n_a0 - 1))))|_,_=>none
theorem impl_Bounds_pathFrom_enter:EntX Try.prog 49:=entX_ok (fn:=Try.f49) (by kernel_rfl) (by kernel_rfl) (by kernel_rfl)
theorem impl_Bounds_pathFrom_ok:ConOkX mn Try.prog 49 impl_Bounds_pathFrom_con:=(ansX_ok (N:=1000) (by kernel_rfl) (mKc (con_okX impl_tideIn_ok) impl_tideIn_enter (mKc (con_okX impl_Bounds_hours_ok) impl_Bounds_hours_enter (mKc (con_okX impl_stepsFrom_ok) impl_stepsFrom_enter (mKc (con_okX impl_steps_likeliest_ok) impl_steps_likeliest_enter mKn)))) (fn:=Try.f49) (by kernel_rfl) (by kernel_rfl) [([18],[3])]).of (by
 intro ρ h w args vals r e hA hH hr;unfold impl_Bounds_pathFrom_con at hr;split at hr
 ·rename_i a1 a2 a3 b_a0 n_a0 a0;obtain⟨rfl,hg⟩:=Prod.mk.inj (Option.some.inj hr);obtain⟨rfl,hg2⟩:=Prod.mk.inj hg;exact impl_Bounds_pathFrom_main a1 a2 a3 b_a0 n_a0 a0 (hA.wt 1 rfl) (hA.rng 2 rfl) (hA.rng 3 rfl) (hH.slw 0 rfl) hg2
 ·cases hr)
end
end Go.Proofs.Ytnhilgpdgicgfaa
