/- The steps, as they are asked for. -/
import Derived.Test.YtnhilgpdgicgfaaProg
import Derived.Test.YtnhilgpdgicgfaaLpD
namespace Go.Proofs.Ytnhilgpdgicgfaa
open Go.ChangeShapes Go.WideShapes Go.ChangeAt Go.RowKit Ve Vc
open IntKind (i64)
set_option linter.unusedVariables false
set_option linter.unusedSimpArgs false
set_option maxRecDepth 100000
noncomputable section
variable {mn:Md}
theorem spec_l04Hours_ans(N:Nat)(a0:Int):ansV Try.prog (mkΓ [(39,con spec_l00In_con)]) N Try.f73 [] [.i .i64 a0] []=(some (.a (.b ((spec_l00In_v0 a0 (0:Int) (14:Int)))),.none,true)):=by kernel_rfl
theorem spec_l04Hours_main(a0:Int)(h_a0:i64.min<=a0/\a0<=i64.max)(hg:(true)=true):ansV Try.prog (mkΓ [(39,con spec_l00In_con)]) 1000 Try.f73 [] [.i .i64 a0] []=some (.a (.b ((spec_l00In_v0 a0 (0:Int) (14:Int)))),.none,true):=by refine(spec_l04Hours_ans 1000 a0).trans ?_;rfl
noncomputable def spec_l04Hours_con:Con:=λargs h=>match args,h with|[.i .i64 a0],[]=>some (.a (.b ((spec_l00In_v0 a0 (0:Int) (14:Int)))),.none,true)|_,_=>none
theorem spec_l04Hours_enter:EntX Try.prog 73:=entX_ok (fn:=Try.f73) (by kernel_rfl) (by kernel_rfl) (by kernel_rfl)
theorem spec_l04Hours_ok:ConOkX mn Try.prog 73 spec_l04Hours_con:=(ansX_ok (N:=1000) (by kernel_rfl) (mKc (con_okX spec_l00In_ok) spec_l00In_enter mKn) (fn:=Try.f73) (by kernel_rfl) (by kernel_rfl) []).of (by
 intro ρ h w args vals r e hA hH hr;unfold spec_l04Hours_con at hr;split at hr
 ·rename_i a0;obtain⟨rfl,hg⟩:=Prod.mk.inj (Option.some.inj hr);obtain⟨rfl,hg2⟩:=Prod.mk.inj hg;exact spec_l04Hours_main a0 (hA.rng 0 rfl) hg2
 ·cases hr)
theorem spec_l04Tide_ans(N:Nat)(a0 a1:Int):ansV Try.prog (mkΓ []) N Try.f43 [] [.i .i64 a0,.i .i64 a1] []=(some (.a (.i .i64 (((i64.wrap (a0+a1))).tmod (2:Int))),.none,true)):=by kernel_rfl
theorem spec_l04Tide_main(a0 a1:Int)(h_a0:i64.min<=a0/\a0<=i64.max)(h_a1:i64.min<=a1/\a1<=i64.max)(hg:(true)=true):ansV Try.prog (mkΓ []) 1000 Try.f43 [] [.i .i64 a0,.i .i64 a1] []=some (.a (.i .i64 (((i64.wrap (a0+a1))).tmod (2:Int))),.none,true):=by refine(spec_l04Tide_ans 1000 a0 a1).trans ?_;rfl
noncomputable def spec_l04Tide_con:Con:=λargs h=>match args,h with|[.i .i64 a0,.i .i64 a1],[]=>some (.a (.i .i64 (((i64.wrap (a0+a1))).tmod (2:Int))),.none,true)|_,_=>none
theorem spec_l04Tide_enter:EntX Try.prog 43:=entX_ok (fn:=Try.f43) (by kernel_rfl) (by kernel_rfl) (by kernel_rfl)
theorem spec_l04Tide_ok:ConOkX mn Try.prog 43 spec_l04Tide_con:=(ansX_ok (N:=1000) (by kernel_rfl) mKn (fn:=Try.f43) (by kernel_rfl) (by kernel_rfl) []).of (by
 intro ρ h w args vals r e hA hH hr;unfold spec_l04Tide_con at hr;split at hr
 ·rename_i a0 a1;obtain⟨rfl,hg⟩:=Prod.mk.inj (Option.some.inj hr);obtain⟨rfl,hg2⟩:=Prod.mk.inj hg;exact spec_l04Tide_main a0 a1 (hA.rng 0 rfl) (hA.rng 1 rfl) hg2
 ·cases hr)
theorem spec_l00Max_ans(N:Nat)(a0 a1:Int):ansV Try.prog (mkΓ []) N Try.f74 [] [.i .i64 a0,.i .i64 a1] []=(bif decide (a0 > a1) then (some (.a (.i .i64 a0),.none,true)) else (some (.a (.i .i64 a1),.none,true))):=by kernel_rfl
noncomputable def spec_l00Max_v0(a0 a1:Int):Int:=(bif decide (a0 > a1) then a0 else a1)
theorem spec_l00Max_main(a0 a1:Int)(h_a0:i64.min<=a0/\a0<=i64.max)(h_a1:i64.min<=a1/\a1<=i64.max)(hg:(true)=true):ansV Try.prog (mkΓ []) 1000 Try.f74 [] [.i .i64 a0,.i .i64 a1] []=some (.a (.i .i64 (spec_l00Max_v0 a0 a1)),.none,true):=by
 refine(spec_l00Max_ans 1000 a0 a1).trans ?_;unfold spec_l00Max_v0;revert hg;generalize (decide (a0 > a1))=b2;intro hg;cases b2
 ·skip
  first | (simp only[cond_true,cond_false,Bool.and_true,Bool.true_and,Bool.and_false,Bool.false_and];done)|rfl|exact(nomatch (hg:false=true))
 ·skip
  first | (simp only[cond_true,cond_false,Bool.and_true,Bool.true_and,Bool.and_false,Bool.false_and];done)|rfl|exact(nomatch (hg:false=true))
noncomputable def spec_l00Max_con:Con:=λargs h=>match args,h with|[.i .i64 a0,.i .i64 a1],[]=>some (.a (.i .i64 (spec_l00Max_v0 a0 a1)),.none,true)|_,_=>none
theorem spec_l00Max_enter:EntX Try.prog 74:=entX_ok (fn:=Try.f74) (by kernel_rfl) (by kernel_rfl) (by kernel_rfl)
theorem spec_l00Max_ok:ConOkX mn Try.prog 74 spec_l00Max_con:=(ansX_ok (N:=1000) (by kernel_rfl) mKn (fn:=Try.f74) (by kernel_rfl) (by kernel_rfl) []).of (by
 intro ρ h w args vals r e hA hH hr;unfold spec_l00Max_con at hr;split at hr
 ·rename_i a0 a1;obtain⟨rfl,hg⟩:=Prod.mk.inj (Option.some.inj hr);obtain⟨rfl,hg2⟩:=Prod.mk.inj hg;exact spec_l00Max_main a0 a1 (hA.rng 0 rfl) (hA.rng 1 rfl) hg2
 ·cases hr)
noncomputable def spec_l04Step_G:Cons:=(mkΓ [(63,con spec_l01Dry_con),(64,con spec_l01Goes_con)])
noncomputable def spec_l04Step_t0(a1 a2 a3:Int)(a0:Array Value):St:=(⟨.a (.w 0)::.a (.i .i64 a1)::.a (.i .i64 a2)::.a (.i .i64 a3)::us 4 (.a (.i .i64 0)::.a (.i .i64 0)::.a (.w 0)::.a (.i .i64 a1)::.a (.b ((spec_l01Dry_v0 a1 a0)))::us 24 ([])),[.row a0 37],[]⟩:St)
noncomputable def spec_l04Step_e0:Int×Int->LS
 |(y0_8,y0_9)=>([.a (.i .i64 y0_8),.a (.i .i64 y0_9)],[])
noncomputable def spec_l04Step_x0:(Stp (Int×Int) (Int×Int))->Exit×LS
 |.more t=>(.ret,spec_l04Step_e0 t)
 |.done t=>((.exit 0),spec_l04Step_e0 t)
noncomputable def spec_l04Step_g0(P:Program)(a1 a2 a3:Int)(a0:Array Value):Int×Int->Option (Stp (Int×Int) (Stp (Int×Int) (Int×Int)))
 |(y0_8,y0_9)=>bif decide (y0_9<=(4:Int)) then (bif ((spec_l01Goes_v0 a1 y0_9 a0)==a2) then (bif (decide (0<=a3)&&decide (a3<2)) then (bif (decide (0<=a1)&&decide (a1<36)) then (bif (decide (0<=y0_9)&&decide (y0_9<5)) then (some (.done (.more ((i64.wrap (num a0 (((3+((a3).toNat*180))+((a1).toNat*5))+((y0_9).toNat*1)))),y0_9)))) else (none)) else (none)) else (none)) else (some (.more (y0_8,(i64.wrap (y0_9+(1:Int))))))) else (some (.done (.done (y0_8,y0_9))))
theorem spec_l04Step_s0(N:Nat)(a1 a2 a3:Int)(a0:Array Value):∀t:Int×Int,stepV Try.prog spec_l04Step_G N (cAt (codeOf Try.f45) [1,1,0,1,0,0]) (pAt (mkPlan (codeOf Try.f45) [([8,9],[])]).1 [1,1,0,1,0]) [8,9] [] (spec_l04Step_t0 a1 a2 a3 a0) (spec_l04Step_e0 t)=mapS spec_l04Step_e0 spec_l04Step_x0 (spec_l04Step_g0 Try.prog a1 a2 a3 a0 t):=by
 rintro⟨y0_8,y0_9⟩
 conv=>rhs;simp only[spec_l04Step_g0,mapS_cond,mapS_more,mapS_done,mapS_none,spec_l04Step_e0,spec_l04Step_x0]
 kernel_rfl
noncomputable def spec_l04Step_k0_0(P:Program)(N:Nat)(a1 a2 a3:Int)(a0:Array Value)(z0_8:Int)(z0_9:Int):Option (SV×Eff×Bool):=some (.a (.i .i64 z0_8),.none,true)
theorem spec_l04Step_k0_0_eq(N:Nat)(a1 a2 a3:Int)(a0:Array Value)(z0_8:Int)(z0_9:Int):(kBlock 0 (kSeq (veC Try.prog spec_l04Step_G N (cAt (codeOf Try.f45) [1,1,1]) (pAt (mkPlan (codeOf Try.f45) [([8,9],[])]).1 [1,1,1]) (SV×Eff×Bool)) (finK Try.prog [.row a0 37] [.tmp 8]))) .ret (left (writes (cAt (codeOf Try.f45) [1,1,0,1,0,0])) [8,9] [] (spec_l04Step_t0 a1 a2 a3 a0) ([.a (.i .i64 z0_8),.a (.i .i64 z0_9)],[]))=spec_l04Step_k0_0 Try.prog N a1 a2 a3 a0 z0_8 z0_9:=by kernel_rfl
noncomputable def spec_l04Step_k0_1(P:Program)(N:Nat)(a1 a2 a3:Int)(a0:Array Value)(z0_8:Int)(z0_9:Int):Option (SV×Eff×Bool):=some (.a (.i .i64 0),.none,true)
theorem spec_l04Step_k0_1_eq(N:Nat)(a1 a2 a3:Int)(a0:Array Value)(z0_8:Int)(z0_9:Int):(kBlock 0 (kSeq (veC Try.prog spec_l04Step_G N (cAt (codeOf Try.f45) [1,1,1]) (pAt (mkPlan (codeOf Try.f45) [([8,9],[])]).1 [1,1,1]) (SV×Eff×Bool)) (finK Try.prog [.row a0 37] [.tmp 8]))) (.exit 0) (left (writes (cAt (codeOf Try.f45) [1,1,0,1,0,0])) [8,9] [] (spec_l04Step_t0 a1 a2 a3 a0) ([.a (.i .i64 z0_8),.a (.i .i64 z0_9)],[]))=spec_l04Step_k0_1 Try.prog N a1 a2 a3 a0 z0_8 z0_9:=by kernel_rfl
theorem spec_l04Step_n0(N:Nat)(a1 a2 a3:Int)(a0:Array Value):bindX (iterO (stepV Try.prog spec_l04Step_G N (cAt (codeOf Try.f45) [1,1,0,1,0,0]) (pAt (mkPlan (codeOf Try.f45) [([8,9],[])]).1 [1,1,0,1,0]) [8,9] [] (spec_l04Step_t0 a1 a2 a3 a0)) N ([.a (.i .i64 0),.a (.i .i64 0)],[])) (λe s=>(kBlock 0 (kSeq (veC Try.prog spec_l04Step_G N (cAt (codeOf Try.f45) [1,1,1]) (pAt (mkPlan (codeOf Try.f45) [([8,9],[])]).1 [1,1,1]) (SV×Eff×Bool)) (finK Try.prog [.row a0 37] [.tmp 8]))) e (left (writes (cAt (codeOf Try.f45) [1,1,0,1,0,0])) [8,9] [] (spec_l04Step_t0 a1 a2 a3 a0) s))=nodeX (iterO (spec_l04Step_g0 Try.prog a1 a2 a3 a0) N ((0:Int),(0:Int))) (st2 (λx=>spec_l04Step_k0_0 Try.prog N a1 a2 a3 a0 x.1 x.2) (λx=>spec_l04Step_k0_1 Try.prog N a1 a2 a3 a0 x.1 x.2)):=by refine loop_node spec_l04Step_e0 spec_l04Step_x0 _ _ (spec_l04Step_s0 N a1 a2 a3 a0) N ((0:Int),(0:Int)) _ _ ?_;intro x;cases x with|more x=>exact spec_l04Step_k0_0_eq N a1 a2 a3 a0 x.1 x.2|done x=>exact spec_l04Step_k0_1_eq N a1 a2 a3 a0 x.1 x.2
theorem spec_l04Step_ans(N:Nat)(a1 a2 a3:Int)(a0:Array Value):ansV Try.prog spec_l04Step_G N Try.f45 [([8,9],[])] [.w 0,.i .i64 a1,.i .i64 a2,.i .i64 a3] [.row a0 37]=(bif decide (0<=(IntKind.u64.wrap a1)) then (bif (spec_l01Dry_v0 a1 a0) then (bif (a1==a2) then (some (.a (.i .i64 12),.none,true)) else (some (.a (.i .i64 0),.none,true))) else (nodeX (iterO (spec_l04Step_g0 Try.prog a1 a2 a3 a0) N ((0:Int),(0:Int))) (st2 (λx=>spec_l04Step_k0_0 Try.prog N a1 a2 a3 a0 x.1 x.2) (λx=>spec_l04Step_k0_1 Try.prog N a1 a2 a3 a0 x.1 x.2)))) else (none)):=by
 conv=>rhs;simp only[<- spec_l04Step_n0 N a1 a2 a3 a0]
 kernel_rfl
noncomputable def stepX(S:Array Value)(c to t:Int):Int:=
 bif spec_l01Dry_v0 c S then (bif (c==to) then 12 else 0) else bif (spec_l01Goes_v0 c 0 S==to) then chW S t c 0 else bif (spec_l01Goes_v0 c 1 S==to) then chW S t c 1 else bif (spec_l01Goes_v0 c 2 S==to) then chW S t c 2 else bif (spec_l01Goes_v0 c 3 S==to) then chW S t c 3 else bif (spec_l01Goes_v0 c 4 S==to) then chW S t c 4 else 0
theorem spec_l04Step_main(a1 a2 a3:Int)(a0:Array Value)(h_a1:i64.min<=a1/\a1<=i64.max)(h_a2:i64.min<=a2/\a2<=i64.max)(h_a3:i64.min<=a3/\a3<=i64.max)(h_a0:WT Try.prog 37 a0)(hg:(((decide (0<=a1)&&decide (a1<36))&&(decide (0<=a3)&&decide (a3<2))))=true):ansV Try.prog spec_l04Step_G 1000 Try.f45 [([8,9],[])] [.w 0,.i .i64 a1,.i .i64 a2,.i .i64 a3] [.row a0 37]=some (.a (.i .i64 (stepX a0 a1 a2 a3)),.none,true):=by
 rw[Bool.and_eq_true]at hg;obtain⟨hc,ht⟩:=hg;refine(spec_l04Step_ans 1000 a1 a2 a3 a0).trans ?_;rw[decide_eq_true (show 0<=IntKind.u64.wrap a1 from (wrap_in .u64 _).1),cond_true];have s0:spec_l04Step_g0 Try.prog a1 a2 a3 a0 ((0:Int),(0:Int))=bif (spec_l01Goes_v0 a1 0 a0==a2) then some (.done (.more (chW a0 a3 a1 0,(0:Int)))) else some (.more ((0:Int),(1:Int))):=by
  have e1:decide ((0:Int)<=4)=true:=by decide
  have e2:(decide (0<=(0:Int))&&decide ((0:Int)<5))=true:=by decide
  have e3:i64.wrap ((0:Int)+1)=1:=by decide
  simp only[spec_l04Step_g0,e1,e2,e3,ht,hc,cond_true]
  first|done|rfl
 have s1:spec_l04Step_g0 Try.prog a1 a2 a3 a0 ((0:Int),(1:Int))=bif (spec_l01Goes_v0 a1 1 a0==a2) then some (.done (.more (chW a0 a3 a1 1,(1:Int)))) else some (.more ((0:Int),(2:Int))):=by
  have e1:decide ((1:Int)<=4)=true:=by decide
  have e2:(decide (0<=(1:Int))&&decide ((1:Int)<5))=true:=by decide
  have e3:i64.wrap ((1:Int)+1)=2:=by decide
  simp only[spec_l04Step_g0,e1,e2,e3,ht,hc,cond_true]
  first|done|rfl
 have s2:spec_l04Step_g0 Try.prog a1 a2 a3 a0 ((0:Int),(2:Int))=bif (spec_l01Goes_v0 a1 2 a0==a2) then some (.done (.more (chW a0 a3 a1 2,(2:Int)))) else some (.more ((0:Int),(3:Int))):=by
  have e1:decide ((2:Int)<=4)=true:=by decide
  have e2:(decide (0<=(2:Int))&&decide ((2:Int)<5))=true:=by decide
  have e3:i64.wrap ((2:Int)+1)=3:=by decide
  simp only[spec_l04Step_g0,e1,e2,e3,ht,hc,cond_true]
  first|done|rfl
 have s3:spec_l04Step_g0 Try.prog a1 a2 a3 a0 ((0:Int),(3:Int))=bif (spec_l01Goes_v0 a1 3 a0==a2) then some (.done (.more (chW a0 a3 a1 3,(3:Int)))) else some (.more ((0:Int),(4:Int))):=by
  have e1:decide ((3:Int)<=4)=true:=by decide
  have e2:(decide (0<=(3:Int))&&decide ((3:Int)<5))=true:=by decide
  have e3:i64.wrap ((3:Int)+1)=4:=by decide
  simp only[spec_l04Step_g0,e1,e2,e3,ht,hc,cond_true]
  first|done|rfl
 have s4:spec_l04Step_g0 Try.prog a1 a2 a3 a0 ((0:Int),(4:Int))=bif (spec_l01Goes_v0 a1 4 a0==a2) then some (.done (.more (chW a0 a3 a1 4,(4:Int)))) else some (.more ((0:Int),(5:Int))):=by
  have e1:decide ((4:Int)<=4)=true:=by decide
  have e2:(decide (0<=(4:Int))&&decide ((4:Int)<5))=true:=by decide
  have e3:i64.wrap ((4:Int)+1)=5:=by decide
  simp only[spec_l04Step_g0,e1,e2,e3,ht,hc,cond_true]
  first|done|rfl
 have s5:spec_l04Step_g0 Try.prog a1 a2 a3 a0 ((0:Int),(5:Int))=some (.done (.done ((0:Int),(5:Int)))):=by
  have e1:decide ((5:Int)<=4)=false:=by decide
  simp only[spec_l04Step_g0,e1,cond_false]
 unfold stepX;cases spec_l01Dry_v0 a1 a0
 case true=>cases (a1==a2)<;>rfl
 case false=>
  simp only[cond_false];cases g0:(spec_l01Goes_v0 a1 0 a0==a2)
  case true=>rw[g0]at s0;rw[iter_done s0 999];rfl
  rw[g0]at s0;rw[iter_step s0 999];cases g1:(spec_l01Goes_v0 a1 1 a0==a2)
  case true=>rw[g1]at s1;rw[iter_done s1 998];rfl
  rw[g1]at s1;rw[iter_step s1 998];cases g2:(spec_l01Goes_v0 a1 2 a0==a2)
  case true=>rw[g2]at s2;rw[iter_done s2 997];rfl
  rw[g2]at s2;rw[iter_step s2 997];cases g3:(spec_l01Goes_v0 a1 3 a0==a2)
  case true=>rw[g3]at s3;rw[iter_done s3 996];rfl
  rw[g3]at s3;rw[iter_step s3 996];cases g4:(spec_l01Goes_v0 a1 4 a0==a2)
  case true=>rw[g4]at s4;rw[iter_done s4 995];rfl
  rw[g4]at s4;rw[iter_step s4 995];rw[iter_done s5 994];rfl
noncomputable def spec_l04Step_con:Con:=λargs h=>match args,h with|[.w 0,.i .i64 a1,.i .i64 a2,.i .i64 a3],[.row a0 37]=>some (.a (.i .i64 (stepX a0 a1 a2 a3)),.none,((decide (0<=a1)&&decide (a1<36))&&(decide (0<=a3)&&decide (a3<2))))|_,_=>none
theorem spec_l04Step_enter:EntX Try.prog 45:=entX_ok (fn:=Try.f45) (by kernel_rfl) (by kernel_rfl) (by kernel_rfl)
theorem spec_l04Step_ok:ConOkX mn Try.prog 45 spec_l04Step_con:=(ansX_ok (N:=1000) (by kernel_rfl) (mKc (con_okX spec_l01Dry_ok) spec_l01Dry_enter (mKc (con_okX spec_l01Goes_ok) spec_l01Goes_enter mKn)) (fn:=Try.f45) (by kernel_rfl) (by kernel_rfl) [([8,9],[])]).of (by
 intro ρ h w args vals r e hA hH hr;unfold spec_l04Step_con at hr;split at hr
 ·rename_i a1 a2 a3 a0;obtain⟨rfl,hg⟩:=Prod.mk.inj (Option.some.inj hr);obtain⟨rfl,hg2⟩:=Prod.mk.inj hg;exact spec_l04Step_main a1 a2 a3 a0 (hA.rng 1 rfl) (hA.rng 2 rfl) (hA.rng 3 rfl) (hH.wt 0 rfl) hg2
 ·cases hr)
noncomputable def spec_l04Next_G:Cons:=(mkΓ [(45,con spec_l04Step_con),(72,con spec_l01Is_con)])
noncomputable def spec_l04Next_t0(a1 a2:Int)(a0:Array Value):St:=(⟨.a (.w 0)::.a (.i .i64 a1)::.a (.i .i64 a2)::us 3 (.a (.v (.slice none 0 0))::.a (.l 3)::.a (.i .i64 0)::.a (.l 1)::us 20 ([])),[.row a0 37,.sp,.no,.sl .own 0 (#[]:Array Value) 2],[1]⟩:St)
noncomputable def spec_l04Next_e0:Int×Nat×Array Value->LS
 |(y0_8,m0_7,y0_7)=>([.a (.i .i64 y0_8),.a (.l 3)],[.sl .own m0_7 y0_7 2])
noncomputable def spec_l04Next_x0:Int×Nat×Array Value->Exit×LS
 |t=>((.exit 0),spec_l04Next_e0 t)
noncomputable def spec_l04Next_g0(P:Program)(a1 a2:Int)(a0:Array Value):Int×Nat×Array Value->Option (Stp (Int×Nat×Array Value) (Int×Nat×Array Value))
 |(y0_8,m0_7,y0_7)=>bif decide (y0_8<(36:Int)) then (bif (spec_l01Is_v0 y0_8 a0) then (bif ((decide (0<=a1)&&decide (a1<36))&&(decide (0<=a2)&&decide (a2<2))) then (bif decide ((stepX a0 a1 y0_8 a2) > (0:Int)) then (bif (Nat.ble ((m0_7+1)*bytesOf Try.prog 2) 140737488355328) then (some (.more ((i64.wrap (y0_8+(1:Int))),(m0_7+1),(y0_7++(#[.int .i64 y0_8]:Array Value))))) else (none)) else (some (.more ((i64.wrap (y0_8+(1:Int))),m0_7,y0_7)))) else (none)) else (some (.more ((i64.wrap (y0_8+(1:Int))),m0_7,y0_7)))) else (some (.done (y0_8,m0_7,y0_7)))
theorem spec_l04Next_s0(N:Nat)(a1 a2:Int)(a0:Array Value):∀t:Int×Nat×Array Value,stepVG Try.prog spec_l04Next_G N (cAt (codeOf Try.f44) [1,1,0,1,0,0]) (pAt (mkPlan (codeOf Try.f44) [([8],[1000007,2])]).1 [1,1,0,1,0]) [8] [] 7 2 3 (spec_l04Next_t0 a1 a2 a0) (spec_l04Next_e0 t)=mapS spec_l04Next_e0 spec_l04Next_x0 (spec_l04Next_g0 Try.prog a1 a2 a0 t):=by
 rintro⟨y0_8,m0_7,y0_7⟩
 conv=>rhs;simp only[spec_l04Next_g0,mapS_cond,mapS_more,mapS_done,mapS_none,spec_l04Next_e0,spec_l04Next_x0]
 kernel_rfl
noncomputable def spec_l04Next_k0_0(P:Program)(N:Nat)(a1 a2:Int)(a0:Array Value)(z0_8:Int)(p0_7:Nat)(z0_7:Array Value):Option (SV×Eff×Bool):=some (.a .x,.newS none p0_7 z0_7 2,true)
theorem spec_l04Next_k0_0_eq(N:Nat)(a1 a2:Int)(a0:Array Value)(z0_8:Int)(p0_7:Nat)(z0_7:Array Value):(kBlock 0 (kSeq (veC Try.prog spec_l04Next_G N (cAt (codeOf Try.f44) [1,1,1]) (pAt (mkPlan (codeOf Try.f44) [([8],[1000007,2])]).1 [1,1,1]) (SV×Eff×Bool)) (finK Try.prog [.row a0 37] [.tmp 6]))) (.exit 0) (left (writes (cAt (codeOf Try.f44) [1,1,0,1,0,0])) [8,7] [3] (spec_l04Next_t0 a1 a2 a0) ([.a (.i .i64 z0_8),.a (.l 3)],[.sl .own p0_7 z0_7 2]))=spec_l04Next_k0_0 Try.prog N a1 a2 a0 z0_8 p0_7 z0_7:=by kernel_rfl
theorem spec_l04Next_n0(N:Nat)(a1 a2:Int)(a0:Array Value):bindX (iterO (stepVG Try.prog spec_l04Next_G N (cAt (codeOf Try.f44) [1,1,0,1,0,0]) (pAt (mkPlan (codeOf Try.f44) [([8],[1000007,2])]).1 [1,1,0,1,0]) [8] [] 7 2 3 (spec_l04Next_t0 a1 a2 a0)) N ([.a (.i .i64 0),.a (.l 3)],[.sl .own 0 (#[]:Array Value) 2])) (λe s=>(kBlock 0 (kSeq (veC Try.prog spec_l04Next_G N (cAt (codeOf Try.f44) [1,1,1]) (pAt (mkPlan (codeOf Try.f44) [([8],[1000007,2])]).1 [1,1,1]) (SV×Eff×Bool)) (finK Try.prog [.row a0 37] [.tmp 6]))) e (left (writes (cAt (codeOf Try.f44) [1,1,0,1,0,0])) [8,7] [3] (spec_l04Next_t0 a1 a2 a0) s))=nodeX (iterO (spec_l04Next_g0 Try.prog a1 a2 a0) N ((0:Int),0,(#[]:Array Value))) (λx=>spec_l04Next_k0_0 Try.prog N a1 a2 a0 x.1 x.2.1 x.2.2):=by refine loop_node spec_l04Next_e0 spec_l04Next_x0 _ _ (spec_l04Next_s0 N a1 a2 a0) N ((0:Int),0,(#[]:Array Value)) _ _ ?_;intro x;exact spec_l04Next_k0_0_eq N a1 a2 a0 x.1 x.2.1 x.2.2
theorem spec_l04Next_ans(N:Nat)(a1 a2:Int)(a0:Array Value):ansV Try.prog spec_l04Next_G N Try.f44 [([8],[1000007,2])] [.w 0,.i .i64 a1,.i .i64 a2] [.row a0 37]=(nodeX (iterO (spec_l04Next_g0 Try.prog a1 a2 a0) N ((0:Int),0,(#[]:Array Value))) (λx=>spec_l04Next_k0_0 Try.prog N a1 a2 a0 x.1 x.2.1 x.2.2)):=by
 conv=>rhs;simp only[<- spec_l04Next_n0 N a1 a2 a0]
 kernel_rfl
noncomputable def nxP(S:Array Value)(c t:Int)(j:Nat):Bool:=spec_l01Is_v0 (j:Int) S&&decide (stepX S c (j:Int) t > 0)
noncomputable def nxU(S:Array Value)(c t:Int)(n:Nat):List Nat:=(List.range n).filter (nxP S c t)
noncomputable def nxL(S:Array Value)(c t:Int):List Nat:=nxU S c t 36
noncomputable def encI(l:List Nat):Array Value:=⟨l.map λk:Nat=>.int .i64 (k:Int)⟩
theorem encI_app(l m:List Nat):encI (l++m)=encI l++encI m:=by unfold encI;simp
theorem nxU_succ(S:Array Value)(c t:Int)(n:Nat):nxU S c t (n+1)=nxU S c t n++(bif nxP S c t n then [n] else []):=by unfold nxU;rw[List.range_succ,List.filter_append];cases h:nxP S c t n<;>simp[h]
theorem nxU_len(S:Array Value)(c t:Int):∀n,(nxU S c t n).length<=n
 |0=>Nat.le_refl _
 |n+1=>by
  rw[nxU_succ,List.length_append];have:=nxU_len S c t n;cases nxP S c t n<;>simp<;>omega
theorem bytes_i64:bytesOf Try.prog 2=8:=by kernel_rfl
theorem spec_l04Next_main(a1 a2:Int)(a0:Array Value)(h_a1:i64.min<=a1/\a1<=i64.max)(h_a2:i64.min<=a2/\a2<=i64.max)(h_a0:WT Try.prog 37 a0)(hg:(((decide (0<=a1)&&decide (a1<36))&&(decide (0<=a2)&&decide (a2<2))))=true):ansV Try.prog spec_l04Next_G 1000 Try.f44 [([8],[1000007,2])] [.w 0,.i .i64 a1,.i .i64 a2] [.row a0 37]=some (.a .x,.newS none (nxL a0 a1 a2).length (encI (nxL a0 a1 a2)) 2,true):=by
 refine(spec_l04Next_ans 1000 a1 a2 a0).trans ?_;have h:=iter_all (g:=spec_l04Next_g0 Try.prog a1 a2 a0) (λk=>((k:Int),(nxU a0 a1 a2 k).length,encI (nxU a0 a1 a2 k))) (m:=36) (x:=((36:Int),(nxL a0 a1 a2).length,encI (nxL a0 a1 a2))) (N:=1000) (λk hk=>by
  have h1:decide ((k:Int)<36)=true:=decide_eq_true (by omega);have h3:i64.wrap ((k:Int)+1)=((k+1:Nat):Int):=by rw[w64 (by omega)];omega
  have h6:Nat.ble (((nxU a0 a1 a2 k).length+1)*bytesOf Try.prog 2) 140737488355328=true:=Nat.ble_eq_true_of_le (by rw[bytes_i64];have:=nxU_len a0 a1 a2 k;omega);simp only[spec_l04Next_g0,h1,h3,h6,hg,cond_true];rw[nxU_succ];unfold nxP;cases h7:spec_l01Is_v0 (k:Int) a0
  ·simp only[cond_false,Bool.false_and,List.append_nil]
  ·cases h8:decide (stepX a0 a1 (k:Int) a2 > 0)
   ·simp only[cond_true,cond_false,Bool.and_false,List.append_nil]
   ·simp only[cond_true,Bool.and_self,encI_app,List.length_append,List.length_cons,List.length_nil];rfl) (by
  have h1:decide (((36:Nat):Int)<36)=false:=by decide
  simp only[spec_l04Next_g0,h1,cond_false];rfl) (by omega)
 have h':iterO (spec_l04Next_g0 Try.prog a1 a2 a0) 1000 ((0:Int),0,(#[]:Array Value))=some ((36:Int),(nxL a0 a1 a2).length,encI (nxL a0 a1 a2)):=h;rw[h'];rfl
noncomputable def spec_l04Next_con:Con:=λargs h=>match args,h with|[.w 0,.i .i64 a1,.i .i64 a2],[.row a0 37]=>some (.a .x,.newS none (nxL a0 a1 a2).length (encI (nxL a0 a1 a2)) 2,((decide (0<=a1)&&decide (a1<36))&&(decide (0<=a2)&&decide (a2<2))))|_,_=>none
theorem spec_l04Next_enter:EntX Try.prog 44:=entX_ok (fn:=Try.f44) (by kernel_rfl) (by kernel_rfl) (by kernel_rfl)
theorem spec_l04Next_ok:ConOkX mn Try.prog 44 spec_l04Next_con:=(ansX_ok (N:=1000) (by kernel_rfl) (mKc (con_okX spec_l04Step_ok) spec_l04Step_enter (mKc (con_okX spec_l01Is_ok) spec_l01Is_enter mKn)) (fn:=Try.f44) (by kernel_rfl) (by kernel_rfl) [([8],[1000007,2])]).of (by
 intro ρ h w args vals r e hA hH hr;unfold spec_l04Next_con at hr;split at hr
 ·rename_i a1 a2 a0;obtain⟨rfl,hg⟩:=Prod.mk.inj (Option.some.inj hr);obtain⟨rfl,hg2⟩:=Prod.mk.inj hg;exact spec_l04Next_main a1 a2 a0 (hA.rng 1 rfl) (hA.rng 2 rfl) (hH.wt 0 rfl) hg2
 ·cases hr)
end
end Go.Proofs.Ytnhilgpdgicgfaa
