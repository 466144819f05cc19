/- The bits of all cells, in company. -/
import Derived.Test.YtnhilgpdgicgfaaProg
import Derived.Test.YtnhilgpdgicgfaaCxEachWater
namespace Go.Proofs.Ytnhilgpdgicgfaa
open Go.ChangeShapes Go.WideShapes Go.ChangeAt Go.RowKit Ve Vc
open IntKind (i64)
set_option linter.unusedVariables false
set_option linter.unusedSimpArgs false
set_option maxRecDepth 100000
noncomputable section
variable {mn:Md}
theorem cell_is(S:Array Value)(c:Int):impl_hasCell_v0 S c=spec_l01Is_v0 c S:=by
 unfold impl_hasCell_v0 spec_l01Is_v0 spec_l00In_v0
 by_cases h0:0<=c
 ·have e1:∀x y:Int,0<=x->0<=y->impl_hasPlace_v0 S #[.int .i64 x,.int .i64 y]=(bif decide (x<i64.wrap (num S 0)) then decide (y<i64.wrap (num S 1)) else false):=λx y hx hy=>by
   show (bif decide (x>=0) then (bif decide (x<i64.wrap (num S 0)) then (bif decide (y>=0) then decide (y<i64.wrap (num S 1)) else false) else false) else false)=_
   rw[decide_eq_true (show x>=0 from hx),decide_eq_true (show y>=0 from hy)];cases decide (x<i64.wrap (num S 0))<;>rfl
  by_cases h1:c<=35
  ·have hx:0<=c.tmod 6:=Int.tmod_nonneg 6 h0;have hy:0<=i64.wrap (c.tdiv 6):=by
    have:c.tdiv 6=c / 6:=Int.tdiv_eq_ediv_of_nonneg h0;rw[this,IntWalk.i64_in _ (by omega)];omega
   rw[e1 _ _ hx hy,decide_eq_true (show c>=0 from h0),decide_eq_true (show c<36 by omega),decide_eq_true h1];rfl
  ·rw[decide_eq_false (show ¬c<36 by omega),decide_eq_false h1];cases decide (c>=0)<;>rfl
 ·rw[decide_eq_false (show ¬c>=0 from h0)];rfl
theorem is_range{S:Array Value}{c:Int}(h:spec_l01Is_v0 c S=true):0<=c/\c<=35:=by unfold spec_l01Is_v0 spec_l00In_v0 at h;cases h0:decide (c>=0) with|false=>rw[h0]at h;exact nomatch h|true=>cases h1:decide (c<=35) with|false=>rw[h0,h1]at h;exact nomatch h|true=>exact⟨of_decide_eq_true h0,of_decide_eq_true h1⟩
theorem u64_c{c:Int}(hc:0<=c/\c<=35):IntKind.u64.wrap c=c:=by rw[IntKind.wrap_u64];omega
theorem wt_land{T:TypeId}(hL:lay Try.prog T=0::0::7::List.replicate 360 4){S:Array Value}(h:WT Try.prog T S):0<=num S 2/\num S 2<=18446744073709551615:=(h.int (o:=2) (k:=.u64) (by rw[hL];rfl)).2
theorem lay_sea:lay Try.prog 37=0::0::7::List.replicate 360 4:=by kernel_rfl
theorem land_of{S:Array Value}(h:WT Try.prog 37 S):0<=num S 2/\num S 2<=18446744073709551615:=wt_land lay_sea h
theorem is_inC{S:Array Value}(h:WT Try.prog 37 S){k:Nat}(hk:k<36):spec_l01Is_v0 (k:Int) S=inC (num S 0) (num S 1) k:=by
 obtain⟨s0,a0,b0⟩:=h.int (o:=0) (k:=.i8) (by kernel_rfl);obtain⟨s1,a1,b1⟩:=h.int (o:=1) (k:=.i8) (by kernel_rfl);have e1:IntKind.i8.min=-128:=rfl;have e2:IntKind.i8.max=127:=rfl;unfold spec_l01Is_v0 spec_l00In_v0 inC;rw[decide_eq_true (show (k:Int)>=0 by omega),decide_eq_true (show (k:Int)<=35 by omega),IntWalk.i64_in (num S 0) (by omega),IntWalk.i64_in (num S 1) (by omega)];have h1:((k:Int)).tmod 6=((k % 6:Nat):Int):=by rw[Int.tmod_eq_emod_of_nonneg (by omega)];omega
 have h2:((k:Int)).tdiv 6=((k / 6:Nat):Int):=by rw[Int.tdiv_eq_ediv_of_nonneg (by omega)];omega
 rw[h1,h2,IntWalk.i64_in _ (by omega)];simp only[cond_true,cond_false];cases decide (((k % 6:Nat):Int)<num S 0)<;>rfl
theorem bitOf_one(k:Nat):impl_bitOf_v0 (k:Int)=oneI k:=by unfold impl_bitOf_v0 oneI;rw[Int.toNat_natCast]
theorem u64w{k:Nat}(hk:k<36):IntKind.u64.wrap (k:Int)=(k:Int):=u64_c (by omega)
noncomputable def spec_l01Cells_t0(a0:Array Value):St:=(⟨.a (.w 0)::.a (.u)::.a (.i .u64 0)::.a (.i .u64 0)::.a (.i .i64 0)::us 13 ([]),[.row a0 37],[]⟩:St)
noncomputable def spec_l01Cells_e0:Int×Int->LS
 |(y0_3,y0_4)=>([.a (.i .u64 y0_3),.a (.i .i64 y0_4)],[])
noncomputable def spec_l01Cells_x0:Int×Int->Exit×LS
 |t=>((.exit 0),spec_l01Cells_e0 t)
noncomputable def spec_l01Cells_g0(P:Program)(a0:Array Value):Int×Int->Option (Stp (Int×Int) (Int×Int))
 |(y0_3,y0_4)=>bif decide (y0_4<(36:Int)) then (bif (spec_l01Is_v0 y0_4 a0) then (bif decide (0<=(IntKind.u64.wrap y0_4)) then (some (.more ((IntKind.u64.wrap (BitVec.ofInt IntKind.u64.bits y0_3 ||| BitVec.ofInt IntKind.u64.bits (IntKind.u64.wrap ((1:Int)*2^(min ((IntKind.u64.wrap y0_4)).toNat IntKind.u64.bits)))).toNat),(i64.wrap (y0_4+(1:Int)))))) else (none)) else (some (.more (y0_3,(i64.wrap (y0_4+(1:Int))))))) else (some (.done (y0_3,y0_4)))
theorem spec_l01Cells_s0(N:Nat)(a0:Array Value):∀t:Int×Int,stepV Try.prog (mkΓ [(72,con spec_l01Is_con)]) N (cAt (codeOf Try.f82) [1,1,0,1,0,0]) (pAt (mkPlan (codeOf Try.f82) [([3,4],[])]).1 [1,1,0,1,0]) [3,4] [] (spec_l01Cells_t0 a0) (spec_l01Cells_e0 t)=mapS spec_l01Cells_e0 spec_l01Cells_x0 (spec_l01Cells_g0 Try.prog a0 t):=by
 rintro⟨y0_3,y0_4⟩
 conv=>rhs;simp only[spec_l01Cells_g0,mapS_cond,mapS_more,mapS_done,mapS_none,spec_l01Cells_e0,spec_l01Cells_x0]
 kernel_rfl
noncomputable def spec_l01Cells_k0_0(P:Program)(N:Nat)(a0:Array Value)(z0_3:Int)(z0_4:Int):Option (SV×Eff×Bool):=some (.a (.i .u64 z0_3),.none,true)
theorem spec_l01Cells_k0_0_eq(N:Nat)(a0:Array Value)(z0_3:Int)(z0_4:Int):(kBlock 0 (kSeq (veC Try.prog (mkΓ [(72,con spec_l01Is_con)]) N (cAt (codeOf Try.f82) [1,1,1]) (pAt (mkPlan (codeOf Try.f82) [([3,4],[])]).1 [1,1,1]) (SV×Eff×Bool)) (finK Try.prog [.row a0 37] [.tmp 2]))) (.exit 0) (left (writes (cAt (codeOf Try.f82) [1,1,0,1,0,0])) [3,4] [] (spec_l01Cells_t0 a0) ([.a (.i .u64 z0_3),.a (.i .i64 z0_4)],[]))=spec_l01Cells_k0_0 Try.prog N a0 z0_3 z0_4:=by kernel_rfl
theorem spec_l01Cells_n0(N:Nat)(a0:Array Value):bindX (iterO (stepV Try.prog (mkΓ [(72,con spec_l01Is_con)]) N (cAt (codeOf Try.f82) [1,1,0,1,0,0]) (pAt (mkPlan (codeOf Try.f82) [([3,4],[])]).1 [1,1,0,1,0]) [3,4] [] (spec_l01Cells_t0 a0)) N ([.a (.i .u64 0),.a (.i .i64 0)],[])) (λe s=>(kBlock 0 (kSeq (veC Try.prog (mkΓ [(72,con spec_l01Is_con)]) N (cAt (codeOf Try.f82) [1,1,1]) (pAt (mkPlan (codeOf Try.f82) [([3,4],[])]).1 [1,1,1]) (SV×Eff×Bool)) (finK Try.prog [.row a0 37] [.tmp 2]))) e (left (writes (cAt (codeOf Try.f82) [1,1,0,1,0,0])) [3,4] [] (spec_l01Cells_t0 a0) s))=nodeX (iterO (spec_l01Cells_g0 Try.prog a0) N ((0:Int),(0:Int))) (λx=>spec_l01Cells_k0_0 Try.prog N a0 x.1 x.2):=by refine loop_node spec_l01Cells_e0 spec_l01Cells_x0 _ _ (spec_l01Cells_s0 N a0) N ((0:Int),(0:Int)) _ _ ?_;intro x;exact spec_l01Cells_k0_0_eq N a0 x.1 x.2
theorem spec_l01Cells_ans(N:Nat)(a0:Array Value):ansV Try.prog (mkΓ [(72,con spec_l01Is_con)]) N Try.f82 [([3,4],[])] [.w 0] [.row a0 37]=(nodeX (iterO (spec_l01Cells_g0 Try.prog a0) N ((0:Int),(0:Int))) (λx=>spec_l01Cells_k0_0 Try.prog N a0 x.1 x.2)):=by
 conv=>rhs;simp only[<- spec_l01Cells_n0 N a0]
 kernel_rfl
theorem spec_l01Cells_main(a0:Array Value)(h_a0:WT Try.prog 37 a0)(hg:(true)=true):ansV Try.prog (mkΓ [(72,con spec_l01Is_con)]) 1000 Try.f82 [([3,4],[])] [.w 0] [.row a0 37]=some (.a (.i .u64 (gridI (num a0 0) (num a0 1) 36)),.none,true):=by
 refine(spec_l01Cells_ans 1000 a0).trans ?_;have h:=iter_folds (g:=spec_l01Cells_g0 Try.prog a0) (λs k=>(s,(k:Int))) (λb k=>if inC (num a0 0) (num a0 1) k then orI b (oneI k) else b) (m:=36) (t:=(0:Int)) (x:=(gridI (num a0 0) (num a0 1) 36,36)) (N:=1000) (λk s hk _=>by
  have h1:decide ((k:Int)<36)=true:=decide_eq_true (by omega);have h0:decide (0<=(k:Int))=true:=decide_eq_true (by omega);have h3:i64.wrap ((k:Int)+1)=((k+1:Nat):Int):=by rw[IntWalk.i64_in _ (by omega)];omega
  simp only[spec_l01Cells_g0,h1,cond_true,is_inC h_a0 hk,u64w hk,h0,h3,Int.toNat_natCast];cases inC (num a0 0) (num a0 1) k<;>rfl) (by
  have h1:decide (((36:Nat):Int)<36)=false:=by decide
  simp only[spec_l01Cells_g0,h1,cond_false];rfl) (by omega)
 have h':iterO (spec_l01Cells_g0 Try.prog a0) 1000 ((0:Int),(0:Int))=some (gridI (num a0 0) (num a0 1) 36,(36:Int)):=h;rw[h'];rfl
noncomputable def spec_l01Cells_con:Con:=λargs h=>match args,h with|[.w 0],[.row a0 37]=>some (.a (.i .u64 (gridI (num a0 0) (num a0 1) 36)),.none,true)|_,_=>none
theorem spec_l01Cells_enter:EntX Try.prog 82:=entX_ok (fn:=Try.f82) (by kernel_rfl) (by kernel_rfl) (by kernel_rfl)
theorem spec_l01Cells_ok:ConOkX mn Try.prog 82 spec_l01Cells_con:=(ansX_ok (N:=1000) (by kernel_rfl) (mKc (con_okX spec_l01Is_ok) spec_l01Is_enter mKn) (fn:=Try.f82) (by kernel_rfl) (by kernel_rfl) [([3,4],[])]).of (by
 intro ρ h w args vals r e hA hH hr;unfold spec_l01Cells_con at hr;split at hr
 ·rename_i a0;obtain⟨rfl,hg⟩:=Prod.mk.inj (Option.some.inj hr);obtain⟨rfl,hg2⟩:=Prod.mk.inj hg;exact spec_l01Cells_main a0 (hH.wt 0 rfl) hg2
 ·cases hr)
noncomputable def impl_cellBits_G:Cons:=(mkΓx [(88,con impl_bitOf_con)] [(115,impl_eachCell_nc)] [(121,impl_eachCell_1_ic)])
noncomputable def impl_cellBits_t0(a0:Array Value):St:=(⟨.a (.g a0 37)::.a (.w 0)::.a (.i .u64 0)::.a (.w 2)::.a (.u)::.a (.g a0 37)::.a (.c 121 [6,8])::us 6 ([]),[.row a0 37,.no,.row #[.int .u64 0] 23,.no,.no,.no,.row #[.int .i64 (num a0 1)] 2,.no,.row #[.int .i64 (num a0 0)] 2,.no,.no],[]⟩:St)
noncomputable def impl_cellBits_e0:Int->BS
 |r0_2=>([.row #[.int .u64 r0_2] 23]:BS)
noncomputable def impl_cellBits_x0:Empty->Exit×BS:=λx=>nomatch x
noncomputable def impl_cellBits_g0(P:Program)(a0:Array Value)(x0:Int):Int->Option (Stp (Int) Empty)
 |r0_2=>bif decide (0<=x0) then (some (.more (IntKind.u64.wrap (BitVec.ofInt IntKind.u64.bits r0_2 ||| BitVec.ofInt IntKind.u64.bits (impl_bitOf_v0 x0)).toNat))) else (none)
theorem impl_cellBits_s0(N:Nat)(a0:Array Value)(x0:Int):∀t:Int,stepI Try.prog impl_cellBits_G N (cAt (codeOf Try.f108) [1,1,0,1,0,0]) (pAt (mkPlan (codeOf Try.f108) [([],[2])]).1 [1,1,0,1,0]) 11 [2] [7] [(4,7)] (impl_cellBits_t0 a0) [.i .i64 x0] (impl_cellBits_e0 t)=mapS impl_cellBits_e0 impl_cellBits_x0 (impl_cellBits_g0 Try.prog a0 x0 t):=by
 rintro r0_2
 conv=>rhs;simp only[impl_cellBits_g0,mapS_cond,mapS_more,mapS_done,mapS_none,impl_cellBits_e0,impl_cellBits_x0]
 kernel_rfl
noncomputable def impl_cellBits_k0_n(P:Program)(N:Nat)(a0:Array Value)(q0_2:Int):Option (SV×Eff×Bool):=some (.a (.i .u64 q0_2),.none,true)
theorem impl_cellBits_k0_n_eq(N:Nat)(a0:Array Value)(q0_2:Int):(kBlock 0 (kSeq (veC Try.prog impl_cellBits_G N (cAt (codeOf Try.f108) [1,1,1]) (pAt (mkPlan (codeOf Try.f108) [([],[2])]).1 [1,1,1]) (SV×Eff×Bool)) (finK Try.prog [] [.tmp 2]))) .normal (leftI [2] (impl_cellBits_t0 a0) ([.row #[.int .u64 q0_2] 23]:BS))=impl_cellBits_k0_n Try.prog N a0 q0_2:=by kernel_rfl
theorem impl_cellBits_n0(N:Nat)(a0:Array Value):bindI (foldI (λ(x0:Int) (hb:BS)=>stepI Try.prog impl_cellBits_G N (cAt (codeOf Try.f108) [1,1,0,1,0,0]) (pAt (mkPlan (codeOf Try.f108) [([],[2])]).1 [1,1,0,1,0]) 11 [2] [7] [(4,7)] (impl_cellBits_t0 a0) [.i .i64 x0] hb) (cellsL (num a0 0) (num a0 1) 36) ([.row #[.int .u64 0] 23]:BS)) (λhb=>(kBlock 0 (kSeq (veC Try.prog impl_cellBits_G N (cAt (codeOf Try.f108) [1,1,1]) (pAt (mkPlan (codeOf Try.f108) [([],[2])]).1 [1,1,1]) (SV×Eff×Bool)) (finK Try.prog [] [.tmp 2]))) .normal (leftI [2] (impl_cellBits_t0 a0) hb)) (λe hb=>(kBlock 0 (kSeq (veC Try.prog impl_cellBits_G N (cAt (codeOf Try.f108) [1,1,1]) (pAt (mkPlan (codeOf Try.f108) [([],[2])]).1 [1,1,1]) (SV×Eff×Bool)) (finK Try.prog [] [.tmp 2]))) e (leftI [2] (impl_cellBits_t0 a0) hb))=nodeI (foldI (impl_cellBits_g0 Try.prog a0) (cellsL (num a0 0) (num a0 1) 36) (0:Int)) (λx=>impl_cellBits_k0_n Try.prog N a0 x) (λx:Empty=>nomatch x):=by
 refine iter_node impl_cellBits_e0 impl_cellBits_x0 _ _ (λy t=>impl_cellBits_s0 N a0 y t) _ (0:Int) _ _ _ _ ?_ ?_
 ·intro x;exact impl_cellBits_k0_n_eq N a0 x
 ·intro x;exact nomatch x
theorem impl_cellBits_ans(N:Nat)(a0:Array Value):ansV Try.prog impl_cellBits_G N Try.f108 [([],[2])] [.g a0 37] []=(bif (decide (0<=(num a0 0))&&decide ((num a0 0)<=6)&&(decide (0<=(num a0 1))&&decide ((num a0 1)<=6))) then (nodeI (foldI (impl_cellBits_g0 Try.prog a0) (cellsL (num a0 0) (num a0 1) 36) (0:Int)) (λx=>impl_cellBits_k0_n Try.prog N a0 x) (λx:Empty=>nomatch x)) else (none)):=by
 conv=>rhs;simp only[<- impl_cellBits_n0 N a0]
 kernel_rfl
theorem impl_cellBits_main(a0:Array Value)(h_a0:WT Try.prog 37 a0)(hg:((decide (0<=num a0 0)&&decide (num a0 0<=6)&&(decide (0<=num a0 1)&&decide (num a0 1<=6))))=true):ansV Try.prog impl_cellBits_G 1000 Try.f108 [([],[2])] [.g a0 37] []=some (.a (.i .u64 (gridI (num a0 0) (num a0 1) 36)),.none,true):=by
 refine(impl_cellBits_ans 1000 a0).trans ?_;have h:=foldI_grid (X:=Empty) (g:=impl_cellBits_g0 Try.prog a0) (λb k=>orI b (oneI k)) (wd:=num a0 0) (hi:=num a0 1) (λs k hk _=>by
  have h0:decide (0<=(k:Int))=true:=decide_eq_true (by omega);simp only[impl_cellBits_g0,h0,cond_true,bitOf_one];rfl) (0:Int)
 simp only[hg,cond_true,h];rfl
noncomputable def impl_cellBits_con:Con:=λargs h=>match args,h with|[.g a0 37],[]=>some (.a (.i .u64 (gridI (num a0 0) (num a0 1) 36)),.none,(decide (0<=num a0 0)&&decide (num a0 0<=6)&&(decide (0<=num a0 1)&&decide (num a0 1<=6))))|_,_=>none
theorem impl_cellBits_enter:EntX Try.prog 108:=entX_ok (fn:=Try.f108) (by kernel_rfl) (by kernel_rfl) (by kernel_rfl)
theorem impl_cellBits_ok:ConOkX mn Try.prog 108 impl_cellBits_con:=(ansX_ok (N:=1000) (by kernel_rfl) (mKx (con_okX impl_bitOf_ok) impl_bitOf_enter (mkΓx_nX impl_eachCell_nok impl_eachCell_enter (mkΓx_iX impl_eachCell_1_iok impl_eachCell_1_enter mkΓx_nilX))) (fn:=Try.f108) (by kernel_rfl) (by kernel_rfl) [([],[2])]).of (by
 intro ρ h w args vals r e hA hH hr;unfold impl_cellBits_con at hr;split at hr
 ·rename_i a0;obtain⟨rfl,hg⟩:=Prod.mk.inj (Option.some.inj hr);obtain⟨rfl,hg2⟩:=Prod.mk.inj hg;exact impl_cellBits_main a0 (hA.wt 0 rfl) hg2
 ·cases hr)
theorem isLand_bit{S:Array Value}{k:Nat}(hk:k<36):impl_isLand_v0 S (k:Int)=bitI (num S 2) k:=by have h:=bit_test (c:=num S 2) (j:=k) (by omega);rw[<- h,<- bitOf_one];rfl
theorem dry_bit{S:Array Value}(hS:WT Try.prog 37 S){k:Nat}(hk:k<36):spec_l01Dry_v0 (k:Int) S=bitI (num S 2) k:=by have h:=bit_shr (c:=num S 2) (land_of hS) (k:=k) (by omega);rw[<- h];unfold spec_l01Dry_v0;rw[u64w hk,Int.toNat_natCast]
theorem land_dry{S:Array Value}(hS:WT Try.prog 37 S){k:Nat}(hk:k<36):impl_isLand_v0 S (k:Int)=spec_l01Dry_v0 (k:Int) S:=by rw[isLand_bit hk,dry_bit hS hk]
end
end Go.Proofs.Ytnhilgpdgicgfaa
