/- Rows of numbers, going back. -/
import Derived.Test.YtnhilgpdgicgfaaProg
import Derived.Test.YtnhilgpdgicgfaaLpC
namespace Go.Proofs.Ytnhilgpdgicgfaa
open Go.ChangeShapes Go.WideShapes Go.ChangeAt Go.RowKit Ve Vc
open IntKind (i64)
set_option linter.unusedVariables false
set_option linter.unusedSimpArgs false
set_option maxRecDepth 100000
noncomputable section
variable {mn:Md}
theorem one_row(P:Program)(T:TypeId){r:Array Value}(h:r.size=(zc P T).size):spl (repC (zc P T) 1) 0 r.toList=r:=by
 have e:repC (zc P T) 1=zc P T:=by unfold repC repL repL;simp
 rw[e];refine arr_ext λi=> ?_
 rw[spl_get _ _ _ (by simp;omega)]
 by_cases hi:i<r.size
 ·rw[if_pos (by simp;omega)];simp
 ·rw[if_neg (by simp;omega),Array.getElem?_eq_none (by omega),Array.getElem?_eq_none (by omega)]
theorem zc_row:(zc Try.prog 42).size=36:=by kernel_rfl
theorem rowF_size(V:List (Int×Int)->Array Value->Int)(S L:Array Value)(t:Int):(rowF Try.prog V S L t).size=36:=by unfold rowF;exact folds_inv (λ_ (r:Array Value)=>r.size=36) zc_row (λk s _ h=>by split<;>simp[h]) 36 (Nat.le_refl _)
noncomputable def rowR(P:Program)(V:List (Int×Int)->Array Value->Int)(S L:Array Value)(b h:Int):Nat->Array Value
 |0=>L
 |j+1=>rowF P V S (rowR P V S L b h j) ((i64.wrap (b+i64.wrap (h - ((j+1:Nat):Int)))).tmod 2)
noncomputable def catR(P:Program)(V:List (Int×Int)->Array Value->Int)(S L:Array Value)(b h:Int):Nat->Array Value
 |0=>#[]
 |j+1=>catR P V S L b h j++rowR P V S L b h j
theorem rowR_size(V:List (Int×Int)->Array Value->Int)(S:Array Value){L:Array Value}(hL:L.size=36)(b h:Int):∀j,(rowR Try.prog V S L b h j).size=36
 |0=>hL
 |j+1=>rowF_size V S _ _
theorem catR_size(V:List (Int×Int)->Array Value->Int)(S:Array Value){L:Array Value}(hL:L.size=36)(b h:Int):∀j,(catR Try.prog V S L b h j).size=j*36
 |0=>rfl
 |j+1=>by rw[catR,Array.size_append,catR_size V S hL b h j,rowR_size V S hL b h j];omega
theorem ext_last{A R:Array Value}{m q:Nat}(hA:A.size=m)(hR:R.size=q):(A++R).extract m (m+q)=R:=by
 refine arr_ext λi=> ?_
 rw[Array.getElem?_extract]
 by_cases hi:i<q
 ·rw[if_pos (by simp;omega),Array.getElem?_append_right (by omega),show m+i - A.size=i by omega]
 ·rw[if_neg (by simp;omega),Array.getElem?_eq_none (by omega)]
theorem ext_first{A R:Array Value}{m q:Nat}(h:m+q<=A.size):(A++R).extract m (m+q)=A.extract m (m+q):=by
 refine arr_ext λi=> ?_
 rw[Array.getElem?_extract,Array.getElem?_extract]
 by_cases hi:i<q
 ·rw[if_pos (by simp;omega),if_pos (by omega),Array.getElem?_append_left (by omega)]
 ·rw[if_neg (by simp;omega),if_neg (by omega)]
theorem catR_at(V:List (Int×Int)->Array Value->Int)(S:Array Value){L:Array Value}(hL:L.size=36)(b h:Int){j:Nat}:∀n,j<n->(catR Try.prog V S L b h n).extract (j*36) (j*36+36)=rowR Try.prog V S L b h j
 |0,hj=>by omega
 | n+1,hj=>by
  rw[catR]
  by_cases e:j=n
  ·subst e;exact ext_last (catR_size V S hL b h j) (rowR_size V S hL b h j)
  ·rw[ext_first (by rw[catR_size V S hL b h n];omega)];exact catR_at V S hL b h n (by omega)
theorem tide_in{b h:Int}(hb:0<=b/\b<2)(hh:0<=h/\h<=14):(decide (0<=(i64.wrap (b+i64.wrap h)).tmod 2)&&decide ((i64.wrap (b+i64.wrap h)).tmod 2<2))=true:=by rw[w64 (n:=h) (by omega),w64 (n:=b+h) (by omega),Int.tmod_eq_emod_of_nonneg (by omega),decide_eq_true (by omega),decide_eq_true (by omega)];rfl
theorem bytes_row:bytesOf Try.prog 42=288:=by kernel_rfl
noncomputable def lkM(l:List (Int×Int))(L:Array Value):Int:=(lkL l L).2
noncomputable def most_impl_rowBack_G:Cons:=(mkΓx [(78,con impl_steps_most_con),(80,con impl_stepsFrom_con)] [(115,impl_eachCell_nc)] [(121,impl_eachCell_1_ic)])
noncomputable def most_impl_rowBack_t0(a0 a1:Array Value)(a2:Int):St:=(⟨.a (.g a0 37)::.a (.g a1 42)::.a (.i .i64 a2)::.a (.c 78 [])::.a (.w 0)::.a (.w 1)::.a (.w 2)::.a (.w 3)::.a (.w 4)::.a (.w 5)::.a (.u)::.a (.g a0 37)::.a (.c 121 [9,11])::us 11 ([]),[.row a0 37,.row a1 42,.row #[.int .i64 a2] 2,.row #[.func (.func 78) #[] #[]] 137,.row (zc Try.prog 42) 42,.row (zc Try.prog 42) 42,.no,.no,.no,.row #[.int .i64 (num a0 1)] 2,.no,.row #[.int .i64 (num a0 0)] 2,.no,.no],[]⟩:St)
noncomputable def most_impl_rowBack_e0:Array Value->BS
 |r0_5=>([.row r0_5 42]:BS)
noncomputable def most_impl_rowBack_x0:Empty->Exit×BS:=λx=>nomatch x
noncomputable def most_impl_rowBack_g0(P:Program)(a0 a1:Array Value)(a2:Int)(x0:Int):Array Value->Option (Stp (Array Value) Empty)
 |r0_5=>bif (okS a0&&(spec_l01Is_v0 x0 a0&&(decide (0<=a2)&&decide (a2<2)))) then (bif (okSt ((stL a0 a2 x0.toNat).length) (encSt (stL a0 a2 x0.toNat))) then (bif (decide (0<=x0)&&decide (x0<36)) then (some (.more (r0_5.setIfInBounds ((x0).toNat*1) (.int .i64 (lkL (rdSt ((stL a0 a2 x0.toNat).length) (encSt (stL a0 a2 x0.toNat))) a1).2)))) else (none)) else (none)) else (none)
theorem most_impl_rowBack_s0(N:Nat)(a0 a1:Array Value)(a2:Int)(x0:Int):∀t:Array Value,stepI Try.prog most_impl_rowBack_G N (cAt (codeOf Try.f98) [1,1,0,1,0,0]) (pAt (mkPlan (codeOf Try.f98) [([],[5])]).1 [1,1,0,1,0]) 14 [5] [13] [(10,13)] (most_impl_rowBack_t0 a0 a1 a2) [.i .i64 x0] (most_impl_rowBack_e0 t)=mapS most_impl_rowBack_e0 most_impl_rowBack_x0 (most_impl_rowBack_g0 Try.prog a0 a1 a2 x0 t):=by
 rintro r0_5
 conv=>rhs;simp only[most_impl_rowBack_g0,mapS_cond,mapS_more,mapS_done,mapS_none,most_impl_rowBack_e0,most_impl_rowBack_x0]
 kernel_rfl
noncomputable def most_impl_rowBack_k0_n(P:Program)(N:Nat)(a0 a1:Array Value)(a2:Int)(q0_5:Array Value):Option (SV×Eff×Bool):=some (.a (.g q0_5 42),.none,true)
theorem most_impl_rowBack_k0_n_eq(N:Nat)(a0 a1:Array Value)(a2:Int)(q0_5:Array Value):(kBlock 0 (kSeq (veC Try.prog most_impl_rowBack_G N (cAt (codeOf Try.f98) [1,1,1]) (pAt (mkPlan (codeOf Try.f98) [([],[5])]).1 [1,1,1]) (SV×Eff×Bool)) (finK Try.prog [] [.cell 8 42]))) .normal (leftI [5] (most_impl_rowBack_t0 a0 a1 a2) ([.row q0_5 42]:BS))=most_impl_rowBack_k0_n Try.prog N a0 a1 a2 q0_5:=by kernel_rfl
theorem most_impl_rowBack_n0(N:Nat)(a0 a1:Array Value)(a2:Int):bindI (foldI (λ(x0:Int) (hb:BS)=>stepI Try.prog most_impl_rowBack_G N (cAt (codeOf Try.f98) [1,1,0,1,0,0]) (pAt (mkPlan (codeOf Try.f98) [([],[5])]).1 [1,1,0,1,0]) 14 [5] [13] [(10,13)] (most_impl_rowBack_t0 a0 a1 a2) [.i .i64 x0] hb) (cellsL (num a0 0) (num a0 1) 36) ([.row (zc Try.prog 42) 42]:BS)) (λhb=>(kBlock 0 (kSeq (veC Try.prog most_impl_rowBack_G N (cAt (codeOf Try.f98) [1,1,1]) (pAt (mkPlan (codeOf Try.f98) [([],[5])]).1 [1,1,1]) (SV×Eff×Bool)) (finK Try.prog [] [.cell 8 42]))) .normal (leftI [5] (most_impl_rowBack_t0 a0 a1 a2) hb)) (λe hb=>(kBlock 0 (kSeq (veC Try.prog most_impl_rowBack_G N (cAt (codeOf Try.f98) [1,1,1]) (pAt (mkPlan (codeOf Try.f98) [([],[5])]).1 [1,1,1]) (SV×Eff×Bool)) (finK Try.prog [] [.cell 8 42]))) e (leftI [5] (most_impl_rowBack_t0 a0 a1 a2) hb))=nodeI (foldI (most_impl_rowBack_g0 Try.prog a0 a1 a2) (cellsL (num a0 0) (num a0 1) 36) (zc Try.prog 42)) (λx=>most_impl_rowBack_k0_n Try.prog N a0 a1 a2 x) (λx:Empty=>nomatch x):=by
 refine iter_node most_impl_rowBack_e0 most_impl_rowBack_x0 _ _ (λy t=>most_impl_rowBack_s0 N a0 a1 a2 y t) _ (zc Try.prog 42) _ _ _ _ ?_ ?_
 ·intro x;exact most_impl_rowBack_k0_n_eq N a0 a1 a2 x
 ·intro x;exact nomatch x
theorem most_impl_rowBack_ans(N:Nat)(a0 a1:Array Value)(a2:Int):ansV Try.prog most_impl_rowBack_G N Try.f98 [([],[5])] [.g a0 37,.g a1 42,.i .i64 a2,.c 78 []] []=(bif (decide (0<=(num a0 0))&&decide ((num a0 0)<=6)&&(decide (0<=(num a0 1))&&decide ((num a0 1)<=6))) then (nodeI (foldI (most_impl_rowBack_g0 Try.prog a0 a1 a2) (cellsL (num a0 0) (num a0 1) 36) (zc Try.prog 42)) (λx=>most_impl_rowBack_k0_n Try.prog N a0 a1 a2 x) (λx:Empty=>nomatch x)) else (none)):=by
 conv=>rhs;simp only[<- most_impl_rowBack_n0 N a0 a1 a2]
 kernel_rfl
theorem most_impl_rowBack_main(a0 a1:Array Value)(a2:Int)(h_a0:WT Try.prog 37 a0)(h_a1:WT Try.prog 42 a1)(h_a2:i64.min<=a2/\a2<=i64.max)(hg:((okS a0&&(decide (0<=a2)&&decide (a2<2))))=true):ansV Try.prog most_impl_rowBack_G 1000 Try.f98 [([],[5])] [.g a0 37,.g a1 42,.i .i64 a2,.c 78 []] []=some (.a (.g (rowF Try.prog lkM a0 a1 a2) 42),.none,true):=by
 rw[Bool.and_eq_true]at hg;obtain⟨hok,ht⟩:=hg;have h0:=okS_dims hok;refine(most_impl_rowBack_ans 1000 a0 a1 a2).trans ?_;have h:=foldI_grid (X:=Empty) (g:=most_impl_rowBack_g0 Try.prog a0 a1 a2) (λr k=>r.setIfInBounds (k*1) (.int .i64 (lkM (stL a0 a2 k) a1))) (wd:=num a0 0) (hi:=num a0 1) (λs k hk hi=>by
  have hs:okSt (stL a0 a2 k).length (encSt (stL a0 a2 k))=true:=ok_enc (stL_range h0 hk hi a2);have hc:(decide (0<=(k:Int))&&decide ((k:Int)<36))=true:=by rw[decide_eq_true (show 0<=(k:Int) by omega),decide_eq_true (show (k:Int)<36 by omega)];rfl
  have hi':spec_l01Is_v0 (k:Int) a0=true:=(is_inC h_a0 hk).trans hi;simp only[most_impl_rowBack_g0,Int.toNat_natCast,hok,hi',ht,hs,hc,Bool.and_self,cond_true,rd_enc]
  first|done|rfl) (zc Try.prog 42)
 have hgd:=okS_iter hok;simp only[hgd,cond_true,h];rfl
noncomputable def most_impl_rowBack_con:Con:=λargs h=>match args,h with|[.g a0 37,.g a1 42,.i .i64 a2,.c 78 []],[]=>some (.a (.g (rowF Try.prog lkM a0 a1 a2) 42),.none,(okS a0&&(decide (0<=a2)&&decide (a2<2))))|_,_=>none
theorem most_impl_rowBack_enter:EntX Try.prog 98:=entX_ok (fn:=Try.f98) (by kernel_rfl) (by kernel_rfl) (by kernel_rfl)
theorem most_impl_rowBack_ok:ConOkX mn Try.prog 98 most_impl_rowBack_con:=(ansX_ok (N:=1000) (by kernel_rfl) (mKx (con_okX impl_steps_most_ok) impl_steps_most_enter (mKx (con_okX impl_stepsFrom_ok) impl_stepsFrom_enter (mkΓx_nX impl_eachCell_nok impl_eachCell_enter (mkΓx_iX impl_eachCell_1_iok impl_eachCell_1_enter mkΓx_nilX)))) (fn:=Try.f98) (by kernel_rfl) (by kernel_rfl) [([],[5])]).of (by
 intro ρ h w args vals r e hA hH hr;unfold most_impl_rowBack_con at hr;split at hr
 ·rename_i a0 a1 a2;obtain⟨rfl,hg⟩:=Prod.mk.inj (Option.some.inj hr);obtain⟨rfl,hg2⟩:=Prod.mk.inj hg;exact most_impl_rowBack_main a0 a1 a2 (hA.wt 0 rfl) (hA.wt 1 rfl) (hA.rng 2 rfl) hg2
 ·cases hr)
noncomputable def most_impl_rowsBack_G:Cons:=(mkΓ [(69,con impl_tideIn_con),(98,con most_impl_rowBack_con)])
noncomputable def most_impl_rowsBack_t0(a0 a1:Array Value)(a2 a3:Int):St:=(⟨.a (.g a0 37)::.a (.g a1 42)::.a (.i .i64 a2)::.a (.i .i64 a3)::.a (.c 78 [])::.a (.w 0)::.a (.w 1)::us 3 (.a (.v (.slice none 0 0))::.a (.l 6)::.a (.i .i64 1)::.a (.g a1 42)::.a (.l 4)::us 22 ([])),[.row a0 37,.row a1 42,.no,.no,.sp,.no,.sl .own 1 (spl (repC (zc Try.prog 42) 1) 0 a1.toList) 42],[4]⟩:St)
noncomputable def most_impl_rowsBack_e0:Int×Nat×Array Value->LS
 |(y0_12,m0_11,y0_11)=>([.a (.i .i64 y0_12),.a (.l 6)],[.sl .own m0_11 y0_11 42])
noncomputable def most_impl_rowsBack_x0:Int×Nat×Array Value->Exit×LS
 |t=>((.exit 0),most_impl_rowsBack_e0 t)
noncomputable def most_impl_rowsBack_g0(P:Program)(a0 a1:Array Value)(a2 a3:Int):Int×Nat×Array Value->Option (Stp (Int×Nat×Array Value) (Int×Nat×Array Value))
 |(y0_12,m0_11,y0_11)=>bif decide (y0_12<=a3) then (bif (decide (0<=(i64.wrap (y0_12 - (1:Int))))&&decide ((i64.wrap (y0_12 - (1:Int)))<(m0_11:Int))) then (bif (okS a0&&(decide (0<=(((i64.wrap (a2+(i64.wrap (a3 - y0_12))))).tmod (2:Int)))&&decide ((((i64.wrap (a2+(i64.wrap (a3 - y0_12))))).tmod (2:Int))<2))) then (bif (Nat.ble ((m0_11+1)*bytesOf Try.prog 42) 140737488355328) then (some (.more ((i64.wrap (y0_12+(1:Int))),(m0_11+1),(y0_11++(spl (repC (zc Try.prog 42) 1) 0 (rowF Try.prog lkM a0 (y0_11.extract ((i64.wrap (y0_12 - (1:Int))).toNat*36) (((i64.wrap (y0_12 - (1:Int))).toNat*36)+36)) (((i64.wrap (a2+(i64.wrap (a3 - y0_12))))).tmod (2:Int))).toList))))) else (none)) else (none)) else (none)) else (some (.done (y0_12,m0_11,y0_11)))
theorem most_impl_rowsBack_s0(N:Nat)(a0 a1:Array Value)(a2 a3:Int):∀t:Int×Nat×Array Value,stepVG Try.prog most_impl_rowsBack_G N (cAt (codeOf Try.f76) [1,1,0,1,0,0]) (pAt (mkPlan (codeOf Try.f76) [([12],[1000011,42])]).1 [1,1,0,1,0]) [12] [] 11 42 6 (most_impl_rowsBack_t0 a0 a1 a2 a3) (most_impl_rowsBack_e0 t)=mapS most_impl_rowsBack_e0 most_impl_rowsBack_x0 (most_impl_rowsBack_g0 Try.prog a0 a1 a2 a3 t):=by
 rintro⟨y0_12,m0_11,y0_11⟩
 conv=>rhs;simp only[most_impl_rowsBack_g0,mapS_cond,mapS_more,mapS_done,mapS_none,most_impl_rowsBack_e0,most_impl_rowsBack_x0]
 kernel_rfl
noncomputable def most_impl_rowsBack_k0_0(P:Program)(N:Nat)(a0 a1:Array Value)(a2 a3:Int)(z0_12:Int)(p0_11:Nat)(z0_11:Array Value):Option (SV×Eff×Bool):=some (.a .x,.newS none p0_11 z0_11 42,true)
theorem most_impl_rowsBack_k0_0_eq(N:Nat)(a0 a1:Array Value)(a2 a3:Int)(z0_12:Int)(p0_11:Nat)(z0_11:Array Value):(kBlock 0 (kSeq (veC Try.prog most_impl_rowsBack_G N (cAt (codeOf Try.f76) [1,1,1]) (pAt (mkPlan (codeOf Try.f76) [([12],[1000011,42])]).1 [1,1,1]) (SV×Eff×Bool)) (finK Try.prog [] [.tmp 10]))) (.exit 0) (left (writes (cAt (codeOf Try.f76) [1,1,0,1,0,0])) [12,11] [6] (most_impl_rowsBack_t0 a0 a1 a2 a3) ([.a (.i .i64 z0_12),.a (.l 6)],[.sl .own p0_11 z0_11 42]))=most_impl_rowsBack_k0_0 Try.prog N a0 a1 a2 a3 z0_12 p0_11 z0_11:=by kernel_rfl
theorem most_impl_rowsBack_n0(N:Nat)(a0 a1:Array Value)(a2 a3:Int):bindX (iterO (stepVG Try.prog most_impl_rowsBack_G N (cAt (codeOf Try.f76) [1,1,0,1,0,0]) (pAt (mkPlan (codeOf Try.f76) [([12],[1000011,42])]).1 [1,1,0,1,0]) [12] [] 11 42 6 (most_impl_rowsBack_t0 a0 a1 a2 a3)) N ([.a (.i .i64 1),.a (.l 6)],[.sl .own 1 (spl (repC (zc Try.prog 42) 1) 0 a1.toList) 42])) (λe s=>(kBlock 0 (kSeq (veC Try.prog most_impl_rowsBack_G N (cAt (codeOf Try.f76) [1,1,1]) (pAt (mkPlan (codeOf Try.f76) [([12],[1000011,42])]).1 [1,1,1]) (SV×Eff×Bool)) (finK Try.prog [] [.tmp 10]))) e (left (writes (cAt (codeOf Try.f76) [1,1,0,1,0,0])) [12,11] [6] (most_impl_rowsBack_t0 a0 a1 a2 a3) s))=nodeX (iterO (most_impl_rowsBack_g0 Try.prog a0 a1 a2 a3) N ((1:Int),1,(spl (repC (zc Try.prog 42) 1) 0 a1.toList))) (λx=>most_impl_rowsBack_k0_0 Try.prog N a0 a1 a2 a3 x.1 x.2.1 x.2.2):=by refine loop_node most_impl_rowsBack_e0 most_impl_rowsBack_x0 _ _ (most_impl_rowsBack_s0 N a0 a1 a2 a3) N ((1:Int),1,(spl (repC (zc Try.prog 42) 1) 0 a1.toList)) _ _ ?_;intro x;exact most_impl_rowsBack_k0_0_eq N a0 a1 a2 a3 x.1 x.2.1 x.2.2
theorem most_impl_rowsBack_ans(N:Nat)(a0 a1:Array Value)(a2 a3:Int):ansV Try.prog most_impl_rowsBack_G N Try.f76 [([12],[1000011,42])] [.g a0 37,.g a1 42,.i .i64 a2,.i .i64 a3,.c 78 []] []=(nodeX (iterO (most_impl_rowsBack_g0 Try.prog a0 a1 a2 a3) N ((1:Int),1,(spl (repC (zc Try.prog 42) 1) 0 a1.toList))) (λx=>most_impl_rowsBack_k0_0 Try.prog N a0 a1 a2 a3 x.1 x.2.1 x.2.2)):=by
 conv=>rhs;simp only[<- most_impl_rowsBack_n0 N a0 a1 a2 a3]
 kernel_rfl
theorem most_impl_rowsBack_main(a0 a1:Array Value)(a2 a3:Int)(h_a0:WT Try.prog 37 a0)(h_a1:WT Try.prog 42 a1)(h_a2:i64.min<=a2/\a2<=i64.max)(h_a3:i64.min<=a3/\a3<=i64.max)(hg:(((okS a0&&(decide (0<=a2)&&decide (a2<2)))&&(decide (0<=a3)&&decide (a3<=14))))=true):ansV Try.prog most_impl_rowsBack_G 1000 Try.f76 [([12],[1000011,42])] [.g a0 37,.g a1 42,.i .i64 a2,.i .i64 a3,.c 78 []] []=some (.a .x,.newS none (a3.toNat+1) (catR Try.prog lkM a0 a1 a2 a3 (a3.toNat+1)) 42,true):=by
 rw[Bool.and_eq_true,Bool.and_eq_true (decide (0<=a3))]at hg;obtain⟨hg,hh0,hh1⟩:=hg;have hh:0<=a3/\a3<=14:=⟨of_decide_eq_true hh0,of_decide_eq_true hh1⟩;have hok:=hg;rw[Bool.and_eq_true,Bool.and_eq_true]at hok;have hb:0<=a2/\a2<2:=⟨of_decide_eq_true hok.2.1,of_decide_eq_true hok.2.2⟩;have hL:a1.size=36:=by rw[h_a1.layLen];kernel_rfl
 obtain⟨m,rfl⟩:∃m:Nat,a3=(m:Int):=⟨a3.toNat,by omega⟩;refine(most_impl_rowsBack_ans 1000 a0 a1 a2 (m:Int)).trans ?_;rw[one_row Try.prog 42 (by rw[hL,zc_row]),Int.toNat_natCast];have h:=iter_all (g:=most_impl_rowsBack_g0 Try.prog a0 a1 a2 (m:Int)) (λj=>(((1+j:Nat):Int),1+j,catR Try.prog lkM a0 a1 a2 (m:Int) (1+j))) (m:=m) (x:=(((1+m:Nat):Int),1+m,catR Try.prog lkM a0 a1 a2 (m:Int) (1+m))) (N:=1000) (λj hj=>by
  have h1:decide (((1+j:Nat):Int)<=(m:Int))=true:=decide_eq_true (by omega);have h2:i64.wrap (((1+j:Nat):Int) - 1)=(j:Int):=by rw[w64 (by omega)];omega
  have h3:i64.wrap (((1+j:Nat):Int)+1)=((1+(j+1):Nat):Int):=by rw[w64 (by omega)];omega
  have h4:(decide (0<=(j:Int))&&decide ((j:Int)<((1+j:Nat):Int)))=true:=by rw[decide_eq_true (by omega),decide_eq_true (by omega)];rfl
  have h5:=tide_in (b:=a2) (h:=(m:Int) - ((1+j:Nat):Int)) hb (by omega);have h6:Nat.ble ((1+j+1)*bytesOf Try.prog 42) 140737488355328=true:=Nat.ble_eq_true_of_le (by rw[bytes_row];omega);have h7:(catR Try.prog lkM a0 a1 a2 (m:Int) (1+j)).extract (j*36) (j*36+36)=rowR Try.prog lkM a0 a1 a2 (m:Int) j:=catR_at lkM a0 hL a2 _ (1+j) (by omega);simp only[most_impl_rowsBack_g0,h1,h2,h3,h4,h5,h6,h7,hok.1,Bool.and_self,Int.toNat_natCast,cond_true];rw[one_row Try.prog 42 (by rw[rowF_size,zc_row])];rw[show 1+(j+1)=(1+j)+1 by omega,catR,show 1+j=j+1 by omega,rowR]) (by
  have h1:decide (((1+m:Nat):Int)<=(m:Int))=false:=decide_eq_false (by omega);simp only[most_impl_rowsBack_g0,h1,cond_false]) (by omega)
 have hc:catR Try.prog lkM a0 a1 a2 (m:Int) 1=a1:=by rw[catR,catR,rowR];simp
 have h':iterO (most_impl_rowsBack_g0 Try.prog a0 a1 a2 (m:Int)) 1000 ((1:Int),1,a1)=some (((1+m:Nat):Int),1+m,catR Try.prog lkM a0 a1 a2 (m:Int) (1+m)):=by have h2:=h;simp only[Nat.add_zero,hc]at h2;exact h2
 rw[h',show 1+m=m+1 by omega];rfl
noncomputable def most_impl_rowsBack_con:Con:=λargs h=>match args,h with|[.g a0 37,.g a1 42,.i .i64 a2,.i .i64 a3,.c 78 []],[]=>some (.a .x,.newS none (a3.toNat+1) (catR Try.prog lkM a0 a1 a2 a3 (a3.toNat+1)) 42,((okS a0&&(decide (0<=a2)&&decide (a2<2)))&&(decide (0<=a3)&&decide (a3<=14))))|_,_=>none
theorem most_impl_rowsBack_enter:EntX Try.prog 76:=entX_ok (fn:=Try.f76) (by kernel_rfl) (by kernel_rfl) (by kernel_rfl)
theorem most_impl_rowsBack_ok:ConOkX mn Try.prog 76 most_impl_rowsBack_con:=(ansX_ok (N:=1000) (by kernel_rfl) (mKc (con_okX impl_tideIn_ok) impl_tideIn_enter (mKc (con_okX most_impl_rowBack_ok) most_impl_rowBack_enter mKn)) (fn:=Try.f76) (by kernel_rfl) (by kernel_rfl) [([12],[1000011,42])]).of (by
 intro ρ h w args vals r e hA hH hr;unfold most_impl_rowsBack_con at hr;split at hr
 ·rename_i a0 a1 a2 a3;obtain⟨rfl,hg⟩:=Prod.mk.inj (Option.some.inj hr);obtain⟨rfl,hg2⟩:=Prod.mk.inj hg;exact most_impl_rowsBack_main a0 a1 a2 a3 (hA.wt 0 rfl) (hA.wt 1 rfl) (hA.rng 2 rfl) (hA.rng 3 rfl) hg2
 ·cases hr)
end
end Go.Proofs.Ytnhilgpdgicgfaa
