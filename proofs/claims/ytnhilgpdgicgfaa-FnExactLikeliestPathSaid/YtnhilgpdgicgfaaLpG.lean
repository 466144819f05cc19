/- Bounds of spec and program are the same. -/
import Derived.Test.YtnhilgpdgicgfaaProg
import Derived.Test.YtnhilgpdgicgfaaLpF
namespace Go.Proofs.Ytnhilgpdgicgfaa
open Go.ChangeShapes Go.WideShapes Go.ChangeAt Go.RowKit Ve Vc
open IntKind (i64)
set_option linter.unusedVariables false
set_option linter.unusedSimpArgs false
set_option maxRecDepth 100000
noncomputable section
variable {mn:Md}
noncomputable def spec_l04Asked_G:Cons:=(mkΓ [(50,con spec_l01Ok_con),(62,con spec_l01Tide_con),(72,con spec_l01Is_con),(73,con spec_l04Hours_con)])
theorem spec_l04Asked_ans(N:Nat)(a1 a2 a3 a4:Int)(a0:Array Value):ansV Try.prog spec_l04Asked_G N Try.f41 [] [.w 0,.i .i64 a1,.i .i64 a2,.i .i64 a3,.i .i64 a4] [.row a0 37]=(bif (!((okS a0))) then (some (.a (.i .i64 1),.none,true)) else (bif (!((spec_l01Is_v0 a1 a0))) then (some (.a (.i .i64 2),.none,true)) else (bif (!((spec_l01Is_v0 a2 a0))) then (some (.a (.i .i64 2),.none,true)) else (bif (!((spec_l00In_v0 a3 (0:Int) (1:Int)))) then (some (.a (.i .i64 2),.none,true)) else (bif (!((spec_l00In_v0 a4 (0:Int) (14:Int)))) then (some (.a (.i .i64 2),.none,true)) else (some (.a (.i .i64 0),.none,true))))))):=by kernel_rfl
noncomputable def spec_l04Asked_v0(a1 a2 a3 a4:Int)(a0:Array Value):Int:=(bif (!((okS a0))) then (1:Int) else (bif (!((spec_l01Is_v0 a1 a0))) then (2:Int) else (bif (!((spec_l01Is_v0 a2 a0))) then (2:Int) else (bif (!((spec_l00In_v0 a3 (0:Int) (1:Int)))) then (2:Int) else (bif (!((spec_l00In_v0 a4 (0:Int) (14:Int)))) then (2:Int) else (0:Int))))))
theorem spec_l04Asked_main(a1 a2 a3 a4:Int)(a0:Array Value)(h_a1:i64.min<=a1/\a1<=i64.max)(h_a2:i64.min<=a2/\a2<=i64.max)(h_a3:i64.min<=a3/\a3<=i64.max)(h_a4:i64.min<=a4/\a4<=i64.max)(h_a0:WT Try.prog 37 a0)(hg:(true)=true):ansV Try.prog spec_l04Asked_G 1000 Try.f41 [] [.w 0,.i .i64 a1,.i .i64 a2,.i .i64 a3,.i .i64 a4] [.row a0 37]=some (.a (.i .i64 (spec_l04Asked_v0 a1 a2 a3 a4 a0)),.none,true):=by
 refine(spec_l04Asked_ans 1000 a1 a2 a3 a4 a0).trans ?_;unfold spec_l04Asked_v0;revert hg;generalize ((!((okS a0))))=b2;intro hg;cases b2
 ·skip
  revert hg;generalize ((!((spec_l01Is_v0 a1 a0))))=b4;intro hg;cases b4
  ·skip
   revert hg;generalize ((!((spec_l01Is_v0 a2 a0))))=b6;intro hg;cases b6
   ·skip
    revert hg;generalize ((!((spec_l00In_v0 a3 (0:Int) (1:Int)))))=b8;intro hg;cases b8
    ·skip
     revert hg;generalize ((!((spec_l00In_v0 a4 (0:Int) (14:Int)))))=b10;intro hg;cases b10
     ·skip
      first | (simp only[cond_true,cond_false,Bool.and_true,Bool.true_and,Bool.and_false,Bool.false_and];done)|rfl|exact(nomatch (hg:false=true))
     ·skip
      first | (simp only[cond_true,cond_false,Bool.and_true,Bool.true_and,Bool.and_false,Bool.false_and];done)|rfl|exact(nomatch (hg:false=true))
    ·skip
     first | (simp only[cond_true,cond_false,Bool.and_true,Bool.true_and,Bool.and_false,Bool.false_and];done)|rfl|exact(nomatch (hg:false=true))
   ·skip
    first | (simp only[cond_true,cond_false,Bool.and_true,Bool.true_and,Bool.and_false,Bool.false_and];done)|rfl|exact(nomatch (hg:false=true))
  ·skip
   first | (simp only[cond_true,cond_false,Bool.and_true,Bool.true_and,Bool.and_false,Bool.false_and];done)|rfl|exact(nomatch (hg:false=true))
 ·skip
  first | (simp only[cond_true,cond_false,Bool.and_true,Bool.true_and,Bool.and_false,Bool.false_and];done)|rfl|exact(nomatch (hg:false=true))
noncomputable def spec_l04Asked_con:Con:=λargs h=>match args,h with|[.w 0,.i .i64 a1,.i .i64 a2,.i .i64 a3,.i .i64 a4],[.row a0 37]=>some (.a (.i .i64 (spec_l04Asked_v0 a1 a2 a3 a4 a0)),.none,true)|_,_=>none
theorem spec_l04Asked_enter:EntX Try.prog 41:=entX_ok (fn:=Try.f41) (by kernel_rfl) (by kernel_rfl) (by kernel_rfl)
theorem spec_l04Asked_ok:ConOkX mn Try.prog 41 spec_l04Asked_con:=(ansX_ok (N:=1000) (by kernel_rfl) (mKc (con_okX spec_l01Ok_ok) spec_l01Ok_enter (mKc (con_okX spec_l01Tide_ok) spec_l01Tide_enter (mKc (con_okX spec_l01Is_ok) spec_l01Is_enter (mKc (con_okX spec_l04Hours_ok) spec_l04Hours_enter mKn)))) (fn:=Try.f41) (by kernel_rfl) (by kernel_rfl) []).of (by
 intro ρ h w args vals r e hA hH hr;unfold spec_l04Asked_con at hr;split at hr
 ·rename_i a1 a2 a3 a4 a0;obtain⟨rfl,hg⟩:=Prod.mk.inj (Option.some.inj hr);obtain⟨rfl,hg2⟩:=Prod.mk.inj hg;exact spec_l04Asked_main a1 a2 a3 a4 a0 (hA.rng 1 rfl) (hA.rng 2 rfl) (hA.rng 3 rfl) (hA.rng 4 rfl) (hH.wt 0 rfl) hg2
 ·cases hr)
theorem impl_onlyAt_ans(N:Nat)(a0:Int):ansV Try.prog (mkΓ []) N Try.f77 [] [.i .i64 a0] []=(bif (decide (0<=a0)&&decide (a0<36)) then (some (.a (.g ((zc Try.prog 42).setIfInBounds ((a0).toNat*1) (.int .i64 1)) 42),.none,true)) else (none)):=by kernel_rfl
noncomputable def impl_onlyAt_v0(P:Program)(a0:Int):Array Value:=((zc P 42).setIfInBounds ((a0).toNat*1) (.int .i64 1))
theorem impl_onlyAt_main(a0:Int)(h_a0:i64.min<=a0/\a0<=i64.max)(hg:((decide (0<=a0)&&decide (a0<36)))=true):ansV Try.prog (mkΓ []) 1000 Try.f77 [] [.i .i64 a0] []=some (.a (.g (impl_onlyAt_v0 Try.prog a0) 42),.none,true):=by
 refine(impl_onlyAt_ans 1000 a0).trans ?_;unfold impl_onlyAt_v0;revert hg;generalize (decide (0<=a0))=b2;intro hg;cases b2
 ·skip
  first|exact(nomatch (hg:false=true)) | (simp only[cond_true,cond_false,Bool.and_true,Bool.true_and,Bool.and_false,Bool.false_and];done)|rfl
 ·skip
  revert hg;generalize (decide (a0<36))=b4;intro hg;cases b4
  ·skip
   first|exact(nomatch (hg:false=true)) | (simp only[cond_true,cond_false,Bool.and_true,Bool.true_and,Bool.and_false,Bool.false_and];done)|rfl
  ·skip
   first | (simp only[cond_true,cond_false,Bool.and_true,Bool.true_and,Bool.and_false,Bool.false_and];done)|rfl|exact(nomatch (hg:false=true))
noncomputable def impl_onlyAt_con:Con:=λargs h=>match args,h with|[.i .i64 a0],[]=>some (.a (.g (impl_onlyAt_v0 Try.prog a0) 42),.none,(decide (0<=a0)&&decide (a0<36)))|_,_=>none
theorem impl_onlyAt_enter:EntX Try.prog 77:=entX_ok (fn:=Try.f77) (by kernel_rfl) (by kernel_rfl) (by kernel_rfl)
theorem impl_onlyAt_ok:ConOkX mn Try.prog 77 impl_onlyAt_con:=(ansX_ok (N:=1000) (by kernel_rfl) mKn (fn:=Try.f77) (by kernel_rfl) (by kernel_rfl) []).of (by
 intro ρ h w args vals r e hA hH hr;unfold impl_onlyAt_con at hr;split at hr
 ·rename_i a0;obtain⟨rfl,hg⟩:=Prod.mk.inj (Option.some.inj hr);obtain⟨rfl,hg2⟩:=Prod.mk.inj hg;exact impl_onlyAt_main a0 (hA.rng 0 rfl) hg2
 ·cases hr)
noncomputable def impl_bottleCode_G:Cons:=(mkΓ [(66,con impl_spotCode_con),(67,con impl_hasHours_con)])
theorem impl_bottleCode_ans(N:Nat)(a0:Array Value)(a1 a2 a3:Int):ansV Try.prog impl_bottleCode_G N Try.f36 [] [.g a0 37,.i .i64 a1,.i .i64 a2,.i .i64 a3] []=(bif ((impl_spotCode_v0 a0 a2 a1)==(0:Int)) then (bif (!((impl_hasHours_v0 a3))) then (some (.a (.i .i64 2),.none,true)) else (some (.a (.i .i64 (impl_spotCode_v0 a0 a2 a1)),.none,true))) else (some (.a (.i .i64 (impl_spotCode_v0 a0 a2 a1)),.none,true))):=by kernel_rfl
noncomputable def impl_bottleCode_v0(a0:Array Value)(a1 a2 a3:Int):Int:=(bif ((impl_spotCode_v0 a0 a2 a1)==(0:Int)) then (bif (!((impl_hasHours_v0 a3))) then (2:Int) else (impl_spotCode_v0 a0 a2 a1)) else (impl_spotCode_v0 a0 a2 a1))
theorem impl_bottleCode_main(a0:Array Value)(a1 a2 a3:Int)(h_a0:WT Try.prog 37 a0)(h_a1:i64.min<=a1/\a1<=i64.max)(h_a2:i64.min<=a2/\a2<=i64.max)(h_a3:i64.min<=a3/\a3<=i64.max)(hg:(true)=true):ansV Try.prog impl_bottleCode_G 1000 Try.f36 [] [.g a0 37,.i .i64 a1,.i .i64 a2,.i .i64 a3] []=some (.a (.i .i64 (impl_bottleCode_v0 a0 a1 a2 a3)),.none,true):=by
 refine(impl_bottleCode_ans 1000 a0 a1 a2 a3).trans ?_;unfold impl_bottleCode_v0;revert hg;generalize (((impl_spotCode_v0 a0 a2 a1)==(0:Int)))=b2;intro hg;cases b2
 ·skip
  first | (simp only[cond_true,cond_false,Bool.and_true,Bool.true_and,Bool.and_false,Bool.false_and];done)|rfl|exact(nomatch (hg:false=true))
 ·skip
  revert hg;generalize ((!((impl_hasHours_v0 a3))))=b4;intro hg;cases b4
  ·skip
   first | (simp only[cond_true,cond_false,Bool.and_true,Bool.true_and,Bool.and_false,Bool.false_and];done)|rfl|exact(nomatch (hg:false=true))
  ·skip
   first | (simp only[cond_true,cond_false,Bool.and_true,Bool.true_and,Bool.and_false,Bool.false_and];done)|rfl|exact(nomatch (hg:false=true))
noncomputable def impl_bottleCode_con:Con:=λargs h=>match args,h with|[.g a0 37,.i .i64 a1,.i .i64 a2,.i .i64 a3],[]=>some (.a (.i .i64 (impl_bottleCode_v0 a0 a1 a2 a3)),.none,true)|_,_=>none
theorem impl_bottleCode_enter:EntX Try.prog 36:=entX_ok (fn:=Try.f36) (by kernel_rfl) (by kernel_rfl) (by kernel_rfl)
theorem impl_bottleCode_ok:ConOkX mn Try.prog 36 impl_bottleCode_con:=(ansX_ok (N:=1000) (by kernel_rfl) (mKc (con_okX impl_spotCode_ok) impl_spotCode_enter (mKc (con_okX impl_hasHours_ok) impl_hasHours_enter mKn)) (fn:=Try.f36) (by kernel_rfl) (by kernel_rfl) []).of (by
 intro ρ h w args vals r e hA hH hr;unfold impl_bottleCode_con at hr;split at hr
 ·rename_i a0 a1 a2 a3;obtain⟨rfl,hg⟩:=Prod.mk.inj (Option.some.inj hr);obtain⟨rfl,hg2⟩:=Prod.mk.inj hg;exact impl_bottleCode_main a0 a1 a2 a3 (hA.wt 0 rfl) (hA.rng 1 rfl) (hA.rng 2 rfl) (hA.rng 3 rfl) hg2
 ·cases hr)
noncomputable def impl_endsCode_G:Cons:=(mkΓ [(36,con impl_bottleCode_con),(75,con impl_hasCell_con)])
theorem impl_endsCode_ans(N:Nat)(a0:Array Value)(a1 a2 a3 a4:Int):ansV Try.prog impl_endsCode_G N Try.f46 [] [.g a0 37,.i .i64 a1,.i .i64 a2,.i .i64 a3,.i .i64 a4] []=(bif ((impl_bottleCode_v0 a0 a1 a2 a3)==(0:Int)) then (bif (!((impl_hasCell_v0 a0 a4))) then (some (.a (.i .i64 2),.none,true)) else (some (.a (.i .i64 (impl_bottleCode_v0 a0 a1 a2 a3)),.none,true))) else (some (.a (.i .i64 (impl_bottleCode_v0 a0 a1 a2 a3)),.none,true))):=by kernel_rfl
noncomputable def impl_endsCode_v0(a0:Array Value)(a1 a2 a3 a4:Int):Int:=(bif ((impl_bottleCode_v0 a0 a1 a2 a3)==(0:Int)) then (bif (!((impl_hasCell_v0 a0 a4))) then (2:Int) else (impl_bottleCode_v0 a0 a1 a2 a3)) else (impl_bottleCode_v0 a0 a1 a2 a3))
theorem impl_endsCode_main(a0:Array Value)(a1 a2 a3 a4:Int)(h_a0:WT Try.prog 37 a0)(h_a1:i64.min<=a1/\a1<=i64.max)(h_a2:i64.min<=a2/\a2<=i64.max)(h_a3:i64.min<=a3/\a3<=i64.max)(h_a4:i64.min<=a4/\a4<=i64.max)(hg:(true)=true):ansV Try.prog impl_endsCode_G 1000 Try.f46 [] [.g a0 37,.i .i64 a1,.i .i64 a2,.i .i64 a3,.i .i64 a4] []=some (.a (.i .i64 (impl_endsCode_v0 a0 a1 a2 a3 a4)),.none,true):=by
 refine(impl_endsCode_ans 1000 a0 a1 a2 a3 a4).trans ?_;unfold impl_endsCode_v0;revert hg;generalize (((impl_bottleCode_v0 a0 a1 a2 a3)==(0:Int)))=b2;intro hg;cases b2
 ·skip
  first | (simp only[cond_true,cond_false,Bool.and_true,Bool.true_and,Bool.and_false,Bool.false_and];done)|rfl|exact(nomatch (hg:false=true))
 ·skip
  revert hg;generalize ((!((impl_hasCell_v0 a0 a4))))=b4;intro hg;cases b4
  ·skip
   first | (simp only[cond_true,cond_false,Bool.and_true,Bool.true_and,Bool.and_false,Bool.false_and];done)|rfl|exact(nomatch (hg:false=true))
  ·skip
   first | (simp only[cond_true,cond_false,Bool.and_true,Bool.true_and,Bool.and_false,Bool.false_and];done)|rfl|exact(nomatch (hg:false=true))
noncomputable def impl_endsCode_con:Con:=λargs h=>match args,h with|[.g a0 37,.i .i64 a1,.i .i64 a2,.i .i64 a3,.i .i64 a4],[]=>some (.a (.i .i64 (impl_endsCode_v0 a0 a1 a2 a3 a4)),.none,true)|_,_=>none
theorem impl_endsCode_enter:EntX Try.prog 46:=entX_ok (fn:=Try.f46) (by kernel_rfl) (by kernel_rfl) (by kernel_rfl)
theorem impl_endsCode_ok:ConOkX mn Try.prog 46 impl_endsCode_con:=(ansX_ok (N:=1000) (by kernel_rfl) (mKc (con_okX impl_bottleCode_ok) impl_bottleCode_enter (mKc (con_okX impl_hasCell_ok) impl_hasCell_enter mKn)) (fn:=Try.f46) (by kernel_rfl) (by kernel_rfl) []).of (by
 intro ρ h w args vals r e hA hH hr;unfold impl_endsCode_con at hr;split at hr
 ·rename_i a0 a1 a2 a3 a4;obtain⟨rfl,hg⟩:=Prod.mk.inj (Option.some.inj hr);obtain⟨rfl,hg2⟩:=Prod.mk.inj hg;exact impl_endsCode_main a0 a1 a2 a3 a4 (hA.wt 0 rfl) (hA.rng 1 rfl) (hA.rng 2 rfl) (hA.rng 3 rfl) (hA.rng 4 rfl) hg2
 ·cases hr)
noncomputable def impl_boundsFor_G:Cons:=(mkΓ [(76,con most_impl_rowsBack_con),(77,con impl_onlyAt_con)])
theorem impl_boundsFor_ans(N:Nat)(a0:Array Value)(a1 a2 a3:Int):ansV Try.prog impl_boundsFor_G N Try.f47 [] [.g a0 37,.i .i64 a1,.i .i64 a2,.i .i64 a3] []=(bif (decide (0<=a1)&&decide (a1<36)) then (bif ((okS a0&&(decide (0<=a2)&&decide (a2<2)))&&(decide (0<=a3)&&decide (a3<=14))) then (some (.a .x,.newS none ((a3.toNat+1)) (catR Try.prog lkM a0 (impl_onlyAt_v0 Try.prog a1) a2 a3 (a3.toNat+1)) 42,true)) else (none)) else (none)):=by kernel_rfl
noncomputable def impl_boundsFor_n0(a0:Array Value)(a1 a2 a3:Int):Nat:=((a3.toNat+1))
noncomputable def impl_boundsFor_v0(P:Program)(a0:Array Value)(a1 a2 a3:Int):Array Value:=(catR P lkM a0 (impl_onlyAt_v0 P a1) a2 a3 (a3.toNat+1))
noncomputable def impl_boundsFor_gd(a0:Array Value)(a1 a2 a3:Int):Bool:=(bif (decide (0<=a1)&&decide (a1<36)) then ((okS a0&&(decide (0<=a2)&&decide (a2<2)))&&(decide (0<=a3)&&decide (a3<=14))) else false)
theorem impl_boundsFor_main(a0:Array Value)(a1 a2 a3:Int)(h_a0:WT Try.prog 37 a0)(h_a1:i64.min<=a1/\a1<=i64.max)(h_a2:i64.min<=a2/\a2<=i64.max)(h_a3:i64.min<=a3/\a3<=i64.max)(hg:((impl_boundsFor_gd a0 a1 a2 a3))=true):ansV Try.prog impl_boundsFor_G 1000 Try.f47 [] [.g a0 37,.i .i64 a1,.i .i64 a2,.i .i64 a3] []=some (.a .x,.newS none (impl_boundsFor_n0 a0 a1 a2 a3) (impl_boundsFor_v0 Try.prog a0 a1 a2 a3) 42,true):=by
 refine(impl_boundsFor_ans 1000 a0 a1 a2 a3).trans ?_;unfold impl_boundsFor_gd at hg;unfold impl_boundsFor_n0 impl_boundsFor_v0;revert hg;generalize (decide (0<=a1))=b2;intro hg;cases b2
 ·skip
  first|exact(nomatch (hg:false=true)) | (simp only[cond_true,cond_false,Bool.and_true,Bool.true_and,Bool.and_false,Bool.false_and];done)|rfl
 ·skip
  revert hg;generalize (decide (a1<36))=b4;intro hg;cases b4
  ·skip
   first|exact(nomatch (hg:false=true)) | (simp only[cond_true,cond_false,Bool.and_true,Bool.true_and,Bool.and_false,Bool.false_and];done)|rfl
  ·skip
   revert hg;generalize (((okS a0&&(decide (0<=a2)&&decide (a2<2)))&&(decide (0<=a3)&&decide (a3<=14))))=b6;intro hg;cases b6
   ·skip
    first|exact(nomatch (hg:false=true)) | (simp only[cond_true,cond_false,Bool.and_true,Bool.true_and,Bool.and_false,Bool.false_and];done)|rfl
   ·skip
    first | (simp only[cond_true,cond_false,Bool.and_true,Bool.true_and,Bool.and_false,Bool.false_and];done)|rfl|exact(nomatch (hg:false=true))
noncomputable def impl_boundsFor_con:Con:=λargs h=>match args,h with|[.g a0 37,.i .i64 a1,.i .i64 a2,.i .i64 a3],[]=>some (.a .x,.newS none (impl_boundsFor_n0 a0 a1 a2 a3) (impl_boundsFor_v0 Try.prog a0 a1 a2 a3) 42,(impl_boundsFor_gd a0 a1 a2 a3))|_,_=>none
theorem impl_boundsFor_enter:EntX Try.prog 47:=entX_ok (fn:=Try.f47) (by kernel_rfl) (by kernel_rfl) (by kernel_rfl)
theorem impl_boundsFor_ok:ConOkX mn Try.prog 47 impl_boundsFor_con:=(ansX_ok (N:=1000) (by kernel_rfl) (mKc (con_okX most_impl_rowsBack_ok) most_impl_rowsBack_enter (mKc (con_okX impl_onlyAt_ok) impl_onlyAt_enter mKn)) (fn:=Try.f47) (by kernel_rfl) (by kernel_rfl) []).of (by
 intro ρ h w args vals r e hA hH hr;unfold impl_boundsFor_con at hr;split at hr
 ·rename_i a0 a1 a2 a3;obtain⟨rfl,hg⟩:=Prod.mk.inj (Option.some.inj hr);obtain⟨rfl,hg2⟩:=Prod.mk.inj hg;exact impl_boundsFor_main a0 a1 a2 a3 (hA.wt 0 rfl) (hA.rng 1 rfl) (hA.rng 2 rfl) (hA.rng 3 rfl) hg2
 ·cases hr)
theorem encI_num{l:List Nat}{i:Nat}(h:i<l.length):num (encI l) (i*1)=((l[i]:Nat):Int):=by unfold num encI;rw[Nat.mul_one];simp[h]
theorem set_set(r:Array Value)(k:Nat)(u v:Value):(r.setIfInBounds k u).setIfInBounds k v=r.setIfInBounds k v:=arr_ext λi=>by
 simp only[Array.getElem?_setIfInBounds,Array.size_setIfInBounds];split<;>rfl
theorem num_set{r:Array Value}{k:Nat}(h:k<r.size)(kd:IntKind)(n:Int):num (r.setIfInBounds k (.int kd n)) k=n:=by unfold num;rw[Array.getElem?_setIfInBounds,if_pos rfl,if_pos h]
theorem set_same{r:Array Value}{k:Nat}{v:Value}(h:r[k]?=some v):r.setIfInBounds k v=r:=arr_ext λi=>by
 rw[Array.getElem?_setIfInBounds];split
 ·rename_i e;subst e;have:=(Array.getElem?_eq_some_iff.1 h).1;rw[if_pos this,h]
 ·rfl
theorem take_fold{α β:Type}(f:β->α->β)(b:β){l:List α}{i:Nat}(h:i<l.length):(l.take (i+1)).foldl f b=f ((l.take i).foldl f b) l[i]:=by rw[List.take_add_one,List.getElem?_eq_getElem h,List.foldl_append];rfl
noncomputable def mxS(S L:Array Value)(t:Int)(k:Nat)(b:Int)(j:Nat):Int:=spec_l00Max_v0 b (i64.wrap (stepX S (k:Int) (j:Int) t*laterOf L (j:Int)))
theorem lk_fold(L:Array Value):∀(l:List (Int×Int)) (b:Int×Int),(l.foldl (lkF L) b).2=l.foldl (λs p=>spec_l00Max_v0 s (i64.wrap (p.2*laterOf L p.1))) b.2
 |[],b=>rfl
 | p::r,b=>by
  rw[List.foldl_cons,List.foldl_cons,lk_fold L r];congr 1;unfold lkF spec_l00Max_v0
  by_cases h:i64.wrap (p.2*laterOf L p.1) > b.2
  ·rw[decide_eq_true h,decide_eq_false (show ¬b.2 > i64.wrap (p.2*laterOf L p.1) by omega)];rfl
  ·rw[decide_eq_false h]
   by_cases h2:b.2 > i64.wrap (p.2*laterOf L p.1)
   ·rw[decide_eq_true h2];rfl
   ·rw[decide_eq_false h2];simp only[cond_false];omega
theorem val_mx{S:Array Value}(hS:WT Try.prog 37 S)(h0:1<=num S 0/\num S 0<=6/\1<=num S 1/\num S 1<=6){k:Nat}(hk:k<36)(hi:inC (num S 0) (num S 1) k=true)(t:Int)(L:Array Value):(nxL S (k:Int) t).foldl (mxS S L t k) 0=lkM (stL S t k) L:=by unfold lkM lkL;rw[lk_fold,stL_nx hS h0 hk hi t,List.foldl_map];rfl
theorem nx_lt{S:Array Value}{c t:Int}{i:Nat}(h:i<(nxL S c t).length):(nxL S c t)[i]<36:=by have:(nxL S c t)[i]∈nxL S c t:=List.getElem_mem h;unfold nxL nxU at this;exact List.mem_range.1 (List.mem_filter.1 this).1
theorem nx_len(S:Array Value)(c t:Int):(nxL S c t).length<=36:=nxU_len S c t 36
theorem zc_at:∀k,k<36->(zc Try.prog 42)[k]?=some (.int .i64 0):=by
 have h:(List.range 36).all (λk=>match (zc Try.prog 42)[k]? with|some (.int .i64 0)=>true|_=>false)=true:=by kernel_rfl
 intro k hk;have:=List.all_eq_true.1 h k (List.mem_range.2 hk);split at this
 ·assumption
 ·cases this
theorem fold_zero(V:List (Int×Int)->Array Value->Int)(S L:Array Value)(t:Int):∀k,k<=36->(folds (λr k=>if inC (num S 0) (num S 1) k then r.setIfInBounds (k*1) (.int .i64 (V (stL S t k) L)) else r) (zc Try.prog 42) k).size=36/\∀i,k<=i->i<36->(folds (λr k=>if inC (num S 0) (num S 1) k then r.setIfInBounds (k*1) (.int .i64 (V (stL S t k) L)) else r) (zc Try.prog 42) k)[i]?=some (.int .i64 0):=by
 intro k hk;refine folds_inv (λk (r:Array Value)=>r.size=36/\∀i,k<=i->i<36->r[i]?=some (.int .i64 0)) ⟨zc_row,λi _ hi=>zc_at i hi⟩ (λk s hk h=> ?_) k hk;split
 ·refine⟨by simp[h.1],λi h1 h2=> ?_⟩;rw[Array.getElem?_setIfInBounds,if_neg (by omega)];exact h.2 i (by omega) h2
 ·exact⟨h.1,λi h1 h2=>h.2 i (by omega) h2⟩
theorem dec2{a b:Int}(h1:0<=a)(h2:a<b):(decide (0<=a)&&decide (a<b))=true:=by rw[decide_eq_true h1,decide_eq_true h2];rfl
noncomputable def spec_l04Bounds_G:Cons:=(mkΓ [(43,con spec_l04Tide_con),(44,con spec_l04Next_con),(45,con spec_l04Step_con),(72,con spec_l01Is_con),(74,con spec_l00Max_con)])
noncomputable def spec_l04Bounds_t2(a1 a2 a3:Int)(a0:Array Value)(y0_11:Int)(r0_4:Array Value)(m0_9:Nat)(y0_9:Array Value)(y1_14:Int)(r1_13:Array Value):St:=(⟨.a (.w 0)::.a (.i .i64 a1)::.a (.i .i64 a2)::.a (.i .i64 a3)::us 4 (.a (.v (.slice none 0 0))::.a (.l 11)::.a (.w 4)::.a (.i .i64 y0_11)::.a (.i .i64 (((i64.wrap (a2+(i64.wrap (a3 - y0_11))))).tmod (2:Int)))::.a (.w 13)::.a (.i .i64 y1_14)::.a (.l 18)::.a (.i .i64 0)::.a (.l 1)::.a (.g (zc Try.prog 42) 42)::.a (.i .i64 a1)::.a (.p 4 (((a1).toNat*1)) 2)::.a (.l 1)::.a (.g ((zc Try.prog 42).setIfInBounds ((a1).toNat*1) (.int .i64 1)) 42)::.a (.l 8)::.a (.l 9)::.a (.i .i64 y0_11)::.a (.i .i64 a3)::.a (.b (decide (y0_11<=a3)))::.a (.x)::.a (.x)::.a (.i .i64 a2)::.a (.i .i64 a3)::.a (.i .i64 y0_11)::.a (.i .i64 (i64.wrap (a3 - y0_11)))::.a (.i .i64 (((i64.wrap (a2+(i64.wrap (a3 - y0_11))))).tmod (2:Int)))::.a (.g (zc Try.prog 42) 42)::.a (.i .i64 y1_14)::.a (.b (decide (y1_14<(36:Int))))::.a (.x)::.a (.x)::.a (.w 0)::.a (.i .i64 y1_14)::.a (.b ((spec_l01Is_v0 y1_14 a0)))::.a (.b ((!((spec_l01Is_v0 y1_14 a0)))))::.a (.w 0)::.a (.i .i64 y1_14)::.a (.i .i64 (((i64.wrap (a2+(i64.wrap (a3 - y0_11))))).tmod (2:Int)))::.a (.l 18)::xs 32 (.a (.u)::[])),[.row a0 37,.sp,.no,.no,.row r0_4 42,.no,.no,.no,.sl .own 1 (spl (repC (zc Try.prog 42) 1) 0 ((zc Try.prog 42).setIfInBounds ((a1).toNat*1) (.int .i64 1)).toList) 42,.sp,.no,.sl .own m0_9 y0_9 42,.no,.row r1_13 42,.no,.no,.no,.no,.sl .own ((nxL a0 y1_14 (((i64.wrap (a2+(i64.wrap (a3 - y0_11))))).tmod (2:Int))).length) (encI (nxL a0 y1_14 (((i64.wrap (a2+(i64.wrap (a3 - y0_11))))).tmod (2:Int)))) 2,.no],[13]⟩:St)
noncomputable def spec_l04Bounds_e2:Int×Array Value->LS
 |(y2_16,r2_13)=>([.a (.i .i64 y2_16)],[.row r2_13 42])
noncomputable def spec_l04Bounds_x2:Int×Array Value->Exit×LS
 |t=>((.exit 4),spec_l04Bounds_e2 t)
noncomputable def spec_l04Bounds_g2(P:Program)(a1 a2 a3:Int)(a0:Array Value)(y0_11:Int)(r0_4:Array Value)(m0_9:Nat)(y0_9:Array Value)(y1_14:Int)(r1_13:Array Value):Int×Array Value->Option (Stp (Int×Array Value) (Int×Array Value))
 |(y2_16,r2_13)=>bif decide (y2_16<(((nxL a0 y1_14 (((i64.wrap (a2+(i64.wrap (a3 - y0_11))))).tmod (2:Int))).length):Int)) then (bif (decide (0<=y1_14)&&decide (y1_14<36)) then (bif (decide (0<=y2_16)&&decide (y2_16<(((nxL a0 y1_14 (((i64.wrap (a2+(i64.wrap (a3 - y0_11))))).tmod (2:Int))).length):Int))) then (bif ((decide (0<=y1_14)&&decide (y1_14<36))&&(decide (0<=(((i64.wrap (a2+(i64.wrap (a3 - y0_11))))).tmod (2:Int)))&&decide ((((i64.wrap (a2+(i64.wrap (a3 - y0_11))))).tmod (2:Int))<2))) then (bif (decide (0<=y2_16)&&decide (y2_16<(((nxL a0 y1_14 (((i64.wrap (a2+(i64.wrap (a3 - y0_11))))).tmod (2:Int))).length):Int))) then (bif (decide (0<=(num (encI (nxL a0 y1_14 (((i64.wrap (a2+(i64.wrap (a3 - y0_11))))).tmod (2:Int)))) ((y2_16).toNat*1)))&&decide ((num (encI (nxL a0 y1_14 (((i64.wrap (a2+(i64.wrap (a3 - y0_11))))).tmod (2:Int)))) ((y2_16).toNat*1))<36)) then (bif (decide (0<=y1_14)&&decide (y1_14<36)) then (some (.more ((i64.wrap (y2_16+(1:Int))),(r2_13.setIfInBounds ((y1_14).toNat*1) (.int .i64 (spec_l00Max_v0 (num r2_13 ((y1_14).toNat*1)) (i64.wrap ((stepX a0 y1_14 (num (encI (nxL a0 y1_14 (((i64.wrap (a2+(i64.wrap (a3 - y0_11))))).tmod (2:Int)))) ((y2_16).toNat*1)) (((i64.wrap (a2+(i64.wrap (a3 - y0_11))))).tmod (2:Int)))*(num r0_4 ((num (encI (nxL a0 y1_14 (((i64.wrap (a2+(i64.wrap (a3 - y0_11))))).tmod (2:Int)))) ((y2_16).toNat*1)).toNat*1)))))))))) else (none)) else (none)) else (none)) else (none)) else (none)) else (none)) else (some (.done (y2_16,r2_13)))
theorem spec_l04Bounds_s2(N:Nat)(a1 a2 a3:Int)(a0:Array Value)(y0_11:Int)(r0_4:Array Value)(m0_9:Nat)(y0_9:Array Value)(y1_14:Int)(r1_13:Array Value):∀t:Int×Array Value,stepV Try.prog spec_l04Bounds_G N (cAt (codeOf Try.f42) [1,1,1,1,1,0,1,0,0,1,0,0,1,1,0,1,0,0,1,0,0,1,1,1,0,0]) (pAt (mkPlan (codeOf Try.f42) [([11],[4,1000009,42]),([14],[13]),([16],[13])]).1 [1,1,1,1,1,0,1,0,1,0,1,1,0,1,0,1,0,1,1,1,0]) [16] [13] (spec_l04Bounds_t2 a1 a2 a3 a0 y0_11 r0_4 m0_9 y0_9 y1_14 r1_13) (spec_l04Bounds_e2 t)=mapS spec_l04Bounds_e2 spec_l04Bounds_x2 (spec_l04Bounds_g2 Try.prog a1 a2 a3 a0 y0_11 r0_4 m0_9 y0_9 y1_14 r1_13 t):=by
 rintro⟨y2_16,r2_13⟩
 conv=>rhs;simp only[spec_l04Bounds_g2,mapS_cond,mapS_more,mapS_done,mapS_none,spec_l04Bounds_e2,spec_l04Bounds_x2]
 kernel_rfl
noncomputable def spec_l04Bounds_t1(a1 a2 a3:Int)(a0:Array Value)(y0_11:Int)(r0_4:Array Value)(m0_9:Nat)(y0_9:Array Value):St:=(⟨.a (.w 0)::.a (.i .i64 a1)::.a (.i .i64 a2)::.a (.i .i64 a3)::us 4 (.a (.v (.slice none 0 0))::.a (.l 11)::.a (.w 4)::.a (.i .i64 y0_11)::.a (.i .i64 (((i64.wrap (a2+(i64.wrap (a3 - y0_11))))).tmod (2:Int)))::.a (.w 13)::.a (.i .i64 0)::.a (.x)::.a (.x)::.a (.l 1)::.a (.g (zc Try.prog 42) 42)::.a (.i .i64 a1)::.a (.p 4 (((a1).toNat*1)) 2)::.a (.l 1)::.a (.g ((zc Try.prog 42).setIfInBounds ((a1).toNat*1) (.int .i64 1)) 42)::.a (.l 8)::.a (.l 9)::.a (.i .i64 y0_11)::.a (.i .i64 a3)::.a (.b (decide (y0_11<=a3)))::.a (.x)::.a (.x)::.a (.i .i64 a2)::.a (.i .i64 a3)::.a (.i .i64 y0_11)::.a (.i .i64 (i64.wrap (a3 - y0_11)))::.a (.i .i64 (((i64.wrap (a2+(i64.wrap (a3 - y0_11))))).tmod (2:Int)))::.a (.g (zc Try.prog 42) 42)::xs 44 (.a (.u)::[])),[.row a0 37,.sp,.no,.no,.row r0_4 42,.no,.no,.no,.sl .own 1 (spl (repC (zc Try.prog 42) 1) 0 ((zc Try.prog 42).setIfInBounds ((a1).toNat*1) (.int .i64 1)).toList) 42,.sp,.no,.sl .own m0_9 y0_9 42,.no,.row (zc Try.prog 42) 42,.no],[13,4,11]⟩:St)
noncomputable def spec_l04Bounds_e1:Int×Array Value->LS
 |(y1_14,r1_13)=>([.a (.i .i64 y1_14)],[.row r1_13 42])
noncomputable def spec_l04Bounds_x1:Int×Array Value->Exit×LS
 |t=>((.exit 2),spec_l04Bounds_e1 t)
noncomputable def spec_l04Bounds_k2_0(P:Program)(N:Nat)(a1 a2 a3:Int)(a0:Array Value)(y0_11:Int)(r0_4:Array Value)(m0_9:Nat)(y0_9:Array Value)(y1_14:Int)(r1_13:Array Value)(z2_16:Int)(q2_13:Array Value):Option (Stp (Int×Array Value) (Int×Array Value)):=some (.more ((i64.wrap (y1_14+(1:Int))),q2_13))
theorem spec_l04Bounds_k2_0_eq(N:Nat)(a1 a2 a3:Int)(a0:Array Value)(y0_11:Int)(r0_4:Array Value)(m0_9:Nat)(y0_9:Array Value)(y1_14:Int)(r1_13:Array Value)(z2_16:Int)(q2_13:Array Value):(kBlock 4 (kBlock 3 (kSeq (veC Try.prog spec_l04Bounds_G N (cAt (codeOf Try.f42) [1,1,1,1,1,0,1,0,0,1,0,0,1,1,0,1,0,0,1,1]) (pAt (mkPlan (codeOf Try.f42) [([11],[4,1000009,42]),([14],[13]),([16],[13])]).1 [1,1,1,1,1,0,1,0,1,0,1,1,0,1,0,1,1]) (Stp LS (Exit×LS))) (kBody 15 [14] [13])))) (.exit 4) (left (writes (cAt (codeOf Try.f42) [1,1,1,1,1,0,1,0,0,1,0,0,1,1,0,1,0,0,1,0,0,1,1,1,0,0])) [16] [13] (spec_l04Bounds_t2 a1 a2 a3 a0 y0_11 r0_4 m0_9 y0_9 y1_14 r1_13) ([.a (.i .i64 z2_16)],[.row q2_13 42]))=mapS spec_l04Bounds_e1 spec_l04Bounds_x1 (spec_l04Bounds_k2_0 Try.prog N a1 a2 a3 a0 y0_11 r0_4 m0_9 y0_9 y1_14 r1_13 z2_16 q2_13):=by
 conv=>rhs;simp only[spec_l04Bounds_k2_0,mapS_cond,mapS_more,mapS_done,mapS_none,spec_l04Bounds_e1,spec_l04Bounds_x1]
 kernel_rfl
theorem spec_l04Bounds_n2(N:Nat)(a1 a2 a3:Int)(a0:Array Value)(y0_11:Int)(r0_4:Array Value)(m0_9:Nat)(y0_9:Array Value)(y1_14:Int)(r1_13:Array Value):bindX (iterO (stepV Try.prog spec_l04Bounds_G N (cAt (codeOf Try.f42) [1,1,1,1,1,0,1,0,0,1,0,0,1,1,0,1,0,0,1,0,0,1,1,1,0,0]) (pAt (mkPlan (codeOf Try.f42) [([11],[4,1000009,42]),([14],[13]),([16],[13])]).1 [1,1,1,1,1,0,1,0,1,0,1,1,0,1,0,1,0,1,1,1,0]) [16] [13] (spec_l04Bounds_t2 a1 a2 a3 a0 y0_11 r0_4 m0_9 y0_9 y1_14 r1_13)) N ([.a (.i .i64 0)],[.row r1_13 42])) (λe s=>(kBlock 4 (kBlock 3 (kSeq (veC Try.prog spec_l04Bounds_G N (cAt (codeOf Try.f42) [1,1,1,1,1,0,1,0,0,1,0,0,1,1,0,1,0,0,1,1]) (pAt (mkPlan (codeOf Try.f42) [([11],[4,1000009,42]),([14],[13]),([16],[13])]).1 [1,1,1,1,1,0,1,0,1,0,1,1,0,1,0,1,1]) (Stp LS (Exit×LS))) (kBody 15 [14] [13])))) e (left (writes (cAt (codeOf Try.f42) [1,1,1,1,1,0,1,0,0,1,0,0,1,1,0,1,0,0,1,0,0,1,1,1,0,0])) [16] [13] (spec_l04Bounds_t2 a1 a2 a3 a0 y0_11 r0_4 m0_9 y0_9 y1_14 r1_13) s))=mapS spec_l04Bounds_e1 spec_l04Bounds_x1 (nodeX (iterO (spec_l04Bounds_g2 Try.prog a1 a2 a3 a0 y0_11 r0_4 m0_9 y0_9 y1_14 r1_13) N ((0:Int),r1_13)) (λx=>spec_l04Bounds_k2_0 Try.prog N a1 a2 a3 a0 y0_11 r0_4 m0_9 y0_9 y1_14 r1_13 x.1 x.2)):=by
 rw[mapS_nodeX spec_l04Bounds_e1 spec_l04Bounds_x1]
 first
 |(have h:=loop_node (α:=Stp LS (Exit×LS)) spec_l04Bounds_e2 spec_l04Bounds_x2 _ _ (spec_l04Bounds_s2 N a1 a2 a3 a0 y0_11 r0_4 m0_9 y0_9 y1_14 r1_13) N ((0:Int),r1_13);refine h _ _ ?_)
 |(have h:=loop_node (α:=Stp BS (Exit×BS)) spec_l04Bounds_e2 spec_l04Bounds_x2 _ _ (spec_l04Bounds_s2 N a1 a2 a3 a0 y0_11 r0_4 m0_9 y0_9 y1_14 r1_13) N ((0:Int),r1_13);refine h _ _ ?_)
 |(have h:=loop_node (α:=Stp LS ((Exit×LS)⊕(SV×Eff×Bool))) spec_l04Bounds_e2 spec_l04Bounds_x2 _ _ (spec_l04Bounds_s2 N a1 a2 a3 a0 y0_11 r0_4 m0_9 y0_9 y1_14 r1_13) N ((0:Int),r1_13);refine h _ _ ?_)
 intro x;exact spec_l04Bounds_k2_0_eq N a1 a2 a3 a0 y0_11 r0_4 m0_9 y0_9 y1_14 r1_13 x.1 x.2
noncomputable def spec_l04Bounds_g1(P:Program)(N:Nat)(a1 a2 a3:Int)(a0:Array Value)(y0_11:Int)(r0_4:Array Value)(m0_9:Nat)(y0_9:Array Value):Int×Array Value->Option (Stp (Int×Array Value) (Int×Array Value))
 |(y1_14,r1_13)=>bif decide (y1_14<(36:Int)) then (bif (!((spec_l01Is_v0 y1_14 a0))) then (some (.more ((i64.wrap (y1_14+(1:Int))),r1_13))) else (bif ((decide (0<=y1_14)&&decide (y1_14<36))&&(decide (0<=(((i64.wrap (a2+(i64.wrap (a3 - y0_11))))).tmod (2:Int)))&&decide ((((i64.wrap (a2+(i64.wrap (a3 - y0_11))))).tmod (2:Int))<2))) then (nodeX (iterO (spec_l04Bounds_g2 P a1 a2 a3 a0 y0_11 r0_4 m0_9 y0_9 y1_14 r1_13) N ((0:Int),r1_13)) (λx=>spec_l04Bounds_k2_0 P N a1 a2 a3 a0 y0_11 r0_4 m0_9 y0_9 y1_14 r1_13 x.1 x.2)) else (none))) else (some (.done (y1_14,r1_13)))
theorem spec_l04Bounds_s1(N:Nat)(a1 a2 a3:Int)(a0:Array Value)(y0_11:Int)(r0_4:Array Value)(m0_9:Nat)(y0_9:Array Value):∀t:Int×Array Value,stepV Try.prog spec_l04Bounds_G N (cAt (codeOf Try.f42) [1,1,1,1,1,0,1,0,0,1,0,0,1,1,0,1,0,0]) (pAt (mkPlan (codeOf Try.f42) [([11],[4,1000009,42]),([14],[13]),([16],[13])]).1 [1,1,1,1,1,0,1,0,1,0,1,1,0,1,0]) [14] [13] (spec_l04Bounds_t1 a1 a2 a3 a0 y0_11 r0_4 m0_9 y0_9) (spec_l04Bounds_e1 t)=mapS spec_l04Bounds_e1 spec_l04Bounds_x1 (spec_l04Bounds_g1 Try.prog N a1 a2 a3 a0 y0_11 r0_4 m0_9 y0_9 t):=by
 rintro⟨y1_14,r1_13⟩
 conv=>rhs;simp only[<- spec_l04Bounds_n2 N a1 a2 a3 a0 y0_11 r0_4 m0_9 y0_9 y1_14 r1_13,spec_l04Bounds_g1,mapS_cond,mapS_more,mapS_done,mapS_none,spec_l04Bounds_e1,spec_l04Bounds_x1]
 kernel_rfl
noncomputable def spec_l04Bounds_t0(a1 a2 a3:Int)(a0:Array Value):St:=(⟨.a (.w 0)::.a (.i .i64 a1)::.a (.i .i64 a2)::.a (.i .i64 a3)::us 4 (.a (.v (.slice none 0 0))::.a (.l 11)::.a (.w 4)::.a (.i .i64 1)::us 5 (.a (.l 1)::.a (.g (zc Try.prog 42) 42)::.a (.i .i64 a1)::.a (.p 4 (((a1).toNat*1)) 2)::.a (.l 1)::.a (.g ((zc Try.prog 42).setIfInBounds ((a1).toNat*1) (.int .i64 1)) 42)::.a (.l 8)::.a (.l 9)::us 56 ([]))),[.row a0 37,.sp,.no,.no,.row ((zc Try.prog 42).setIfInBounds ((a1).toNat*1) (.int .i64 1)) 42,.no,.no,.no,.sl .own 1 (spl (repC (zc Try.prog 42) 1) 0 ((zc Try.prog 42).setIfInBounds ((a1).toNat*1) (.int .i64 1)).toList) 42,.sp,.no,.sl .own 1 ((repC (zc Try.prog 42) 0)++(spl (repC (zc Try.prog 42) 1) 0 ((zc Try.prog 42).setIfInBounds ((a1).toNat*1) (.int .i64 1)).toList)) 42],[9,1,4,4]⟩:St)
noncomputable def spec_l04Bounds_e0:Int×Array Value×Nat×Array Value->LS
 |(y0_11,r0_4,m0_9,y0_9)=>([.a (.i .i64 y0_11),.a (.l 11)],[.row r0_4 42,.sl .own m0_9 y0_9 42])
noncomputable def spec_l04Bounds_x0:Int×Array Value×Nat×Array Value->Exit×LS
 |t=>((.exit 0),spec_l04Bounds_e0 t)
noncomputable def spec_l04Bounds_k1_0(P:Program)(N:Nat)(a1 a2 a3:Int)(a0:Array Value)(y0_11:Int)(r0_4:Array Value)(m0_9:Nat)(y0_9:Array Value)(z1_14:Int)(q1_13:Array Value):Option (Stp (Int×Array Value×Nat×Array Value) (Int×Array Value×Nat×Array Value)):=bif (Nat.ble ((m0_9+1)*bytesOf Try.prog 42) 140737488355328) then (some (.more ((i64.wrap (y0_11+(1:Int))),q1_13,(m0_9+1),(y0_9++(spl (repC (zc Try.prog 42) 1) 0 q1_13.toList))))) else (none)
theorem spec_l04Bounds_k1_0_eq(N:Nat)(a1 a2 a3:Int)(a0:Array Value)(y0_11:Int)(r0_4:Array Value)(m0_9:Nat)(y0_9:Array Value)(z1_14:Int)(q1_13:Array Value):(kBlock 2 (kSeq (veC Try.prog spec_l04Bounds_G N (cAt (codeOf Try.f42) [1,1,1,1,1,0,1,0,0,1,0,0,1,1,1]) (pAt (mkPlan (codeOf Try.f42) [([11],[4,1000009,42]),([14],[13]),([16],[13])]).1 [1,1,1,1,1,0,1,0,1,0,1,1,1]) (Stp LS (Exit×LS))) (kBlock 1 (kSeq (veC Try.prog spec_l04Bounds_G N (cAt (codeOf Try.f42) [1,1,1,1,1,0,1,0,0,1,1]) (pAt (mkPlan (codeOf Try.f42) [([11],[4,1000009,42]),([14],[13]),([16],[13])]).1 [1,1,1,1,1,0,1,0,1,1]) (Stp LS (Exit×LS))) (kBodyG 11 [11] [4] 9 42))))) (.exit 2) (left (writes (cAt (codeOf Try.f42) [1,1,1,1,1,0,1,0,0,1,0,0,1,1,0,1,0,0])) [14] [13] (spec_l04Bounds_t1 a1 a2 a3 a0 y0_11 r0_4 m0_9 y0_9) ([.a (.i .i64 z1_14)],[.row q1_13 42]))=mapS spec_l04Bounds_e0 spec_l04Bounds_x0 (spec_l04Bounds_k1_0 Try.prog N a1 a2 a3 a0 y0_11 r0_4 m0_9 y0_9 z1_14 q1_13):=by
 conv=>rhs;simp only[spec_l04Bounds_k1_0,mapS_cond,mapS_more,mapS_done,mapS_none,spec_l04Bounds_e0,spec_l04Bounds_x0]
 kernel_rfl
theorem spec_l04Bounds_n1(N:Nat)(a1 a2 a3:Int)(a0:Array Value)(y0_11:Int)(r0_4:Array Value)(m0_9:Nat)(y0_9:Array Value):bindX (iterO (stepV Try.prog spec_l04Bounds_G N (cAt (codeOf Try.f42) [1,1,1,1,1,0,1,0,0,1,0,0,1,1,0,1,0,0]) (pAt (mkPlan (codeOf Try.f42) [([11],[4,1000009,42]),([14],[13]),([16],[13])]).1 [1,1,1,1,1,0,1,0,1,0,1,1,0,1,0]) [14] [13] (spec_l04Bounds_t1 a1 a2 a3 a0 y0_11 r0_4 m0_9 y0_9)) N ([.a (.i .i64 0)],[.row (zc Try.prog 42) 42])) (λe s=>(kBlock 2 (kSeq (veC Try.prog spec_l04Bounds_G N (cAt (codeOf Try.f42) [1,1,1,1,1,0,1,0,0,1,0,0,1,1,1]) (pAt (mkPlan (codeOf Try.f42) [([11],[4,1000009,42]),([14],[13]),([16],[13])]).1 [1,1,1,1,1,0,1,0,1,0,1,1,1]) (Stp LS (Exit×LS))) (kBlock 1 (kSeq (veC Try.prog spec_l04Bounds_G N (cAt (codeOf Try.f42) [1,1,1,1,1,0,1,0,0,1,1]) (pAt (mkPlan (codeOf Try.f42) [([11],[4,1000009,42]),([14],[13]),([16],[13])]).1 [1,1,1,1,1,0,1,0,1,1]) (Stp LS (Exit×LS))) (kBodyG 11 [11] [4] 9 42))))) e (left (writes (cAt (codeOf Try.f42) [1,1,1,1,1,0,1,0,0,1,0,0,1,1,0,1,0,0])) [14] [13] (spec_l04Bounds_t1 a1 a2 a3 a0 y0_11 r0_4 m0_9 y0_9) s))=mapS spec_l04Bounds_e0 spec_l04Bounds_x0 (nodeX (iterO (spec_l04Bounds_g1 Try.prog N a1 a2 a3 a0 y0_11 r0_4 m0_9 y0_9) N ((0:Int),(zc Try.prog 42))) (λx=>spec_l04Bounds_k1_0 Try.prog N a1 a2 a3 a0 y0_11 r0_4 m0_9 y0_9 x.1 x.2)):=by
 rw[mapS_nodeX spec_l04Bounds_e0 spec_l04Bounds_x0]
 first
 |(have h:=loop_node (α:=Stp LS (Exit×LS)) spec_l04Bounds_e1 spec_l04Bounds_x1 _ _ (spec_l04Bounds_s1 N a1 a2 a3 a0 y0_11 r0_4 m0_9 y0_9) N ((0:Int),(zc Try.prog 42));refine h _ _ ?_)
 |(have h:=loop_node (α:=Stp BS (Exit×BS)) spec_l04Bounds_e1 spec_l04Bounds_x1 _ _ (spec_l04Bounds_s1 N a1 a2 a3 a0 y0_11 r0_4 m0_9 y0_9) N ((0:Int),(zc Try.prog 42));refine h _ _ ?_)
 |(have h:=loop_node (α:=Stp LS ((Exit×LS)⊕(SV×Eff×Bool))) spec_l04Bounds_e1 spec_l04Bounds_x1 _ _ (spec_l04Bounds_s1 N a1 a2 a3 a0 y0_11 r0_4 m0_9 y0_9) N ((0:Int),(zc Try.prog 42));refine h _ _ ?_)
 intro x;exact spec_l04Bounds_k1_0_eq N a1 a2 a3 a0 y0_11 r0_4 m0_9 y0_9 x.1 x.2
noncomputable def spec_l04Bounds_g0(P:Program)(N:Nat)(a1 a2 a3:Int)(a0:Array Value):Int×Array Value×Nat×Array Value->Option (Stp (Int×Array Value×Nat×Array Value) (Int×Array Value×Nat×Array Value))
 |(y0_11,r0_4,m0_9,y0_9)=>bif decide (y0_11<=a3) then (nodeX (iterO (spec_l04Bounds_g1 P N a1 a2 a3 a0 y0_11 r0_4 m0_9 y0_9) N ((0:Int),(zc Try.prog 42))) (λx=>spec_l04Bounds_k1_0 P N a1 a2 a3 a0 y0_11 r0_4 m0_9 y0_9 x.1 x.2)) else (some (.done (y0_11,r0_4,m0_9,y0_9)))
theorem spec_l04Bounds_s0(N:Nat)(a1 a2 a3:Int)(a0:Array Value):∀t:Int×Array Value×Nat×Array Value,stepVG Try.prog spec_l04Bounds_G N (cAt (codeOf Try.f42) [1,1,1,1,1,0,1,0,0]) (pAt (mkPlan (codeOf Try.f42) [([11],[4,1000009,42]),([14],[13]),([16],[13])]).1 [1,1,1,1,1,0,1,0]) [11] [4] 9 42 11 (spec_l04Bounds_t0 a1 a2 a3 a0) (spec_l04Bounds_e0 t)=mapS spec_l04Bounds_e0 spec_l04Bounds_x0 (spec_l04Bounds_g0 Try.prog N a1 a2 a3 a0 t):=by
 rintro⟨y0_11,r0_4,m0_9,y0_9⟩
 conv=>rhs;simp only[<- spec_l04Bounds_n1 N a1 a2 a3 a0 y0_11 r0_4 m0_9 y0_9,spec_l04Bounds_g0,mapS_cond,mapS_more,mapS_done,mapS_none,spec_l04Bounds_e0,spec_l04Bounds_x0]
 kernel_rfl
noncomputable def spec_l04Bounds_k0_0(P:Program)(N:Nat)(a1 a2 a3:Int)(a0:Array Value)(z0_11:Int)(q0_4:Array Value)(p0_9:Nat)(z0_9:Array Value):Option (SV×Eff×Bool):=some (.a .x,.newS none p0_9 z0_9 42,true)
theorem spec_l04Bounds_k0_0_eq(N:Nat)(a1 a2 a3:Int)(a0:Array Value)(z0_11:Int)(q0_4:Array Value)(p0_9:Nat)(z0_9:Array Value):(kBlock 0 (kSeq (veC Try.prog spec_l04Bounds_G N (cAt (codeOf Try.f42) [1,1,1,1,1,1]) (pAt (mkPlan (codeOf Try.f42) [([11],[4,1000009,42]),([14],[13]),([16],[13])]).1 [1,1,1,1,1,1]) (SV×Eff×Bool)) (finK Try.prog [.row a0 37] [.tmp 8]))) (.exit 0) (left (writes (cAt (codeOf Try.f42) [1,1,1,1,1,0,1,0,0])) [11,9] [4,11] (spec_l04Bounds_t0 a1 a2 a3 a0) ([.a (.i .i64 z0_11),.a (.l 11)],[.row q0_4 42,.sl .own p0_9 z0_9 42]))=spec_l04Bounds_k0_0 Try.prog N a1 a2 a3 a0 z0_11 q0_4 p0_9 z0_9:=by kernel_rfl
theorem spec_l04Bounds_n0(N:Nat)(a1 a2 a3:Int)(a0:Array Value):bindX (iterO (stepVG Try.prog spec_l04Bounds_G N (cAt (codeOf Try.f42) [1,1,1,1,1,0,1,0,0]) (pAt (mkPlan (codeOf Try.f42) [([11],[4,1000009,42]),([14],[13]),([16],[13])]).1 [1,1,1,1,1,0,1,0]) [11] [4] 9 42 11 (spec_l04Bounds_t0 a1 a2 a3 a0)) N ([.a (.i .i64 1),.a (.l 11)],[.row ((zc Try.prog 42).setIfInBounds ((a1).toNat*1) (.int .i64 1)) 42,.sl .own 1 ((repC (zc Try.prog 42) 0)++(spl (repC (zc Try.prog 42) 1) 0 ((zc Try.prog 42).setIfInBounds ((a1).toNat*1) (.int .i64 1)).toList)) 42])) (λe s=>(kBlock 0 (kSeq (veC Try.prog spec_l04Bounds_G N (cAt (codeOf Try.f42) [1,1,1,1,1,1]) (pAt (mkPlan (codeOf Try.f42) [([11],[4,1000009,42]),([14],[13]),([16],[13])]).1 [1,1,1,1,1,1]) (SV×Eff×Bool)) (finK Try.prog [.row a0 37] [.tmp 8]))) e (left (writes (cAt (codeOf Try.f42) [1,1,1,1,1,0,1,0,0])) [11,9] [4,11] (spec_l04Bounds_t0 a1 a2 a3 a0) s))=nodeX (iterO (spec_l04Bounds_g0 Try.prog N a1 a2 a3 a0) N ((1:Int),((zc Try.prog 42).setIfInBounds ((a1).toNat*1) (.int .i64 1)),1,((repC (zc Try.prog 42) 0)++(spl (repC (zc Try.prog 42) 1) 0 ((zc Try.prog 42).setIfInBounds ((a1).toNat*1) (.int .i64 1)).toList)))) (λx=>spec_l04Bounds_k0_0 Try.prog N a1 a2 a3 a0 x.1 x.2.1 x.2.2.1 x.2.2.2):=by refine loop_node spec_l04Bounds_e0 spec_l04Bounds_x0 _ _ (spec_l04Bounds_s0 N a1 a2 a3 a0) N ((1:Int),((zc Try.prog 42).setIfInBounds ((a1).toNat*1) (.int .i64 1)),1,((repC (zc Try.prog 42) 0)++(spl (repC (zc Try.prog 42) 1) 0 ((zc Try.prog 42).setIfInBounds ((a1).toNat*1) (.int .i64 1)).toList))) _ _ ?_;intro x;exact spec_l04Bounds_k0_0_eq N a1 a2 a3 a0 x.1 x.2.1 x.2.2.1 x.2.2.2
theorem spec_l04Bounds_ans(N:Nat)(a1 a2 a3:Int)(a0:Array Value):ansV Try.prog spec_l04Bounds_G N Try.f42 [([11],[4,1000009,42]),([14],[13]),([16],[13])] [.w 0,.i .i64 a1,.i .i64 a2,.i .i64 a3] [.row a0 37]=(bif (decide (0<=a1)&&decide (a1<36)) then (nodeX (iterO (spec_l04Bounds_g0 Try.prog N a1 a2 a3 a0) N ((1:Int),((zc Try.prog 42).setIfInBounds ((a1).toNat*1) (.int .i64 1)),1,((repC (zc Try.prog 42) 0)++(spl (repC (zc Try.prog 42) 1) 0 ((zc Try.prog 42).setIfInBounds ((a1).toNat*1) (.int .i64 1)).toList)))) (λx=>spec_l04Bounds_k0_0 Try.prog N a1 a2 a3 a0 x.1 x.2.1 x.2.2.1 x.2.2.2)) else (none)):=by
 conv=>rhs;simp only[<- spec_l04Bounds_n0 N a1 a2 a3 a0]
 kernel_rfl
theorem spec_l04Bounds_in{a0:Array Value}(a1 a2 a3  y:Int)(L:Array Value)(m0:Nat)(y9:Array Value)(hT:(decide (0<=((i64.wrap (a2+i64.wrap (a3 - y))).tmod 2))&&decide (((i64.wrap (a2+i64.wrap (a3 - y))).tmod 2)<2))=true){k:Nat}(hk:k<36)(r1 r:Array Value){b:Int}(hr:r.size=36)(hb:r[k]?=some (.int .i64 b)):
  iterO (spec_l04Bounds_g2 Try.prog a1 a2 a3 a0 y L m0 y9 (k:Int) r1) 1000 ((0:Int),r)=some ((((nxL a0 (k:Int) ((i64.wrap (a2+i64.wrap (a3 - y))).tmod 2)).length:Nat):Int),r.setIfInBounds (k*1) (.int .i64 ((nxL a0 (k:Int) ((i64.wrap (a2+i64.wrap (a3 - y))).tmod 2)).foldl (mxS a0 L ((i64.wrap (a2+i64.wrap (a3 - y))).tmod 2) k) b))):=by
 generalize hTT:((i64.wrap (a2+i64.wrap (a3 - y))).tmod 2)=T at *;have hkk:=dec2 (a:=(k:Int)) (b:=36) (by omega) (by omega);have h:=iter_all (g:=spec_l04Bounds_g2 Try.prog a1 a2 a3 a0 y L m0 y9 (k:Int) r1) (λi=>((i:Int),r.setIfInBounds (k*1) (.int .i64 (((nxL a0 (k:Int) T).take i).foldl (mxS a0 L T k) b)))) (m:=(nxL a0 (k:Int) T).length) (x:=((((nxL a0 (k:Int) T).length:Nat):Int),r.setIfInBounds (k*1) (.int .i64 ((nxL a0 (k:Int) T).foldl (mxS a0 L T k) b)))) (N:=1000) (λi hi=>by
  have hl:=nx_len a0 (k:Int) T;have h1:decide ((i:Int)<(((nxL a0 (k:Int) T).length:Nat):Int))=true:=decide_eq_true (by omega);have h0:=dec2 (a:=(i:Int)) (b:=(((nxL a0 (k:Int) T).length:Nat):Int)) (by omega) (by omega);have h3:i64.wrap ((i:Int)+1)=((i+1:Nat):Int):=by rw[w64 (by omega)];omega
  have h4:=encI_num hi;have h5:=nx_lt hi;have h6:=dec2 (a:=(((nxL a0 (k:Int) T)[i]:Nat):Int)) (b:=36) (by omega) (by omega);simp only[spec_l04Bounds_g2,hTT,h1,h0,h3,h4,h6,hkk,hT,Int.toNat_natCast,Bool.and_self,cond_true,set_set];rw[num_set (by omega),take_fold _ _ hi];rfl) (by
  have h1:decide ((((nxL a0 (k:Int) T).length:Nat):Int)<(((nxL a0 (k:Int) T).length:Nat):Int))=false:=decide_eq_false (by omega);simp only[spec_l04Bounds_g2,hTT,h1,cond_false,List.take_length]) (by have:=nx_len a0 (k:Int) T;omega)
 have e:r.setIfInBounds (k*1) (.int .i64 b)=r:=by rw[Nat.mul_one];exact set_same hb
 simp only[List.take_zero,List.foldl_nil,e]at h;exact h
theorem spec_l04Bounds_row{a0:Array Value}(hS:WT Try.prog 37 a0)(h0:1<=num a0 0/\num a0 0<=6/\1<=num a0 1/\num a0 1<=6)(a1 a2 a3  y:Int)(L:Array Value)(m0:Nat)(y9:Array Value)(hT:(decide (0<=((i64.wrap (a2+i64.wrap (a3 - y))).tmod 2))&&decide (((i64.wrap (a2+i64.wrap (a3 - y))).tmod 2)<2))=true):
  iterO (spec_l04Bounds_g1 Try.prog 1000 a1 a2 a3 a0 y L m0 y9) 1000 ((0:Int),zc Try.prog 42)=some ((36:Int),rowF Try.prog lkM a0 L ((i64.wrap (a2+i64.wrap (a3 - y))).tmod 2)):=by
 refine iter_folds (g:=spec_l04Bounds_g1 Try.prog 1000 a1 a2 a3 a0 y L m0 y9) (λr k=>((k:Int),r)) (λr k=>if inC (num a0 0) (num a0 1) k then r.setIfInBounds (k*1) (.int .i64 (lkM (stL a0 ((i64.wrap (a2+i64.wrap (a3 - y))).tmod 2) k) L)) else r) (m:=36) (t:=zc Try.prog 42) (N:=1000) (λk s hk hs=> ?_) (by
  have h1:decide (((36:Nat):Int)<36)=false:=by decide
  simp only[spec_l04Bounds_g1,h1,cond_false];rfl) (by omega)
 have h1:decide ((k:Int)<36)=true:=decide_eq_true (by omega);have h3:i64.wrap ((k:Int)+1)=((k+1:Nat):Int):=by rw[w64 (by omega)];omega
 have h00:decide (0<=(k:Int))=true:=decide_eq_true (by omega);obtain⟨z1,z2⟩:=fold_zero lkM a0 L ((i64.wrap (a2+i64.wrap (a3 - y))).tmod 2) k (by omega);rw[<- hs]at z1 z2;have z3:=z2 k (Nat.le_refl _) hk;have hin:=spec_l04Bounds_in (a0:=a0) a1 a2 a3  y L m0 y9 hT hk s s z1 z3;cases hi:inC (num a0 0) (num a0 1) k with|false=>simp only[spec_l04Bounds_g1,h1,h3,is_inC hS hk,hi,Bool.not_false,cond_true,if_false,Bool.false_eq_true]|true=>simp only[spec_l04Bounds_g1,h1,h3,is_inC hS hk,hi,h00,hT,Bool.and_self,Bool.not_true,cond_true,cond_false,hin,nodeX,spec_l04Bounds_k2_0,if_true];rw[val_mx hS h0 hk hi]
theorem spec_l04Bounds_main(a1 a2 a3:Int)(a0:Array Value)(h_a1:i64.min<=a1/\a1<=i64.max)(h_a2:i64.min<=a2/\a2<=i64.max)(h_a3:i64.min<=a3/\a3<=i64.max)(h_a0:WT Try.prog 37 a0)(hg:((impl_boundsFor_gd a0 a1 a2 a3))=true):ansV Try.prog spec_l04Bounds_G 1000 Try.f42 [([11],[4,1000009,42]),([14],[13]),([16],[13])] [.w 0,.i .i64 a1,.i .i64 a2,.i .i64 a3] [.row a0 37]=some (.a .x,.newS none (a3.toNat+1) (catR Try.prog lkM a0 (impl_onlyAt_v0 Try.prog a1) a2 a3 (a3.toNat+1)) 42,true):=by
 have hc:(decide (0<=a1)&&decide (a1<36))=true:=by unfold impl_boundsFor_gd at hg;cases h:(decide (0<=a1)&&decide (a1<36)) with|true=>rfl|false=>rw[h]at hg;cases hg
 unfold impl_boundsFor_gd at hg;rw[hc,cond_true,Bool.and_eq_true,Bool.and_eq_true (decide (0<=a3))]at hg;obtain⟨hg,hh0,hh1⟩:=hg;have hh:0<=a3/\a3<=14:=⟨of_decide_eq_true hh0,of_decide_eq_true hh1⟩;have hok:=hg;rw[Bool.and_eq_true,Bool.and_eq_true]at hok;have hb:0<=a2/\a2<2:=⟨of_decide_eq_true hok.2.1,of_decide_eq_true hok.2.2⟩;have h0:=okS_dims hok.1;obtain⟨m,rfl⟩:∃m:Nat,a3=(m:Int):=⟨a3.toNat,by omega⟩;refine(spec_l04Bounds_ans 1000 a1 a2 (m:Int) a0).trans ?_;have e0:(zc Try.prog 42).setIfInBounds (a1.toNat*1) (.int .i64 1)=impl_onlyAt_v0 Try.prog a1:=rfl;have hL:(impl_onlyAt_v0 Try.prog a1).size=36:=by unfold impl_onlyAt_v0;rw[Array.size_setIfInBounds,zc_row]
 rw[hc,cond_true,e0,one_row Try.prog 42 (by rw[hL,zc_row]),Int.toNat_natCast];generalize impl_onlyAt_v0 Try.prog a1=L at hL|-
 have h:=iter_all (g:=spec_l04Bounds_g0 Try.prog 1000 a1 a2 (m:Int) a0) (λj=>(((1+j:Nat):Int),rowR Try.prog lkM a0 L a2 (m:Int) j,1+j,catR Try.prog lkM a0 L a2 (m:Int) (1+j))) (m:=m) (x:=(((1+m:Nat):Int),rowR Try.prog lkM a0 L a2 (m:Int) m,1+m,catR Try.prog lkM a0 L a2 (m:Int) (1+m))) (N:=1000) (λj hj=>by
  have h1:decide (((1+j:Nat):Int)<=(m:Int))=true:=decide_eq_true (by omega);have h3:i64.wrap (((1+j:Nat):Int)+1)=((1+(j+1):Nat):Int):=by rw[w64 (by omega)];omega
  have h5:=tide_in (b:=a2) (h:=(m:Int) - ((1+j:Nat):Int)) hb (by omega);have h6:Nat.ble ((1+j+1)*bytesOf Try.prog 42) 140737488355328=true:=Nat.ble_eq_true_of_le (by rw[bytes_row];omega);have h7:=spec_l04Bounds_row h_a0 h0 a1 a2 (m:Int) ((1+j:Nat):Int) (rowR Try.prog lkM a0 L a2 (m:Int) j) (1+j) (catR Try.prog lkM a0 L a2 (m:Int) (1+j)) h5;simp only[spec_l04Bounds_g0,h1,cond_true,h7,nodeX,spec_l04Bounds_k1_0,h6,h3];rw[one_row Try.prog 42 (by rw[rowF_size,zc_row])];rw[show 1+(j+1)=(1+j)+1 by omega,catR,show 1+j=j+1 by omega,rowR]) (by
  have h1:decide (((1+m:Nat):Int)<=(m:Int))=false:=decide_eq_false (by omega);simp only[spec_l04Bounds_g0,h1,cond_false]) (by omega)
 have hc1:catR Try.prog lkM a0 L a2 (m:Int) 1=L:=by rw[catR,catR,rowR];simp
 have hc2:repC (zc Try.prog 42) 0++L=L:=by unfold repC repL;simp
 have h':iterO (spec_l04Bounds_g0 Try.prog 1000 a1 a2 (m:Int) a0) 1000 ((1:Int),L,1,L)=some (((1+m:Nat):Int),rowR Try.prog lkM a0 L a2 (m:Int) m,1+m,catR Try.prog lkM a0 L a2 (m:Int) (1+m)):=by have h2:=h;simp only[Nat.add_zero,hc1,rowR]at h2;exact h2
 rw[hc2,h',show 1+m=m+1 by omega];rfl
noncomputable def spec_l04Bounds_con:Con:=λargs h=>match args,h with|[.w 0,.i .i64 a1,.i .i64 a2,.i .i64 a3],[.row a0 37]=>some (.a .x,.newS none (a3.toNat+1) (catR Try.prog lkM a0 (impl_onlyAt_v0 Try.prog a1) a2 a3 (a3.toNat+1)) 42,(impl_boundsFor_gd a0 a1 a2 a3))|_,_=>none
theorem spec_l04Bounds_enter:EntX Try.prog 42:=entX_ok (fn:=Try.f42) (by kernel_rfl) (by kernel_rfl) (by kernel_rfl)
theorem spec_l04Bounds_ok:ConOkX mn Try.prog 42 spec_l04Bounds_con:=(ansX_ok (N:=1000) (by kernel_rfl) (mKc (con_okX spec_l04Tide_ok) spec_l04Tide_enter (mKc (con_okX spec_l04Next_ok) spec_l04Next_enter (mKc (con_okX spec_l04Step_ok) spec_l04Step_enter (mKc (con_okX spec_l01Is_ok) spec_l01Is_enter (mKc (con_okX spec_l00Max_ok) spec_l00Max_enter mKn))))) (fn:=Try.f42) (by kernel_rfl) (by kernel_rfl) [([11],[4,1000009,42]),([14],[13]),([16],[13])]).of (by
 intro ρ h w args vals r e hA hH hr;unfold spec_l04Bounds_con at hr;split at hr
 ·rename_i a1 a2 a3 a0;obtain⟨rfl,hg⟩:=Prod.mk.inj (Option.some.inj hr);obtain⟨rfl,hg2⟩:=Prod.mk.inj hg;exact spec_l04Bounds_main a1 a2 a3 a0 (hA.rng 1 rfl) (hA.rng 2 rfl) (hA.rng 3 rfl) (hH.wt 0 rfl) hg2
 ·cases hr)
end
end Go.Proofs.Ytnhilgpdgicgfaa
