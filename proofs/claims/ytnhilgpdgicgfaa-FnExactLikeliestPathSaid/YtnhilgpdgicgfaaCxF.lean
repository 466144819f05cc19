/- Where the ways of a cell lead, in company. -/
import Derived.Test.YtnhilgpdgicgfaaProg
import Derived.Test.YtnhilgpdgicgfaaCxE
namespace Go.Proofs.Ytnhilgpdgicgfaa
open Go.ChangeShapes Go.WideShapes Go.ChangeAt Go.RowKit Ve Vc
open IntKind (i64)
set_option linter.unusedVariables false
set_option linter.unusedSimpArgs false
set_option maxRecDepth 100000
noncomputable section
variable {mn:Md}
theorem spec_l01Goes_ans(N:Nat)(a1 a2:Int)(a0:Array Value):ansV Try.prog (mkΓ [(39,con spec_l00In_con)]) N Try.f64 [] [.w 0,.i .i64 a1,.i .i64 a2] [.row a0 37]=(bif (a2==(1:Int)) then (bif (!((spec_l00In_v0 ((a1).tmod (6:Int)) (0:Int) (i64.wrap ((i64.wrap (num a0 0)) - (1:Int)))))) then (some (.a (.i .i64 (-1:Int)),.none,true)) else (bif (!((spec_l00In_v0 (i64.wrap ((i64.wrap ((a1).tdiv (6:Int))) - (1:Int))) (0:Int) (i64.wrap ((i64.wrap (num a0 1)) - (1:Int)))))) then (some (.a (.i .i64 (-1:Int)),.none,true)) else (some (.a (.i .i64 (i64.wrap (((a1).tmod (6:Int))+(i64.wrap ((6:Int)*(i64.wrap ((i64.wrap ((a1).tdiv (6:Int))) - (1:Int)))))))),.none,true)))) else (bif (a2==(2:Int)) then (bif (!((spec_l00In_v0 (i64.wrap (((a1).tmod (6:Int))+(1:Int))) (0:Int) (i64.wrap ((i64.wrap (num a0 0)) - (1:Int)))))) then (some (.a (.i .i64 (-1:Int)),.none,true)) else (bif (!((spec_l00In_v0 (i64.wrap ((a1).tdiv (6:Int))) (0:Int) (i64.wrap ((i64.wrap (num a0 1)) - (1:Int)))))) then (some (.a (.i .i64 (-1:Int)),.none,true)) else (some (.a (.i .i64 (i64.wrap ((i64.wrap (((a1).tmod (6:Int))+(1:Int)))+(i64.wrap ((6:Int)*(i64.wrap ((a1).tdiv (6:Int)))))))),.none,true)))) else (bif (a2==(3:Int)) then (bif (!((spec_l00In_v0 ((a1).tmod (6:Int)) (0:Int) (i64.wrap ((i64.wrap (num a0 0)) - (1:Int)))))) then (some (.a (.i .i64 (-1:Int)),.none,true)) else (bif (!((spec_l00In_v0 (i64.wrap ((i64.wrap ((a1).tdiv (6:Int)))+(1:Int))) (0:Int) (i64.wrap ((i64.wrap (num a0 1)) - (1:Int)))))) then (some (.a (.i .i64 (-1:Int)),.none,true)) else (some (.a (.i .i64 (i64.wrap (((a1).tmod (6:Int))+(i64.wrap ((6:Int)*(i64.wrap ((i64.wrap ((a1).tdiv (6:Int)))+(1:Int)))))))),.none,true)))) else (bif (a2==(4:Int)) then (bif (!((spec_l00In_v0 (i64.wrap (((a1).tmod (6:Int)) - (1:Int))) (0:Int) (i64.wrap ((i64.wrap (num a0 0)) - (1:Int)))))) then (some (.a (.i .i64 (-1:Int)),.none,true)) else (bif (!((spec_l00In_v0 (i64.wrap ((a1).tdiv (6:Int))) (0:Int) (i64.wrap ((i64.wrap (num a0 1)) - (1:Int)))))) then (some (.a (.i .i64 (-1:Int)),.none,true)) else (some (.a (.i .i64 (i64.wrap ((i64.wrap (((a1).tmod (6:Int)) - (1:Int)))+(i64.wrap ((6:Int)*(i64.wrap ((a1).tdiv (6:Int)))))))),.none,true)))) else (bif (!((spec_l00In_v0 ((a1).tmod (6:Int)) (0:Int) (i64.wrap ((i64.wrap (num a0 0)) - (1:Int)))))) then (some (.a (.i .i64 (-1:Int)),.none,true)) else (bif (!((spec_l00In_v0 (i64.wrap ((a1).tdiv (6:Int))) (0:Int) (i64.wrap ((i64.wrap (num a0 1)) - (1:Int)))))) then (some (.a (.i .i64 (-1:Int)),.none,true)) else (some (.a (.i .i64 (i64.wrap (((a1).tmod (6:Int))+(i64.wrap ((6:Int)*(i64.wrap ((a1).tdiv (6:Int)))))))),.none,true)))))))):=by kernel_rfl
noncomputable def spec_l01Goes_v0(a1 a2:Int)(a0:Array Value):Int:=(bif (a2==(1:Int)) then (bif (!((spec_l00In_v0 ((a1).tmod (6:Int)) (0:Int) (i64.wrap ((i64.wrap (num a0 0)) - (1:Int)))))) then (-1:Int) else (bif (!((spec_l00In_v0 (i64.wrap ((i64.wrap ((a1).tdiv (6:Int))) - (1:Int))) (0:Int) (i64.wrap ((i64.wrap (num a0 1)) - (1:Int)))))) then (-1:Int) else (i64.wrap (((a1).tmod (6:Int))+(i64.wrap ((6:Int)*(i64.wrap ((i64.wrap ((a1).tdiv (6:Int))) - (1:Int))))))))) else (bif (a2==(2:Int)) then (bif (!((spec_l00In_v0 (i64.wrap (((a1).tmod (6:Int))+(1:Int))) (0:Int) (i64.wrap ((i64.wrap (num a0 0)) - (1:Int)))))) then (-1:Int) else (bif (!((spec_l00In_v0 (i64.wrap ((a1).tdiv (6:Int))) (0:Int) (i64.wrap ((i64.wrap (num a0 1)) - (1:Int)))))) then (-1:Int) else (i64.wrap ((i64.wrap (((a1).tmod (6:Int))+(1:Int)))+(i64.wrap ((6:Int)*(i64.wrap ((a1).tdiv (6:Int))))))))) else (bif (a2==(3:Int)) then (bif (!((spec_l00In_v0 ((a1).tmod (6:Int)) (0:Int) (i64.wrap ((i64.wrap (num a0 0)) - (1:Int)))))) then (-1:Int) else (bif (!((spec_l00In_v0 (i64.wrap ((i64.wrap ((a1).tdiv (6:Int)))+(1:Int))) (0:Int) (i64.wrap ((i64.wrap (num a0 1)) - (1:Int)))))) then (-1:Int) else (i64.wrap (((a1).tmod (6:Int))+(i64.wrap ((6:Int)*(i64.wrap ((i64.wrap ((a1).tdiv (6:Int)))+(1:Int))))))))) else (bif (a2==(4:Int)) then (bif (!((spec_l00In_v0 (i64.wrap (((a1).tmod (6:Int)) - (1:Int))) (0:Int) (i64.wrap ((i64.wrap (num a0 0)) - (1:Int)))))) then (-1:Int) else (bif (!((spec_l00In_v0 (i64.wrap ((a1).tdiv (6:Int))) (0:Int) (i64.wrap ((i64.wrap (num a0 1)) - (1:Int)))))) then (-1:Int) else (i64.wrap ((i64.wrap (((a1).tmod (6:Int)) - (1:Int)))+(i64.wrap ((6:Int)*(i64.wrap ((a1).tdiv (6:Int))))))))) else (bif (!((spec_l00In_v0 ((a1).tmod (6:Int)) (0:Int) (i64.wrap ((i64.wrap (num a0 0)) - (1:Int)))))) then (-1:Int) else (bif (!((spec_l00In_v0 (i64.wrap ((a1).tdiv (6:Int))) (0:Int) (i64.wrap ((i64.wrap (num a0 1)) - (1:Int)))))) then (-1:Int) else (i64.wrap (((a1).tmod (6:Int))+(i64.wrap ((6:Int)*(i64.wrap ((a1).tdiv (6:Int)))))))))))))
theorem spec_l01Goes_main(a1 a2:Int)(a0:Array Value)(h_a1:i64.min<=a1/\a1<=i64.max)(h_a2:i64.min<=a2/\a2<=i64.max)(h_a0:WT Try.prog 37 a0)(hg:(true)=true):ansV Try.prog (mkΓ [(39,con spec_l00In_con)]) 1000 Try.f64 [] [.w 0,.i .i64 a1,.i .i64 a2] [.row a0 37]=some (.a (.i .i64 (spec_l01Goes_v0 a1 a2 a0)),.none,true):=by
 refine(spec_l01Goes_ans 1000 a1 a2 a0).trans ?_;unfold spec_l01Goes_v0;revert hg;generalize ((a2==(1:Int)))=b2;intro hg;cases b2
 ·skip
  revert hg;generalize ((a2==(2:Int)))=b4;intro hg;cases b4
  ·skip
   revert hg;generalize ((a2==(3:Int)))=b6;intro hg;cases b6
   ·skip
    revert hg;generalize ((a2==(4:Int)))=b8;intro hg;cases b8
    ·skip
     revert hg;generalize ((!((spec_l00In_v0 ((a1).tmod (6:Int)) (0:Int) (i64.wrap ((i64.wrap (num a0 0)) - (1:Int)))))))=b10;intro hg;cases b10
     ·skip
      revert hg;generalize ((!((spec_l00In_v0 (i64.wrap ((a1).tdiv (6:Int))) (0:Int) (i64.wrap ((i64.wrap (num a0 1)) - (1:Int)))))))=b12;intro hg;cases b12
      ·skip
       first | (simp only[cond_true,cond_false,Bool.and_true,Bool.true_and,Bool.and_false,Bool.false_and];done)|rfl|exact(nomatch (hg:false=true))
      ·skip
       first | (simp only[cond_true,cond_false,Bool.and_true,Bool.true_and,Bool.and_false,Bool.false_and];done)|rfl|exact(nomatch (hg:false=true))
     ·skip
      first | (simp only[cond_true,cond_false,Bool.and_true,Bool.true_and,Bool.and_false,Bool.false_and];done)|rfl|exact(nomatch (hg:false=true))
    ·skip
     revert hg;generalize ((!((spec_l00In_v0 (i64.wrap (((a1).tmod (6:Int)) - (1:Int))) (0:Int) (i64.wrap ((i64.wrap (num a0 0)) - (1:Int)))))))=b10;intro hg;cases b10
     ·skip
      revert hg;generalize ((!((spec_l00In_v0 (i64.wrap ((a1).tdiv (6:Int))) (0:Int) (i64.wrap ((i64.wrap (num a0 1)) - (1:Int)))))))=b12;intro hg;cases b12
      ·skip
       first | (simp only[cond_true,cond_false,Bool.and_true,Bool.true_and,Bool.and_false,Bool.false_and];done)|rfl|exact(nomatch (hg:false=true))
      ·skip
       first | (simp only[cond_true,cond_false,Bool.and_true,Bool.true_and,Bool.and_false,Bool.false_and];done)|rfl|exact(nomatch (hg:false=true))
     ·skip
      first | (simp only[cond_true,cond_false,Bool.and_true,Bool.true_and,Bool.and_false,Bool.false_and];done)|rfl|exact(nomatch (hg:false=true))
   ·skip
    revert hg;generalize ((!((spec_l00In_v0 ((a1).tmod (6:Int)) (0:Int) (i64.wrap ((i64.wrap (num a0 0)) - (1:Int)))))))=b8;intro hg;cases b8
    ·skip
     revert hg;generalize ((!((spec_l00In_v0 (i64.wrap ((i64.wrap ((a1).tdiv (6:Int)))+(1:Int))) (0:Int) (i64.wrap ((i64.wrap (num a0 1)) - (1:Int)))))))=b10;intro hg;cases b10
     ·skip
      first | (simp only[cond_true,cond_false,Bool.and_true,Bool.true_and,Bool.and_false,Bool.false_and];done)|rfl|exact(nomatch (hg:false=true))
     ·skip
      first | (simp only[cond_true,cond_false,Bool.and_true,Bool.true_and,Bool.and_false,Bool.false_and];done)|rfl|exact(nomatch (hg:false=true))
    ·skip
     first | (simp only[cond_true,cond_false,Bool.and_true,Bool.true_and,Bool.and_false,Bool.false_and];done)|rfl|exact(nomatch (hg:false=true))
  ·skip
   revert hg;generalize ((!((spec_l00In_v0 (i64.wrap (((a1).tmod (6:Int))+(1:Int))) (0:Int) (i64.wrap ((i64.wrap (num a0 0)) - (1:Int)))))))=b6;intro hg;cases b6
   ·skip
    revert hg;generalize ((!((spec_l00In_v0 (i64.wrap ((a1).tdiv (6:Int))) (0:Int) (i64.wrap ((i64.wrap (num a0 1)) - (1:Int)))))))=b8;intro hg;cases b8
    ·skip
     first | (simp only[cond_true,cond_false,Bool.and_true,Bool.true_and,Bool.and_false,Bool.false_and];done)|rfl|exact(nomatch (hg:false=true))
    ·skip
     first | (simp only[cond_true,cond_false,Bool.and_true,Bool.true_and,Bool.and_false,Bool.false_and];done)|rfl|exact(nomatch (hg:false=true))
   ·skip
    first | (simp only[cond_true,cond_false,Bool.and_true,Bool.true_and,Bool.and_false,Bool.false_and];done)|rfl|exact(nomatch (hg:false=true))
 ·skip
  revert hg;generalize ((!((spec_l00In_v0 ((a1).tmod (6:Int)) (0:Int) (i64.wrap ((i64.wrap (num a0 0)) - (1:Int)))))))=b4;intro hg;cases b4
  ·skip
   revert hg;generalize ((!((spec_l00In_v0 (i64.wrap ((i64.wrap ((a1).tdiv (6:Int))) - (1:Int))) (0:Int) (i64.wrap ((i64.wrap (num a0 1)) - (1:Int)))))))=b6;intro hg;cases b6
   ·skip
    first | (simp only[cond_true,cond_false,Bool.and_true,Bool.true_and,Bool.and_false,Bool.false_and];done)|rfl|exact(nomatch (hg:false=true))
   ·skip
    first | (simp only[cond_true,cond_false,Bool.and_true,Bool.true_and,Bool.and_false,Bool.false_and];done)|rfl|exact(nomatch (hg:false=true))
  ·skip
   first | (simp only[cond_true,cond_false,Bool.and_true,Bool.true_and,Bool.and_false,Bool.false_and];done)|rfl|exact(nomatch (hg:false=true))
noncomputable def spec_l01Goes_con:Con:=λargs h=>match args,h with|[.w 0,.i .i64 a1,.i .i64 a2],[.row a0 37]=>some (.a (.i .i64 (spec_l01Goes_v0 a1 a2 a0)),.none,true)|_,_=>none
theorem spec_l01Goes_enter:EntX Try.prog 64:=entX_ok (fn:=Try.f64) (by kernel_rfl) (by kernel_rfl) (by kernel_rfl)
theorem spec_l01Goes_ok:ConOkX mn Try.prog 64 spec_l01Goes_con:=(ansX_ok (N:=1000) (by kernel_rfl) (mKc (con_okX spec_l00In_ok) spec_l00In_enter mKn) (fn:=Try.f64) (by kernel_rfl) (by kernel_rfl) []).of (by
 intro ρ h w args vals r e hA hH hr;unfold spec_l01Goes_con at hr;split at hr
 ·rename_i a1 a2 a0;obtain⟨rfl,hg⟩:=Prod.mk.inj (Option.some.inj hr);obtain⟨rfl,hg2⟩:=Prod.mk.inj hg;exact spec_l01Goes_main a1 a2 a0 (hA.rng 1 rfl) (hA.rng 2 rfl) (hH.wt 0 rfl) hg2
 ·cases hr)
theorem impl_allWays_ans(N:Nat):ansV Try.prog (mkΓ []) N Try.f94 [] [] []=(some (.a (.g #[.func (.func 110) #[] #[],.func (.func 111) #[] #[],.func (.func 112) #[] #[],.func (.func 113) #[] #[],.func (.func 114) #[] #[]] 132),.none,true)):=by kernel_rfl
theorem impl_allWays_main  (hg:(true)=true):ansV Try.prog (mkΓ []) 1000 Try.f94 [] [] []=some (.a (.g #[.func (.func 110) #[] #[],.func (.func 111) #[] #[],.func (.func 112) #[] #[],.func (.func 113) #[] #[],.func (.func 114) #[] #[]] 132),.none,true):=by refine(impl_allWays_ans 1000 ).trans ?_;rfl
noncomputable def impl_allWays_con:Con:=λargs h=>match args,h with|[],[]=>some (.a (.g #[.func (.func 110) #[] #[],.func (.func 111) #[] #[],.func (.func 112) #[] #[],.func (.func 113) #[] #[],.func (.func 114) #[] #[]] 132),.none,true)|_,_=>none
theorem impl_allWays_enter:EntX Try.prog 94:=entX_ok (fn:=Try.f94) (by kernel_rfl) (by kernel_rfl) (by kernel_rfl)
theorem impl_allWays_ok:ConOkX mn Try.prog 94 impl_allWays_con:=(ansX_ok (N:=1000) (by kernel_rfl) mKn (fn:=Try.f94) (by kernel_rfl) (by kernel_rfl) []).of (by
 intro ρ h w args vals r e hA hH hr;unfold impl_allWays_con at hr;split at hr
 ·obtain⟨rfl,hg⟩:=Prod.mk.inj (Option.some.inj hr);obtain⟨rfl,hg2⟩:=Prod.mk.inj hg;exact impl_allWays_main hg2
 ·cases hr)
theorem impl_place_here_ans(N:Nat)(a0:Array Value):ansV Try.prog (mkΓ []) N Try.f110 [] [.g a0 129] []=(some (.a (.g a0 129),.none,true)):=by kernel_rfl
theorem impl_place_here_main(a0:Array Value)(h_a0:WT Try.prog 129 a0)(hg:(true)=true):ansV Try.prog (mkΓ []) 1000 Try.f110 [] [.g a0 129] []=some (.a (.g a0 129),.none,true):=by refine(impl_place_here_ans 1000 a0).trans ?_;rfl
noncomputable def impl_place_here_con:Con:=λargs h=>match args,h with|[.g a0 129],[]=>some (.a (.g a0 129),.none,true)|_,_=>none
theorem impl_place_here_enter:EntX Try.prog 110:=entX_ok (fn:=Try.f110) (by kernel_rfl) (by kernel_rfl) (by kernel_rfl)
theorem impl_place_here_ok:ConOkX mn Try.prog 110 impl_place_here_con:=(ansX_ok (N:=1000) (by kernel_rfl) mKn (fn:=Try.f110) (by kernel_rfl) (by kernel_rfl) []).of (by
 intro ρ h w args vals r e hA hH hr;unfold impl_place_here_con at hr;split at hr
 ·rename_i a0;obtain⟨rfl,hg⟩:=Prod.mk.inj (Option.some.inj hr);obtain⟨rfl,hg2⟩:=Prod.mk.inj hg;exact impl_place_here_main a0 (hA.wt 0 rfl) hg2
 ·cases hr)
theorem impl_place_north_ans(N:Nat)(a0:Array Value):ansV Try.prog (mkΓ []) N Try.f111 [] [.g a0 129] []=(some (.a (.g #[.int .i64 (num a0 0),.int .i64 (i64.wrap ((num a0 1) - (1:Int)))] 129),.none,true)):=by kernel_rfl
theorem impl_place_north_main(a0:Array Value)(h_a0:WT Try.prog 129 a0)(hg:(true)=true):ansV Try.prog (mkΓ []) 1000 Try.f111 [] [.g a0 129] []=some (.a (.g #[.int .i64 (num a0 0),.int .i64 (i64.wrap ((num a0 1) - (1:Int)))] 129),.none,true):=by refine(impl_place_north_ans 1000 a0).trans ?_;rfl
noncomputable def impl_place_north_con:Con:=λargs h=>match args,h with|[.g a0 129],[]=>some (.a (.g #[.int .i64 (num a0 0),.int .i64 (i64.wrap ((num a0 1) - (1:Int)))] 129),.none,true)|_,_=>none
theorem impl_place_north_enter:EntX Try.prog 111:=entX_ok (fn:=Try.f111) (by kernel_rfl) (by kernel_rfl) (by kernel_rfl)
theorem impl_place_north_ok:ConOkX mn Try.prog 111 impl_place_north_con:=(ansX_ok (N:=1000) (by kernel_rfl) mKn (fn:=Try.f111) (by kernel_rfl) (by kernel_rfl) []).of (by
 intro ρ h w args vals r e hA hH hr;unfold impl_place_north_con at hr;split at hr
 ·rename_i a0;obtain⟨rfl,hg⟩:=Prod.mk.inj (Option.some.inj hr);obtain⟨rfl,hg2⟩:=Prod.mk.inj hg;exact impl_place_north_main a0 (hA.wt 0 rfl) hg2
 ·cases hr)
theorem impl_place_east_ans(N:Nat)(a0:Array Value):ansV Try.prog (mkΓ []) N Try.f112 [] [.g a0 129] []=(some (.a (.g #[.int .i64 (i64.wrap ((num a0 0)+(1:Int))),.int .i64 (num a0 1)] 129),.none,true)):=by kernel_rfl
theorem impl_place_east_main(a0:Array Value)(h_a0:WT Try.prog 129 a0)(hg:(true)=true):ansV Try.prog (mkΓ []) 1000 Try.f112 [] [.g a0 129] []=some (.a (.g #[.int .i64 (i64.wrap ((num a0 0)+(1:Int))),.int .i64 (num a0 1)] 129),.none,true):=by refine(impl_place_east_ans 1000 a0).trans ?_;rfl
noncomputable def impl_place_east_con:Con:=λargs h=>match args,h with|[.g a0 129],[]=>some (.a (.g #[.int .i64 (i64.wrap ((num a0 0)+(1:Int))),.int .i64 (num a0 1)] 129),.none,true)|_,_=>none
theorem impl_place_east_enter:EntX Try.prog 112:=entX_ok (fn:=Try.f112) (by kernel_rfl) (by kernel_rfl) (by kernel_rfl)
theorem impl_place_east_ok:ConOkX mn Try.prog 112 impl_place_east_con:=(ansX_ok (N:=1000) (by kernel_rfl) mKn (fn:=Try.f112) (by kernel_rfl) (by kernel_rfl) []).of (by
 intro ρ h w args vals r e hA hH hr;unfold impl_place_east_con at hr;split at hr
 ·rename_i a0;obtain⟨rfl,hg⟩:=Prod.mk.inj (Option.some.inj hr);obtain⟨rfl,hg2⟩:=Prod.mk.inj hg;exact impl_place_east_main a0 (hA.wt 0 rfl) hg2
 ·cases hr)
theorem impl_place_south_ans(N:Nat)(a0:Array Value):ansV Try.prog (mkΓ []) N Try.f113 [] [.g a0 129] []=(some (.a (.g #[.int .i64 (num a0 0),.int .i64 (i64.wrap ((num a0 1)+(1:Int)))] 129),.none,true)):=by kernel_rfl
theorem impl_place_south_main(a0:Array Value)(h_a0:WT Try.prog 129 a0)(hg:(true)=true):ansV Try.prog (mkΓ []) 1000 Try.f113 [] [.g a0 129] []=some (.a (.g #[.int .i64 (num a0 0),.int .i64 (i64.wrap ((num a0 1)+(1:Int)))] 129),.none,true):=by refine(impl_place_south_ans 1000 a0).trans ?_;rfl
noncomputable def impl_place_south_con:Con:=λargs h=>match args,h with|[.g a0 129],[]=>some (.a (.g #[.int .i64 (num a0 0),.int .i64 (i64.wrap ((num a0 1)+(1:Int)))] 129),.none,true)|_,_=>none
theorem impl_place_south_enter:EntX Try.prog 113:=entX_ok (fn:=Try.f113) (by kernel_rfl) (by kernel_rfl) (by kernel_rfl)
theorem impl_place_south_ok:ConOkX mn Try.prog 113 impl_place_south_con:=(ansX_ok (N:=1000) (by kernel_rfl) mKn (fn:=Try.f113) (by kernel_rfl) (by kernel_rfl) []).of (by
 intro ρ h w args vals r e hA hH hr;unfold impl_place_south_con at hr;split at hr
 ·rename_i a0;obtain⟨rfl,hg⟩:=Prod.mk.inj (Option.some.inj hr);obtain⟨rfl,hg2⟩:=Prod.mk.inj hg;exact impl_place_south_main a0 (hA.wt 0 rfl) hg2
 ·cases hr)
theorem impl_place_west_ans(N:Nat)(a0:Array Value):ansV Try.prog (mkΓ []) N Try.f114 [] [.g a0 129] []=(some (.a (.g #[.int .i64 (i64.wrap ((num a0 0) - (1:Int))),.int .i64 (num a0 1)] 129),.none,true)):=by kernel_rfl
theorem impl_place_west_main(a0:Array Value)(h_a0:WT Try.prog 129 a0)(hg:(true)=true):ansV Try.prog (mkΓ []) 1000 Try.f114 [] [.g a0 129] []=some (.a (.g #[.int .i64 (i64.wrap ((num a0 0) - (1:Int))),.int .i64 (num a0 1)] 129),.none,true):=by refine(impl_place_west_ans 1000 a0).trans ?_;rfl
noncomputable def impl_place_west_con:Con:=λargs h=>match args,h with|[.g a0 129],[]=>some (.a (.g #[.int .i64 (i64.wrap ((num a0 0) - (1:Int))),.int .i64 (num a0 1)] 129),.none,true)|_,_=>none
theorem impl_place_west_enter:EntX Try.prog 114:=entX_ok (fn:=Try.f114) (by kernel_rfl) (by kernel_rfl) (by kernel_rfl)
theorem impl_place_west_ok:ConOkX mn Try.prog 114 impl_place_west_con:=(ansX_ok (N:=1000) (by kernel_rfl) mKn (fn:=Try.f114) (by kernel_rfl) (by kernel_rfl) []).of (by
 intro ρ h w args vals r e hA hH hr;unfold impl_place_west_con at hr;split at hr
 ·rename_i a0;obtain⟨rfl,hg⟩:=Prod.mk.inj (Option.some.inj hr);obtain⟨rfl,hg2⟩:=Prod.mk.inj hg;exact impl_place_west_main a0 (hA.wt 0 rfl) hg2
 ·cases hr)
theorem impl_tideIn_ans(N:Nat)(a0 a1:Int):ansV Try.prog (mkΓ []) N Try.f69 [] [.i .i64 a0,.i .i64 a1] []=(some (.a (.i .i64 (((i64.wrap (a0+a1))).tmod (2:Int))),.none,true)):=by kernel_rfl
theorem impl_tideIn_main(a0 a1:Int)(h_a0:i64.min<=a0/\a0<=i64.max)(h_a1:i64.min<=a1/\a1<=i64.max)(hg:(true)=true):ansV Try.prog (mkΓ []) 1000 Try.f69 [] [.i .i64 a0,.i .i64 a1] []=some (.a (.i .i64 (((i64.wrap (a0+a1))).tmod (2:Int))),.none,true):=by refine(impl_tideIn_ans 1000 a0 a1).trans ?_;rfl
noncomputable def impl_tideIn_con:Con:=λargs h=>match args,h with|[.i .i64 a0,.i .i64 a1],[]=>some (.a (.i .i64 (((i64.wrap (a0+a1))).tmod (2:Int))),.none,true)|_,_=>none
theorem impl_tideIn_enter:EntX Try.prog 69:=entX_ok (fn:=Try.f69) (by kernel_rfl) (by kernel_rfl) (by kernel_rfl)
theorem impl_tideIn_ok:ConOkX mn Try.prog 69 impl_tideIn_con:=(ansX_ok (N:=1000) (by kernel_rfl) mKn (fn:=Try.f69) (by kernel_rfl) (by kernel_rfl) []).of (by
 intro ρ h w args vals r e hA hH hr;unfold impl_tideIn_con at hr;split at hr
 ·rename_i a0 a1;obtain⟨rfl,hg⟩:=Prod.mk.inj (Option.some.inj hr);obtain⟨rfl,hg2⟩:=Prod.mk.inj hg;exact impl_tideIn_main a0 a1 (hA.rng 0 rfl) (hA.rng 1 rfl) hg2
 ·cases hr)
noncomputable def chW(S:Array Value)(t c:Int)(w:Nat):Int:=i64.wrap (num S (((3+(t.toNat*180))+(c.toNat*5))+w))
noncomputable def gw(S:Array Value)(k:Nat):Nat->Int
 |0=>(k:Int)
 |1=>bif decide (6<=k) then (k:Int) - 6 else -1
 |2=>bif decide (((k % 6:Nat):Int)+1<num S 0) then (k:Int)+1 else -1
 |3=>bif decide (((k / 6:Nat):Int)+1<num S 1) then (k:Int)+6 else -1
 |_=>bif decide (1<=k % 6) then (k:Int) - 1 else -1
theorem w64{n:Int}(h: -1000<=n/\n<=1000):i64.wrap n=n:=IntWalk.i64_in n (by omega)
theorem in_eq(n lo hi:Int):spec_l00In_v0 n lo hi=decide (lo<=n/\n<=hi):=by
 unfold spec_l00In_v0
 by_cases h1:lo<=n
 ·rw[decide_eq_true (show n>=lo from h1)]
  by_cases h2:n<=hi
  ·rw[decide_eq_true h2,decide_eq_true (And.intro h1 h2)];rfl
  ·rw[decide_eq_false h2,decide_eq_false (show ¬(lo<=n/\n<=hi) from λh=>h2 h.2)];rfl
 ·rw[decide_eq_false (show ¬n>=lo from h1),decide_eq_false (show ¬(lo<=n/\n<=hi) from λh=>h1 h.1)];rfl
theorem inC_lt{w h:Int}{k:Nat}(hi:inC w h k=true):((k % 6:Nat):Int)<w/\((k / 6:Nat):Int)<h:=by unfold inC at hi;simp only[Bool.and_eq_true,decide_eq_true_eq]at hi;exact hi
theorem xy{k:Nat}(hk:k<36):((k:Int)).tmod 6=((k % 6:Nat):Int)/\((k:Int)).tdiv 6=((k / 6:Nat):Int):=by
 constructor
 ·rw[Int.tmod_eq_emod_of_nonneg (by omega)];omega
 ·rw[Int.tdiv_eq_ediv_of_nonneg (by omega)];omega
theorem goes_nice{S:Array Value}(h0:1<=num S 0/\num S 0<=6/\1<=num S 1/\num S 1<=6){k:Nat}(hk:k<36)(hi:inC (num S 0) (num S 1) k=true)(w:Nat)(hw:w<5):spec_l01Goes_v0 (k:Int) (w:Int) S=gw S k w:=by
 obtain⟨a1,a2,a3,a4⟩:=h0;obtain⟨hx,hy⟩:=inC_lt hi;obtain⟨ex,ey⟩:=xy hk;have hxl:k % 6<6:=Nat.mod_lt _ (by omega);have hyl:k / 6<6:=by omega
 have hk6:k=6*(k / 6)+k % 6:=by omega
 unfold spec_l01Goes_v0;simp only[in_eq,ex,ey];rw[w64 (n:=num S 0) (by omega),w64 (n:=num S 1) (by omega),w64 (n:=num S 0 - 1) (by omega),w64 (n:=num S 1 - 1) (by omega),w64 (n:=((k / 6:Nat):Int)) (by omega),w64 (n:=((k / 6:Nat):Int) - 1) (by omega),w64 (n:=((k / 6:Nat):Int)+1) (by omega),w64 (n:=((k % 6:Nat):Int) - 1) (by omega),w64 (n:=((k % 6:Nat):Int)+1) (by omega),w64 (n:=6*((k / 6:Nat):Int)) (by omega),w64 (n:=6*(((k / 6:Nat):Int) - 1)) (by omega),w64 (n:=6*(((k / 6:Nat):Int)+1)) (by omega)];have b0:decide (0<=((k % 6:Nat):Int)/\((k % 6:Nat):Int)<=num S 0 - 1)=true:=decide_eq_true (by omega);have b1:decide (0<=((k / 6:Nat):Int)/\((k / 6:Nat):Int)<=num S 1 - 1)=true:=decide_eq_true (by omega);generalize hX:k % 6=X at *;generalize hY:k / 6=Y at *
 match w,hw with
 |0,_=>
  show (bif ((0:Int)==1) then _ else (bif ((0:Int)==2) then _ else (bif ((0:Int)==3) then _ else (bif ((0:Int)==4) then _ else _))))=_
  simp only[show ((0:Int)==1)=false from rfl,show ((0:Int)==2)=false from rfl,show ((0:Int)==3)=false from rfl,show ((0:Int)==4)=false from rfl,cond_false,b0,b1,Bool.not_true];rw[w64 (by omega)];show _=(k:Int);omega
 | 1,_=>
  simp only[show (((1:Nat):Int)==1)=true from rfl,cond_true,b0,Bool.not_true,cond_false];unfold gw
  by_cases c:1<=Y
  ·rw[decide_eq_true (show 0<=((Y:Nat):Int) - 1/\((Y:Nat):Int) - 1<=num S 1 - 1 by omega),decide_eq_true (show 6<=k by omega)];simp only[Bool.not_true,cond_false,cond_true];rw[w64 (by omega)];omega
  ·rw[decide_eq_false (show ¬(0<=((Y:Nat):Int) - 1/\((Y:Nat):Int) - 1<=num S 1 - 1) by omega),decide_eq_false (show ¬6<=k by omega)];rfl
 | 2,_=>
  simp only[show (((2:Nat):Int)==1)=false from rfl,show (((2:Nat):Int)==2)=true from rfl,cond_true,b1,Bool.not_true,cond_false];unfold gw;rw[hX]
  by_cases c:((X:Nat):Int)+1<num S 0
  ·rw[decide_eq_true (show 0<=((X:Nat):Int)+1/\((X:Nat):Int)+1<=num S 0 - 1 by omega),decide_eq_true c];simp only[Bool.not_true,cond_false,cond_true];rw[w64 (by omega)];omega
  ·rw[decide_eq_false (show ¬(0<=((X:Nat):Int)+1/\((X:Nat):Int)+1<=num S 0 - 1) by omega),decide_eq_false c];rfl
 | 3,_=>
  simp only[show (((3:Nat):Int)==1)=false from rfl,show (((3:Nat):Int)==2)=false from rfl,show (((3:Nat):Int)==3)=true from rfl,cond_true,b0,Bool.not_true,cond_false];unfold gw;rw[hY]
  by_cases c:((Y:Nat):Int)+1<num S 1
  ·rw[decide_eq_true (show 0<=((Y:Nat):Int)+1/\((Y:Nat):Int)+1<=num S 1 - 1 by omega),decide_eq_true c];simp only[Bool.not_true,cond_false,cond_true];rw[w64 (by omega)];omega
  ·rw[decide_eq_false (show ¬(0<=((Y:Nat):Int)+1/\((Y:Nat):Int)+1<=num S 1 - 1) by omega),decide_eq_false c];rfl
 | 4,_=>
  simp only[show (((4:Nat):Int)==1)=false from rfl,show (((4:Nat):Int)==2)=false from rfl,show (((4:Nat):Int)==3)=false from rfl,show (((4:Nat):Int)==4)=true from rfl,cond_true,b1,Bool.not_true,cond_false];unfold gw;rw[hX]
  by_cases c:1<=X
  ·rw[decide_eq_true (show 0<=((X:Nat):Int) - 1/\((X:Nat):Int) - 1<=num S 0 - 1 by omega),decide_eq_true c];simp only[Bool.not_true,cond_false,cond_true];rw[w64 (by omega)];omega
  ·rw[decide_eq_false (show ¬(0<=((X:Nat):Int) - 1/\((X:Nat):Int) - 1<=num S 0 - 1) by omega),decide_eq_false c];rfl
theorem gw_range{S:Array Value}(h0:1<=num S 0/\num S 0<=6/\1<=num S 1/\num S 1<=6){k:Nat}(hk:k<36)(hi:inC (num S 0) (num S 1) k=true)(w:Nat)(hw:w<5)(hn:gw S k w ≠ -1):0<=gw S k w/\gw S k w<36:=by
 obtain⟨hx,hy⟩:=inC_lt hi;obtain⟨a1,a2,a3,a4⟩:=h0;have hk6:k=6*(k / 6)+k % 6:=by omega
 match w,hw with
 |0,_=>exact⟨by show 0<=(k:Int);omega,by show (k:Int)<36;omega⟩
 |1,_=>
  unfold gw at hn|-
  by_cases c:6<=k
  ·simp only[c,decide_true,cond_true];omega
  ·simp[c]at hn
 |2,_=>
  unfold gw at hn|-
  by_cases c:((k % 6:Nat):Int)+1<num S 0
  ·simp only[decide_eq_true c,cond_true];omega
  ·simp only[decide_eq_false c,cond_false]at hn;exact absurd rfl hn
 |3,_=>
  unfold gw at hn|-
  by_cases c:((k / 6:Nat):Int)+1<num S 1
  ·simp only[decide_eq_true c,cond_true];omega
  ·simp only[decide_eq_false c,cond_false]at hn;exact absurd rfl hn
 |4,_=>
  unfold gw at hn|-
  by_cases c:1<=k % 6
  ·simp only[c,decide_true,cond_true];omega
  ·simp[c]at hn
end
end Go.Proofs.Ytnhilgpdgicgfaa
