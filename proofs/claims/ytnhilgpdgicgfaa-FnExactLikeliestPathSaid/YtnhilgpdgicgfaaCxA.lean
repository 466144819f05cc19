/- Places, tides, land and water, in company. -/
import Derived.Test.YtnhilgpdgicgfaaProg
import Derived.Test.YtnhilgpdgicgfaaVcE
namespace Go.Proofs.Ytnhilgpdgicgfaa
open Go.ChangeShapes Go.WideShapes Go.ChangeAt Go.RowKit Ve Vc
open IntKind (i64)
set_option linter.unusedVariables false
set_option linter.unusedSimpArgs false
set_option maxRecDepth 100000
noncomputable section
variable {mn:Md}
theorem spec_l00In_ans(N:Nat)(a0 a1 a2:Int):ansV Try.prog (mkΓ []) N Try.f39 [] [.i .i64 a0,.i .i64 a1,.i .i64 a2] []=(bif decide (a0>=a1) then (some (.a (.b (decide (a0<=a2))),.none,true)) else (some (.a (.b false),.none,true))):=by kernel_rfl
noncomputable def spec_l00In_v0(a0 a1 a2:Int):Bool:=(bif decide (a0>=a1) then decide (a0<=a2) else false)
theorem spec_l00In_main(a0 a1 a2:Int)(h_a0:i64.min<=a0/\a0<=i64.max)(h_a1:i64.min<=a1/\a1<=i64.max)(h_a2:i64.min<=a2/\a2<=i64.max)(hg:(true)=true):ansV Try.prog (mkΓ []) 1000 Try.f39 [] [.i .i64 a0,.i .i64 a1,.i .i64 a2] []=some (.a (.b ((spec_l00In_v0 a0 a1 a2))),.none,true):=by
 refine(spec_l00In_ans 1000 a0 a1 a2).trans ?_;unfold spec_l00In_v0;revert hg;generalize (decide (a0>=a1))=b2;intro hg;cases b2
 ·skip
  first | (simp only[cond_true,cond_false,Bool.and_true,Bool.true_and,Bool.and_false,Bool.false_and];done)|rfl|exact(nomatch (hg:false=true))
 ·skip
  first | (simp only[cond_true,cond_false,Bool.and_true,Bool.true_and,Bool.and_false,Bool.false_and];done)|rfl|exact(nomatch (hg:false=true))
noncomputable def spec_l00In_con:Con:=λargs h=>match args,h with|[.i .i64 a0,.i .i64 a1,.i .i64 a2],[]=>some (.a (.b ((spec_l00In_v0 a0 a1 a2))),.none,true)|_,_=>none
theorem spec_l00In_enter:EntX Try.prog 39:=entX_ok (fn:=Try.f39) (by kernel_rfl) (by kernel_rfl) (by kernel_rfl)
theorem spec_l00In_ok:ConOkX mn Try.prog 39 spec_l00In_con:=(ansX_ok (N:=1000) (by kernel_rfl) mKn (fn:=Try.f39) (by kernel_rfl) (by kernel_rfl) []).of (by
 intro ρ h w args vals r e hA hH hr;unfold spec_l00In_con at hr;split at hr
 ·rename_i a0 a1 a2;obtain⟨rfl,hg⟩:=Prod.mk.inj (Option.some.inj hr);obtain⟨rfl,hg2⟩:=Prod.mk.inj hg;exact spec_l00In_main a0 a1 a2 (hA.rng 0 rfl) (hA.rng 1 rfl) (hA.rng 2 rfl) hg2
 ·cases hr)
theorem spec_l01Is_ans(N:Nat)(a1:Int)(a0:Array Value):ansV Try.prog (mkΓ [(39,con spec_l00In_con)]) N Try.f72 [] [.w 0,.i .i64 a1] [.row a0 37]=(bif (spec_l00In_v0 a1 (0:Int) (35:Int)) then (bif decide (((a1).tmod (6:Int))<(i64.wrap (num a0 0))) then (some (.a (.b (decide ((i64.wrap ((a1).tdiv (6:Int)))<(i64.wrap (num a0 1))))),.none,true)) else (some (.a (.b false),.none,true))) else (some (.a (.b false),.none,true))):=by kernel_rfl
noncomputable def spec_l01Is_v0(a1:Int)(a0:Array Value):Bool:=(bif (spec_l00In_v0 a1 (0:Int) (35:Int)) then (bif decide (((a1).tmod (6:Int))<(i64.wrap (num a0 0))) then decide ((i64.wrap ((a1).tdiv (6:Int)))<(i64.wrap (num a0 1))) else false) else false)
theorem spec_l01Is_main(a1:Int)(a0:Array Value)(h_a1:i64.min<=a1/\a1<=i64.max)(h_a0:WT Try.prog 37 a0)(hg:(true)=true):ansV Try.prog (mkΓ [(39,con spec_l00In_con)]) 1000 Try.f72 [] [.w 0,.i .i64 a1] [.row a0 37]=some (.a (.b ((spec_l01Is_v0 a1 a0))),.none,true):=by
 refine(spec_l01Is_ans 1000 a1 a0).trans ?_;unfold spec_l01Is_v0;revert hg;generalize ((spec_l00In_v0 a1 (0:Int) (35:Int)))=b2;intro hg;cases b2
 ·skip
  first | (simp only[cond_true,cond_false,Bool.and_true,Bool.true_and,Bool.and_false,Bool.false_and];done)|rfl|exact(nomatch (hg:false=true))
 ·skip
  revert hg;generalize (decide (((a1).tmod (6:Int))<(i64.wrap (num a0 0))))=b4;intro hg;cases b4
  ·skip
   first | (simp only[cond_true,cond_false,Bool.and_true,Bool.true_and,Bool.and_false,Bool.false_and];done)|rfl|exact(nomatch (hg:false=true))
  ·skip
   first | (simp only[cond_true,cond_false,Bool.and_true,Bool.true_and,Bool.and_false,Bool.false_and];done)|rfl|exact(nomatch (hg:false=true))
noncomputable def spec_l01Is_con:Con:=λargs h=>match args,h with|[.w 0,.i .i64 a1],[.row a0 37]=>some (.a (.b ((spec_l01Is_v0 a1 a0))),.none,true)|_,_=>none
theorem spec_l01Is_enter:EntX Try.prog 72:=entX_ok (fn:=Try.f72) (by kernel_rfl) (by kernel_rfl) (by kernel_rfl)
theorem spec_l01Is_ok:ConOkX mn Try.prog 72 spec_l01Is_con:=(ansX_ok (N:=1000) (by kernel_rfl) (mKc (con_okX spec_l00In_ok) spec_l00In_enter mKn) (fn:=Try.f72) (by kernel_rfl) (by kernel_rfl) []).of (by
 intro ρ h w args vals r e hA hH hr;unfold spec_l01Is_con at hr;split at hr
 ·rename_i a1 a0;obtain⟨rfl,hg⟩:=Prod.mk.inj (Option.some.inj hr);obtain⟨rfl,hg2⟩:=Prod.mk.inj hg;exact spec_l01Is_main a1 a0 (hA.rng 1 rfl) (hH.wt 0 rfl) hg2
 ·cases hr)
theorem spec_l01Tide_ans(N:Nat)(a0:Int):ansV Try.prog (mkΓ [(39,con spec_l00In_con)]) N Try.f62 [] [.i .i64 a0] []=(some (.a (.b ((spec_l00In_v0 a0 (0:Int) (1:Int)))),.none,true)):=by kernel_rfl
theorem spec_l01Tide_main(a0:Int)(h_a0:i64.min<=a0/\a0<=i64.max)(hg:(true)=true):ansV Try.prog (mkΓ [(39,con spec_l00In_con)]) 1000 Try.f62 [] [.i .i64 a0] []=some (.a (.b ((spec_l00In_v0 a0 (0:Int) (1:Int)))),.none,true):=by refine(spec_l01Tide_ans 1000 a0).trans ?_;rfl
noncomputable def spec_l01Tide_con:Con:=λargs h=>match args,h with|[.i .i64 a0],[]=>some (.a (.b ((spec_l00In_v0 a0 (0:Int) (1:Int)))),.none,true)|_,_=>none
theorem spec_l01Tide_enter:EntX Try.prog 62:=entX_ok (fn:=Try.f62) (by kernel_rfl) (by kernel_rfl) (by kernel_rfl)
theorem spec_l01Tide_ok:ConOkX mn Try.prog 62 spec_l01Tide_con:=(ansX_ok (N:=1000) (by kernel_rfl) (mKc (con_okX spec_l00In_ok) spec_l00In_enter mKn) (fn:=Try.f62) (by kernel_rfl) (by kernel_rfl) []).of (by
 intro ρ h w args vals r e hA hH hr;unfold spec_l01Tide_con at hr;split at hr
 ·rename_i a0;obtain⟨rfl,hg⟩:=Prod.mk.inj (Option.some.inj hr);obtain⟨rfl,hg2⟩:=Prod.mk.inj hg;exact spec_l01Tide_main a0 (hA.rng 0 rfl) hg2
 ·cases hr)
theorem spec_l01Dry_ans(N:Nat)(a1:Int)(a0:Array Value):ansV Try.prog (mkΓ []) N Try.f63 [] [.w 0,.i .i64 a1] [.row a0 37]=(bif decide (0<=(IntKind.u64.wrap a1)) then (some (.a (.b (((((((num a0 2)).fdiv (2^(min ((IntKind.u64.wrap a1)).toNat IntKind.u64.bits)))).tmod (2:Int))==(1:Int)))),.none,true)) else (none)):=by kernel_rfl
noncomputable def spec_l01Dry_v0(a1:Int)(a0:Array Value):Bool:=((((((num a0 2)).fdiv (2^(min ((IntKind.u64.wrap a1)).toNat IntKind.u64.bits)))).tmod (2:Int))==(1:Int))
theorem spec_l01Dry_main(a1:Int)(a0:Array Value)(h_a1:i64.min<=a1/\a1<=i64.max)(h_a0:WT Try.prog 37 a0)(hg:(decide (0<=(IntKind.u64.wrap a1)))=true):ansV Try.prog (mkΓ []) 1000 Try.f63 [] [.w 0,.i .i64 a1] [.row a0 37]=some (.a (.b ((spec_l01Dry_v0 a1 a0))),.none,true):=by
 refine(spec_l01Dry_ans 1000 a1 a0).trans ?_;unfold spec_l01Dry_v0;revert hg;generalize (decide (0<=(IntKind.u64.wrap a1)))=b2;intro hg;cases b2
 ·skip
  first|exact(nomatch (hg:false=true)) | (simp only[cond_true,cond_false,Bool.and_true,Bool.true_and,Bool.and_false,Bool.false_and];done)|rfl
 ·skip
  first | (simp only[cond_true,cond_false,Bool.and_true,Bool.true_and,Bool.and_false,Bool.false_and];done)|rfl|exact(nomatch (hg:false=true))
noncomputable def spec_l01Dry_con:Con:=λargs h=>match args,h with|[.w 0,.i .i64 a1],[.row a0 37]=>some (.a (.b ((spec_l01Dry_v0 a1 a0))),.none,decide (0<=(IntKind.u64.wrap a1)))|_,_=>none
theorem spec_l01Dry_enter:EntX Try.prog 63:=entX_ok (fn:=Try.f63) (by kernel_rfl) (by kernel_rfl) (by kernel_rfl)
theorem spec_l01Dry_ok:ConOkX mn Try.prog 63 spec_l01Dry_con:=(ansX_ok (N:=1000) (by kernel_rfl) mKn (fn:=Try.f63) (by kernel_rfl) (by kernel_rfl) []).of (by
 intro ρ h w args vals r e hA hH hr;unfold spec_l01Dry_con at hr;split at hr
 ·rename_i a1 a0;obtain⟨rfl,hg⟩:=Prod.mk.inj (Option.some.inj hr);obtain⟨rfl,hg2⟩:=Prod.mk.inj hg;exact spec_l01Dry_main a1 a0 (hA.rng 1 rfl) (hH.wt 0 rfl) hg2
 ·cases hr)
noncomputable def spec_l01Wet_G:Cons:=(mkΓ [(63,con spec_l01Dry_con),(72,con spec_l01Is_con)])
theorem spec_l01Wet_ans(N:Nat)(a1:Int)(a0:Array Value):ansV Try.prog spec_l01Wet_G N Try.f83 [] [.w 0,.i .i64 a1] [.row a0 37]=(bif (spec_l01Is_v0 a1 a0) then (bif decide (0<=(IntKind.u64.wrap a1)) then (some (.a (.b ((!((spec_l01Dry_v0 a1 a0))))),.none,true)) else (none)) else (some (.a (.b false),.none,true))):=by kernel_rfl
noncomputable def spec_l01Wet_v0(a1:Int)(a0:Array Value):Bool:=(bif (spec_l01Is_v0 a1 a0) then (!((spec_l01Dry_v0 a1 a0))) else false)
noncomputable def spec_l01Wet_gd(a1:Int)(a0:Array Value):Bool:=(bif (spec_l01Is_v0 a1 a0) then decide (0<=(IntKind.u64.wrap a1)) else true)
theorem spec_l01Wet_main(a1:Int)(a0:Array Value)(h_a1:i64.min<=a1/\a1<=i64.max)(h_a0:WT Try.prog 37 a0)(hg:((spec_l01Wet_gd a1 a0))=true):ansV Try.prog spec_l01Wet_G 1000 Try.f83 [] [.w 0,.i .i64 a1] [.row a0 37]=some (.a (.b ((spec_l01Wet_v0 a1 a0))),.none,true):=by
 refine(spec_l01Wet_ans 1000 a1 a0).trans ?_;unfold spec_l01Wet_gd at hg;unfold spec_l01Wet_v0;revert hg;generalize ((spec_l01Is_v0 a1 a0))=b2;intro hg;cases b2
 ·skip
  first | (simp only[cond_true,cond_false,Bool.and_true,Bool.true_and,Bool.and_false,Bool.false_and];done)|rfl|exact(nomatch (hg:false=true))
 ·skip
  revert hg;generalize (decide (0<=(IntKind.u64.wrap a1)))=b4;intro hg;cases b4
  ·skip
   first|exact(nomatch (hg:false=true)) | (simp only[cond_true,cond_false,Bool.and_true,Bool.true_and,Bool.and_false,Bool.false_and];done)|rfl
  ·skip
   first | (simp only[cond_true,cond_false,Bool.and_true,Bool.true_and,Bool.and_false,Bool.false_and];done)|rfl|exact(nomatch (hg:false=true))
noncomputable def spec_l01Wet_con:Con:=λargs h=>match args,h with|[.w 0,.i .i64 a1],[.row a0 37]=>some (.a (.b ((spec_l01Wet_v0 a1 a0))),.none,(spec_l01Wet_gd a1 a0))|_,_=>none
theorem spec_l01Wet_enter:EntX Try.prog 83:=entX_ok (fn:=Try.f83) (by kernel_rfl) (by kernel_rfl) (by kernel_rfl)
theorem spec_l01Wet_ok:ConOkX mn Try.prog 83 spec_l01Wet_con:=(ansX_ok (N:=1000) (by kernel_rfl) (mKc (con_okX spec_l01Dry_ok) spec_l01Dry_enter (mKc (con_okX spec_l01Is_ok) spec_l01Is_enter mKn)) (fn:=Try.f83) (by kernel_rfl) (by kernel_rfl) []).of (by
 intro ρ h w args vals r e hA hH hr;unfold spec_l01Wet_con at hr;split at hr
 ·rename_i a1 a0;obtain⟨rfl,hg⟩:=Prod.mk.inj (Option.some.inj hr);obtain⟨rfl,hg2⟩:=Prod.mk.inj hg;exact spec_l01Wet_main a1 a0 (hA.rng 1 rfl) (hH.wt 0 rfl) hg2
 ·cases hr)
theorem impl_hasPlace_ans(N:Nat)(a0 a1:Array Value):ansV Try.prog (mkΓ []) N Try.f96 [] [.g a0 37,.g a1 129] []=(bif decide ((num a1 0)>=(0:Int)) then (bif decide ((num a1 0)<(i64.wrap (num a0 0))) then (bif decide ((num a1 1)>=(0:Int)) then (some (.a (.b (decide ((num a1 1)<(i64.wrap (num a0 1))))),.none,true)) else (some (.a (.b false),.none,true))) else (some (.a (.b false),.none,true))) else (some (.a (.b false),.none,true))):=by kernel_rfl
noncomputable def impl_hasPlace_v0(a0 a1:Array Value):Bool:=(bif decide ((num a1 0)>=(0:Int)) then (bif decide ((num a1 0)<(i64.wrap (num a0 0))) then (bif decide ((num a1 1)>=(0:Int)) then decide ((num a1 1)<(i64.wrap (num a0 1))) else false) else false) else false)
theorem impl_hasPlace_main(a0 a1:Array Value)(h_a0:WT Try.prog 37 a0)(h_a1:WT Try.prog 129 a1)(hg:(true)=true):ansV Try.prog (mkΓ []) 1000 Try.f96 [] [.g a0 37,.g a1 129] []=some (.a (.b ((impl_hasPlace_v0 a0 a1))),.none,true):=by
 refine(impl_hasPlace_ans 1000 a0 a1).trans ?_;unfold impl_hasPlace_v0;revert hg;generalize (decide ((num a1 0)>=(0:Int)))=b2;intro hg;cases b2
 ·skip
  first | (simp only[cond_true,cond_false,Bool.and_true,Bool.true_and,Bool.and_false,Bool.false_and];done)|rfl|exact(nomatch (hg:false=true))
 ·skip
  revert hg;generalize (decide ((num a1 0)<(i64.wrap (num a0 0))))=b4;intro hg;cases b4
  ·skip
   first | (simp only[cond_true,cond_false,Bool.and_true,Bool.true_and,Bool.and_false,Bool.false_and];done)|rfl|exact(nomatch (hg:false=true))
  ·skip
   revert hg;generalize (decide ((num a1 1)>=(0:Int)))=b6;intro hg;cases b6
   ·skip
    first | (simp only[cond_true,cond_false,Bool.and_true,Bool.true_and,Bool.and_false,Bool.false_and];done)|rfl|exact(nomatch (hg:false=true))
   ·skip
    first | (simp only[cond_true,cond_false,Bool.and_true,Bool.true_and,Bool.and_false,Bool.false_and];done)|rfl|exact(nomatch (hg:false=true))
noncomputable def impl_hasPlace_con:Con:=λargs h=>match args,h with|[.g a0 37,.g a1 129],[]=>some (.a (.b ((impl_hasPlace_v0 a0 a1))),.none,true)|_,_=>none
theorem impl_hasPlace_enter:EntX Try.prog 96:=entX_ok (fn:=Try.f96) (by kernel_rfl) (by kernel_rfl) (by kernel_rfl)
theorem impl_hasPlace_ok:ConOkX mn Try.prog 96 impl_hasPlace_con:=(ansX_ok (N:=1000) (by kernel_rfl) mKn (fn:=Try.f96) (by kernel_rfl) (by kernel_rfl) []).of (by
 intro ρ h w args vals r e hA hH hr;unfold impl_hasPlace_con at hr;split at hr
 ·rename_i a0 a1;obtain⟨rfl,hg⟩:=Prod.mk.inj (Option.some.inj hr);obtain⟨rfl,hg2⟩:=Prod.mk.inj hg;exact impl_hasPlace_main a0 a1 (hA.wt 0 rfl) (hA.wt 1 rfl) hg2
 ·cases hr)
theorem impl_placeOf_ans(N:Nat)(a0:Int):ansV Try.prog (mkΓ []) N Try.f95 [] [.i .i64 a0] []=(some (.a (.g #[.int .i64 ((a0).tmod (6:Int)),.int .i64 (i64.wrap ((a0).tdiv (6:Int)))] 129),.none,true)):=by kernel_rfl
theorem impl_placeOf_main(a0:Int)(h_a0:i64.min<=a0/\a0<=i64.max)(hg:(true)=true):ansV Try.prog (mkΓ []) 1000 Try.f95 [] [.i .i64 a0] []=some (.a (.g #[.int .i64 ((a0).tmod (6:Int)),.int .i64 (i64.wrap ((a0).tdiv (6:Int)))] 129),.none,true):=by refine(impl_placeOf_ans 1000 a0).trans ?_;rfl
noncomputable def impl_placeOf_con:Con:=λargs h=>match args,h with|[.i .i64 a0],[]=>some (.a (.g #[.int .i64 ((a0).tmod (6:Int)),.int .i64 (i64.wrap ((a0).tdiv (6:Int)))] 129),.none,true)|_,_=>none
theorem impl_placeOf_enter:EntX Try.prog 95:=entX_ok (fn:=Try.f95) (by kernel_rfl) (by kernel_rfl) (by kernel_rfl)
theorem impl_placeOf_ok:ConOkX mn Try.prog 95 impl_placeOf_con:=(ansX_ok (N:=1000) (by kernel_rfl) mKn (fn:=Try.f95) (by kernel_rfl) (by kernel_rfl) []).of (by
 intro ρ h w args vals r e hA hH hr;unfold impl_placeOf_con at hr;split at hr
 ·rename_i a0;obtain⟨rfl,hg⟩:=Prod.mk.inj (Option.some.inj hr);obtain⟨rfl,hg2⟩:=Prod.mk.inj hg;exact impl_placeOf_main a0 (hA.rng 0 rfl) hg2
 ·cases hr)
noncomputable def impl_hasCell_G:Cons:=(mkΓ [(95,con impl_placeOf_con),(96,con impl_hasPlace_con)])
theorem impl_hasCell_ans(N:Nat)(a0:Array Value)(a1:Int):ansV Try.prog impl_hasCell_G N Try.f75 [] [.g a0 37,.i .i64 a1] []=(bif decide (a1>=(0:Int)) then (bif decide (a1<(36:Int)) then (some (.a (.b ((impl_hasPlace_v0 a0 (#[.int .i64 ((a1).tmod (6:Int)),.int .i64 (i64.wrap ((a1).tdiv (6:Int)))]:Array Value)))),.none,true)) else (some (.a (.b false),.none,true))) else (some (.a (.b false),.none,true))):=by kernel_rfl
noncomputable def impl_hasCell_v0(a0:Array Value)(a1:Int):Bool:=(bif decide (a1>=(0:Int)) then (bif decide (a1<(36:Int)) then (impl_hasPlace_v0 a0 (#[.int .i64 ((a1).tmod (6:Int)),.int .i64 (i64.wrap ((a1).tdiv (6:Int)))]:Array Value)) else false) else false)
theorem impl_hasCell_main(a0:Array Value)(a1:Int)(h_a0:WT Try.prog 37 a0)(h_a1:i64.min<=a1/\a1<=i64.max)(hg:(true)=true):ansV Try.prog impl_hasCell_G 1000 Try.f75 [] [.g a0 37,.i .i64 a1] []=some (.a (.b ((impl_hasCell_v0 a0 a1))),.none,true):=by
 refine(impl_hasCell_ans 1000 a0 a1).trans ?_;unfold impl_hasCell_v0;revert hg;generalize (decide (a1>=(0:Int)))=b2;intro hg;cases b2
 ·skip
  first | (simp only[cond_true,cond_false,Bool.and_true,Bool.true_and,Bool.and_false,Bool.false_and];done)|rfl|exact(nomatch (hg:false=true))
 ·skip
  revert hg;generalize (decide (a1<(36:Int)))=b4;intro hg;cases b4
  ·skip
   first | (simp only[cond_true,cond_false,Bool.and_true,Bool.true_and,Bool.and_false,Bool.false_and];done)|rfl|exact(nomatch (hg:false=true))
  ·skip
   first | (simp only[cond_true,cond_false,Bool.and_true,Bool.true_and,Bool.and_false,Bool.false_and];done)|rfl|exact(nomatch (hg:false=true))
noncomputable def impl_hasCell_con:Con:=λargs h=>match args,h with|[.g a0 37,.i .i64 a1],[]=>some (.a (.b ((impl_hasCell_v0 a0 a1))),.none,true)|_,_=>none
theorem impl_hasCell_enter:EntX Try.prog 75:=entX_ok (fn:=Try.f75) (by kernel_rfl) (by kernel_rfl) (by kernel_rfl)
theorem impl_hasCell_ok:ConOkX mn Try.prog 75 impl_hasCell_con:=(ansX_ok (N:=1000) (by kernel_rfl) (mKc (con_okX impl_placeOf_ok) impl_placeOf_enter (mKc (con_okX impl_hasPlace_ok) impl_hasPlace_enter mKn)) (fn:=Try.f75) (by kernel_rfl) (by kernel_rfl) []).of (by
 intro ρ h w args vals r e hA hH hr;unfold impl_hasCell_con at hr;split at hr
 ·rename_i a0 a1;obtain⟨rfl,hg⟩:=Prod.mk.inj (Option.some.inj hr);obtain⟨rfl,hg2⟩:=Prod.mk.inj hg;exact impl_hasCell_main a0 a1 (hA.wt 0 rfl) (hA.rng 1 rfl) hg2
 ·cases hr)
theorem impl_bitOf_ans(N:Nat)(a0:Int):ansV Try.prog (mkΓ []) N Try.f88 [] [.i .i64 a0] []=(bif decide (0<=a0) then (some (.a (.i .u64 (IntKind.u64.wrap ((1:Int)*2^(min (a0).toNat IntKind.u64.bits)))),.none,true)) else (none)):=by kernel_rfl
noncomputable def impl_bitOf_v0(a0:Int):Int:=(IntKind.u64.wrap ((1:Int)*2^(min (a0).toNat IntKind.u64.bits)))
theorem impl_bitOf_main(a0:Int)(h_a0:i64.min<=a0/\a0<=i64.max)(hg:(decide (0<=a0))=true):ansV Try.prog (mkΓ []) 1000 Try.f88 [] [.i .i64 a0] []=some (.a (.i .u64 (impl_bitOf_v0 a0)),.none,true):=by
 refine(impl_bitOf_ans 1000 a0).trans ?_;unfold impl_bitOf_v0;revert hg;generalize (decide (0<=a0))=b2;intro hg;cases b2
 ·skip
  first|exact(nomatch (hg:false=true)) | (simp only[cond_true,cond_false,Bool.and_true,Bool.true_and,Bool.and_false,Bool.false_and];done)|rfl
 ·skip
  first | (simp only[cond_true,cond_false,Bool.and_true,Bool.true_and,Bool.and_false,Bool.false_and];done)|rfl|exact(nomatch (hg:false=true))
noncomputable def impl_bitOf_con:Con:=λargs h=>match args,h with|[.i .i64 a0],[]=>some (.a (.i .u64 (impl_bitOf_v0 a0)),.none,decide (0<=a0))|_,_=>none
theorem impl_bitOf_enter:EntX Try.prog 88:=entX_ok (fn:=Try.f88) (by kernel_rfl) (by kernel_rfl) (by kernel_rfl)
theorem impl_bitOf_ok:ConOkX mn Try.prog 88 impl_bitOf_con:=(ansX_ok (N:=1000) (by kernel_rfl) mKn (fn:=Try.f88) (by kernel_rfl) (by kernel_rfl) []).of (by
 intro ρ h w args vals r e hA hH hr;unfold impl_bitOf_con at hr;split at hr
 ·rename_i a0;obtain⟨rfl,hg⟩:=Prod.mk.inj (Option.some.inj hr);obtain⟨rfl,hg2⟩:=Prod.mk.inj hg;exact impl_bitOf_main a0 (hA.rng 0 rfl) hg2
 ·cases hr)
theorem impl_isLand_ans(N:Nat)(a0:Array Value)(a1:Int):ansV Try.prog (mkΓ [(88,con impl_bitOf_con)]) N Try.f68 [] [.g a0 37,.i .i64 a1] []=(bif decide (0<=a1) then (some (.a (.b (((IntKind.u64.wrap (BitVec.ofInt IntKind.u64.bits (num a0 2) &&& BitVec.ofInt IntKind.u64.bits (impl_bitOf_v0 a1)).toNat) != (0:Int)))),.none,true)) else (none)):=by kernel_rfl
noncomputable def impl_isLand_v0(a0:Array Value)(a1:Int):Bool:=((IntKind.u64.wrap (BitVec.ofInt IntKind.u64.bits (num a0 2) &&& BitVec.ofInt IntKind.u64.bits (impl_bitOf_v0 a1)).toNat) != (0:Int))
theorem impl_isLand_main(a0:Array Value)(a1:Int)(h_a0:WT Try.prog 37 a0)(h_a1:i64.min<=a1/\a1<=i64.max)(hg:(decide (0<=a1))=true):ansV Try.prog (mkΓ [(88,con impl_bitOf_con)]) 1000 Try.f68 [] [.g a0 37,.i .i64 a1] []=some (.a (.b ((impl_isLand_v0 a0 a1))),.none,true):=by
 refine(impl_isLand_ans 1000 a0 a1).trans ?_;unfold impl_isLand_v0;revert hg;generalize (decide (0<=a1))=b2;intro hg;cases b2
 ·skip
  first|exact(nomatch (hg:false=true)) | (simp only[cond_true,cond_false,Bool.and_true,Bool.true_and,Bool.and_false,Bool.false_and];done)|rfl
 ·skip
  first | (simp only[cond_true,cond_false,Bool.and_true,Bool.true_and,Bool.and_false,Bool.false_and];done)|rfl|exact(nomatch (hg:false=true))
noncomputable def impl_isLand_con:Con:=λargs h=>match args,h with|[.g a0 37,.i .i64 a1],[]=>some (.a (.b ((impl_isLand_v0 a0 a1))),.none,decide (0<=a1))|_,_=>none
theorem impl_isLand_enter:EntX Try.prog 68:=entX_ok (fn:=Try.f68) (by kernel_rfl) (by kernel_rfl) (by kernel_rfl)
theorem impl_isLand_ok:ConOkX mn Try.prog 68 impl_isLand_con:=(ansX_ok (N:=1000) (by kernel_rfl) (mKc (con_okX impl_bitOf_ok) impl_bitOf_enter mKn) (fn:=Try.f68) (by kernel_rfl) (by kernel_rfl) []).of (by
 intro ρ h w args vals r e hA hH hr;unfold impl_isLand_con at hr;split at hr
 ·rename_i a0 a1;obtain⟨rfl,hg⟩:=Prod.mk.inj (Option.some.inj hr);obtain⟨rfl,hg2⟩:=Prod.mk.inj hg;exact impl_isLand_main a0 a1 (hA.wt 0 rfl) (hA.rng 1 rfl) hg2
 ·cases hr)
theorem impl_isWater_ans(N:Nat)(a0:Array Value)(a1:Int):ansV Try.prog (mkΓ [(68,con impl_isLand_con)]) N Try.f118 [] [.g a0 37,.i .i64 a1] []=(bif decide (0<=a1) then (some (.a (.b ((!((impl_isLand_v0 a0 a1))))),.none,true)) else (none)):=by kernel_rfl
noncomputable def impl_isWater_v0(a0:Array Value)(a1:Int):Bool:=(!((impl_isLand_v0 a0 a1)))
theorem impl_isWater_main(a0:Array Value)(a1:Int)(h_a0:WT Try.prog 37 a0)(h_a1:i64.min<=a1/\a1<=i64.max)(hg:(decide (0<=a1))=true):ansV Try.prog (mkΓ [(68,con impl_isLand_con)]) 1000 Try.f118 [] [.g a0 37,.i .i64 a1] []=some (.a (.b ((impl_isWater_v0 a0 a1))),.none,true):=by
 refine(impl_isWater_ans 1000 a0 a1).trans ?_;unfold impl_isWater_v0;revert hg;generalize (decide (0<=a1))=b2;intro hg;cases b2
 ·skip
  first|exact(nomatch (hg:false=true)) | (simp only[cond_true,cond_false,Bool.and_true,Bool.true_and,Bool.and_false,Bool.false_and];done)|rfl
 ·skip
  first | (simp only[cond_true,cond_false,Bool.and_true,Bool.true_and,Bool.and_false,Bool.false_and];done)|rfl|exact(nomatch (hg:false=true))
noncomputable def impl_isWater_con:Con:=λargs h=>match args,h with|[.g a0 37,.i .i64 a1],[]=>some (.a (.b ((impl_isWater_v0 a0 a1))),.none,decide (0<=a1))|_,_=>none
theorem impl_isWater_enter:EntX Try.prog 118:=entX_ok (fn:=Try.f118) (by kernel_rfl) (by kernel_rfl) (by kernel_rfl)
theorem impl_isWater_ok:ConOkX mn Try.prog 118 impl_isWater_con:=(ansX_ok (N:=1000) (by kernel_rfl) (mKc (con_okX impl_isLand_ok) impl_isLand_enter mKn) (fn:=Try.f118) (by kernel_rfl) (by kernel_rfl) []).of (by
 intro ρ h w args vals r e hA hH hr;unfold impl_isWater_con at hr;split at hr
 ·rename_i a0 a1;obtain⟨rfl,hg⟩:=Prod.mk.inj (Option.some.inj hr);obtain⟨rfl,hg2⟩:=Prod.mk.inj hg;exact impl_isWater_main a0 a1 (hA.wt 0 rfl) (hA.rng 1 rfl) hg2
 ·cases hr)
theorem impl_hasTide_ans(N:Nat)(a0:Int):ansV Try.prog (mkΓ []) N Try.f93 [] [.i .i64 a0] []=(bif (a0==(0:Int)) then (some (.a (.b true),.none,true)) else (some (.a (.b ((a0==(1:Int)))),.none,true))):=by kernel_rfl
noncomputable def impl_hasTide_v0(a0:Int):Bool:=(bif (a0==(0:Int)) then true else (a0==(1:Int)))
theorem impl_hasTide_main(a0:Int)(h_a0:i64.min<=a0/\a0<=i64.max)(hg:(true)=true):ansV Try.prog (mkΓ []) 1000 Try.f93 [] [.i .i64 a0] []=some (.a (.b ((impl_hasTide_v0 a0))),.none,true):=by
 refine(impl_hasTide_ans 1000 a0).trans ?_;unfold impl_hasTide_v0;revert hg;generalize ((a0==(0:Int)))=b2;intro hg;cases b2
 ·skip
  first | (simp only[cond_true,cond_false,Bool.and_true,Bool.true_and,Bool.and_false,Bool.false_and];done)|rfl|exact(nomatch (hg:false=true))
 ·skip
  first | (simp only[cond_true,cond_false,Bool.and_true,Bool.true_and,Bool.and_false,Bool.false_and];done)|rfl|exact(nomatch (hg:false=true))
noncomputable def impl_hasTide_con:Con:=λargs h=>match args,h with|[.i .i64 a0],[]=>some (.a (.b ((impl_hasTide_v0 a0))),.none,true)|_,_=>none
theorem impl_hasTide_enter:EntX Try.prog 93:=entX_ok (fn:=Try.f93) (by kernel_rfl) (by kernel_rfl) (by kernel_rfl)
theorem impl_hasTide_ok:ConOkX mn Try.prog 93 impl_hasTide_con:=(ansX_ok (N:=1000) (by kernel_rfl) mKn (fn:=Try.f93) (by kernel_rfl) (by kernel_rfl) []).of (by
 intro ρ h w args vals r e hA hH hr;unfold impl_hasTide_con at hr;split at hr
 ·rename_i a0;obtain⟨rfl,hg⟩:=Prod.mk.inj (Option.some.inj hr);obtain⟨rfl,hg2⟩:=Prod.mk.inj hg;exact impl_hasTide_main a0 (hA.rng 0 rfl) hg2
 ·cases hr)
theorem impl_cellOf_ans(N:Nat)(a0:Array Value):ansV Try.prog (mkΓ []) N Try.f97 [] [.g a0 129] []=(some (.a (.i .i64 (i64.wrap ((num a0 0)+(i64.wrap ((6:Int)*(num a0 1)))))),.none,true)):=by kernel_rfl
theorem impl_cellOf_main(a0:Array Value)(h_a0:WT Try.prog 129 a0)(hg:(true)=true):ansV Try.prog (mkΓ []) 1000 Try.f97 [] [.g a0 129] []=some (.a (.i .i64 (i64.wrap ((num a0 0)+(i64.wrap ((6:Int)*(num a0 1)))))),.none,true):=by refine(impl_cellOf_ans 1000 a0).trans ?_;rfl
noncomputable def impl_cellOf_con:Con:=λargs h=>match args,h with|[.g a0 129],[]=>some (.a (.i .i64 (i64.wrap ((num a0 0)+(i64.wrap ((6:Int)*(num a0 1)))))),.none,true)|_,_=>none
theorem impl_cellOf_enter:EntX Try.prog 97:=entX_ok (fn:=Try.f97) (by kernel_rfl) (by kernel_rfl) (by kernel_rfl)
theorem impl_cellOf_ok:ConOkX mn Try.prog 97 impl_cellOf_con:=(ansX_ok (N:=1000) (by kernel_rfl) mKn (fn:=Try.f97) (by kernel_rfl) (by kernel_rfl) []).of (by
 intro ρ h w args vals r e hA hH hr;unfold impl_cellOf_con at hr;split at hr
 ·rename_i a0;obtain⟨rfl,hg⟩:=Prod.mk.inj (Option.some.inj hr);obtain⟨rfl,hg2⟩:=Prod.mk.inj hg;exact impl_cellOf_main a0 (hA.wt 0 rfl) hg2
 ·cases hr)
end
end Go.Proofs.Ytnhilgpdgicgfaa
