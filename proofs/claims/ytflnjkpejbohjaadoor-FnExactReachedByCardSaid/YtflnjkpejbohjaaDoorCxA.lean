/- Places, tides, land and water, in company. -/
import Derived.Test.YtflnjkpejbohjaaDoorProg
import Derived.Test.YtflnjkpejbohjaaDoorVcE
namespace Go.Proofs.YtflnjkpejbohjaaDoor
open Go.ChangeShapes Go.WideShapes Go.ChangeAt Go.RowKit Ve Vc
open Tryd (prog)
open IntKind (i64)
set_option linter.unusedVariables false
set_option linter.unusedSimpArgs false
set_option maxRecDepth 100000
noncomputable section
variable {mn:Md}
theorem Ycq (N:Nat) (a0 a1 a2:Int):ansV prog (mkΓ []) N Tryd.f66 [] [.i .i64 (a0),.i .i64 (a1),.i .i64 (a2)] []=(bif decide (a0 ≥ a1) then (some (.a (.b (decide (a0≤a2))),.none,true))
  else (some (.a (.b (false)),.none,true))):=by kernel_rfl
def Zaa (a0 a1 a2:Int):Bool:=(bif decide (a0 ≥ a1) then decide (a0≤a2) else false)
theorem Yck (a0 a1 a2:Int) (h_a0:i64.min≤a0∧a0≤i64.max) (h_a1:i64.min≤a1∧a1≤i64.max) (h_a2:i64.min≤a2∧a2≤i64.max) (hg:(true)=true):ansV prog (mkΓ []) 1000 Tryd.f66 [] [.i .i64 (a0),.i .i64 (a1),.i .i64 (a2)] []=some (.a (.b ((Zaa a0 a1 a2))),.none,true):=by
 refine (Ycq 1000 a0 a1 a2).trans ?_
 unfold Zaa
 revert hg
 generalize (decide (a0 ≥ a1))=b2
 intro hg
 cases b2
 ·skip
  first | (simp only [cond_true,cond_false,Bool.and_true,Bool.true_and,Bool.and_false,Bool.false_and];done) | rfl | exact (nomatch (hg:false=true))
 ·skip
  first | (simp only [cond_true,cond_false,Bool.and_true,Bool.true_and,Bool.and_false,Bool.false_and];done) | rfl | exact (nomatch (hg:false=true))
def Zcw:Con:=fun args h=>match args,h with
 | [.i .i64 a0,.i .i64 a1,.i .i64 a2],[]=>some (.a (.b ((Zaa a0 a1 a2))),.none,true)
 | _,_=>none
theorem Zgb:EntX prog 66:=Zag (fn:=Tryd.f66) (by kernel_rfl) (by kernel_rfl) (by kernel_rfl)
theorem Zjn:ConOkX mn prog 66 Zcw:=(Zah (N:=1000) (by kernel_rfl) mkΓ_nilX (fn:=Tryd.f66) (by kernel_rfl) (by kernel_rfl) []).of (by
 intro ρ h w args vals r e hA hH hr
 unfold Zcw at hr
 split at hr
 ·rename_i a0 a1 a2
  obtain ⟨rfl,hg⟩:=Prod.mk.inj (Option.some.inj hr)
  obtain ⟨rfl,hg2⟩:=Prod.mk.inj hg
  exact Yck a0 a1 a2 (hA.rng 0 rfl) (hA.rng 1 rfl) (hA.rng 2 rfl) hg2
 ·cases hr)
theorem Ycr (N:Nat) (a1:Int) (a0:Array Value):ansV prog (mkΓ [(66,con Zcw)]) N Tryd.f56 [] [.w 0,.i .i64 (a1)] [.row a0 42]=(bif (Zaa a1 (0:Int) (35:Int)) then (bif decide (((a1).tmod (6:Int))<(i64.wrap (num a0 0))) then (some (.a (.b (decide ((i64.wrap ((a1).tdiv (6:Int)))<(i64.wrap (num a0 1))))),.none,true))
   else (some (.a (.b (false)),.none,true)))
  else (some (.a (.b (false)),.none,true))):=by kernel_rfl
def Za2 (a1:Int) (a0:Array Value):Bool:=(bif (Zaa a1 (0:Int) (35:Int)) then (bif decide (((a1).tmod (6:Int))<(i64.wrap (num a0 0))) then decide ((i64.wrap ((a1).tdiv (6:Int)))<(i64.wrap (num a0 1))) else false) else false)
theorem Yca (a1:Int) (a0:Array Value) (h_a1:i64.min≤a1∧a1≤i64.max) (h_a0:WT prog 42 a0) (hg:(true)=true):ansV prog (mkΓ [(66,con Zcw)]) 1000 Tryd.f56 [] [.w 0,.i .i64 (a1)] [.row a0 42]=some (.a (.b ((Za2 a1 a0))),.none,true):=by
 refine (Ycr 1000 a1 a0).trans ?_
 unfold Za2
 revert hg
 generalize ((Zaa a1 (0:Int) (35:Int)))=b2
 intro hg
 cases b2
 ·skip
  first | (simp only [cond_true,cond_false,Bool.and_true,Bool.true_and,Bool.and_false,Bool.false_and];done) | rfl | exact (nomatch (hg:false=true))
 ·skip
  revert hg
  generalize (decide (((a1).tmod (6:Int))<(i64.wrap (num a0 0))))=b4
  intro hg
  cases b4
  ·skip
   first | (simp only [cond_true,cond_false,Bool.and_true,Bool.true_and,Bool.and_false,Bool.false_and];done) | rfl | exact (nomatch (hg:false=true))
  ·skip
   first | (simp only [cond_true,cond_false,Bool.and_true,Bool.true_and,Bool.and_false,Bool.false_and];done) | rfl | exact (nomatch (hg:false=true))
def Zck:Con:=fun args h=>match args,h with
 | [.w 0,.i .i64 a1],[.row a0 42]=>some (.a (.b ((Za2 a1 a0))),.none,true)
 | _,_=>none
theorem Zo2:EntX prog 56:=Zag (fn:=Tryd.f56) (by kernel_rfl) (by kernel_rfl) (by kernel_rfl)
theorem Zvx:ConOkX mn prog 56 Zck:=(Zah (N:=1000) (by kernel_rfl) (mkΓ_consX (Zad Zjn) Zgb mkΓ_nilX) (fn:=Tryd.f56) (by kernel_rfl) (by kernel_rfl) []).of (by
 intro ρ h w args vals r e hA hH hr
 unfold Zck at hr
 split at hr
 ·rename_i a1 a0
  obtain ⟨rfl,hg⟩:=Prod.mk.inj (Option.some.inj hr)
  obtain ⟨rfl,hg2⟩:=Prod.mk.inj hg
  exact Yca a1 a0 (hA.rng 1 rfl) (hH.wt 0 rfl) hg2
 ·cases hr)
theorem Zy6 (N:Nat) (a0:Int):ansV prog (mkΓ [(66,con Zcw)]) N Tryd.f69 [] [.i .i64 (a0)] []=(some (.a (.b ((Zaa a0 (0:Int) (1:Int)))),.none,true)):=by kernel_rfl
theorem Zxs (a0:Int) (h_a0:i64.min≤a0∧a0≤i64.max) (hg:(true)=true):ansV prog (mkΓ [(66,con Zcw)]) 1000 Tryd.f69 [] [.i .i64 (a0)] []=some (.a (.b ((Zaa a0 (0:Int) (1:Int)))),.none,true):=by
 refine (Zy6 1000 a0).trans ?_
 rfl
def Zks:Con:=fun args h=>match args,h with
 | [.i .i64 a0],[]=>some (.a (.b ((Zaa a0 (0:Int) (1:Int)))),.none,true)
 | _,_=>none
theorem Zvq:EntX prog 69:=Zag (fn:=Tryd.f69) (by kernel_rfl) (by kernel_rfl) (by kernel_rfl)
theorem Ybw:ConOkX mn prog 69 Zks:=(Zah (N:=1000) (by kernel_rfl) (mkΓ_consX (Zad Zjn) Zgb mkΓ_nilX) (fn:=Tryd.f69) (by kernel_rfl) (by kernel_rfl) []).of (by
 intro ρ h w args vals r e hA hH hr
 unfold Zks at hr
 split at hr
 ·rename_i a0
  obtain ⟨rfl,hg⟩:=Prod.mk.inj (Option.some.inj hr)
  obtain ⟨rfl,hg2⟩:=Prod.mk.inj hg
  exact Zxs a0 (hA.rng 0 rfl) hg2
 ·cases hr)
theorem Ycf (N:Nat) (a1:Int) (a0:Array Value):ansV prog (mkΓ []) N Tryd.f57 [] [.w 0,.i .i64 (a1)] [.row a0 42]=(bif decide (0≤(IntKind.u64.wrap a1)) then (some (.a (.b (((((((num a0 2)).fdiv (2^(min ((IntKind.u64.wrap a1)).toNat IntKind.u64.bits)))).tmod (2:Int))==(1:Int)))),.none,true))
  else (none)):=by kernel_rfl
def Zcv (a1:Int) (a0:Array Value):Bool:=((((((num a0 2)).fdiv (2^(min ((IntKind.u64.wrap a1)).toNat IntKind.u64.bits)))).tmod (2:Int))==(1:Int))
theorem Zzw (a1:Int) (a0:Array Value) (h_a1:i64.min≤a1∧a1≤i64.max) (h_a0:WT prog 42 a0) (hg:(decide (0≤(IntKind.u64.wrap a1)))=true):ansV prog (mkΓ []) 1000 Tryd.f57 [] [.w 0,.i .i64 (a1)] [.row a0 42]=some (.a (.b ((Zcv a1 a0))),.none,true):=by
 refine (Ycf 1000 a1 a0).trans ?_
 unfold Zcv
 revert hg
 generalize (decide (0≤(IntKind.u64.wrap a1)))=b2
 intro hg
 cases b2
 ·skip
  first | exact (nomatch (hg:false=true)) | (simp only [cond_true,cond_false,Bool.and_true,Bool.true_and,Bool.and_false,Bool.false_and];done) | rfl
 ·skip
  first | (simp only [cond_true,cond_false,Bool.and_true,Bool.true_and,Bool.and_false,Bool.false_and];done) | rfl | exact (nomatch (hg:false=true))
def Zlv:Con:=fun args h=>match args,h with
 | [.w 0,.i .i64 a1],[.row a0 42]=>some (.a (.b ((Zcv a1 a0))),.none,decide (0≤(IntKind.u64.wrap a1)))
 | _,_=>none
theorem Zyh:EntX prog 57:=Zag (fn:=Tryd.f57) (by kernel_rfl) (by kernel_rfl) (by kernel_rfl)
theorem Ycy:ConOkX mn prog 57 Zlv:=(Zah (N:=1000) (by kernel_rfl) mkΓ_nilX (fn:=Tryd.f57) (by kernel_rfl) (by kernel_rfl) []).of (by
 intro ρ h w args vals r e hA hH hr
 unfold Zlv at hr
 split at hr
 ·rename_i a1 a0
  obtain ⟨rfl,hg⟩:=Prod.mk.inj (Option.some.inj hr)
  obtain ⟨rfl,hg2⟩:=Prod.mk.inj hg
  exact Zzw a1 a0 (hA.rng 1 rfl) (hH.wt 0 rfl) hg2
 ·cases hr)
def Zw1:Cons:=(mkΓ [(56,con Zck),(57,con Zlv)])
theorem Ycc (N:Nat) (a1:Int) (a0:Array Value):ansV prog Zw1 N Tryd.f67 [] [.w 0,.i .i64 (a1)] [.row a0 42]=(bif (Za2 a1 a0) then (bif decide (0≤(IntKind.u64.wrap a1)) then (some (.a (.b ((!((Zcv a1 a0))))),.none,true))
   else (none))
  else (some (.a (.b (false)),.none,true))):=by kernel_rfl
def Zaf (a1:Int) (a0:Array Value):Bool:=(bif (Za2 a1 a0) then (!((Zcv a1 a0))) else false)
def Za4 (a1:Int) (a0:Array Value):Bool:=(bif (Za2 a1 a0) then decide (0≤(IntKind.u64.wrap a1)) else true)
theorem Zzv (a1:Int) (a0:Array Value) (h_a1:i64.min≤a1∧a1≤i64.max) (h_a0:WT prog 42 a0) (hg:((Za4 a1 a0))=true):ansV prog Zw1 1000 Tryd.f67 [] [.w 0,.i .i64 (a1)] [.row a0 42]=some (.a (.b ((Zaf a1 a0))),.none,true):=by
 refine (Ycc 1000 a1 a0).trans ?_
 unfold Za4 at hg
 unfold Zaf
 revert hg
 generalize ((Za2 a1 a0))=b2
 intro hg
 cases b2
 ·skip
  first | (simp only [cond_true,cond_false,Bool.and_true,Bool.true_and,Bool.and_false,Bool.false_and];done) | rfl | exact (nomatch (hg:false=true))
 ·skip
  revert hg
  generalize (decide (0≤(IntKind.u64.wrap a1)))=b4
  intro hg
  cases b4
  ·skip
   first | exact (nomatch (hg:false=true)) | (simp only [cond_true,cond_false,Bool.and_true,Bool.true_and,Bool.and_false,Bool.false_and];done) | rfl
  ·skip
   first | (simp only [cond_true,cond_false,Bool.and_true,Bool.true_and,Bool.and_false,Bool.false_and];done) | rfl | exact (nomatch (hg:false=true))
def Zg5:Con:=fun args h=>match args,h with
 | [.w 0,.i .i64 a1],[.row a0 42]=>some (.a (.b ((Zaf a1 a0))),.none,(Za4 a1 a0))
 | _,_=>none
theorem Zjv:EntX prog 67:=Zag (fn:=Tryd.f67) (by kernel_rfl) (by kernel_rfl) (by kernel_rfl)
theorem Zm9:ConOkX mn prog 67 Zg5:=(Zah (N:=1000) (by kernel_rfl) (mkΓ_consX (Zad Zvx) Zo2 (mkΓ_consX (Zad Ycy) Zyh mkΓ_nilX)) (fn:=Tryd.f67) (by kernel_rfl) (by kernel_rfl) []).of (by
 intro ρ h w args vals r e hA hH hr
 unfold Zg5 at hr
 split at hr
 ·rename_i a1 a0
  obtain ⟨rfl,hg⟩:=Prod.mk.inj (Option.some.inj hr)
  obtain ⟨rfl,hg2⟩:=Prod.mk.inj hg
  exact Zzv a1 a0 (hA.rng 1 rfl) (hH.wt 0 rfl) hg2
 ·cases hr)
theorem Zxi (N:Nat) (a0 a1:Array Value):ansV prog (mkΓ []) N Tryd.f89 [] [.g a0 42,.g a1 155] []=(bif decide ((num a1 0) ≥ (0:Int)) then (bif decide ((num a1 0)<(i64.wrap (num a0 0))) then (bif decide ((num a1 1) ≥ (0:Int)) then (some (.a (.b (decide ((num a1 1)<(i64.wrap (num a0 1))))),.none,true))
    else (some (.a (.b (false)),.none,true)))
   else (some (.a (.b (false)),.none,true)))
  else (some (.a (.b (false)),.none,true))):=by kernel_rfl
def Zal (a0 a1:Array Value):Bool:=(bif decide ((num a1 0) ≥ (0:Int)) then (bif decide ((num a1 0)<(i64.wrap (num a0 0))) then (bif decide ((num a1 1) ≥ (0:Int)) then decide ((num a1 1)<(i64.wrap (num a0 1))) else false) else false) else false)
theorem Zut (a0 a1:Array Value) (h_a0:WT prog 42 a0) (h_a1:WT prog 155 a1) (hg:(true)=true):ansV prog (mkΓ []) 1000 Tryd.f89 [] [.g a0 42,.g a1 155] []=some (.a (.b ((Zal a0 a1))),.none,true):=by
 refine (Zxi 1000 a0 a1).trans ?_
 unfold Zal
 revert hg
 generalize (decide ((num a1 0) ≥ (0:Int)))=b2
 intro hg
 cases b2
 ·skip
  first | (simp only [cond_true,cond_false,Bool.and_true,Bool.true_and,Bool.and_false,Bool.false_and];done) | rfl | exact (nomatch (hg:false=true))
 ·skip
  revert hg
  generalize (decide ((num a1 0)<(i64.wrap (num a0 0))))=b4
  intro hg
  cases b4
  ·skip
   first | (simp only [cond_true,cond_false,Bool.and_true,Bool.true_and,Bool.and_false,Bool.false_and];done) | rfl | exact (nomatch (hg:false=true))
  ·skip
   revert hg
   generalize (decide ((num a1 1) ≥ (0:Int)))=b6
   intro hg
   cases b6
   ·skip
    first | (simp only [cond_true,cond_false,Bool.and_true,Bool.true_and,Bool.and_false,Bool.false_and];done) | rfl | exact (nomatch (hg:false=true))
   ·skip
    first | (simp only [cond_true,cond_false,Bool.and_true,Bool.true_and,Bool.and_false,Bool.false_and];done) | rfl | exact (nomatch (hg:false=true))
def Zg7:Con:=fun args h=>match args,h with
 | [.g a0 42,.g a1 155],[]=>some (.a (.b ((Zal a0 a1))),.none,true)
 | _,_=>none
theorem Zmg:EntX prog 89:=Zag (fn:=Tryd.f89) (by kernel_rfl) (by kernel_rfl) (by kernel_rfl)
theorem Zo6:ConOkX mn prog 89 Zg7:=(Zah (N:=1000) (by kernel_rfl) mkΓ_nilX (fn:=Tryd.f89) (by kernel_rfl) (by kernel_rfl) []).of (by
 intro ρ h w args vals r e hA hH hr
 unfold Zg7 at hr
 split at hr
 ·rename_i a0 a1
  obtain ⟨rfl,hg⟩:=Prod.mk.inj (Option.some.inj hr)
  obtain ⟨rfl,hg2⟩:=Prod.mk.inj hg
  exact Zut a0 a1 (hA.wt 0 rfl) (hA.wt 1 rfl) hg2
 ·cases hr)
theorem Zzf (N:Nat) (a0:Int):ansV prog (mkΓ []) N Tryd.f90 [] [.i .i64 (a0)] []=(some (.a (.g #[.int .i64 ((a0).tmod (6:Int)),.int .i64 (i64.wrap ((a0).tdiv (6:Int)))] 155),.none,true)):=by kernel_rfl
theorem Zxj (a0:Int) (h_a0:i64.min≤a0∧a0≤i64.max) (hg:(true)=true):ansV prog (mkΓ []) 1000 Tryd.f90 [] [.i .i64 (a0)] []=some (.a (.g #[.int .i64 ((a0).tmod (6:Int)),.int .i64 (i64.wrap ((a0).tdiv (6:Int)))] 155),.none,true):=by
 refine (Zzf 1000 a0).trans ?_
 rfl
def Zh7:Con:=fun args h=>match args,h with
 | [.i .i64 a0],[]=>some (.a (.g #[.int .i64 ((a0).tmod (6:Int)),.int .i64 (i64.wrap ((a0).tdiv (6:Int)))] 155),.none,true)
 | _,_=>none
theorem Zmp:EntX prog 90:=Zag (fn:=Tryd.f90) (by kernel_rfl) (by kernel_rfl) (by kernel_rfl)
theorem Zp4:ConOkX mn prog 90 Zh7:=(Zah (N:=1000) (by kernel_rfl) mkΓ_nilX (fn:=Tryd.f90) (by kernel_rfl) (by kernel_rfl) []).of (by
 intro ρ h w args vals r e hA hH hr
 unfold Zh7 at hr
 split at hr
 ·rename_i a0
  obtain ⟨rfl,hg⟩:=Prod.mk.inj (Option.some.inj hr)
  obtain ⟨rfl,hg2⟩:=Prod.mk.inj hg
  exact Zxj a0 (hA.rng 0 rfl) hg2
 ·cases hr)
def Zs8:Cons:=(mkΓ [(89,con Zg7),(90,con Zh7)])
theorem Zzk (N:Nat) (a0:Array Value) (a1:Int):ansV prog Zs8 N Tryd.f60 [] [.g a0 42,.i .i64 (a1)] []=(bif decide (a1 ≥ (0:Int)) then (bif decide (a1<(36:Int)) then (some (.a (.b ((Zal a0 (#[.int .i64 ((a1).tmod (6:Int)),.int .i64 (i64.wrap ((a1).tdiv (6:Int)))]:Array Value)))),.none,true))
   else (some (.a (.b (false)),.none,true)))
  else (some (.a (.b (false)),.none,true))):=by kernel_rfl
def Zai (a0:Array Value) (a1:Int):Bool:=(bif decide (a1 ≥ (0:Int)) then (bif decide (a1<(36:Int)) then (Zal a0 (#[.int .i64 ((a1).tmod (6:Int)),.int .i64 (i64.wrap ((a1).tdiv (6:Int)))]:Array Value)) else false) else false)
theorem Zyn (a0:Array Value) (a1:Int) (h_a0:WT prog 42 a0) (h_a1:i64.min≤a1∧a1≤i64.max) (hg:(true)=true):ansV prog Zs8 1000 Tryd.f60 [] [.g a0 42,.i .i64 (a1)] []=some (.a (.b ((Zai a0 a1))),.none,true):=by
 refine (Zzk 1000 a0 a1).trans ?_
 unfold Zai
 revert hg
 generalize (decide (a1 ≥ (0:Int)))=b2
 intro hg
 cases b2
 ·skip
  first | (simp only [cond_true,cond_false,Bool.and_true,Bool.true_and,Bool.and_false,Bool.false_and];done) | rfl | exact (nomatch (hg:false=true))
 ·skip
  revert hg
  generalize (decide (a1<(36:Int)))=b4
  intro hg
  cases b4
  ·skip
   first | (simp only [cond_true,cond_false,Bool.and_true,Bool.true_and,Bool.and_false,Bool.false_and];done) | rfl | exact (nomatch (hg:false=true))
  ·skip
   first | (simp only [cond_true,cond_false,Bool.and_true,Bool.true_and,Bool.and_false,Bool.false_and];done) | rfl | exact (nomatch (hg:false=true))
def Zh5:Con:=fun args h=>match args,h with
 | [.g a0 42,.i .i64 a1],[]=>some (.a (.b ((Zai a0 a1))),.none,true)
 | _,_=>none
theorem Zmo:EntX prog 60:=Zag (fn:=Tryd.f60) (by kernel_rfl) (by kernel_rfl) (by kernel_rfl)
theorem Zqn:ConOkX mn prog 60 Zh5:=(Zah (N:=1000) (by kernel_rfl) (mkΓ_consX (Zad Zo6) Zmg (mkΓ_consX (Zad Zp4) Zmp mkΓ_nilX)) (fn:=Tryd.f60) (by kernel_rfl) (by kernel_rfl) []).of (by
 intro ρ h w args vals r e hA hH hr
 unfold Zh5 at hr
 split at hr
 ·rename_i a0 a1
  obtain ⟨rfl,hg⟩:=Prod.mk.inj (Option.some.inj hr)
  obtain ⟨rfl,hg2⟩:=Prod.mk.inj hg
  exact Zyn a0 a1 (hA.wt 0 rfl) (hA.rng 1 rfl) hg2
 ·cases hr)
theorem Yc9 (N:Nat) (a0:Int):ansV prog (mkΓ []) N Tryd.f85 [] [.i .i64 (a0)] []=(bif decide (0≤a0) then (some (.a (.i .u64 (IntKind.u64.wrap ((1:Int)*2^(min (a0).toNat IntKind.u64.bits)))),.none,true))
  else (none)):=by kernel_rfl
def Zbz (a0:Int):Int:=(IntKind.u64.wrap ((1:Int)*2^(min (a0).toNat IntKind.u64.bits)))
theorem Ybk (a0:Int) (h_a0:i64.min≤a0∧a0≤i64.max) (hg:(decide (0≤a0))=true):ansV prog (mkΓ []) 1000 Tryd.f85 [] [.i .i64 (a0)] []=some (.a (.i .u64 (Zbz a0)),.none,true):=by
 refine (Yc9 1000 a0).trans ?_
 unfold Zbz
 revert hg
 generalize (decide (0≤a0))=b2
 intro hg
 cases b2
 ·skip
  first | exact (nomatch (hg:false=true)) | (simp only [cond_true,cond_false,Bool.and_true,Bool.true_and,Bool.and_false,Bool.false_and];done) | rfl
 ·skip
  first | (simp only [cond_true,cond_false,Bool.and_true,Bool.true_and,Bool.and_false,Bool.false_and];done) | rfl | exact (nomatch (hg:false=true))
def Zbu:Con:=fun args h=>match args,h with
 | [.i .i64 a0],[]=>some (.a (.i .u64 (Zbz a0)),.none,decide (0≤a0))
 | _,_=>none
theorem Zk6:EntX prog 85:=Zag (fn:=Tryd.f85) (by kernel_rfl) (by kernel_rfl) (by kernel_rfl)
theorem Zoc:ConOkX mn prog 85 Zbu:=(Zah (N:=1000) (by kernel_rfl) mkΓ_nilX (fn:=Tryd.f85) (by kernel_rfl) (by kernel_rfl) []).of (by
 intro ρ h w args vals r e hA hH hr
 unfold Zbu at hr
 split at hr
 ·rename_i a0
  obtain ⟨rfl,hg⟩:=Prod.mk.inj (Option.some.inj hr)
  obtain ⟨rfl,hg2⟩:=Prod.mk.inj hg
  exact Ybk a0 (hA.rng 0 rfl) hg2
 ·cases hr)
theorem Ybq (N:Nat) (a0:Array Value) (a1:Int):ansV prog (mkΓ [(85,con Zbu)]) N Tryd.f88 [] [.g a0 42,.i .i64 (a1)] []=(bif decide (0≤a1) then (some (.a (.b (((IntKind.u64.wrap (BitVec.ofInt IntKind.u64.bits (num a0 2) &&& BitVec.ofInt IntKind.u64.bits (Zbz a1)).toNat) != (0:Int)))),.none,true))
  else (none)):=by kernel_rfl
def Zav (a0:Array Value) (a1:Int):Bool:=((IntKind.u64.wrap (BitVec.ofInt IntKind.u64.bits (num a0 2) &&& BitVec.ofInt IntKind.u64.bits (Zbz a1)).toNat) != (0:Int))
theorem Zz3 (a0:Array Value) (a1:Int) (h_a0:WT prog 42 a0) (h_a1:i64.min≤a1∧a1≤i64.max) (hg:(decide (0≤a1))=true):ansV prog (mkΓ [(85,con Zbu)]) 1000 Tryd.f88 [] [.g a0 42,.i .i64 (a1)] []=some (.a (.b ((Zav a0 a1))),.none,true):=by
 refine (Ybq 1000 a0 a1).trans ?_
 unfold Zav
 revert hg
 generalize (decide (0≤a1))=b2
 intro hg
 cases b2
 ·skip
  first | exact (nomatch (hg:false=true)) | (simp only [cond_true,cond_false,Bool.and_true,Bool.true_and,Bool.and_false,Bool.false_and];done) | rfl
 ·skip
  first | (simp only [cond_true,cond_false,Bool.and_true,Bool.true_and,Bool.and_false,Bool.false_and];done) | rfl | exact (nomatch (hg:false=true))
def Zbo:Con:=fun args h=>match args,h with
 | [.g a0 42,.i .i64 a1],[]=>some (.a (.b ((Zav a0 a1))),.none,decide (0≤a1))
 | _,_=>none
theorem Zn3:EntX prog 88:=Zag (fn:=Tryd.f88) (by kernel_rfl) (by kernel_rfl) (by kernel_rfl)
theorem Zs2:ConOkX mn prog 88 Zbo:=(Zah (N:=1000) (by kernel_rfl) (mkΓ_consX (Zad Zoc) Zk6 mkΓ_nilX) (fn:=Tryd.f88) (by kernel_rfl) (by kernel_rfl) []).of (by
 intro ρ h w args vals r e hA hH hr
 unfold Zbo at hr
 split at hr
 ·rename_i a0 a1
  obtain ⟨rfl,hg⟩:=Prod.mk.inj (Option.some.inj hr)
  obtain ⟨rfl,hg2⟩:=Prod.mk.inj hg
  exact Zz3 a0 a1 (hA.wt 0 rfl) (hA.rng 1 rfl) hg2
 ·cases hr)
theorem Zy8 (N:Nat) (a0:Array Value) (a1:Int):ansV prog (mkΓ [(88,con Zbo)]) N Tryd.f61 [] [.g a0 42,.i .i64 (a1)] []=(bif decide (0≤a1) then (some (.a (.b ((!((Zav a0 a1))))),.none,true))
  else (none)):=by kernel_rfl
def Zac (a0:Array Value) (a1:Int):Bool:=(!((Zav a0 a1)))
theorem Zye (a0:Array Value) (a1:Int) (h_a0:WT prog 42 a0) (h_a1:i64.min≤a1∧a1≤i64.max) (hg:(decide (0≤a1))=true):ansV prog (mkΓ [(88,con Zbo)]) 1000 Tryd.f61 [] [.g a0 42,.i .i64 (a1)] []=some (.a (.b ((Zac a0 a1))),.none,true):=by
 refine (Zy8 1000 a0 a1).trans ?_
 unfold Zac
 revert hg
 generalize (decide (0≤a1))=b2
 intro hg
 cases b2
 ·skip
  first | exact (nomatch (hg:false=true)) | (simp only [cond_true,cond_false,Bool.and_true,Bool.true_and,Bool.and_false,Bool.false_and];done) | rfl
 ·skip
  first | (simp only [cond_true,cond_false,Bool.and_true,Bool.true_and,Bool.and_false,Bool.false_and];done) | rfl | exact (nomatch (hg:false=true))
def Zew:Con:=fun args h=>match args,h with
 | [.g a0 42,.i .i64 a1],[]=>some (.a (.b ((Zac a0 a1))),.none,decide (0≤a1))
 | _,_=>none
theorem Zgp:EntX prog 61:=Zag (fn:=Tryd.f61) (by kernel_rfl) (by kernel_rfl) (by kernel_rfl)
theorem Zi4:ConOkX mn prog 61 Zew:=(Zah (N:=1000) (by kernel_rfl) (mkΓ_consX (Zad Zs2) Zn3 mkΓ_nilX) (fn:=Tryd.f61) (by kernel_rfl) (by kernel_rfl) []).of (by
 intro ρ h w args vals r e hA hH hr
 unfold Zew at hr
 split at hr
 ·rename_i a0 a1
  obtain ⟨rfl,hg⟩:=Prod.mk.inj (Option.some.inj hr)
  obtain ⟨rfl,hg2⟩:=Prod.mk.inj hg
  exact Zye a0 a1 (hA.wt 0 rfl) (hA.rng 1 rfl) hg2
 ·cases hr)
theorem Zy5 (N:Nat) (a0:Int):ansV prog (mkΓ []) N Tryd.f87 [] [.i .i64 (a0)] []=(bif (a0==(0:Int)) then (some (.a (.b (true)),.none,true))
  else (some (.a (.b ((a0==(1:Int)))),.none,true))):=by kernel_rfl
def Zdv (a0:Int):Bool:=(bif (a0==(0:Int)) then true else (a0==(1:Int)))
theorem Zxb (a0:Int) (h_a0:i64.min≤a0∧a0≤i64.max) (hg:(true)=true):ansV prog (mkΓ []) 1000 Tryd.f87 [] [.i .i64 (a0)] []=some (.a (.b ((Zdv a0))),.none,true):=by
 refine (Zy5 1000 a0).trans ?_
 unfold Zdv
 revert hg
 generalize ((a0==(0:Int)))=b2
 intro hg
 cases b2
 ·skip
  first | (simp only [cond_true,cond_false,Bool.and_true,Bool.true_and,Bool.and_false,Bool.false_and];done) | rfl | exact (nomatch (hg:false=true))
 ·skip
  first | (simp only [cond_true,cond_false,Bool.and_true,Bool.true_and,Bool.and_false,Bool.false_and];done) | rfl | exact (nomatch (hg:false=true))
def Zh6:Con:=fun args h=>match args,h with
 | [.i .i64 a0],[]=>some (.a (.b ((Zdv a0))),.none,true)
 | _,_=>none
theorem Zwi:EntX prog 87:=Zag (fn:=Tryd.f87) (by kernel_rfl) (by kernel_rfl) (by kernel_rfl)
theorem Yar:ConOkX mn prog 87 Zh6:=(Zah (N:=1000) (by kernel_rfl) mkΓ_nilX (fn:=Tryd.f87) (by kernel_rfl) (by kernel_rfl) []).of (by
 intro ρ h w args vals r e hA hH hr
 unfold Zh6 at hr
 split at hr
 ·rename_i a0
  obtain ⟨rfl,hg⟩:=Prod.mk.inj (Option.some.inj hr)
  obtain ⟨rfl,hg2⟩:=Prod.mk.inj hg
  exact Zxb a0 (hA.rng 0 rfl) hg2
 ·cases hr)
theorem Yai (N:Nat) (a0:Array Value):ansV prog (mkΓ []) N Tryd.f110 [] [.g a0 155] []=(some (.a (.i .i64 (i64.wrap ((num a0 0)+(i64.wrap ((6:Int)*(num a0 1)))))),.none,true)):=by kernel_rfl
theorem Zy1 (a0:Array Value) (h_a0:WT prog 155 a0) (hg:(true)=true):ansV prog (mkΓ []) 1000 Tryd.f110 [] [.g a0 155] []=some (.a (.i .i64 (i64.wrap ((num a0 0)+(i64.wrap ((6:Int)*(num a0 1)))))),.none,true):=by
 refine (Yai 1000 a0).trans ?_
 rfl
def Zjb:Con:=fun args h=>match args,h with
 | [.g a0 155],[]=>some (.a (.i .i64 (i64.wrap ((num a0 0)+(i64.wrap ((6:Int)*(num a0 1)))))),.none,true)
 | _,_=>none
theorem Zno:EntX prog 110:=Zag (fn:=Tryd.f110) (by kernel_rfl) (by kernel_rfl) (by kernel_rfl)
theorem Zs4:ConOkX mn prog 110 Zjb:=(Zah (N:=1000) (by kernel_rfl) mkΓ_nilX (fn:=Tryd.f110) (by kernel_rfl) (by kernel_rfl) []).of (by
 intro ρ h w args vals r e hA hH hr
 unfold Zjb at hr
 split at hr
 ·rename_i a0
  obtain ⟨rfl,hg⟩:=Prod.mk.inj (Option.some.inj hr)
  obtain ⟨rfl,hg2⟩:=Prod.mk.inj hg
  exact Zy1 a0 (hA.wt 0 rfl) hg2
 ·cases hr)
end
end Go.Proofs.YtflnjkpejbohjaaDoor
