/- Places, tides, land and water, in company. -/
import Derived.Test.YtffagbiedigmcaaDoorProg
import Derived.Test.YtffagbiedigmcaaDoorVcE
namespace Go.Proofs.YtffagbiedigmcaaDoor
open Go.ChangeShapes Go.WideShapes Go.ChangeAt Go.RowKit Ve Vc
open Tryd (prog)
open IntKind (i64)
set_option linter.unusedVariables false
set_option linter.unusedSimpArgs false
set_option maxRecDepth 100000
noncomputable section
variable {mn:Md}
theorem Zw8 (N:Nat) (a0 a1 a2:Int):ansV prog (mkΓ []) N Tryd.f39 [] [.i .i64 (a0),.i .i64 (a1),.i .i64 (a2)] []=(bif decide (a0 ≥ a1) then (some (.a (.b (decide (a0≤a2))),.none,true))
  else (some (.a (.b (false)),.none,true))):=by kernel_rfl
def Zaa (a0 a1 a2:Int):Bool:=(bif decide (a0 ≥ a1) then decide (a0≤a2) else false)
theorem Zw2 (a0 a1 a2:Int) (h_a0:i64.min≤a0∧a0≤i64.max) (h_a1:i64.min≤a1∧a1≤i64.max) (h_a2:i64.min≤a2∧a2≤i64.max) (hg:(true)=true):ansV prog (mkΓ []) 1000 Tryd.f39 [] [.i .i64 (a0),.i .i64 (a1),.i .i64 (a2)] []=some (.a (.b ((Zaa a0 a1 a2))),.none,true):=by
 refine (Zw8 1000 a0 a1 a2).trans ?_
 unfold Zaa
 revert hg
 generalize (decide (a0 ≥ a1))=b2
 intro hg
 cases b2
 ·skip
  first | (simp only [cond_true,cond_false,Bool.and_true,Bool.true_and,Bool.and_false,Bool.false_and];done) | rfl | exact (nomatch (hg:false=true))
 ·skip
  first | (simp only [cond_true,cond_false,Bool.and_true,Bool.true_and,Bool.and_false,Bool.false_and];done) | rfl | exact (nomatch (hg:false=true))
def Zcg:Con:=fun args h=>match args,h with
 | [.i .i64 a0,.i .i64 a1,.i .i64 a2],[]=>some (.a (.b ((Zaa a0 a1 a2))),.none,true)
 | _,_=>none
theorem Ze9:EntX prog 39:=Zam (fn:=Tryd.f39) (by kernel_rfl) (by kernel_rfl) (by kernel_rfl)
theorem Zhl:ConOkX mn prog 39 Zcg:=(Zat (N:=1000) (by kernel_rfl) mkΓ_nilX (fn:=Tryd.f39) (by kernel_rfl) (by kernel_rfl) []).of (by
 intro ρ h w args vals r e hA hH hr
 unfold Zcg at hr
 split at hr
 ·rename_i a0 a1 a2
  obtain ⟨rfl,hg⟩:=Prod.mk.inj (Option.some.inj hr)
  obtain ⟨rfl,hg2⟩:=Prod.mk.inj hg
  exact Zw2 a0 a1 a2 (hA.rng 0 rfl) (hA.rng 1 rfl) (hA.rng 2 rfl) hg2
 ·cases hr)
theorem Zw9 (N:Nat) (a1:Int) (a0:Array Value):ansV prog (mkΓ [(39,con Zcg)]) N Tryd.f41 [] [.w 0,.i .i64 (a1)] [.row a0 35]=(bif (Zaa a1 (0:Int) (35:Int)) then (bif decide (((a1).tmod (6:Int))<(i64.wrap (num a0 0))) then (some (.a (.b (decide ((i64.wrap ((a1).tdiv (6:Int)))<(i64.wrap (num a0 1))))),.none,true))
   else (some (.a (.b (false)),.none,true)))
  else (some (.a (.b (false)),.none,true))):=by kernel_rfl
def Zas (a1:Int) (a0:Array Value):Bool:=(bif (Zaa a1 (0:Int) (35:Int)) then (bif decide (((a1).tmod (6:Int))<(i64.wrap (num a0 0))) then decide ((i64.wrap ((a1).tdiv (6:Int)))<(i64.wrap (num a0 1))) else false) else false)
theorem Zvp (a1:Int) (a0:Array Value) (h_a1:i64.min≤a1∧a1≤i64.max) (h_a0:WT prog 35 a0) (hg:(true)=true):ansV prog (mkΓ [(39,con Zcg)]) 1000 Tryd.f41 [] [.w 0,.i .i64 (a1)] [.row a0 35]=some (.a (.b ((Zas a1 a0))),.none,true):=by
 refine (Zw9 1000 a1 a0).trans ?_
 unfold Zas
 revert hg
 generalize ((Zaa a1 (0:Int) (35:Int)))=b2
 intro hg
 cases b2
 ·skip
  first | (simp only [cond_true,cond_false,Bool.and_true,Bool.true_and,Bool.and_false,Bool.false_and];done) | rfl | exact (nomatch (hg:false=true))
 ·skip
  revert hg
  generalize (decide (((a1).tmod (6:Int))<(i64.wrap (num a0 0))))=b4
  intro hg
  cases b4
  ·skip
   first | (simp only [cond_true,cond_false,Bool.and_true,Bool.true_and,Bool.and_false,Bool.false_and];done) | rfl | exact (nomatch (hg:false=true))
  ·skip
   first | (simp only [cond_true,cond_false,Bool.and_true,Bool.true_and,Bool.and_false,Bool.false_and];done) | rfl | exact (nomatch (hg:false=true))
def Zb6:Con:=fun args h=>match args,h with
 | [.w 0,.i .i64 a1],[.row a0 35]=>some (.a (.b ((Zas a1 a0))),.none,true)
 | _,_=>none
theorem Zl1:EntX prog 41:=Zam (fn:=Tryd.f41) (by kernel_rfl) (by kernel_rfl) (by kernel_rfl)
theorem Zry:ConOkX mn prog 41 Zb6:=(Zat (N:=1000) (by kernel_rfl) (mkΓ_consX (Zag Zhl) Ze9 mkΓ_nilX) (fn:=Tryd.f41) (by kernel_rfl) (by kernel_rfl) []).of (by
 intro ρ h w args vals r e hA hH hr
 unfold Zb6 at hr
 split at hr
 ·rename_i a1 a0
  obtain ⟨rfl,hg⟩:=Prod.mk.inj (Option.some.inj hr)
  obtain ⟨rfl,hg2⟩:=Prod.mk.inj hg
  exact Zvp a1 a0 (hA.rng 1 rfl) (hH.wt 0 rfl) hg2
 ·cases hr)
theorem Zuv (N:Nat) (a0:Int):ansV prog (mkΓ [(39,con Zcg)]) N Tryd.f38 [] [.i .i64 (a0)] []=(some (.a (.b ((Zaa a0 (0:Int) (1:Int)))),.none,true)):=by kernel_rfl
theorem Ztf (a0:Int) (h_a0:i64.min≤a0∧a0≤i64.max) (hg:(true)=true):ansV prog (mkΓ [(39,con Zcg)]) 1000 Tryd.f38 [] [.i .i64 (a0)] []=some (.a (.b ((Zaa a0 (0:Int) (1:Int)))),.none,true):=by
 refine (Zuv 1000 a0).trans ?_
 rfl
def Zij:Con:=fun args h=>match args,h with
 | [.i .i64 a0],[]=>some (.a (.b ((Zaa a0 (0:Int) (1:Int)))),.none,true)
 | _,_=>none
theorem Zq6:EntX prog 38:=Zam (fn:=Tryd.f38) (by kernel_rfl) (by kernel_rfl) (by kernel_rfl)
theorem Zw5:ConOkX mn prog 38 Zij:=(Zat (N:=1000) (by kernel_rfl) (mkΓ_consX (Zag Zhl) Ze9 mkΓ_nilX) (fn:=Tryd.f38) (by kernel_rfl) (by kernel_rfl) []).of (by
 intro ρ h w args vals r e hA hH hr
 unfold Zij at hr
 split at hr
 ·rename_i a0
  obtain ⟨rfl,hg⟩:=Prod.mk.inj (Option.some.inj hr)
  obtain ⟨rfl,hg2⟩:=Prod.mk.inj hg
  exact Ztf a0 (hA.rng 0 rfl) hg2
 ·cases hr)
theorem Zvy (N:Nat) (a1:Int) (a0:Array Value):ansV prog (mkΓ []) N Tryd.f42 [] [.w 0,.i .i64 (a1)] [.row a0 35]=(bif decide (0≤(IntKind.u64.wrap a1)) then (some (.a (.b (((((((num a0 2)).fdiv (2^(min ((IntKind.u64.wrap a1)).toNat IntKind.u64.bits)))).tmod (2:Int))==(1:Int)))),.none,true))
  else (none)):=by kernel_rfl
def Zcf (a1:Int) (a0:Array Value):Bool:=((((((num a0 2)).fdiv (2^(min ((IntKind.u64.wrap a1)).toNat IntKind.u64.bits)))).tmod (2:Int))==(1:Int))
theorem Zuj (a1:Int) (a0:Array Value) (h_a1:i64.min≤a1∧a1≤i64.max) (h_a0:WT prog 35 a0) (hg:(decide (0≤(IntKind.u64.wrap a1)))=true):ansV prog (mkΓ []) 1000 Tryd.f42 [] [.w 0,.i .i64 (a1)] [.row a0 35]=some (.a (.b ((Zcf a1 a0))),.none,true):=by
 refine (Zvy 1000 a1 a0).trans ?_
 unfold Zcf
 revert hg
 generalize (decide (0≤(IntKind.u64.wrap a1)))=b2
 intro hg
 cases b2
 ·skip
  first | exact (nomatch (hg:false=true)) | (simp only [cond_true,cond_false,Bool.and_true,Bool.true_and,Bool.and_false,Bool.false_and];done) | rfl
 ·skip
  first | (simp only [cond_true,cond_false,Bool.and_true,Bool.true_and,Bool.and_false,Bool.false_and];done) | rfl | exact (nomatch (hg:false=true))
def Zjo:Con:=fun args h=>match args,h with
 | [.w 0,.i .i64 a1],[.row a0 35]=>some (.a (.b ((Zcf a1 a0))),.none,decide (0≤(IntKind.u64.wrap a1)))
 | _,_=>none
theorem Zs3:EntX prog 42:=Zam (fn:=Tryd.f42) (by kernel_rfl) (by kernel_rfl) (by kernel_rfl)
theorem Zxb:ConOkX mn prog 42 Zjo:=(Zat (N:=1000) (by kernel_rfl) mkΓ_nilX (fn:=Tryd.f42) (by kernel_rfl) (by kernel_rfl) []).of (by
 intro ρ h w args vals r e hA hH hr
 unfold Zjo at hr
 split at hr
 ·rename_i a1 a0
  obtain ⟨rfl,hg⟩:=Prod.mk.inj (Option.some.inj hr)
  obtain ⟨rfl,hg2⟩:=Prod.mk.inj hg
  exact Zuj a1 a0 (hA.rng 1 rfl) (hH.wt 0 rfl) hg2
 ·cases hr)
def Zrd:Cons:=(mkΓ [(41,con Zb6),(42,con Zjo)])
theorem Zv9 (N:Nat) (a1:Int) (a0:Array Value):ansV prog Zrd N Tryd.f19 [] [.w 0,.i .i64 (a1)] [.row a0 35]=(bif (Zas a1 a0) then (bif decide (0≤(IntKind.u64.wrap a1)) then (some (.a (.b ((!((Zcf a1 a0))))),.none,true))
   else (none))
  else (some (.a (.b (false)),.none,true))):=by kernel_rfl
def Zac (a1:Int) (a0:Array Value):Bool:=(bif (Zas a1 a0) then (!((Zcf a1 a0))) else false)
def Za0 (a1:Int) (a0:Array Value):Bool:=(bif (Zas a1 a0) then decide (0≤(IntKind.u64.wrap a1)) else true)
theorem Zug (a1:Int) (a0:Array Value) (h_a1:i64.min≤a1∧a1≤i64.max) (h_a0:WT prog 35 a0) (hg:((Za0 a1 a0))=true):ansV prog Zrd 1000 Tryd.f19 [] [.w 0,.i .i64 (a1)] [.row a0 35]=some (.a (.b ((Zac a1 a0))),.none,true):=by
 refine (Zv9 1000 a1 a0).trans ?_
 unfold Za0 at hg
 unfold Zac
 revert hg
 generalize ((Zas a1 a0))=b2
 intro hg
 cases b2
 ·skip
  first | (simp only [cond_true,cond_false,Bool.and_true,Bool.true_and,Bool.and_false,Bool.false_and];done) | rfl | exact (nomatch (hg:false=true))
 ·skip
  revert hg
  generalize (decide (0≤(IntKind.u64.wrap a1)))=b4
  intro hg
  cases b4
  ·skip
   first | exact (nomatch (hg:false=true)) | (simp only [cond_true,cond_false,Bool.and_true,Bool.true_and,Bool.and_false,Bool.false_and];done) | rfl
  ·skip
   first | (simp only [cond_true,cond_false,Bool.and_true,Bool.true_and,Bool.and_false,Bool.false_and];done) | rfl | exact (nomatch (hg:false=true))
def Zfv:Con:=fun args h=>match args,h with
 | [.w 0,.i .i64 a1],[.row a0 35]=>some (.a (.b ((Zac a1 a0))),.none,(Za0 a1 a0))
 | _,_=>none
theorem Zh2:EntX prog 19:=Zam (fn:=Tryd.f19) (by kernel_rfl) (by kernel_rfl) (by kernel_rfl)
theorem Zj7:ConOkX mn prog 19 Zfv:=(Zat (N:=1000) (by kernel_rfl) (mkΓ_consX (Zag Zry) Zl1 (mkΓ_consX (Zag Zxb) Zs3 mkΓ_nilX)) (fn:=Tryd.f19) (by kernel_rfl) (by kernel_rfl) []).of (by
 intro ρ h w args vals r e hA hH hr
 unfold Zfv at hr
 split at hr
 ·rename_i a1 a0
  obtain ⟨rfl,hg⟩:=Prod.mk.inj (Option.some.inj hr)
  obtain ⟨rfl,hg2⟩:=Prod.mk.inj hg
  exact Zug a1 a0 (hA.rng 1 rfl) (hH.wt 0 rfl) hg2
 ·cases hr)
theorem Zsj (N:Nat) (a0 a1:Array Value):ansV prog (mkΓ []) N Tryd.f101 [] [.g a0 35,.g a1 176] []=(bif decide ((num a1 0) ≥ (0:Int)) then (bif decide ((num a1 0)<(i64.wrap (num a0 0))) then (bif decide ((num a1 1) ≥ (0:Int)) then (some (.a (.b (decide ((num a1 1)<(i64.wrap (num a0 1))))),.none,true))
    else (some (.a (.b (false)),.none,true)))
   else (some (.a (.b (false)),.none,true)))
  else (some (.a (.b (false)),.none,true))):=by kernel_rfl
def Zak (a0 a1:Array Value):Bool:=(bif decide ((num a1 0) ≥ (0:Int)) then (bif decide ((num a1 0)<(i64.wrap (num a0 0))) then (bif decide ((num a1 1) ≥ (0:Int)) then decide ((num a1 1)<(i64.wrap (num a0 1))) else false) else false) else false)
theorem Zr6 (a0 a1:Array Value) (h_a0:WT prog 35 a0) (h_a1:WT prog 176 a1) (hg:(true)=true):ansV prog (mkΓ []) 1000 Tryd.f101 [] [.g a0 35,.g a1 176] []=some (.a (.b ((Zak a0 a1))),.none,true):=by
 refine (Zsj 1000 a0 a1).trans ?_
 unfold Zak
 revert hg
 generalize (decide ((num a1 0) ≥ (0:Int)))=b2
 intro hg
 cases b2
 ·skip
  first | (simp only [cond_true,cond_false,Bool.and_true,Bool.true_and,Bool.and_false,Bool.false_and];done) | rfl | exact (nomatch (hg:false=true))
 ·skip
  revert hg
  generalize (decide ((num a1 0)<(i64.wrap (num a0 0))))=b4
  intro hg
  cases b4
  ·skip
   first | (simp only [cond_true,cond_false,Bool.and_true,Bool.true_and,Bool.and_false,Bool.false_and];done) | rfl | exact (nomatch (hg:false=true))
  ·skip
   revert hg
   generalize (decide ((num a1 1) ≥ (0:Int)))=b6
   intro hg
   cases b6
   ·skip
    first | (simp only [cond_true,cond_false,Bool.and_true,Bool.true_and,Bool.and_false,Bool.false_and];done) | rfl | exact (nomatch (hg:false=true))
   ·skip
    first | (simp only [cond_true,cond_false,Bool.and_true,Bool.true_and,Bool.and_false,Bool.false_and];done) | rfl | exact (nomatch (hg:false=true))
def Zf4:Con:=fun args h=>match args,h with
 | [.g a0 35,.g a1 176],[]=>some (.a (.b ((Zak a0 a1))),.none,true)
 | _,_=>none
theorem Zjb:EntX prog 101:=Zam (fn:=Tryd.f101) (by kernel_rfl) (by kernel_rfl) (by kernel_rfl)
theorem Zl2:ConOkX mn prog 101 Zf4:=(Zat (N:=1000) (by kernel_rfl) mkΓ_nilX (fn:=Tryd.f101) (by kernel_rfl) (by kernel_rfl) []).of (by
 intro ρ h w args vals r e hA hH hr
 unfold Zf4 at hr
 split at hr
 ·rename_i a0 a1
  obtain ⟨rfl,hg⟩:=Prod.mk.inj (Option.some.inj hr)
  obtain ⟨rfl,hg2⟩:=Prod.mk.inj hg
  exact Zr6 a0 a1 (hA.wt 0 rfl) (hA.wt 1 rfl) hg2
 ·cases hr)
theorem Zul (N:Nat) (a0:Int):ansV prog (mkΓ []) N Tryd.f102 [] [.i .i64 (a0)] []=(some (.a (.g #[.int .i64 ((a0).tmod (6:Int)),.int .i64 (i64.wrap ((a0).tdiv (6:Int)))] 176),.none,true)):=by kernel_rfl
theorem Zs4 (a0:Int) (h_a0:i64.min≤a0∧a0≤i64.max) (hg:(true)=true):ansV prog (mkΓ []) 1000 Tryd.f102 [] [.i .i64 (a0)] []=some (.a (.g #[.int .i64 ((a0).tmod (6:Int)),.int .i64 (i64.wrap ((a0).tdiv (6:Int)))] 176),.none,true):=by
 refine (Zul 1000 a0).trans ?_
 rfl
def Zgj:Con:=fun args h=>match args,h with
 | [.i .i64 a0],[]=>some (.a (.g #[.int .i64 ((a0).tmod (6:Int)),.int .i64 (i64.wrap ((a0).tdiv (6:Int)))] 176),.none,true)
 | _,_=>none
theorem Zju:EntX prog 102:=Zam (fn:=Tryd.f102) (by kernel_rfl) (by kernel_rfl) (by kernel_rfl)
theorem Zmo:ConOkX mn prog 102 Zgj:=(Zat (N:=1000) (by kernel_rfl) mkΓ_nilX (fn:=Tryd.f102) (by kernel_rfl) (by kernel_rfl) []).of (by
 intro ρ h w args vals r e hA hH hr
 unfold Zgj at hr
 split at hr
 ·rename_i a0
  obtain ⟨rfl,hg⟩:=Prod.mk.inj (Option.some.inj hr)
  obtain ⟨rfl,hg2⟩:=Prod.mk.inj hg
  exact Zs4 a0 (hA.rng 0 rfl) hg2
 ·cases hr)
def Zo2:Cons:=(mkΓ [(101,con Zf4),(102,con Zgj)])
theorem Zus (N:Nat) (a0:Array Value) (a1:Int):ansV prog Zo2 N Tryd.f86 [] [.g a0 35,.i .i64 (a1)] []=(bif decide (a1 ≥ (0:Int)) then (bif decide (a1<(36:Int)) then (some (.a (.b ((Zak a0 (#[.int .i64 ((a1).tmod (6:Int)),.int .i64 (i64.wrap ((a1).tdiv (6:Int)))]:Array Value)))),.none,true))
   else (some (.a (.b (false)),.none,true)))
  else (some (.a (.b (false)),.none,true))):=by kernel_rfl
def Zao (a0:Array Value) (a1:Int):Bool:=(bif decide (a1 ≥ (0:Int)) then (bif decide (a1<(36:Int)) then (Zak a0 (#[.int .i64 ((a1).tmod (6:Int)),.int .i64 (i64.wrap ((a1).tdiv (6:Int)))]:Array Value)) else false) else false)
theorem Zsd (a0:Array Value) (a1:Int) (h_a0:WT prog 35 a0) (h_a1:i64.min≤a1∧a1≤i64.max) (hg:(true)=true):ansV prog Zo2 1000 Tryd.f86 [] [.g a0 35,.i .i64 (a1)] []=some (.a (.b ((Zao a0 a1))),.none,true):=by
 refine (Zus 1000 a0 a1).trans ?_
 unfold Zao
 revert hg
 generalize (decide (a1 ≥ (0:Int)))=b2
 intro hg
 cases b2
 ·skip
  first | (simp only [cond_true,cond_false,Bool.and_true,Bool.true_and,Bool.and_false,Bool.false_and];done) | rfl | exact (nomatch (hg:false=true))
 ·skip
  revert hg
  generalize (decide (a1<(36:Int)))=b4
  intro hg
  cases b4
  ·skip
   first | (simp only [cond_true,cond_false,Bool.and_true,Bool.true_and,Bool.and_false,Bool.false_and];done) | rfl | exact (nomatch (hg:false=true))
  ·skip
   first | (simp only [cond_true,cond_false,Bool.and_true,Bool.true_and,Bool.and_false,Bool.false_and];done) | rfl | exact (nomatch (hg:false=true))
def Zio:Con:=fun args h=>match args,h with
 | [.g a0 35,.i .i64 a1],[]=>some (.a (.b ((Zao a0 a1))),.none,true)
 | _,_=>none
theorem Zr3:EntX prog 86:=Zam (fn:=Tryd.f86) (by kernel_rfl) (by kernel_rfl) (by kernel_rfl)
theorem Zwm:ConOkX mn prog 86 Zio:=(Zat (N:=1000) (by kernel_rfl) (mkΓ_consX (Zag Zl2) Zjb (mkΓ_consX (Zag Zmo) Zju mkΓ_nilX)) (fn:=Tryd.f86) (by kernel_rfl) (by kernel_rfl) []).of (by
 intro ρ h w args vals r e hA hH hr
 unfold Zio at hr
 split at hr
 ·rename_i a0 a1
  obtain ⟨rfl,hg⟩:=Prod.mk.inj (Option.some.inj hr)
  obtain ⟨rfl,hg2⟩:=Prod.mk.inj hg
  exact Zsd a0 a1 (hA.wt 0 rfl) (hA.rng 1 rfl) hg2
 ·cases hr)
theorem Zxk (N:Nat) (a0:Int):ansV prog (mkΓ []) N Tryd.f54 [] [.i .i64 (a0)] []=(bif decide (0≤a0) then (some (.a (.i .u64 (IntKind.u64.wrap ((1:Int)*2^(min (a0).toNat IntKind.u64.bits)))),.none,true))
  else (none)):=by kernel_rfl
def Zbq (a0:Int):Int:=(IntKind.u64.wrap ((1:Int)*2^(min (a0).toNat IntKind.u64.bits)))
theorem Zwh (a0:Int) (h_a0:i64.min≤a0∧a0≤i64.max) (hg:(decide (0≤a0))=true):ansV prog (mkΓ []) 1000 Tryd.f54 [] [.i .i64 (a0)] []=some (.a (.i .u64 (Zbq a0)),.none,true):=by
 refine (Zxk 1000 a0).trans ?_
 unfold Zbq
 revert hg
 generalize (decide (0≤a0))=b2
 intro hg
 cases b2
 ·skip
  first | exact (nomatch (hg:false=true)) | (simp only [cond_true,cond_false,Bool.and_true,Bool.true_and,Bool.and_false,Bool.false_and];done) | rfl
 ·skip
  first | (simp only [cond_true,cond_false,Bool.and_true,Bool.true_and,Bool.and_false,Bool.false_and];done) | rfl | exact (nomatch (hg:false=true))
def Zbj:Con:=fun args h=>match args,h with
 | [.i .i64 a0],[]=>some (.a (.i .u64 (Zbq a0)),.none,decide (0≤a0))
 | _,_=>none
theorem Zih:EntX prog 54:=Zam (fn:=Tryd.f54) (by kernel_rfl) (by kernel_rfl) (by kernel_rfl)
theorem Zlw:ConOkX mn prog 54 Zbj:=(Zat (N:=1000) (by kernel_rfl) mkΓ_nilX (fn:=Tryd.f54) (by kernel_rfl) (by kernel_rfl) []).of (by
 intro ρ h w args vals r e hA hH hr
 unfold Zbj at hr
 split at hr
 ·rename_i a0
  obtain ⟨rfl,hg⟩:=Prod.mk.inj (Option.some.inj hr)
  obtain ⟨rfl,hg2⟩:=Prod.mk.inj hg
  exact Zwh a0 (hA.rng 0 rfl) hg2
 ·cases hr)
theorem Zwa (N:Nat) (a0:Array Value) (a1:Int):ansV prog (mkΓ [(54,con Zbj)]) N Tryd.f103 [] [.g a0 35,.i .i64 (a1)] []=(bif decide (0≤a1) then (some (.a (.b (((IntKind.u64.wrap (BitVec.ofInt IntKind.u64.bits (num a0 2) &&& BitVec.ofInt IntKind.u64.bits (Zbq a1)).toNat) != (0:Int)))),.none,true))
  else (none)):=by kernel_rfl
def Zad (a0:Array Value) (a1:Int):Bool:=((IntKind.u64.wrap (BitVec.ofInt IntKind.u64.bits (num a0 2) &&& BitVec.ofInt IntKind.u64.bits (Zbq a1)).toNat) != (0:Int))
theorem Zt4 (a0:Array Value) (a1:Int) (h_a0:WT prog 35 a0) (h_a1:i64.min≤a1∧a1≤i64.max) (hg:(decide (0≤a1))=true):ansV prog (mkΓ [(54,con Zbj)]) 1000 Tryd.f103 [] [.g a0 35,.i .i64 (a1)] []=some (.a (.b ((Zad a0 a1))),.none,true):=by
 refine (Zwa 1000 a0 a1).trans ?_
 unfold Zad
 revert hg
 generalize (decide (0≤a1))=b2
 intro hg
 cases b2
 ·skip
  first | exact (nomatch (hg:false=true)) | (simp only [cond_true,cond_false,Bool.and_true,Bool.true_and,Bool.and_false,Bool.false_and];done) | rfl
 ·skip
  first | (simp only [cond_true,cond_false,Bool.and_true,Bool.true_and,Bool.and_false,Bool.false_and];done) | rfl | exact (nomatch (hg:false=true))
def Zfp:Con:=fun args h=>match args,h with
 | [.g a0 35,.i .i64 a1],[]=>some (.a (.b ((Zad a0 a1))),.none,decide (0≤a1))
 | _,_=>none
theorem Zk5:EntX prog 103:=Zam (fn:=Tryd.f103) (by kernel_rfl) (by kernel_rfl) (by kernel_rfl)
theorem Zow:ConOkX mn prog 103 Zfp:=(Zat (N:=1000) (by kernel_rfl) (mkΓ_consX (Zag Zlw) Zih mkΓ_nilX) (fn:=Tryd.f103) (by kernel_rfl) (by kernel_rfl) []).of (by
 intro ρ h w args vals r e hA hH hr
 unfold Zfp at hr
 split at hr
 ·rename_i a0 a1
  obtain ⟨rfl,hg⟩:=Prod.mk.inj (Option.some.inj hr)
  obtain ⟨rfl,hg2⟩:=Prod.mk.inj hg
  exact Zt4 a0 a1 (hA.wt 0 rfl) (hA.rng 1 rfl) hg2
 ·cases hr)
theorem Zt0 (N:Nat) (a0:Array Value) (a1:Int):ansV prog (mkΓ [(103,con Zfp)]) N Tryd.f87 [] [.g a0 35,.i .i64 (a1)] []=(bif decide (0≤a1) then (some (.a (.b ((!((Zad a0 a1))))),.none,true))
  else (none)):=by kernel_rfl
def Zdw (a0:Array Value) (a1:Int):Bool:=(!((Zad a0 a1)))
theorem Zs2 (a0:Array Value) (a1:Int) (h_a0:WT prog 35 a0) (h_a1:i64.min≤a1∧a1≤i64.max) (hg:(decide (0≤a1))=true):ansV prog (mkΓ [(103,con Zfp)]) 1000 Tryd.f87 [] [.g a0 35,.i .i64 (a1)] []=some (.a (.b ((Zdw a0 a1))),.none,true):=by
 refine (Zt0 1000 a0 a1).trans ?_
 unfold Zdw
 revert hg
 generalize (decide (0≤a1))=b2
 intro hg
 cases b2
 ·skip
  first | exact (nomatch (hg:false=true)) | (simp only [cond_true,cond_false,Bool.and_true,Bool.true_and,Bool.and_false,Bool.false_and];done) | rfl
 ·skip
  first | (simp only [cond_true,cond_false,Bool.and_true,Bool.true_and,Bool.and_false,Bool.false_and];done) | rfl | exact (nomatch (hg:false=true))
def Zig:Con:=fun args h=>match args,h with
 | [.g a0 35,.i .i64 a1],[]=>some (.a (.b ((Zdw a0 a1))),.none,decide (0≤a1))
 | _,_=>none
theorem Zrf:EntX prog 87:=Zam (fn:=Tryd.f87) (by kernel_rfl) (by kernel_rfl) (by kernel_rfl)
theorem Zvs:ConOkX mn prog 87 Zig:=(Zat (N:=1000) (by kernel_rfl) (mkΓ_consX (Zag Zow) Zk5 mkΓ_nilX) (fn:=Tryd.f87) (by kernel_rfl) (by kernel_rfl) []).of (by
 intro ρ h w args vals r e hA hH hr
 unfold Zig at hr
 split at hr
 ·rename_i a0 a1
  obtain ⟨rfl,hg⟩:=Prod.mk.inj (Option.some.inj hr)
  obtain ⟨rfl,hg2⟩:=Prod.mk.inj hg
  exact Zs2 a0 a1 (hA.wt 0 rfl) (hA.rng 1 rfl) hg2
 ·cases hr)
theorem Zub (N:Nat) (a0:Int):ansV prog (mkΓ []) N Tryd.f68 [] [.i .i64 (a0)] []=(bif (a0==(0:Int)) then (some (.a (.b (true)),.none,true))
  else (some (.a (.b ((a0==(1:Int)))),.none,true))):=by kernel_rfl
def Zch (a0:Int):Bool:=(bif (a0==(0:Int)) then true else (a0==(1:Int)))
theorem Zsq (a0:Int) (h_a0:i64.min≤a0∧a0≤i64.max) (hg:(true)=true):ansV prog (mkΓ []) 1000 Tryd.f68 [] [.i .i64 (a0)] []=some (.a (.b ((Zch a0))),.none,true):=by
 refine (Zub 1000 a0).trans ?_
 unfold Zch
 revert hg
 generalize ((a0==(0:Int)))=b2
 intro hg
 cases b2
 ·skip
  first | (simp only [cond_true,cond_false,Bool.and_true,Bool.true_and,Bool.and_false,Bool.false_and];done) | rfl | exact (nomatch (hg:false=true))
 ·skip
  first | (simp only [cond_true,cond_false,Bool.and_true,Bool.true_and,Bool.and_false,Bool.false_and];done) | rfl | exact (nomatch (hg:false=true))
def Zgn:Con:=fun args h=>match args,h with
 | [.i .i64 a0],[]=>some (.a (.b ((Zch a0))),.none,true)
 | _,_=>none
theorem Zqu:EntX prog 68:=Zam (fn:=Tryd.f68) (by kernel_rfl) (by kernel_rfl) (by kernel_rfl)
theorem Zvq:ConOkX mn prog 68 Zgn:=(Zat (N:=1000) (by kernel_rfl) mkΓ_nilX (fn:=Tryd.f68) (by kernel_rfl) (by kernel_rfl) []).of (by
 intro ρ h w args vals r e hA hH hr
 unfold Zgn at hr
 split at hr
 ·rename_i a0
  obtain ⟨rfl,hg⟩:=Prod.mk.inj (Option.some.inj hr)
  obtain ⟨rfl,hg2⟩:=Prod.mk.inj hg
  exact Zsq a0 (hA.rng 0 rfl) hg2
 ·cases hr)
theorem Zu8 (N:Nat) (a0:Array Value):ansV prog (mkΓ []) N Tryd.f100 [] [.g a0 176] []=(some (.a (.i .i64 (i64.wrap ((num a0 0)+(i64.wrap ((6:Int)*(num a0 1)))))),.none,true)):=by kernel_rfl
theorem Zuu (a0:Array Value) (h_a0:WT prog 176 a0) (hg:(true)=true):ansV prog (mkΓ []) 1000 Tryd.f100 [] [.g a0 176] []=some (.a (.i .i64 (i64.wrap ((num a0 0)+(i64.wrap ((6:Int)*(num a0 1)))))),.none,true):=by
 refine (Zu8 1000 a0).trans ?_
 rfl
def Zhb:Con:=fun args h=>match args,h with
 | [.g a0 176],[]=>some (.a (.i .i64 (i64.wrap ((num a0 0)+(i64.wrap ((6:Int)*(num a0 1)))))),.none,true)
 | _,_=>none
theorem Zk6:EntX prog 100:=Zam (fn:=Tryd.f100) (by kernel_rfl) (by kernel_rfl) (by kernel_rfl)
theorem Zoz:ConOkX mn prog 100 Zhb:=(Zat (N:=1000) (by kernel_rfl) mkΓ_nilX (fn:=Tryd.f100) (by kernel_rfl) (by kernel_rfl) []).of (by
 intro ρ h w args vals r e hA hH hr
 unfold Zhb at hr
 split at hr
 ·rename_i a0
  obtain ⟨rfl,hg⟩:=Prod.mk.inj (Option.some.inj hr)
  obtain ⟨rfl,hg2⟩:=Prod.mk.inj hg
  exact Zuu a0 (hA.wt 0 rfl) hg2
 ·cases hr)
end
end Go.Proofs.YtffagbiedigmcaaDoor
