/- Places, tides, land and water, in company. -/
import Derived.Test.YtflnjkpejbohjaaGreatDoorProg
import Derived.Test.YtflnjkpejbohjaaGreatDoorVcE
namespace Go.Proofs.YtflnjkpejbohjaaGreatDoor
open Go.ChangeShapes Go.WideShapes Go.ChangeAt Go.RowKit Ve Vc
open IntKind (i64)
set_option linter.unusedVariables false
set_option linter.unusedSimpArgs false
set_option maxRecDepth 100000
noncomputable section
variable {mn:Md}
theorem Ycn (N:Nat) (a0 a1 a2:Int):ansV Tryz.prog (mkΓ []) N Tryz.f58 [] [.i .i64 (a0),.i .i64 (a1),.i .i64 (a2)] []=(bif decide (a0 ≥ a1) then (some (.a (.b (decide (a0≤a2))),.none,true))
  else (some (.a (.b (false)),.none,true))):=by kernel_rfl
def Zaa (a0 a1 a2:Int):Bool:=(bif decide (a0 ≥ a1) then decide (a0≤a2) else false)
theorem Zzw (a0 a1 a2:Int) (h_a0:i64.min≤a0∧a0≤i64.max) (h_a1:i64.min≤a1∧a1≤i64.max) (h_a2:i64.min≤a2∧a2≤i64.max) (hg:(true)=true):ansV Tryz.prog (mkΓ []) 1000 Tryz.f58 [] [.i .i64 (a0),.i .i64 (a1),.i .i64 (a2)] []=some (.a (.b ((Zaa a0 a1 a2))),.none,true):=by
 refine (Ycn 1000 a0 a1 a2).trans ?_
 unfold Zaa
 revert hg
 generalize (decide (a0 ≥ a1))=b2
 intro hg
 cases b2
 ·skip
  first | (simp only [cond_true,cond_false,Bool.and_true,Bool.true_and,Bool.and_false,Bool.false_and];done) | rfl | exact (nomatch (hg:false=true))
 ·skip
  first | (simp only [cond_true,cond_false,Bool.and_true,Bool.true_and,Bool.and_false,Bool.false_and];done) | rfl | exact (nomatch (hg:false=true))
def Zcn:Con:=fun args h=>match args,h with
 | [.i .i64 a0,.i .i64 a1,.i .i64 a2],[]=>some (.a (.b ((Zaa a0 a1 a2))),.none,true)
 | _,_=>none
theorem Zfx:EntX Tryz.prog 58:=Zaf (fn:=Tryz.f58) (by kernel_rfl) (by kernel_rfl) (by kernel_rfl)
theorem Ziv:ConOkX mn Tryz.prog 58 Zcn:=(Zag (N:=1000) (by kernel_rfl) mkΓ_nilX (fn:=Tryz.f58) (by kernel_rfl) (by kernel_rfl) []).of (by
 intro ρ h w args vals r e hA hH hr
 unfold Zcn at hr
 split at hr
 ·rename_i a0 a1 a2
  obtain ⟨rfl,hg⟩:=Prod.mk.inj (Option.some.inj hr)
  obtain ⟨rfl,hg2⟩:=Prod.mk.inj hg
  exact Zzw a0 a1 a2 (hA.rng 0 rfl) (hA.rng 1 rfl) (hA.rng 2 rfl) hg2
 ·cases hr)
theorem Yce (N:Nat) (a1:Int) (a0:Array Value):ansV Tryz.prog (mkΓ [(58,con Zcn)]) N Tryz.f62 [] [.w 0,.i .i64 (a1)] [.row a0 41]=(bif (Zaa a1 (0:Int) (35:Int)) then (bif decide (((a1).tmod (6:Int))<(i64.wrap (num a0 0))) then (some (.a (.b (decide ((i64.wrap ((a1).tdiv (6:Int)))<(i64.wrap (num a0 1))))),.none,true))
   else (some (.a (.b (false)),.none,true)))
  else (some (.a (.b (false)),.none,true))):=by kernel_rfl
def Za0 (a1:Int) (a0:Array Value):Bool:=(bif (Zaa a1 (0:Int) (35:Int)) then (bif decide (((a1).tmod (6:Int))<(i64.wrap (num a0 0))) then decide ((i64.wrap ((a1).tdiv (6:Int)))<(i64.wrap (num a0 1))) else false) else false)
theorem Yaw (a1:Int) (a0:Array Value) (h_a1:i64.min≤a1∧a1≤i64.max) (h_a0:WT Tryz.prog 41 a0) (hg:(true)=true):ansV Tryz.prog (mkΓ [(58,con Zcn)]) 1000 Tryz.f62 [] [.w 0,.i .i64 (a1)] [.row a0 41]=some (.a (.b ((Za0 a1 a0))),.none,true):=by
 refine (Yce 1000 a1 a0).trans ?_
 unfold Za0
 revert hg
 generalize ((Zaa a1 (0:Int) (35:Int)))=b2
 intro hg
 cases b2
 ·skip
  first | (simp only [cond_true,cond_false,Bool.and_true,Bool.true_and,Bool.and_false,Bool.false_and];done) | rfl | exact (nomatch (hg:false=true))
 ·skip
  revert hg
  generalize (decide (((a1).tmod (6:Int))<(i64.wrap (num a0 0))))=b4
  intro hg
  cases b4
  ·skip
   first | (simp only [cond_true,cond_false,Bool.and_true,Bool.true_and,Bool.and_false,Bool.false_and];done) | rfl | exact (nomatch (hg:false=true))
  ·skip
   first | (simp only [cond_true,cond_false,Bool.and_true,Bool.true_and,Bool.and_false,Bool.false_and];done) | rfl | exact (nomatch (hg:false=true))
def Zcb:Con:=fun args h=>match args,h with
 | [.w 0,.i .i64 a1],[.row a0 41]=>some (.a (.b ((Za0 a1 a0))),.none,true)
 | _,_=>none
theorem Zn7:EntX Tryz.prog 62:=Zaf (fn:=Tryz.f62) (by kernel_rfl) (by kernel_rfl) (by kernel_rfl)
theorem Zs3:ConOkX mn Tryz.prog 62 Zcb:=(Zag (N:=1000) (by kernel_rfl) (mkΓ_consX (Zad Ziv) Zfx mkΓ_nilX) (fn:=Tryz.f62) (by kernel_rfl) (by kernel_rfl) []).of (by
 intro ρ h w args vals r e hA hH hr
 unfold Zcb at hr
 split at hr
 ·rename_i a1 a0
  obtain ⟨rfl,hg⟩:=Prod.mk.inj (Option.some.inj hr)
  obtain ⟨rfl,hg2⟩:=Prod.mk.inj hg
  exact Yaw a1 a0 (hA.rng 1 rfl) (hH.wt 0 rfl) hg2
 ·cases hr)
theorem Zxs (N:Nat) (a0:Int):ansV Tryz.prog (mkΓ [(58,con Zcn)]) N Tryz.f61 [] [.i .i64 (a0)] []=(some (.a (.b ((Zaa a0 (0:Int) (1:Int)))),.none,true)):=by kernel_rfl
theorem Zv6 (a0:Int) (h_a0:i64.min≤a0∧a0≤i64.max) (hg:(true)=true):ansV Tryz.prog (mkΓ [(58,con Zcn)]) 1000 Tryz.f61 [] [.i .i64 (a0)] []=some (.a (.b ((Zaa a0 (0:Int) (1:Int)))),.none,true):=by
 refine (Zxs 1000 a0).trans ?_
 rfl
def Zjw:Con:=fun args h=>match args,h with
 | [.i .i64 a0],[]=>some (.a (.b ((Zaa a0 (0:Int) (1:Int)))),.none,true)
 | _,_=>none
theorem Ztw:EntX Tryz.prog 61:=Zaf (fn:=Tryz.f61) (by kernel_rfl) (by kernel_rfl) (by kernel_rfl)
theorem Ybi:ConOkX mn Tryz.prog 61 Zjw:=(Zag (N:=1000) (by kernel_rfl) (mkΓ_consX (Zad Ziv) Zfx mkΓ_nilX) (fn:=Tryz.f61) (by kernel_rfl) (by kernel_rfl) []).of (by
 intro ρ h w args vals r e hA hH hr
 unfold Zjw at hr
 split at hr
 ·rename_i a0
  obtain ⟨rfl,hg⟩:=Prod.mk.inj (Option.some.inj hr)
  obtain ⟨rfl,hg2⟩:=Prod.mk.inj hg
  exact Zv6 a0 (hA.rng 0 rfl) hg2
 ·cases hr)
theorem Yaz (N:Nat) (a1:Int) (a0:Array Value):ansV Tryz.prog (mkΓ []) N Tryz.f76 [] [.w 0,.i .i64 (a1)] [.row a0 41]=(bif decide (0≤(IntKind.u64.wrap a1)) then (some (.a (.b (((((((num a0 2)).fdiv (2^(min ((IntKind.u64.wrap a1)).toNat IntKind.u64.bits)))).tmod (2:Int))==(1:Int)))),.none,true))
  else (none)):=by kernel_rfl
def Zco (a1:Int) (a0:Array Value):Bool:=((((((num a0 2)).fdiv (2^(min ((IntKind.u64.wrap a1)).toNat IntKind.u64.bits)))).tmod (2:Int))==(1:Int))
theorem Zxt (a1:Int) (a0:Array Value) (h_a1:i64.min≤a1∧a1≤i64.max) (h_a0:WT Tryz.prog 41 a0) (hg:(decide (0≤(IntKind.u64.wrap a1)))=true):ansV Tryz.prog (mkΓ []) 1000 Tryz.f76 [] [.w 0,.i .i64 (a1)] [.row a0 41]=some (.a (.b ((Zco a1 a0))),.none,true):=by
 refine (Yaz 1000 a1 a0).trans ?_
 unfold Zco
 revert hg
 generalize (decide (0≤(IntKind.u64.wrap a1)))=b2
 intro hg
 cases b2
 ·skip
  first | exact (nomatch (hg:false=true)) | (simp only [cond_true,cond_false,Bool.and_true,Bool.true_and,Bool.and_false,Bool.false_and];done) | rfl
 ·skip
  first | (simp only [cond_true,cond_false,Bool.and_true,Bool.true_and,Bool.and_false,Bool.false_and];done) | rfl | exact (nomatch (hg:false=true))
def Zlb:Con:=fun args h=>match args,h with
 | [.w 0,.i .i64 a1],[.row a0 41]=>some (.a (.b ((Zco a1 a0))),.none,decide (0≤(IntKind.u64.wrap a1)))
 | _,_=>none
theorem Zvk:EntX Tryz.prog 76:=Zaf (fn:=Tryz.f76) (by kernel_rfl) (by kernel_rfl) (by kernel_rfl)
theorem Ycl:ConOkX mn Tryz.prog 76 Zlb:=(Zag (N:=1000) (by kernel_rfl) mkΓ_nilX (fn:=Tryz.f76) (by kernel_rfl) (by kernel_rfl) []).of (by
 intro ρ h w args vals r e hA hH hr
 unfold Zlb at hr
 split at hr
 ·rename_i a1 a0
  obtain ⟨rfl,hg⟩:=Prod.mk.inj (Option.some.inj hr)
  obtain ⟨rfl,hg2⟩:=Prod.mk.inj hg
  exact Zxt a1 a0 (hA.rng 1 rfl) (hH.wt 0 rfl) hg2
 ·cases hr)
def Zuu:Cons:=(mkΓ [(62,con Zcb),(76,con Zlb)])
theorem Ybs (N:Nat) (a1:Int) (a0:Array Value):ansV Tryz.prog Zuu N Tryz.f59 [] [.w 0,.i .i64 (a1)] [.row a0 41]=(bif (Za0 a1 a0) then (bif decide (0≤(IntKind.u64.wrap a1)) then (some (.a (.b ((!((Zco a1 a0))))),.none,true))
   else (none))
  else (some (.a (.b (false)),.none,true))):=by kernel_rfl
def Zae (a1:Int) (a0:Array Value):Bool:=(bif (Za0 a1 a0) then (!((Zco a1 a0))) else false)
def Za1 (a1:Int) (a0:Array Value):Bool:=(bif (Za0 a1 a0) then decide (0≤(IntKind.u64.wrap a1)) else true)
theorem Zx3 (a1:Int) (a0:Array Value) (h_a1:i64.min≤a1∧a1≤i64.max) (h_a0:WT Tryz.prog 41 a0) (hg:((Za1 a1 a0))=true):ansV Tryz.prog Zuu 1000 Tryz.f59 [] [.w 0,.i .i64 (a1)] [.row a0 41]=some (.a (.b ((Zae a1 a0))),.none,true):=by
 refine (Ybs 1000 a1 a0).trans ?_
 unfold Za1 at hg
 unfold Zae
 revert hg
 generalize ((Za0 a1 a0))=b2
 intro hg
 cases b2
 ·skip
  first | (simp only [cond_true,cond_false,Bool.and_true,Bool.true_and,Bool.and_false,Bool.false_and];done) | rfl | exact (nomatch (hg:false=true))
 ·skip
  revert hg
  generalize (decide (0≤(IntKind.u64.wrap a1)))=b4
  intro hg
  cases b4
  ·skip
   first | exact (nomatch (hg:false=true)) | (simp only [cond_true,cond_false,Bool.and_true,Bool.true_and,Bool.and_false,Bool.false_and];done) | rfl
  ·skip
   first | (simp only [cond_true,cond_false,Bool.and_true,Bool.true_and,Bool.and_false,Bool.false_and];done) | rfl | exact (nomatch (hg:false=true))
def Zgk:Con:=fun args h=>match args,h with
 | [.w 0,.i .i64 a1],[.row a0 41]=>some (.a (.b ((Zae a1 a0))),.none,(Za1 a1 a0))
 | _,_=>none
theorem Zi5:EntX Tryz.prog 59:=Zaf (fn:=Tryz.f59) (by kernel_rfl) (by kernel_rfl) (by kernel_rfl)
theorem Zmd:ConOkX mn Tryz.prog 59 Zgk:=(Zag (N:=1000) (by kernel_rfl) (mkΓ_consX (Zad Zs3) Zn7 (mkΓ_consX (Zad Ycl) Zvk mkΓ_nilX)) (fn:=Tryz.f59) (by kernel_rfl) (by kernel_rfl) []).of (by
 intro ρ h w args vals r e hA hH hr
 unfold Zgk at hr
 split at hr
 ·rename_i a1 a0
  obtain ⟨rfl,hg⟩:=Prod.mk.inj (Option.some.inj hr)
  obtain ⟨rfl,hg2⟩:=Prod.mk.inj hg
  exact Zx3 a1 a0 (hA.rng 1 rfl) (hH.wt 0 rfl) hg2
 ·cases hr)
theorem Zwd (N:Nat) (a0 a1:Array Value):ansV Tryz.prog (mkΓ []) N Tryz.f99 [] [.g a0 41,.g a1 166] []=(bif decide ((num a1 0) ≥ (0:Int)) then (bif decide ((num a1 0)<(i64.wrap (num a0 0))) then (bif decide ((num a1 1) ≥ (0:Int)) then (some (.a (.b (decide ((num a1 1)<(i64.wrap (num a0 1))))),.none,true))
    else (some (.a (.b (false)),.none,true)))
   else (some (.a (.b (false)),.none,true)))
  else (some (.a (.b (false)),.none,true))):=by kernel_rfl
def Zak (a0 a1:Array Value):Bool:=(bif decide ((num a1 0) ≥ (0:Int)) then (bif decide ((num a1 0)<(i64.wrap (num a0 0))) then (bif decide ((num a1 1) ≥ (0:Int)) then decide ((num a1 1)<(i64.wrap (num a0 1))) else false) else false) else false)
theorem Zun (a0 a1:Array Value) (h_a0:WT Tryz.prog 41 a0) (h_a1:WT Tryz.prog 166 a1) (hg:(true)=true):ansV Tryz.prog (mkΓ []) 1000 Tryz.f99 [] [.g a0 41,.g a1 166] []=some (.a (.b ((Zak a0 a1))),.none,true):=by
 refine (Zwd 1000 a0 a1).trans ?_
 unfold Zak
 revert hg
 generalize (decide ((num a1 0) ≥ (0:Int)))=b2
 intro hg
 cases b2
 ·skip
  first | (simp only [cond_true,cond_false,Bool.and_true,Bool.true_and,Bool.and_false,Bool.false_and];done) | rfl | exact (nomatch (hg:false=true))
 ·skip
  revert hg
  generalize (decide ((num a1 0)<(i64.wrap (num a0 0))))=b4
  intro hg
  cases b4
  ·skip
   first | (simp only [cond_true,cond_false,Bool.and_true,Bool.true_and,Bool.and_false,Bool.false_and];done) | rfl | exact (nomatch (hg:false=true))
  ·skip
   revert hg
   generalize (decide ((num a1 1) ≥ (0:Int)))=b6
   intro hg
   cases b6
   ·skip
    first | (simp only [cond_true,cond_false,Bool.and_true,Bool.true_and,Bool.and_false,Bool.false_and];done) | rfl | exact (nomatch (hg:false=true))
   ·skip
    first | (simp only [cond_true,cond_false,Bool.and_true,Bool.true_and,Bool.and_false,Bool.false_and];done) | rfl | exact (nomatch (hg:false=true))
def Zgx:Con:=fun args h=>match args,h with
 | [.g a0 41,.g a1 166],[]=>some (.a (.b ((Zak a0 a1))),.none,true)
 | _,_=>none
theorem Zk1:EntX Tryz.prog 99:=Zaf (fn:=Tryz.f99) (by kernel_rfl) (by kernel_rfl) (by kernel_rfl)
theorem Zn3:ConOkX mn Tryz.prog 99 Zgx:=(Zag (N:=1000) (by kernel_rfl) mkΓ_nilX (fn:=Tryz.f99) (by kernel_rfl) (by kernel_rfl) []).of (by
 intro ρ h w args vals r e hA hH hr
 unfold Zgx at hr
 split at hr
 ·rename_i a0 a1
  obtain ⟨rfl,hg⟩:=Prod.mk.inj (Option.some.inj hr)
  obtain ⟨rfl,hg2⟩:=Prod.mk.inj hg
  exact Zun a0 a1 (hA.wt 0 rfl) (hA.wt 1 rfl) hg2
 ·cases hr)
theorem Zyt (N:Nat) (a0:Int):ansV Tryz.prog (mkΓ []) N Tryz.f100 [] [.i .i64 (a0)] []=(some (.a (.g #[.int .i64 ((a0).tmod (6:Int)),.int .i64 (i64.wrap ((a0).tdiv (6:Int)))] 166),.none,true)):=by kernel_rfl
theorem Zv1 (a0:Int) (h_a0:i64.min≤a0∧a0≤i64.max) (hg:(true)=true):ansV Tryz.prog (mkΓ []) 1000 Tryz.f100 [] [.i .i64 (a0)] []=some (.a (.g #[.int .i64 ((a0).tmod (6:Int)),.int .i64 (i64.wrap ((a0).tdiv (6:Int)))] 166),.none,true):=by
 refine (Zyt 1000 a0).trans ?_
 rfl
def Zhl:Con:=fun args h=>match args,h with
 | [.i .i64 a0],[]=>some (.a (.g #[.int .i64 ((a0).tmod (6:Int)),.int .i64 (i64.wrap ((a0).tdiv (6:Int)))] 166),.none,true)
 | _,_=>none
theorem Zl7:EntX Tryz.prog 100:=Zaf (fn:=Tryz.f100) (by kernel_rfl) (by kernel_rfl) (by kernel_rfl)
theorem Zpc:ConOkX mn Tryz.prog 100 Zhl:=(Zag (N:=1000) (by kernel_rfl) mkΓ_nilX (fn:=Tryz.f100) (by kernel_rfl) (by kernel_rfl) []).of (by
 intro ρ h w args vals r e hA hH hr
 unfold Zhl at hr
 split at hr
 ·rename_i a0
  obtain ⟨rfl,hg⟩:=Prod.mk.inj (Option.some.inj hr)
  obtain ⟨rfl,hg2⟩:=Prod.mk.inj hg
  exact Zv1 a0 (hA.rng 0 rfl) hg2
 ·cases hr)
def Zrm:Cons:=(mkΓ [(99,con Zgx),(100,con Zhl)])
theorem Zx4 (N:Nat) (a0:Array Value) (a1:Int):ansV Tryz.prog Zrm N Tryz.f90 [] [.g a0 41,.i .i64 (a1)] []=(bif decide (a1 ≥ (0:Int)) then (bif decide (a1<(36:Int)) then (some (.a (.b ((Zak a0 (#[.int .i64 ((a1).tmod (6:Int)),.int .i64 (i64.wrap ((a1).tdiv (6:Int)))]:Array Value)))),.none,true))
   else (some (.a (.b (false)),.none,true)))
  else (some (.a (.b (false)),.none,true))):=by kernel_rfl
def Zah (a0:Array Value) (a1:Int):Bool:=(bif decide (a1 ≥ (0:Int)) then (bif decide (a1<(36:Int)) then (Zak a0 (#[.int .i64 ((a1).tmod (6:Int)),.int .i64 (i64.wrap ((a1).tdiv (6:Int)))]:Array Value)) else false) else false)
theorem Zwt (a0:Array Value) (a1:Int) (h_a0:WT Tryz.prog 41 a0) (h_a1:i64.min≤a1∧a1≤i64.max) (hg:(true)=true):ansV Tryz.prog Zrm 1000 Tryz.f90 [] [.g a0 41,.i .i64 (a1)] []=some (.a (.b ((Zah a0 a1))),.none,true):=by
 refine (Zx4 1000 a0 a1).trans ?_
 unfold Zah
 revert hg
 generalize (decide (a1 ≥ (0:Int)))=b2
 intro hg
 cases b2
 ·skip
  first | (simp only [cond_true,cond_false,Bool.and_true,Bool.true_and,Bool.and_false,Bool.false_and];done) | rfl | exact (nomatch (hg:false=true))
 ·skip
  revert hg
  generalize (decide (a1<(36:Int)))=b4
  intro hg
  cases b4
  ·skip
   first | (simp only [cond_true,cond_false,Bool.and_true,Bool.true_and,Bool.and_false,Bool.false_and];done) | rfl | exact (nomatch (hg:false=true))
  ·skip
   first | (simp only [cond_true,cond_false,Bool.and_true,Bool.true_and,Bool.and_false,Bool.false_and];done) | rfl | exact (nomatch (hg:false=true))
def Zhm:Con:=fun args h=>match args,h with
 | [.g a0 41,.i .i64 a1],[]=>some (.a (.b ((Zah a0 a1))),.none,true)
 | _,_=>none
theorem Zl2:EntX Tryz.prog 90:=Zaf (fn:=Tryz.f90) (by kernel_rfl) (by kernel_rfl) (by kernel_rfl)
theorem Zpz:ConOkX mn Tryz.prog 90 Zhm:=(Zag (N:=1000) (by kernel_rfl) (mkΓ_consX (Zad Zn3) Zk1 (mkΓ_consX (Zad Zpc) Zl7 mkΓ_nilX)) (fn:=Tryz.f90) (by kernel_rfl) (by kernel_rfl) []).of (by
 intro ρ h w args vals r e hA hH hr
 unfold Zhm at hr
 split at hr
 ·rename_i a0 a1
  obtain ⟨rfl,hg⟩:=Prod.mk.inj (Option.some.inj hr)
  obtain ⟨rfl,hg2⟩:=Prod.mk.inj hg
  exact Zwt a0 a1 (hA.wt 0 rfl) (hA.rng 1 rfl) hg2
 ·cases hr)
theorem Yb1 (N:Nat) (a0:Int):ansV Tryz.prog (mkΓ []) N Tryz.f52 [] [.i .i64 (a0)] []=(bif decide (0≤a0) then (some (.a (.i .u64 (IntKind.u64.wrap ((1:Int)*2^(min (a0).toNat IntKind.u64.bits)))),.none,true))
  else (none)):=by kernel_rfl
def Zce (a0:Int):Int:=(IntKind.u64.wrap ((1:Int)*2^(min (a0).toNat IntKind.u64.bits)))
theorem Zzl (a0:Int) (h_a0:i64.min≤a0∧a0≤i64.max) (hg:(decide (0≤a0))=true):ansV Tryz.prog (mkΓ []) 1000 Tryz.f52 [] [.i .i64 (a0)] []=some (.a (.i .u64 (Zce a0)),.none,true):=by
 refine (Yb1 1000 a0).trans ?_
 unfold Zce
 revert hg
 generalize (decide (0≤a0))=b2
 intro hg
 cases b2
 ·skip
  first | exact (nomatch (hg:false=true)) | (simp only [cond_true,cond_false,Bool.and_true,Bool.true_and,Bool.and_false,Bool.false_and];done) | rfl
 ·skip
  first | (simp only [cond_true,cond_false,Bool.and_true,Bool.true_and,Bool.and_false,Bool.false_and];done) | rfl | exact (nomatch (hg:false=true))
def Zbl:Con:=fun args h=>match args,h with
 | [.i .i64 a0],[]=>some (.a (.i .u64 (Zce a0)),.none,decide (0≤a0))
 | _,_=>none
theorem Zju:EntX Tryz.prog 52:=Zaf (fn:=Tryz.f52) (by kernel_rfl) (by kernel_rfl) (by kernel_rfl)
theorem Zns:ConOkX mn Tryz.prog 52 Zbl:=(Zag (N:=1000) (by kernel_rfl) mkΓ_nilX (fn:=Tryz.f52) (by kernel_rfl) (by kernel_rfl) []).of (by
 intro ρ h w args vals r e hA hH hr
 unfold Zbl at hr
 split at hr
 ·rename_i a0
  obtain ⟨rfl,hg⟩:=Prod.mk.inj (Option.some.inj hr)
  obtain ⟨rfl,hg2⟩:=Prod.mk.inj hg
  exact Zzl a0 (hA.rng 0 rfl) hg2
 ·cases hr)
theorem Ya6 (N:Nat) (a0:Array Value) (a1:Int):ansV Tryz.prog (mkΓ [(52,con Zbl)]) N Tryz.f87 [] [.g a0 41,.i .i64 (a1)] []=(bif decide (0≤a1) then (some (.a (.b (((IntKind.u64.wrap (BitVec.ofInt IntKind.u64.bits (num a0 2) &&& BitVec.ofInt IntKind.u64.bits (Zce a1)).toNat) != (0:Int)))),.none,true))
  else (none)):=by kernel_rfl
def Zas (a0:Array Value) (a1:Int):Bool:=((IntKind.u64.wrap (BitVec.ofInt IntKind.u64.bits (num a0 2) &&& BitVec.ofInt IntKind.u64.bits (Zce a1)).toNat) != (0:Int))
theorem Zxw (a0:Array Value) (a1:Int) (h_a0:WT Tryz.prog 41 a0) (h_a1:i64.min≤a1∧a1≤i64.max) (hg:(decide (0≤a1))=true):ansV Tryz.prog (mkΓ [(52,con Zbl)]) 1000 Tryz.f87 [] [.g a0 41,.i .i64 (a1)] []=some (.a (.b ((Zas a0 a1))),.none,true):=by
 refine (Ya6 1000 a0 a1).trans ?_
 unfold Zas
 revert hg
 generalize (decide (0≤a1))=b2
 intro hg
 cases b2
 ·skip
  first | exact (nomatch (hg:false=true)) | (simp only [cond_true,cond_false,Bool.and_true,Bool.true_and,Bool.and_false,Bool.false_and];done) | rfl
 ·skip
  first | (simp only [cond_true,cond_false,Bool.and_true,Bool.true_and,Bool.and_false,Bool.false_and];done) | rfl | exact (nomatch (hg:false=true))
def Zbj:Con:=fun args h=>match args,h with
 | [.g a0 41,.i .i64 a1],[]=>some (.a (.b ((Zas a0 a1))),.none,decide (0≤a1))
 | _,_=>none
theorem Zmx:EntX Tryz.prog 87:=Zaf (fn:=Tryz.f87) (by kernel_rfl) (by kernel_rfl) (by kernel_rfl)
theorem Zro:ConOkX mn Tryz.prog 87 Zbj:=(Zag (N:=1000) (by kernel_rfl) (mkΓ_consX (Zad Zns) Zju mkΓ_nilX) (fn:=Tryz.f87) (by kernel_rfl) (by kernel_rfl) []).of (by
 intro ρ h w args vals r e hA hH hr
 unfold Zbj at hr
 split at hr
 ·rename_i a0 a1
  obtain ⟨rfl,hg⟩:=Prod.mk.inj (Option.some.inj hr)
  obtain ⟨rfl,hg2⟩:=Prod.mk.inj hg
  exact Zxw a0 a1 (hA.wt 0 rfl) (hA.rng 1 rfl) hg2
 ·cases hr)
theorem Zym (N:Nat) (a0:Array Value) (a1:Int):ansV Tryz.prog (mkΓ [(87,con Zbj)]) N Tryz.f91 [] [.g a0 41,.i .i64 (a1)] []=(bif decide (0≤a1) then (some (.a (.b ((!((Zas a0 a1))))),.none,true))
  else (none)):=by kernel_rfl
def Zab (a0:Array Value) (a1:Int):Bool:=(!((Zas a0 a1)))
theorem Zwk (a0:Array Value) (a1:Int) (h_a0:WT Tryz.prog 41 a0) (h_a1:i64.min≤a1∧a1≤i64.max) (hg:(decide (0≤a1))=true):ansV Tryz.prog (mkΓ [(87,con Zbj)]) 1000 Tryz.f91 [] [.g a0 41,.i .i64 (a1)] []=some (.a (.b ((Zab a0 a1))),.none,true):=by
 refine (Zym 1000 a0 a1).trans ?_
 unfold Zab
 revert hg
 generalize (decide (0≤a1))=b2
 intro hg
 cases b2
 ·skip
  first | exact (nomatch (hg:false=true)) | (simp only [cond_true,cond_false,Bool.and_true,Bool.true_and,Bool.and_false,Bool.false_and];done) | rfl
 ·skip
  first | (simp only [cond_true,cond_false,Bool.and_true,Bool.true_and,Bool.and_false,Bool.false_and];done) | rfl | exact (nomatch (hg:false=true))
def Zeo:Con:=fun args h=>match args,h with
 | [.g a0 41,.i .i64 a1],[]=>some (.a (.b ((Zab a0 a1))),.none,decide (0≤a1))
 | _,_=>none
theorem Zgg:EntX Tryz.prog 91:=Zaf (fn:=Tryz.f91) (by kernel_rfl) (by kernel_rfl) (by kernel_rfl)
theorem Zil:ConOkX mn Tryz.prog 91 Zeo:=(Zag (N:=1000) (by kernel_rfl) (mkΓ_consX (Zad Zro) Zmx mkΓ_nilX) (fn:=Tryz.f91) (by kernel_rfl) (by kernel_rfl) []).of (by
 intro ρ h w args vals r e hA hH hr
 unfold Zeo at hr
 split at hr
 ·rename_i a0 a1
  obtain ⟨rfl,hg⟩:=Prod.mk.inj (Option.some.inj hr)
  obtain ⟨rfl,hg2⟩:=Prod.mk.inj hg
  exact Zwk a0 a1 (hA.wt 0 rfl) (hA.rng 1 rfl) hg2
 ·cases hr)
theorem Zyd (N:Nat) (a0:Int):ansV Tryz.prog (mkΓ []) N Tryz.f89 [] [.i .i64 (a0)] []=(bif (a0==(0:Int)) then (some (.a (.b (true)),.none,true))
  else (some (.a (.b ((a0==(1:Int)))),.none,true))):=by kernel_rfl
def Zdl (a0:Int):Bool:=(bif (a0==(0:Int)) then true else (a0==(1:Int)))
theorem Zvo (a0:Int) (h_a0:i64.min≤a0∧a0≤i64.max) (hg:(true)=true):ansV Tryz.prog (mkΓ []) 1000 Tryz.f89 [] [.i .i64 (a0)] []=some (.a (.b ((Zdl a0))),.none,true):=by
 refine (Zyd 1000 a0).trans ?_
 unfold Zdl
 revert hg
 generalize ((a0==(0:Int)))=b2
 intro hg
 cases b2
 ·skip
  first | (simp only [cond_true,cond_false,Bool.and_true,Bool.true_and,Bool.and_false,Bool.false_and];done) | rfl | exact (nomatch (hg:false=true))
 ·skip
  first | (simp only [cond_true,cond_false,Bool.and_true,Bool.true_and,Bool.and_false,Bool.false_and];done) | rfl | exact (nomatch (hg:false=true))
def Zhk:Con:=fun args h=>match args,h with
 | [.i .i64 a0],[]=>some (.a (.b ((Zdl a0))),.none,true)
 | _,_=>none
theorem Zub:EntX Tryz.prog 89:=Zaf (fn:=Tryz.f89) (by kernel_rfl) (by kernel_rfl) (by kernel_rfl)
theorem Zze:ConOkX mn Tryz.prog 89 Zhk:=(Zag (N:=1000) (by kernel_rfl) mkΓ_nilX (fn:=Tryz.f89) (by kernel_rfl) (by kernel_rfl) []).of (by
 intro ρ h w args vals r e hA hH hr
 unfold Zhk at hr
 split at hr
 ·rename_i a0
  obtain ⟨rfl,hg⟩:=Prod.mk.inj (Option.some.inj hr)
  obtain ⟨rfl,hg2⟩:=Prod.mk.inj hg
  exact Zvo a0 (hA.rng 0 rfl) hg2
 ·cases hr)
theorem Ya0 (N:Nat) (a0:Array Value):ansV Tryz.prog (mkΓ []) N Tryz.f94 [] [.g a0 166] []=(some (.a (.i .i64 (i64.wrap ((num a0 0)+(i64.wrap ((6:Int)*(num a0 1)))))),.none,true)):=by kernel_rfl
theorem Zyv (a0:Array Value) (h_a0:WT Tryz.prog 166 a0) (hg:(true)=true):ansV Tryz.prog (mkΓ []) 1000 Tryz.f94 [] [.g a0 166] []=some (.a (.i .i64 (i64.wrap ((num a0 0)+(i64.wrap ((6:Int)*(num a0 1)))))),.none,true):=by
 refine (Ya0 1000 a0).trans ?_
 rfl
def Zip:Con:=fun args h=>match args,h with
 | [.g a0 166],[]=>some (.a (.i .i64 (i64.wrap ((num a0 0)+(i64.wrap ((6:Int)*(num a0 1)))))),.none,true)
 | _,_=>none
theorem Zmo:EntX Tryz.prog 94:=Zaf (fn:=Tryz.f94) (by kernel_rfl) (by kernel_rfl) (by kernel_rfl)
theorem Zrl:ConOkX mn Tryz.prog 94 Zip:=(Zag (N:=1000) (by kernel_rfl) mkΓ_nilX (fn:=Tryz.f94) (by kernel_rfl) (by kernel_rfl) []).of (by
 intro ρ h w args vals r e hA hH hr
 unfold Zip at hr
 split at hr
 ·rename_i a0
  obtain ⟨rfl,hg⟩:=Prod.mk.inj (Option.some.inj hr)
  obtain ⟨rfl,hg2⟩:=Prod.mk.inj hg
  exact Zyv a0 (hA.wt 0 rfl) hg2
 ·cases hr)
end
end Go.Proofs.YtflnjkpejbohjaaGreatDoor
