/- Places, tides, land and water, in company. -/
import Derived.Test.YtflnjkpejbohjaaGreatDoorProg
import Derived.Test.YtflnjkpejbohjaaGreatDoorVcE
namespace Go.Proofs.YtflnjkpejbohjaaGreatDoor
open Go.ChangeShapes Go.WideShapes Go.ChangeAt Go.RowKit Ve Vc
open Tryz renaming prog → PZ
open IntKind (i64)
set_option linter.unusedVariables false
set_option linter.unusedSimpArgs false
set_option maxRecDepth 100000
noncomputable section
variable {mn:Md}
theorem Ycw (N:Nat) (a0 a1 a2:Int):ansV PZ (mkΓ []) N Tryz.f58 [] [.i .i64 (a0),.i .i64 (a1),.i .i64 (a2)] []=(bif decide (a0 ≥ a1) then (some (.a (.b (decide (a0≤a2))),.none,true))
  else (some (.a (.b (false)),.none,true))):=by kernel_rfl
def Zaa (a0 a1 a2:Int):Bool:=(bif decide (a0 ≥ a1) then decide (a0≤a2) else false)
theorem Ybj (a0 a1 a2:Int) (h_a0:i64.min≤a0∧a0≤i64.max) (h_a1:i64.min≤a1∧a1≤i64.max) (h_a2:i64.min≤a2∧a2≤i64.max) (hg:(true)=true):ansV PZ (mkΓ []) 1000 Tryz.f58 [] [.i .i64 (a0),.i .i64 (a1),.i .i64 (a2)] []=some (.a (.b ((Zaa a0 a1 a2))),.none,true):=by
 refine (Ycw 1000 a0 a1 a2).trans ?_
 unfold Zaa
 revert hg
 generalize (decide (a0 ≥ a1))=b2
 intro hg
 cases b2
 ·skip
  first | (simp only [cond_true,cond_false,Bool.and_true,Bool.true_and,Bool.and_false,Bool.false_and];done) | rfl | exact (nomatch (hg:false=true))
 ·skip
  first | (simp only [cond_true,cond_false,Bool.and_true,Bool.true_and,Bool.and_false,Bool.false_and];done) | rfl | exact (nomatch (hg:false=true))
def Zcq:Con:=fun args h=>match args,h with
 | [.i .i64 a0,.i .i64 a1,.i .i64 a2],[]=>some (.a (.b ((Zaa a0 a1 a2))),.none,true)
 | _,_=>none
theorem Zf7:EntX PZ 58:=Zaf (fn:=Tryz.f58) (by kernel_rfl) (by kernel_rfl) (by kernel_rfl)
theorem Zi7:Uad mn PZ 58 Zcq:=(Zah (N:=1000) (by kernel_rfl) mkΓ_nilX (fn:=Tryz.f58) (by kernel_rfl) (by kernel_rfl) []).of (by
 intro ρ h w args vals r e hA hH hr
 unfold Zcq at hr
 split at hr
 ·rename_i a0 a1 a2
  obtain ⟨rfl,hg⟩:=Prod.mk.inj (Option.some.inj hr)
  obtain ⟨rfl,hg2⟩:=Prod.mk.inj hg
  exact Ybj a0 a1 a2 (hA.rng 0 rfl) (hA.rng 1 rfl) (hA.rng 2 rfl) hg2
 ·cases hr)
theorem Ycp (N:Nat) (a1:Int) (a0:Array Value):ansV PZ (mkΓ [(58,con Zcq)]) N Tryz.f62 [] [.w 0,.i .i64 (a1)] [.row a0 41]=(bif (Zaa a1 (0:Int) (35:Int)) then (bif decide (((a1).tmod (6:Int))<(i64.wrap (num a0 0))) then (some (.a (.b (decide ((i64.wrap ((a1).tdiv (6:Int)))<(i64.wrap (num a0 1))))),.none,true))
   else (some (.a (.b (false)),.none,true)))
  else (some (.a (.b (false)),.none,true))):=by kernel_rfl
def Za1 (a1:Int) (a0:Array Value):Bool:=(bif (Zaa a1 (0:Int) (35:Int)) then (bif decide (((a1).tmod (6:Int))<(i64.wrap (num a0 0))) then decide ((i64.wrap ((a1).tdiv (6:Int)))<(i64.wrap (num a0 1))) else false) else false)
theorem Zzw (a1:Int) (a0:Array Value) (h_a1:i64.min≤a1∧a1≤i64.max) (h_a0:WT PZ 41 a0) (hg:(true)=true):ansV PZ (mkΓ [(58,con Zcq)]) 1000 Tryz.f62 [] [.w 0,.i .i64 (a1)] [.row a0 41]=some (.a (.b ((Za1 a1 a0))),.none,true):=by
 refine (Ycp 1000 a1 a0).trans ?_
 unfold Za1
 revert hg
 generalize ((Zaa a1 (0:Int) (35:Int)))=b2
 intro hg
 cases b2
 ·skip
  first | (simp only [cond_true,cond_false,Bool.and_true,Bool.true_and,Bool.and_false,Bool.false_and];done) | rfl | exact (nomatch (hg:false=true))
 ·skip
  revert hg
  generalize (decide (((a1).tmod (6:Int))<(i64.wrap (num a0 0))))=b4
  intro hg
  cases b4
  ·skip
   first | (simp only [cond_true,cond_false,Bool.and_true,Bool.true_and,Bool.and_false,Bool.false_and];done) | rfl | exact (nomatch (hg:false=true))
  ·skip
   first | (simp only [cond_true,cond_false,Bool.and_true,Bool.true_and,Bool.and_false,Bool.false_and];done) | rfl | exact (nomatch (hg:false=true))
def Zcg:Con:=fun args h=>match args,h with
 | [.w 0,.i .i64 a1],[.row a0 41]=>some (.a (.b ((Za1 a1 a0))),.none,true)
 | _,_=>none
theorem Zon:EntX PZ 62:=Zaf (fn:=Tryz.f62) (by kernel_rfl) (by kernel_rfl) (by kernel_rfl)
theorem Zuv:Uad mn PZ 62 Zcg:=(Zah (N:=1000) (by kernel_rfl) (mkΓ_consX (Zad Zi7) Zf7 mkΓ_nilX) (fn:=Tryz.f62) (by kernel_rfl) (by kernel_rfl) []).of (by
 intro ρ h w args vals r e hA hH hr
 unfold Zcg at hr
 split at hr
 ·rename_i a1 a0
  obtain ⟨rfl,hg⟩:=Prod.mk.inj (Option.some.inj hr)
  obtain ⟨rfl,hg2⟩:=Prod.mk.inj hg
  exact Zzw a1 a0 (hA.rng 1 rfl) (hH.wt 0 rfl) hg2
 ·cases hr)
theorem Zzd (N:Nat) (a0:Int):ansV PZ (mkΓ [(58,con Zcq)]) N Tryz.f61 [] [.i .i64 (a0)] []=(some (.a (.b ((Zaa a0 (0:Int) (1:Int)))),.none,true)):=by kernel_rfl
theorem Zwa (a0:Int) (h_a0:i64.min≤a0∧a0≤i64.max) (hg:(true)=true):ansV PZ (mkΓ [(58,con Zcq)]) 1000 Tryz.f61 [] [.i .i64 (a0)] []=some (.a (.b ((Zaa a0 (0:Int) (1:Int)))),.none,true):=by
 refine (Zzd 1000 a0).trans ?_
 rfl
def Zko:Con:=fun args h=>match args,h with
 | [.i .i64 a0],[]=>some (.a (.b ((Zaa a0 (0:Int) (1:Int)))),.none,true)
 | _,_=>none
theorem Zu1:EntX PZ 61:=Zaf (fn:=Tryz.f61) (by kernel_rfl) (by kernel_rfl) (by kernel_rfl)
theorem Ya4:Uad mn PZ 61 Zko:=(Zah (N:=1000) (by kernel_rfl) (mkΓ_consX (Zad Zi7) Zf7 mkΓ_nilX) (fn:=Tryz.f61) (by kernel_rfl) (by kernel_rfl) []).of (by
 intro ρ h w args vals r e hA hH hr
 unfold Zko at hr
 split at hr
 ·rename_i a0
  obtain ⟨rfl,hg⟩:=Prod.mk.inj (Option.some.inj hr)
  obtain ⟨rfl,hg2⟩:=Prod.mk.inj hg
  exact Zwa a0 (hA.rng 0 rfl) hg2
 ·cases hr)
theorem Yaw (N:Nat) (a1:Int) (a0:Array Value):ansV PZ (mkΓ []) N Tryz.f76 [] [.w 0,.i .i64 (a1)] [.row a0 41]=(bif decide (0≤(IntKind.u64.wrap a1)) then (some (.a (.b (((((((num a0 2)).fdiv (2^(min ((IntKind.u64.wrap a1)).toNat IntKind.u64.bits)))).tmod (2:Int))==(1:Int)))),.none,true))
  else (none)):=by kernel_rfl
def Zcr (a1:Int) (a0:Array Value):Bool:=((((((num a0 2)).fdiv (2^(min ((IntKind.u64.wrap a1)).toNat IntKind.u64.bits)))).tmod (2:Int))==(1:Int))
theorem Zyr (a1:Int) (a0:Array Value) (h_a1:i64.min≤a1∧a1≤i64.max) (h_a0:WT PZ 41 a0) (hg:(decide (0≤(IntKind.u64.wrap a1)))=true):ansV PZ (mkΓ []) 1000 Tryz.f76 [] [.w 0,.i .i64 (a1)] [.row a0 41]=some (.a (.b ((Zcr a1 a0))),.none,true):=by
 refine (Yaw 1000 a1 a0).trans ?_
 unfold Zcr
 revert hg
 generalize (decide (0≤(IntKind.u64.wrap a1)))=b2
 intro hg
 cases b2
 ·skip
  first | exact (nomatch (hg:false=true)) | (simp only [cond_true,cond_false,Bool.and_true,Bool.true_and,Bool.and_false,Bool.false_and];done) | rfl
 ·skip
  first | (simp only [cond_true,cond_false,Bool.and_true,Bool.true_and,Bool.and_false,Bool.false_and];done) | rfl | exact (nomatch (hg:false=true))
def Zls:Con:=fun args h=>match args,h with
 | [.w 0,.i .i64 a1],[.row a0 41]=>some (.a (.b ((Zcr a1 a0))),.none,decide (0≤(IntKind.u64.wrap a1)))
 | _,_=>none
theorem Zwn:EntX PZ 76:=Zaf (fn:=Tryz.f76) (by kernel_rfl) (by kernel_rfl) (by kernel_rfl)
theorem Ycu:Uad mn PZ 76 Zls:=(Zah (N:=1000) (by kernel_rfl) mkΓ_nilX (fn:=Tryz.f76) (by kernel_rfl) (by kernel_rfl) []).of (by
 intro ρ h w args vals r e hA hH hr
 unfold Zls at hr
 split at hr
 ·rename_i a1 a0
  obtain ⟨rfl,hg⟩:=Prod.mk.inj (Option.some.inj hr)
  obtain ⟨rfl,hg2⟩:=Prod.mk.inj hg
  exact Zyr a1 a0 (hA.rng 1 rfl) (hH.wt 0 rfl) hg2
 ·cases hr)
def Zu3:Cons:=(mkΓ [(62,con Zcg),(76,con Zls)])
theorem Yak (N:Nat) (a1:Int) (a0:Array Value):ansV PZ Zu3 N Tryz.f59 [] [.w 0,.i .i64 (a1)] [.row a0 41]=(bif (Za1 a1 a0) then (bif decide (0≤(IntKind.u64.wrap a1)) then (some (.a (.b ((!((Zcr a1 a0))))),.none,true))
   else (none))
  else (some (.a (.b (false)),.none,true))):=by kernel_rfl
def Zae (a1:Int) (a0:Array Value):Bool:=(bif (Za1 a1 a0) then (!((Zcr a1 a0))) else false)
def Za2 (a1:Int) (a0:Array Value):Bool:=(bif (Za1 a1 a0) then decide (0≤(IntKind.u64.wrap a1)) else true)
theorem Zyd (a1:Int) (a0:Array Value) (h_a1:i64.min≤a1∧a1≤i64.max) (h_a0:WT PZ 41 a0) (hg:((Za2 a1 a0))=true):ansV PZ Zu3 1000 Tryz.f59 [] [.w 0,.i .i64 (a1)] [.row a0 41]=some (.a (.b ((Zae a1 a0))),.none,true):=by
 refine (Yak 1000 a1 a0).trans ?_
 unfold Za2 at hg
 unfold Zae
 revert hg
 generalize ((Za1 a1 a0))=b2
 intro hg
 cases b2
 ·skip
  first | (simp only [cond_true,cond_false,Bool.and_true,Bool.true_and,Bool.and_false,Bool.false_and];done) | rfl | exact (nomatch (hg:false=true))
 ·skip
  revert hg
  generalize (decide (0≤(IntKind.u64.wrap a1)))=b4
  intro hg
  cases b4
  ·skip
   first | exact (nomatch (hg:false=true)) | (simp only [cond_true,cond_false,Bool.and_true,Bool.true_and,Bool.and_false,Bool.false_and];done) | rfl
  ·skip
   first | (simp only [cond_true,cond_false,Bool.and_true,Bool.true_and,Bool.and_false,Bool.false_and];done) | rfl | exact (nomatch (hg:false=true))
def Zgu:Con:=fun args h=>match args,h with
 | [.w 0,.i .i64 a1],[.row a0 41]=>some (.a (.b ((Zae a1 a0))),.none,(Za2 a1 a0))
 | _,_=>none
theorem Zjp:EntX PZ 59:=Zaf (fn:=Tryz.f59) (by kernel_rfl) (by kernel_rfl) (by kernel_rfl)
theorem Zmw:Uad mn PZ 59 Zgu:=(Zah (N:=1000) (by kernel_rfl) (mkΓ_consX (Zad Zuv) Zon (mkΓ_consX (Zad Ycu) Zwn mkΓ_nilX)) (fn:=Tryz.f59) (by kernel_rfl) (by kernel_rfl) []).of (by
 intro ρ h w args vals r e hA hH hr
 unfold Zgu at hr
 split at hr
 ·rename_i a1 a0
  obtain ⟨rfl,hg⟩:=Prod.mk.inj (Option.some.inj hr)
  obtain ⟨rfl,hg2⟩:=Prod.mk.inj hg
  exact Zyd a1 a0 (hA.rng 1 rfl) (hH.wt 0 rfl) hg2
 ·cases hr)
theorem Zxv (N:Nat) (a0 a1:Array Value):ansV PZ (mkΓ []) N Tryz.f99 [] [.g a0 41,.g a1 166] []=(bif decide ((num a1 0) ≥ (0:Int)) then (bif decide ((num a1 0)<(i64.wrap (num a0 0))) then (bif decide ((num a1 1) ≥ (0:Int)) then (some (.a (.b (decide ((num a1 1)<(i64.wrap (num a0 1))))),.none,true))
    else (some (.a (.b (false)),.none,true)))
   else (some (.a (.b (false)),.none,true)))
  else (some (.a (.b (false)),.none,true))):=by kernel_rfl
def Zap (a0 a1:Array Value):Bool:=(bif decide ((num a1 0) ≥ (0:Int)) then (bif decide ((num a1 0)<(i64.wrap (num a0 0))) then (bif decide ((num a1 1) ≥ (0:Int)) then decide ((num a1 1)<(i64.wrap (num a0 1))) else false) else false) else false)
theorem Zu9 (a0 a1:Array Value) (h_a0:WT PZ 41 a0) (h_a1:WT PZ 166 a1) (hg:(true)=true):ansV PZ (mkΓ []) 1000 Tryz.f99 [] [.g a0 41,.g a1 166] []=some (.a (.b ((Zap a0 a1))),.none,true):=by
 refine (Zxv 1000 a0 a1).trans ?_
 unfold Zap
 revert hg
 generalize (decide ((num a1 0) ≥ (0:Int)))=b2
 intro hg
 cases b2
 ·skip
  first | (simp only [cond_true,cond_false,Bool.and_true,Bool.true_and,Bool.and_false,Bool.false_and];done) | rfl | exact (nomatch (hg:false=true))
 ·skip
  revert hg
  generalize (decide ((num a1 0)<(i64.wrap (num a0 0))))=b4
  intro hg
  cases b4
  ·skip
   first | (simp only [cond_true,cond_false,Bool.and_true,Bool.true_and,Bool.and_false,Bool.false_and];done) | rfl | exact (nomatch (hg:false=true))
  ·skip
   revert hg
   generalize (decide ((num a1 1) ≥ (0:Int)))=b6
   intro hg
   cases b6
   ·skip
    first | (simp only [cond_true,cond_false,Bool.and_true,Bool.true_and,Bool.and_false,Bool.false_and];done) | rfl | exact (nomatch (hg:false=true))
   ·skip
    first | (simp only [cond_true,cond_false,Bool.and_true,Bool.true_and,Bool.and_false,Bool.false_and];done) | rfl | exact (nomatch (hg:false=true))
def Zg4:Con:=fun args h=>match args,h with
 | [.g a0 41,.g a1 166],[]=>some (.a (.b ((Zap a0 a1))),.none,true)
 | _,_=>none
theorem Zlj:EntX PZ 99:=Zaf (fn:=Tryz.f99) (by kernel_rfl) (by kernel_rfl) (by kernel_rfl)
theorem Zoq:Uad mn PZ 99 Zg4:=(Zah (N:=1000) (by kernel_rfl) mkΓ_nilX (fn:=Tryz.f99) (by kernel_rfl) (by kernel_rfl) []).of (by
 intro ρ h w args vals r e hA hH hr
 unfold Zg4 at hr
 split at hr
 ·rename_i a0 a1
  obtain ⟨rfl,hg⟩:=Prod.mk.inj (Option.some.inj hr)
  obtain ⟨rfl,hg2⟩:=Prod.mk.inj hg
  exact Zu9 a0 a1 (hA.wt 0 rfl) (hA.wt 1 rfl) hg2
 ·cases hr)
theorem Zyw (N:Nat) (a0:Int):ansV PZ (mkΓ []) N Tryz.f100 [] [.i .i64 (a0)] []=(some (.a (.g #[.int .i64 ((a0).tmod (6:Int)),.int .i64 (i64.wrap ((a0).tdiv (6:Int)))] 166),.none,true)):=by kernel_rfl
theorem Zxf (a0:Int) (h_a0:i64.min≤a0∧a0≤i64.max) (hg:(true)=true):ansV PZ (mkΓ []) 1000 Tryz.f100 [] [.i .i64 (a0)] []=some (.a (.g #[.int .i64 ((a0).tmod (6:Int)),.int .i64 (i64.wrap ((a0).tdiv (6:Int)))] 166),.none,true):=by
 refine (Zyw 1000 a0).trans ?_
 rfl
def Zhz:Con:=fun args h=>match args,h with
 | [.i .i64 a0],[]=>some (.a (.g #[.int .i64 ((a0).tmod (6:Int)),.int .i64 (i64.wrap ((a0).tdiv (6:Int)))] 166),.none,true)
 | _,_=>none
theorem Zmf:EntX PZ 100:=Zaf (fn:=Tryz.f100) (by kernel_rfl) (by kernel_rfl) (by kernel_rfl)
theorem Zpu:Uad mn PZ 100 Zhz:=(Zah (N:=1000) (by kernel_rfl) mkΓ_nilX (fn:=Tryz.f100) (by kernel_rfl) (by kernel_rfl) []).of (by
 intro ρ h w args vals r e hA hH hr
 unfold Zhz at hr
 split at hr
 ·rename_i a0
  obtain ⟨rfl,hg⟩:=Prod.mk.inj (Option.some.inj hr)
  obtain ⟨rfl,hg2⟩:=Prod.mk.inj hg
  exact Zxf a0 (hA.rng 0 rfl) hg2
 ·cases hr)
def Zsh:Cons:=(mkΓ [(99,con Zg4),(100,con Zhz)])
theorem Zy4 (N:Nat) (a0:Array Value) (a1:Int):ansV PZ Zsh N Tryz.f90 [] [.g a0 41,.i .i64 (a1)] []=(bif decide (a1 ≥ (0:Int)) then (bif decide (a1<(36:Int)) then (some (.a (.b ((Zap a0 (#[.int .i64 ((a1).tmod (6:Int)),.int .i64 (i64.wrap ((a1).tdiv (6:Int)))]:Array Value)))),.none,true))
   else (some (.a (.b (false)),.none,true)))
  else (some (.a (.b (false)),.none,true))):=by kernel_rfl
def Zaj (a0:Array Value) (a1:Int):Bool:=(bif decide (a1 ≥ (0:Int)) then (bif decide (a1<(36:Int)) then (Zap a0 (#[.int .i64 ((a1).tmod (6:Int)),.int .i64 (i64.wrap ((a1).tdiv (6:Int)))]:Array Value)) else false) else false)
theorem Zw0 (a0:Array Value) (a1:Int) (h_a0:WT PZ 41 a0) (h_a1:i64.min≤a1∧a1≤i64.max) (hg:(true)=true):ansV PZ Zsh 1000 Tryz.f90 [] [.g a0 41,.i .i64 (a1)] []=some (.a (.b ((Zaj a0 a1))),.none,true):=by
 refine (Zy4 1000 a0 a1).trans ?_
 unfold Zaj
 revert hg
 generalize (decide (a1 ≥ (0:Int)))=b2
 intro hg
 cases b2
 ·skip
  first | (simp only [cond_true,cond_false,Bool.and_true,Bool.true_and,Bool.and_false,Bool.false_and];done) | rfl | exact (nomatch (hg:false=true))
 ·skip
  revert hg
  generalize (decide (a1<(36:Int)))=b4
  intro hg
  cases b4
  ·skip
   first | (simp only [cond_true,cond_false,Bool.and_true,Bool.true_and,Bool.and_false,Bool.false_and];done) | rfl | exact (nomatch (hg:false=true))
  ·skip
   first | (simp only [cond_true,cond_false,Bool.and_true,Bool.true_and,Bool.and_false,Bool.false_and];done) | rfl | exact (nomatch (hg:false=true))
def Zh5:Con:=fun args h=>match args,h with
 | [.g a0 41,.i .i64 a1],[]=>some (.a (.b ((Zaj a0 a1))),.none,true)
 | _,_=>none
theorem Zmi:EntX PZ 90:=Zaf (fn:=Tryz.f90) (by kernel_rfl) (by kernel_rfl) (by kernel_rfl)
theorem Zp3:Uad mn PZ 90 Zh5:=(Zah (N:=1000) (by kernel_rfl) (mkΓ_consX (Zad Zoq) Zlj (mkΓ_consX (Zad Zpu) Zmf mkΓ_nilX)) (fn:=Tryz.f90) (by kernel_rfl) (by kernel_rfl) []).of (by
 intro ρ h w args vals r e hA hH hr
 unfold Zh5 at hr
 split at hr
 ·rename_i a0 a1
  obtain ⟨rfl,hg⟩:=Prod.mk.inj (Option.some.inj hr)
  obtain ⟨rfl,hg2⟩:=Prod.mk.inj hg
  exact Zw0 a0 a1 (hA.wt 0 rfl) (hA.rng 1 rfl) hg2
 ·cases hr)
theorem Ycv (N:Nat) (a0:Int):ansV PZ (mkΓ []) N Tryz.f52 [] [.i .i64 (a0)] []=(bif decide (0≤a0) then (some (.a (.i .u64 (IntKind.u64.wrap ((1:Int)*2^(min (a0).toNat IntKind.u64.bits)))),.none,true))
  else (none)):=by kernel_rfl
def Zd8 (a0:Int):Int:=(IntKind.u64.wrap ((1:Int)*2^(min (a0).toNat IntKind.u64.bits)))
theorem Yaz (a0:Int) (h_a0:i64.min≤a0∧a0≤i64.max) (hg:(decide (0≤a0))=true):ansV PZ (mkΓ []) 1000 Tryz.f52 [] [.i .i64 (a0)] []=some (.a (.i .u64 (Zd8 a0)),.none,true):=by
 refine (Ycv 1000 a0).trans ?_
 unfold Zd8
 revert hg
 generalize (decide (0≤a0))=b2
 intro hg
 cases b2
 ·skip
  first | exact (nomatch (hg:false=true)) | (simp only [cond_true,cond_false,Bool.and_true,Bool.true_and,Bool.and_false,Bool.false_and];done) | rfl
 ·skip
  first | (simp only [cond_true,cond_false,Bool.and_true,Bool.true_and,Bool.and_false,Bool.false_and];done) | rfl | exact (nomatch (hg:false=true))
def Zhw:Con:=fun args h=>match args,h with
 | [.i .i64 a0],[]=>some (.a (.i .u64 (Zd8 a0)),.none,decide (0≤a0))
 | _,_=>none
theorem Zoo:EntX PZ 52:=Zaf (fn:=Tryz.f52) (by kernel_rfl) (by kernel_rfl) (by kernel_rfl)
theorem Zvg:Uad mn PZ 52 Zhw:=(Zah (N:=1000) (by kernel_rfl) mkΓ_nilX (fn:=Tryz.f52) (by kernel_rfl) (by kernel_rfl) []).of (by
 intro ρ h w args vals r e hA hH hr
 unfold Zhw at hr
 split at hr
 ·rename_i a0
  obtain ⟨rfl,hg⟩:=Prod.mk.inj (Option.some.inj hr)
  obtain ⟨rfl,hg2⟩:=Prod.mk.inj hg
  exact Yaz a0 (hA.rng 0 rfl) hg2
 ·cases hr)
theorem Ya7 (N:Nat) (a0:Array Value) (a1:Int):ansV PZ (mkΓ [(52,con Zhw)]) N Tryz.f87 [] [.g a0 41,.i .i64 (a1)] []=(bif decide (0≤a1) then (some (.a (.b (((IntKind.u64.wrap (BitVec.ofInt IntKind.u64.bits (num a0 2) &&& BitVec.ofInt IntKind.u64.bits (Zd8 a1)).toNat) != (0:Int)))),.none,true))
  else (none)):=by kernel_rfl
def Zau (a0:Array Value) (a1:Int):Bool:=((IntKind.u64.wrap (BitVec.ofInt IntKind.u64.bits (num a0 2) &&& BitVec.ofInt IntKind.u64.bits (Zd8 a1)).toNat) != (0:Int))
theorem Zzc (a0:Array Value) (a1:Int) (h_a0:WT PZ 41 a0) (h_a1:i64.min≤a1∧a1≤i64.max) (hg:(decide (0≤a1))=true):ansV PZ (mkΓ [(52,con Zhw)]) 1000 Tryz.f87 [] [.g a0 41,.i .i64 (a1)] []=some (.a (.b ((Zau a0 a1))),.none,true):=by
 refine (Ya7 1000 a0 a1).trans ?_
 unfold Zau
 revert hg
 generalize (decide (0≤a1))=b2
 intro hg
 cases b2
 ·skip
  first | exact (nomatch (hg:false=true)) | (simp only [cond_true,cond_false,Bool.and_true,Bool.true_and,Bool.and_false,Bool.false_and];done) | rfl
 ·skip
  first | (simp only [cond_true,cond_false,Bool.and_true,Bool.true_and,Bool.and_false,Bool.false_and];done) | rfl | exact (nomatch (hg:false=true))
def Zbn:Con:=fun args h=>match args,h with
 | [.g a0 41,.i .i64 a1],[]=>some (.a (.b ((Zau a0 a1))),.none,decide (0≤a1))
 | _,_=>none
theorem Zm0:EntX PZ 87:=Zaf (fn:=Tryz.f87) (by kernel_rfl) (by kernel_rfl) (by kernel_rfl)
theorem Zsi:Uad mn PZ 87 Zbn:=(Zah (N:=1000) (by kernel_rfl) (mkΓ_consX (Zad Zvg) Zoo mkΓ_nilX) (fn:=Tryz.f87) (by kernel_rfl) (by kernel_rfl) []).of (by
 intro ρ h w args vals r e hA hH hr
 unfold Zbn at hr
 split at hr
 ·rename_i a0 a1
  obtain ⟨rfl,hg⟩:=Prod.mk.inj (Option.some.inj hr)
  obtain ⟨rfl,hg2⟩:=Prod.mk.inj hg
  exact Zzc a0 a1 (hA.wt 0 rfl) (hA.rng 1 rfl) hg2
 ·cases hr)
theorem Zy6 (N:Nat) (a0:Array Value) (a1:Int):ansV PZ (mkΓ [(87,con Zbn)]) N Tryz.f91 [] [.g a0 41,.i .i64 (a1)] []=(bif decide (0≤a1) then (some (.a (.b ((!((Zau a0 a1))))),.none,true))
  else (none)):=by kernel_rfl
def Zab (a0:Array Value) (a1:Int):Bool:=(!((Zau a0 a1)))
theorem Zxq (a0:Array Value) (a1:Int) (h_a0:WT PZ 41 a0) (h_a1:i64.min≤a1∧a1≤i64.max) (hg:(decide (0≤a1))=true):ansV PZ (mkΓ [(87,con Zbn)]) 1000 Tryz.f91 [] [.g a0 41,.i .i64 (a1)] []=some (.a (.b ((Zab a0 a1))),.none,true):=by
 refine (Zy6 1000 a0 a1).trans ?_
 unfold Zab
 revert hg
 generalize (decide (0≤a1))=b2
 intro hg
 cases b2
 ·skip
  first | exact (nomatch (hg:false=true)) | (simp only [cond_true,cond_false,Bool.and_true,Bool.true_and,Bool.and_false,Bool.false_and];done) | rfl
 ·skip
  first | (simp only [cond_true,cond_false,Bool.and_true,Bool.true_and,Bool.and_false,Bool.false_and];done) | rfl | exact (nomatch (hg:false=true))
def Zeu:Con:=fun args h=>match args,h with
 | [.g a0 41,.i .i64 a1],[]=>some (.a (.b ((Zab a0 a1))),.none,decide (0≤a1))
 | _,_=>none
theorem Zgl:EntX PZ 91:=Zaf (fn:=Tryz.f91) (by kernel_rfl) (by kernel_rfl) (by kernel_rfl)
theorem Zis:Uad mn PZ 91 Zeu:=(Zah (N:=1000) (by kernel_rfl) (mkΓ_consX (Zad Zsi) Zm0 mkΓ_nilX) (fn:=Tryz.f91) (by kernel_rfl) (by kernel_rfl) []).of (by
 intro ρ h w args vals r e hA hH hr
 unfold Zeu at hr
 split at hr
 ·rename_i a0 a1
  obtain ⟨rfl,hg⟩:=Prod.mk.inj (Option.some.inj hr)
  obtain ⟨rfl,hg2⟩:=Prod.mk.inj hg
  exact Zxq a0 a1 (hA.wt 0 rfl) (hA.rng 1 rfl) hg2
 ·cases hr)
theorem Zyt (N:Nat) (a0:Int):ansV PZ (mkΓ []) N Tryz.f89 [] [.i .i64 (a0)] []=(bif (a0==(0:Int)) then (some (.a (.b (true)),.none,true))
  else (some (.a (.b ((a0==(1:Int)))),.none,true))):=by kernel_rfl
def Zdr (a0:Int):Bool:=(bif (a0==(0:Int)) then true else (a0==(1:Int)))
theorem Zxa (a0:Int) (h_a0:i64.min≤a0∧a0≤i64.max) (hg:(true)=true):ansV PZ (mkΓ []) 1000 Tryz.f89 [] [.i .i64 (a0)] []=some (.a (.b ((Zdr a0))),.none,true):=by
 refine (Zyt 1000 a0).trans ?_
 unfold Zdr
 revert hg
 generalize ((a0==(0:Int)))=b2
 intro hg
 cases b2
 ·skip
  first | (simp only [cond_true,cond_false,Bool.and_true,Bool.true_and,Bool.and_false,Bool.false_and];done) | rfl | exact (nomatch (hg:false=true))
 ·skip
  first | (simp only [cond_true,cond_false,Bool.and_true,Bool.true_and,Bool.and_false,Bool.false_and];done) | rfl | exact (nomatch (hg:false=true))
def Zh3:Con:=fun args h=>match args,h with
 | [.i .i64 a0],[]=>some (.a (.b ((Zdr a0))),.none,true)
 | _,_=>none
theorem Zua:EntX PZ 89:=Zaf (fn:=Tryz.f89) (by kernel_rfl) (by kernel_rfl) (by kernel_rfl)
theorem Yal:Uad mn PZ 89 Zh3:=(Zah (N:=1000) (by kernel_rfl) mkΓ_nilX (fn:=Tryz.f89) (by kernel_rfl) (by kernel_rfl) []).of (by
 intro ρ h w args vals r e hA hH hr
 unfold Zh3 at hr
 split at hr
 ·rename_i a0
  obtain ⟨rfl,hg⟩:=Prod.mk.inj (Option.some.inj hr)
  obtain ⟨rfl,hg2⟩:=Prod.mk.inj hg
  exact Zxa a0 (hA.rng 0 rfl) hg2
 ·cases hr)
theorem Yar (N:Nat) (a0:Array Value):ansV PZ (mkΓ []) N Tryz.f94 [] [.g a0 166] []=(some (.a (.i .i64 (i64.wrap ((num a0 0)+(i64.wrap ((6:Int)*(num a0 1)))))),.none,true)):=by kernel_rfl
theorem Zy7 (a0:Array Value) (h_a0:WT PZ 166 a0) (hg:(true)=true):ansV PZ (mkΓ []) 1000 Tryz.f94 [] [.g a0 166] []=some (.a (.i .i64 (i64.wrap ((num a0 0)+(i64.wrap ((6:Int)*(num a0 1)))))),.none,true):=by
 refine (Yar 1000 a0).trans ?_
 rfl
def Zio:Con:=fun args h=>match args,h with
 | [.g a0 166],[]=>some (.a (.i .i64 (i64.wrap ((num a0 0)+(i64.wrap ((6:Int)*(num a0 1)))))),.none,true)
 | _,_=>none
theorem Znd:EntX PZ 94:=Zaf (fn:=Tryz.f94) (by kernel_rfl) (by kernel_rfl) (by kernel_rfl)
theorem Zsg:Uad mn PZ 94 Zio:=(Zah (N:=1000) (by kernel_rfl) mkΓ_nilX (fn:=Tryz.f94) (by kernel_rfl) (by kernel_rfl) []).of (by
 intro ρ h w args vals r e hA hH hr
 unfold Zio at hr
 split at hr
 ·rename_i a0
  obtain ⟨rfl,hg⟩:=Prod.mk.inj (Option.some.inj hr)
  obtain ⟨rfl,hg2⟩:=Prod.mk.inj hg
  exact Zy7 a0 (hA.wt 0 rfl) hg2
 ·cases hr)
end
end Go.Proofs.YtflnjkpejbohjaaGreatDoor
