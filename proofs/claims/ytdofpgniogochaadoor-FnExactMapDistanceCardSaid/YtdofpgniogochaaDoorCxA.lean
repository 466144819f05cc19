import Derived.Test.YtdofpgniogochaaDoorProg
import Derived.Test.YtdofpgniogochaaDoorVcE
namespace Go.Proofs.YtdofpgniogochaaDoor
open Go.ChangeShapes Go.WideShapes Go.ChangeAt Go.RowKit Ve Vc
open Tryd (prog)
open IntKind (i64)
set_option linter.unusedVariables false
set_option linter.unusedSimpArgs false
set_option maxRecDepth 100000
noncomputable section
variable {mn:Md}
theorem Yfd (N:Nat) (a0 a1 a2:Int):ansV prog (mkΓ []) N Tryd.f56 [] [.i .i64 (a0),.i .i64 (a1),.i .i64 (a2)] []=(bif decide (a0 ≥ a1) then (some (.a (.b (decide (a0≤a2))),.none,true))
  else (some (.a (.b (false)),.none,true))):=by kernel_rfl
def Zaa (a0 a1 a2:Int):Bool:=(bif decide (a0 ≥ a1) then decide (a0≤a2) else false)
theorem Yek (a0 a1 a2:Int) (h_a0:i64.min≤a0∧a0≤i64.max) (h_a1:i64.min≤a1∧a1≤i64.max) (h_a2:i64.min≤a2∧a2≤i64.max) (hg:(true)=true):ansV prog (mkΓ []) 1000 Tryd.f56 [] [.i .i64 (a0),.i .i64 (a1),.i .i64 (a2)] []=some (.a (.b ((Zaa a0 a1 a2))),.none,true):=by
 refine (Yfd 1000 a0 a1 a2).trans ?_
 unfold Zaa
 revert hg
 generalize (decide (a0 ≥ a1))=b2
 intro hg
 cases b2
 ·skip
  first | (simp only [cond_true,cond_false,Bool.and_true,Bool.true_and,Bool.and_false,Bool.false_and];done) | rfl | exact (nomatch (hg:false=true))
 ·skip
  first | (simp only [cond_true,cond_false,Bool.and_true,Bool.true_and,Bool.and_false,Bool.false_and];done) | rfl | exact (nomatch (hg:false=true))
def Zb1:Con:=fun args h=>match args,h with
 | [.i .i64 a0,.i .i64 a1,.i .i64 a2],[]=>some (.a (.b ((Zaa a0 a1 a2))),.none,true)
 | _,_=>none
theorem Zfa:EntX prog 56:=Zai (fn:=Tryd.f56) (by kernel_rfl) (by kernel_rfl) (by kernel_rfl)
theorem Zh6:ConOkX mn prog 56 Zb1:=(Zaj (N:=1000) (by kernel_rfl) mkΓ_nilX (fn:=Tryd.f56) (by kernel_rfl) (by kernel_rfl) []).of (by
 intro ρ h w args vals r e hA hH hr
 unfold Zb1 at hr
 split at hr
 ·rename_i a0 a1 a2
  obtain ⟨rfl,hg⟩:=Prod.mk.inj (Option.some.inj hr)
  obtain ⟨rfl,hg2⟩:=Prod.mk.inj hg
  exact Yek a0 a1 a2 (hA.rng 0 rfl) (hA.rng 1 rfl) (hA.rng 2 rfl) hg2
 ·cases hr)
theorem Yfc (N:Nat) (a1:Int) (a0:Array Value):ansV prog (mkΓ [(56,con Zb1)]) N Tryd.f86 [] [.w 0,.i .i64 (a1)] [.row a0 35]=(bif (Zaa a1 (0:Int) (35:Int)) then (bif decide (((a1).tmod (6:Int))<(i64.wrap (num a0 0))) then (some (.a (.b (decide ((i64.wrap ((a1).tdiv (6:Int)))<(i64.wrap (num a0 1))))),.none,true))
   else (some (.a (.b (false)),.none,true)))
  else (some (.a (.b (false)),.none,true))):=by kernel_rfl
def Zab (a1:Int) (a0:Array Value):Bool:=(bif (Zaa a1 (0:Int) (35:Int)) then (bif decide (((a1).tmod (6:Int))<(i64.wrap (num a0 0))) then decide ((i64.wrap ((a1).tdiv (6:Int)))<(i64.wrap (num a0 1))) else false) else false)
theorem Ydf (a1:Int) (a0:Array Value) (h_a1:i64.min≤a1∧a1≤i64.max) (h_a0:WT prog 35 a0) (hg:(true)=true):ansV prog (mkΓ [(56,con Zb1)]) 1000 Tryd.f86 [] [.w 0,.i .i64 (a1)] [.row a0 35]=some (.a (.b ((Zab a1 a0))),.none,true):=by
 refine (Yfc 1000 a1 a0).trans ?_
 unfold Zab
 revert hg
 generalize ((Zaa a1 (0:Int) (35:Int)))=b2
 intro hg
 cases b2
 ·skip
  first | (simp only [cond_true,cond_false,Bool.and_true,Bool.true_and,Bool.and_false,Bool.false_and];done) | rfl | exact (nomatch (hg:false=true))
 ·skip
  revert hg
  generalize (decide (((a1).tmod (6:Int))<(i64.wrap (num a0 0))))=b4
  intro hg
  cases b4
  ·skip
   first | (simp only [cond_true,cond_false,Bool.and_true,Bool.true_and,Bool.and_false,Bool.false_and];done) | rfl | exact (nomatch (hg:false=true))
  ·skip
   first | (simp only [cond_true,cond_false,Bool.and_true,Bool.true_and,Bool.and_false,Bool.false_and];done) | rfl | exact (nomatch (hg:false=true))
def Zbo:Con:=fun args h=>match args,h with
 | [.w 0,.i .i64 a1],[.row a0 35]=>some (.a (.b ((Zab a1 a0))),.none,true)
 | _,_=>none
theorem Zgw:EntX prog 86:=Zai (fn:=Tryd.f86) (by kernel_rfl) (by kernel_rfl) (by kernel_rfl)
theorem Zjy:ConOkX mn prog 86 Zbo:=(Zaj (N:=1000) (by kernel_rfl) (mkΓ_consX (Zad Zh6) Zfa mkΓ_nilX) (fn:=Tryd.f86) (by kernel_rfl) (by kernel_rfl) []).of (by
 intro ρ h w args vals r e hA hH hr
 unfold Zbo at hr
 split at hr
 ·rename_i a1 a0
  obtain ⟨rfl,hg⟩:=Prod.mk.inj (Option.some.inj hr)
  obtain ⟨rfl,hg2⟩:=Prod.mk.inj hg
  exact Ydf a1 a0 (hA.rng 1 rfl) (hH.wt 0 rfl) hg2
 ·cases hr)
theorem Yaz (N:Nat) (a0:Int):ansV prog (mkΓ [(56,con Zb1)]) N Tryd.f108 [] [.i .i64 (a0)] []=(some (.a (.b ((Zaa a0 (0:Int) (1:Int)))),.none,true)):=by kernel_rfl
theorem Zyy (a0:Int) (h_a0:i64.min≤a0∧a0≤i64.max) (hg:(true)=true):ansV prog (mkΓ [(56,con Zb1)]) 1000 Tryd.f108 [] [.i .i64 (a0)] []=some (.a (.b ((Zaa a0 (0:Int) (1:Int)))),.none,true):=by
 refine (Yaz 1000 a0).trans ?_
 rfl
def Zlt:Con:=fun args h=>match args,h with
 | [.i .i64 a0],[]=>some (.a (.b ((Zaa a0 (0:Int) (1:Int)))),.none,true)
 | _,_=>none
theorem Zwa:EntX prog 108:=Zai (fn:=Tryd.f108) (by kernel_rfl) (by kernel_rfl) (by kernel_rfl)
theorem Yd1:ConOkX mn prog 108 Zlt:=(Zaj (N:=1000) (by kernel_rfl) (mkΓ_consX (Zad Zh6) Zfa mkΓ_nilX) (fn:=Tryd.f108) (by kernel_rfl) (by kernel_rfl) []).of (by
 intro ρ h w args vals r e hA hH hr
 unfold Zlt at hr
 split at hr
 ·rename_i a0
  obtain ⟨rfl,hg⟩:=Prod.mk.inj (Option.some.inj hr)
  obtain ⟨rfl,hg2⟩:=Prod.mk.inj hg
  exact Zyy a0 (hA.rng 0 rfl) hg2
 ·cases hr)
theorem Ydv (N:Nat) (a1:Int) (a0:Array Value):ansV prog (mkΓ []) N Tryd.f87 [] [.w 0,.i .i64 (a1)] [.row a0 35]=(bif decide (0≤(IntKind.u64.wrap a1)) then (some (.a (.b (((((((num a0 2)).fdiv (2^(min ((IntKind.u64.wrap a1)).toNat IntKind.u64.bits)))).tmod (2:Int))==(1:Int)))),.none,true))
  else (none)):=by kernel_rfl
def Zah (a1:Int) (a0:Array Value):Bool:=((((((num a0 2)).fdiv (2^(min ((IntKind.u64.wrap a1)).toNat IntKind.u64.bits)))).tmod (2:Int))==(1:Int))
theorem Ybs (a1:Int) (a0:Array Value) (h_a1:i64.min≤a1∧a1≤i64.max) (h_a0:WT prog 35 a0) (hg:(decide (0≤(IntKind.u64.wrap a1)))=true):ansV prog (mkΓ []) 1000 Tryd.f87 [] [.w 0,.i .i64 (a1)] [.row a0 35]=some (.a (.b ((Zah a1 a0))),.none,true):=by
 refine (Ydv 1000 a1 a0).trans ?_
 unfold Zah
 revert hg
 generalize (decide (0≤(IntKind.u64.wrap a1)))=b2
 intro hg
 cases b2
 ·skip
  first | exact (nomatch (hg:false=true)) | (simp only [cond_true,cond_false,Bool.and_true,Bool.true_and,Bool.and_false,Bool.false_and];done) | rfl
 ·skip
  first | (simp only [cond_true,cond_false,Bool.and_true,Bool.true_and,Bool.and_false,Bool.false_and];done) | rfl | exact (nomatch (hg:false=true))
def Zf2:Con:=fun args h=>match args,h with
 | [.w 0,.i .i64 a1],[.row a0 35]=>some (.a (.b ((Zah a1 a0))),.none,decide (0≤(IntKind.u64.wrap a1)))
 | _,_=>none
theorem Zig:EntX prog 87:=Zai (fn:=Tryd.f87) (by kernel_rfl) (by kernel_rfl) (by kernel_rfl)
theorem Zlk:ConOkX mn prog 87 Zf2:=(Zaj (N:=1000) (by kernel_rfl) mkΓ_nilX (fn:=Tryd.f87) (by kernel_rfl) (by kernel_rfl) []).of (by
 intro ρ h w args vals r e hA hH hr
 unfold Zf2 at hr
 split at hr
 ·rename_i a1 a0
  obtain ⟨rfl,hg⟩:=Prod.mk.inj (Option.some.inj hr)
  obtain ⟨rfl,hg2⟩:=Prod.mk.inj hg
  exact Ybs a1 a0 (hA.rng 1 rfl) (hH.wt 0 rfl) hg2
 ·cases hr)
def Zwi:Cons:=(mkΓ [(86,con Zbo),(87,con Zf2)])
theorem Yc0 (N:Nat) (a1:Int) (a0:Array Value):ansV prog Zwi N Tryd.f105 [] [.w 0,.i .i64 (a1)] [.row a0 35]=(bif (Zab a1 a0) then (bif decide (0≤(IntKind.u64.wrap a1)) then (some (.a (.b ((!((Zah a1 a0))))),.none,true))
   else (none))
  else (some (.a (.b (false)),.none,true))):=by kernel_rfl
def Zak (a1:Int) (a0:Array Value):Bool:=(bif (Zab a1 a0) then (!((Zah a1 a0))) else false)
def Zbt (a1:Int) (a0:Array Value):Bool:=(bif (Zab a1 a0) then decide (0≤(IntKind.u64.wrap a1)) else true)
theorem Yai (a1:Int) (a0:Array Value) (h_a1:i64.min≤a1∧a1≤i64.max) (h_a0:WT prog 35 a0) (hg:((Zbt a1 a0))=true):ansV prog Zwi 1000 Tryd.f105 [] [.w 0,.i .i64 (a1)] [.row a0 35]=some (.a (.b ((Zak a1 a0))),.none,true):=by
 refine (Yc0 1000 a1 a0).trans ?_
 unfold Zbt at hg
 unfold Zak
 revert hg
 generalize ((Zab a1 a0))=b2
 intro hg
 cases b2
 ·skip
  first | (simp only [cond_true,cond_false,Bool.and_true,Bool.true_and,Bool.and_false,Bool.false_and];done) | rfl | exact (nomatch (hg:false=true))
 ·skip
  revert hg
  generalize (decide (0≤(IntKind.u64.wrap a1)))=b4
  intro hg
  cases b4
  ·skip
   first | exact (nomatch (hg:false=true)) | (simp only [cond_true,cond_false,Bool.and_true,Bool.true_and,Bool.and_false,Bool.false_and];done) | rfl
  ·skip
   first | (simp only [cond_true,cond_false,Bool.and_true,Bool.true_and,Bool.and_false,Bool.false_and];done) | rfl | exact (nomatch (hg:false=true))
def Zkk:Con:=fun args h=>match args,h with
 | [.w 0,.i .i64 a1],[.row a0 35]=>some (.a (.b ((Zak a1 a0))),.none,(Zbt a1 a0))
 | _,_=>none
theorem Zo8:EntX prog 105:=Zai (fn:=Tryd.f105) (by kernel_rfl) (by kernel_rfl) (by kernel_rfl)
theorem Zub:ConOkX mn prog 105 Zkk:=(Zaj (N:=1000) (by kernel_rfl) (mkΓ_consX (Zad Zjy) Zgw (mkΓ_consX (Zad Zlk) Zig mkΓ_nilX)) (fn:=Tryd.f105) (by kernel_rfl) (by kernel_rfl) []).of (by
 intro ρ h w args vals r e hA hH hr
 unfold Zkk at hr
 split at hr
 ·rename_i a1 a0
  obtain ⟨rfl,hg⟩:=Prod.mk.inj (Option.some.inj hr)
  obtain ⟨rfl,hg2⟩:=Prod.mk.inj hg
  exact Yai a1 a0 (hA.rng 1 rfl) (hH.wt 0 rfl) hg2
 ·cases hr)
theorem Zzh (N:Nat) (a0 a1:Array Value):ansV prog (mkΓ []) N Tryd.f119 [] [.g a0 35,.g a1 166] []=(bif decide ((num a1 0) ≥ (0:Int)) then (bif decide ((num a1 0)<(i64.wrap (num a0 0))) then (bif decide ((num a1 1) ≥ (0:Int)) then (some (.a (.b (decide ((num a1 1)<(i64.wrap (num a0 1))))),.none,true))
    else (some (.a (.b (false)),.none,true)))
   else (some (.a (.b (false)),.none,true)))
  else (some (.a (.b (false)),.none,true))):=by kernel_rfl
def Zar (a0 a1:Array Value):Bool:=(bif decide ((num a1 0) ≥ (0:Int)) then (bif decide ((num a1 0)<(i64.wrap (num a0 0))) then (bif decide ((num a1 1) ≥ (0:Int)) then decide ((num a1 1)<(i64.wrap (num a0 1))) else false) else false) else false)
theorem Zx1 (a0 a1:Array Value) (h_a0:WT prog 35 a0) (h_a1:WT prog 166 a1) (hg:(true)=true):ansV prog (mkΓ []) 1000 Tryd.f119 [] [.g a0 35,.g a1 166] []=some (.a (.b ((Zar a0 a1))),.none,true):=by
 refine (Zzh 1000 a0 a1).trans ?_
 unfold Zar
 revert hg
 generalize (decide ((num a1 0) ≥ (0:Int)))=b2
 intro hg
 cases b2
 ·skip
  first | (simp only [cond_true,cond_false,Bool.and_true,Bool.true_and,Bool.and_false,Bool.false_and];done) | rfl | exact (nomatch (hg:false=true))
 ·skip
  revert hg
  generalize (decide ((num a1 0)<(i64.wrap (num a0 0))))=b4
  intro hg
  cases b4
  ·skip
   first | (simp only [cond_true,cond_false,Bool.and_true,Bool.true_and,Bool.and_false,Bool.false_and];done) | rfl | exact (nomatch (hg:false=true))
  ·skip
   revert hg
   generalize (decide ((num a1 1) ≥ (0:Int)))=b6
   intro hg
   cases b6
   ·skip
    first | (simp only [cond_true,cond_false,Bool.and_true,Bool.true_and,Bool.and_false,Bool.false_and];done) | rfl | exact (nomatch (hg:false=true))
   ·skip
    first | (simp only [cond_true,cond_false,Bool.and_true,Bool.true_and,Bool.and_false,Bool.false_and];done) | rfl | exact (nomatch (hg:false=true))
def Zia:Con:=fun args h=>match args,h with
 | [.g a0 35,.g a1 166],[]=>some (.a (.b ((Zar a0 a1))),.none,true)
 | _,_=>none
theorem Znt:EntX prog 119:=Zai (fn:=Tryd.f119) (by kernel_rfl) (by kernel_rfl) (by kernel_rfl)
theorem Zqf:ConOkX mn prog 119 Zia:=(Zaj (N:=1000) (by kernel_rfl) mkΓ_nilX (fn:=Tryd.f119) (by kernel_rfl) (by kernel_rfl) []).of (by
 intro ρ h w args vals r e hA hH hr
 unfold Zia at hr
 split at hr
 ·rename_i a0 a1
  obtain ⟨rfl,hg⟩:=Prod.mk.inj (Option.some.inj hr)
  obtain ⟨rfl,hg2⟩:=Prod.mk.inj hg
  exact Zx1 a0 a1 (hA.wt 0 rfl) (hA.wt 1 rfl) hg2
 ·cases hr)
theorem Zz5 (N:Nat) (a0:Int):ansV prog (mkΓ []) N Tryd.f120 [] [.i .i64 (a0)] []=(some (.a (.g #[.int .i64 ((a0).tmod (6:Int)),.int .i64 (i64.wrap ((a0).tdiv (6:Int)))] 166),.none,true)):=by kernel_rfl
theorem Zyr (a0:Int) (h_a0:i64.min≤a0∧a0≤i64.max) (hg:(true)=true):ansV prog (mkΓ []) 1000 Tryd.f120 [] [.i .i64 (a0)] []=some (.a (.g #[.int .i64 ((a0).tmod (6:Int)),.int .i64 (i64.wrap ((a0).tdiv (6:Int)))] 166),.none,true):=by
 refine (Zz5 1000 a0).trans ?_
 rfl
def Zjc:Con:=fun args h=>match args,h with
 | [.i .i64 a0],[]=>some (.a (.g #[.int .i64 ((a0).tmod (6:Int)),.int .i64 (i64.wrap ((a0).tdiv (6:Int)))] 166),.none,true)
 | _,_=>none
theorem Zoe:EntX prog 120:=Zai (fn:=Tryd.f120) (by kernel_rfl) (by kernel_rfl) (by kernel_rfl)
theorem Zro:ConOkX mn prog 120 Zjc:=(Zaj (N:=1000) (by kernel_rfl) mkΓ_nilX (fn:=Tryd.f120) (by kernel_rfl) (by kernel_rfl) []).of (by
 intro ρ h w args vals r e hA hH hr
 unfold Zjc at hr
 split at hr
 ·rename_i a0
  obtain ⟨rfl,hg⟩:=Prod.mk.inj (Option.some.inj hr)
  obtain ⟨rfl,hg2⟩:=Prod.mk.inj hg
  exact Zyr a0 (hA.rng 0 rfl) hg2
 ·cases hr)
def Zuc:Cons:=(mkΓ [(119,con Zia),(120,con Zjc)])
theorem Ybj (N:Nat) (a0:Array Value) (a1:Int):ansV prog Zuc N Tryd.f88 [] [.g a0 35,.i .i64 (a1)] []=(bif decide (a1 ≥ (0:Int)) then (bif decide (a1<(36:Int)) then (some (.a (.b ((Zar a0 (#[.int .i64 ((a1).tmod (6:Int)),.int .i64 (i64.wrap ((a1).tdiv (6:Int)))]:Array Value)))),.none,true))
   else (some (.a (.b (false)),.none,true)))
  else (some (.a (.b (false)),.none,true))):=by kernel_rfl
def Zaq (a0:Array Value) (a1:Int):Bool:=(bif decide (a1 ≥ (0:Int)) then (bif decide (a1<(36:Int)) then (Zar a0 (#[.int .i64 ((a1).tmod (6:Int)),.int .i64 (i64.wrap ((a1).tdiv (6:Int)))]:Array Value)) else false) else false)
theorem Zyn (a0:Array Value) (a1:Int) (h_a0:WT prog 35 a0) (h_a1:i64.min≤a1∧a1≤i64.max) (hg:(true)=true):ansV prog Zuc 1000 Tryd.f88 [] [.g a0 35,.i .i64 (a1)] []=some (.a (.b ((Zaq a0 a1))),.none,true):=by
 refine (Ybj 1000 a0 a1).trans ?_
 unfold Zaq
 revert hg
 generalize (decide (a1 ≥ (0:Int)))=b2
 intro hg
 cases b2
 ·skip
  first | (simp only [cond_true,cond_false,Bool.and_true,Bool.true_and,Bool.and_false,Bool.false_and];done) | rfl | exact (nomatch (hg:false=true))
 ·skip
  revert hg
  generalize (decide (a1<(36:Int)))=b4
  intro hg
  cases b4
  ·skip
   first | (simp only [cond_true,cond_false,Bool.and_true,Bool.true_and,Bool.and_false,Bool.false_and];done) | rfl | exact (nomatch (hg:false=true))
  ·skip
   first | (simp only [cond_true,cond_false,Bool.and_true,Bool.true_and,Bool.and_false,Bool.false_and];done) | rfl | exact (nomatch (hg:false=true))
def Zgr:Con:=fun args h=>match args,h with
 | [.g a0 35,.i .i64 a1],[]=>some (.a (.b ((Zaq a0 a1))),.none,true)
 | _,_=>none
theorem Zdp:EntX prog 88:=Zai (fn:=Tryd.f88) (by kernel_rfl) (by kernel_rfl) (by kernel_rfl)
theorem Zfx:ConOkX mn prog 88 Zgr:=(Zaj (N:=1000) (by kernel_rfl) (mkΓ_consX (Zad Zqf) Znt (mkΓ_consX (Zad Zro) Zoe mkΓ_nilX)) (fn:=Tryd.f88) (by kernel_rfl) (by kernel_rfl) []).of (by
 intro ρ h w args vals r e hA hH hr
 unfold Zgr at hr
 split at hr
 ·rename_i a0 a1
  obtain ⟨rfl,hg⟩:=Prod.mk.inj (Option.some.inj hr)
  obtain ⟨rfl,hg2⟩:=Prod.mk.inj hg
  exact Zyn a0 a1 (hA.wt 0 rfl) (hA.rng 1 rfl) hg2
 ·cases hr)
theorem Yen (N:Nat) (a0:Int):ansV prog (mkΓ []) N Tryd.f118 [] [.i .i64 (a0)] []=(bif decide (0≤a0) then (some (.a (.i .u64 (IntKind.u64.wrap ((1:Int)*2^(min (a0).toNat IntKind.u64.bits)))),.none,true))
  else (none)):=by kernel_rfl
def Zd8 (a0:Int):Int:=(IntKind.u64.wrap ((1:Int)*2^(min (a0).toNat IntKind.u64.bits)))
theorem Ycn (a0:Int) (h_a0:i64.min≤a0∧a0≤i64.max) (hg:(decide (0≤a0))=true):ansV prog (mkΓ []) 1000 Tryd.f118 [] [.i .i64 (a0)] []=some (.a (.i .u64 (Zd8 a0)),.none,true):=by
 refine (Yen 1000 a0).trans ?_
 unfold Zd8
 revert hg
 generalize (decide (0≤a0))=b2
 intro hg
 cases b2
 ·skip
  first | exact (nomatch (hg:false=true)) | (simp only [cond_true,cond_false,Bool.and_true,Bool.true_and,Bool.and_false,Bool.false_and];done) | rfl
 ·skip
  first | (simp only [cond_true,cond_false,Bool.and_true,Bool.true_and,Bool.and_false,Bool.false_and];done) | rfl | exact (nomatch (hg:false=true))
def Zi1:Con:=fun args h=>match args,h with
 | [.i .i64 a0],[]=>some (.a (.i .u64 (Zd8 a0)),.none,decide (0≤a0))
 | _,_=>none
theorem Zqg:EntX prog 118:=Zai (fn:=Tryd.f118) (by kernel_rfl) (by kernel_rfl) (by kernel_rfl)
theorem Zxb:ConOkX mn prog 118 Zi1:=(Zaj (N:=1000) (by kernel_rfl) mkΓ_nilX (fn:=Tryd.f118) (by kernel_rfl) (by kernel_rfl) []).of (by
 intro ρ h w args vals r e hA hH hr
 unfold Zi1 at hr
 split at hr
 ·rename_i a0
  obtain ⟨rfl,hg⟩:=Prod.mk.inj (Option.some.inj hr)
  obtain ⟨rfl,hg2⟩:=Prod.mk.inj hg
  exact Ycn a0 (hA.rng 0 rfl) hg2
 ·cases hr)
theorem Ydk (N:Nat) (a0:Array Value) (a1:Int):ansV prog (mkΓ [(118,con Zi1)]) N Tryd.f85 [] [.g a0 35,.i .i64 (a1)] []=(bif decide (0≤a1) then (some (.a (.b (((IntKind.u64.wrap (BitVec.ofInt IntKind.u64.bits (num a0 2) &&& BitVec.ofInt IntKind.u64.bits (Zd8 a1)).toNat) != (0:Int)))),.none,true))
  else (none)):=by kernel_rfl
def Zac (a0:Array Value) (a1:Int):Bool:=((IntKind.u64.wrap (BitVec.ofInt IntKind.u64.bits (num a0 2) &&& BitVec.ofInt IntKind.u64.bits (Zd8 a1)).toNat) != (0:Int))
theorem Yar (a0:Array Value) (a1:Int) (h_a0:WT prog 35 a0) (h_a1:i64.min≤a1∧a1≤i64.max) (hg:(decide (0≤a1))=true):ansV prog (mkΓ [(118,con Zi1)]) 1000 Tryd.f85 [] [.g a0 35,.i .i64 (a1)] []=some (.a (.b ((Zac a0 a1))),.none,true):=by
 refine (Ydk 1000 a0 a1).trans ?_
 unfold Zac
 revert hg
 generalize (decide (0≤a1))=b2
 intro hg
 cases b2
 ·skip
  first | exact (nomatch (hg:false=true)) | (simp only [cond_true,cond_false,Bool.and_true,Bool.true_and,Bool.and_false,Bool.false_and];done) | rfl
 ·skip
  first | (simp only [cond_true,cond_false,Bool.and_true,Bool.true_and,Bool.and_false,Bool.false_and];done) | rfl | exact (nomatch (hg:false=true))
def Zbb:Con:=fun args h=>match args,h with
 | [.g a0 35,.i .i64 a1],[]=>some (.a (.b ((Zac a0 a1))),.none,decide (0≤a1))
 | _,_=>none
theorem Zch:EntX prog 85:=Zai (fn:=Tryd.f85) (by kernel_rfl) (by kernel_rfl) (by kernel_rfl)
theorem Zed:ConOkX mn prog 85 Zbb:=(Zaj (N:=1000) (by kernel_rfl) (mkΓ_consX (Zad Zxb) Zqg mkΓ_nilX) (fn:=Tryd.f85) (by kernel_rfl) (by kernel_rfl) []).of (by
 intro ρ h w args vals r e hA hH hr
 unfold Zbb at hr
 split at hr
 ·rename_i a0 a1
  obtain ⟨rfl,hg⟩:=Prod.mk.inj (Option.some.inj hr)
  obtain ⟨rfl,hg2⟩:=Prod.mk.inj hg
  exact Yar a0 a1 (hA.wt 0 rfl) (hA.rng 1 rfl) hg2
 ·cases hr)
theorem Zz6 (N:Nat) (a0:Array Value) (a1:Int):ansV prog (mkΓ [(85,con Zbb)]) N Tryd.f89 [] [.g a0 35,.i .i64 (a1)] []=(bif decide (0≤a1) then (some (.a (.b ((!((Zac a0 a1))))),.none,true))
  else (none)):=by kernel_rfl
def Zaf (a0:Array Value) (a1:Int):Bool:=(!((Zac a0 a1)))
theorem Zyc (a0:Array Value) (a1:Int) (h_a0:WT prog 35 a0) (h_a1:i64.min≤a1∧a1≤i64.max) (hg:(decide (0≤a1))=true):ansV prog (mkΓ [(85,con Zbb)]) 1000 Tryd.f89 [] [.g a0 35,.i .i64 (a1)] []=some (.a (.b ((Zaf a0 a1))),.none,true):=by
 refine (Zz6 1000 a0 a1).trans ?_
 unfold Zaf
 revert hg
 generalize (decide (0≤a1))=b2
 intro hg
 cases b2
 ·skip
  first | exact (nomatch (hg:false=true)) | (simp only [cond_true,cond_false,Bool.and_true,Bool.true_and,Bool.and_false,Bool.false_and];done) | rfl
 ·skip
  first | (simp only [cond_true,cond_false,Bool.and_true,Bool.true_and,Bool.and_false,Bool.false_and];done) | rfl | exact (nomatch (hg:false=true))
def Ze1:Con:=fun args h=>match args,h with
 | [.g a0 35,.i .i64 a1],[]=>some (.a (.b ((Zaf a0 a1))),.none,decide (0≤a1))
 | _,_=>none
theorem Zhl:EntX prog 89:=Zai (fn:=Tryd.f89) (by kernel_rfl) (by kernel_rfl) (by kernel_rfl)
theorem Zj4:ConOkX mn prog 89 Ze1:=(Zaj (N:=1000) (by kernel_rfl) (mkΓ_consX (Zad Zed) Zch mkΓ_nilX) (fn:=Tryd.f89) (by kernel_rfl) (by kernel_rfl) []).of (by
 intro ρ h w args vals r e hA hH hr
 unfold Ze1 at hr
 split at hr
 ·rename_i a0 a1
  obtain ⟨rfl,hg⟩:=Prod.mk.inj (Option.some.inj hr)
  obtain ⟨rfl,hg2⟩:=Prod.mk.inj hg
  exact Zyc a0 a1 (hA.wt 0 rfl) (hA.rng 1 rfl) hg2
 ·cases hr)
theorem Zz9 (N:Nat) (a0:Int):ansV prog (mkΓ []) N Tryd.f113 [] [.i .i64 (a0)] []=(bif (a0==(0:Int)) then (some (.a (.b (true)),.none,true))
  else (some (.a (.b ((a0==(1:Int)))),.none,true))):=by kernel_rfl
def Zcv (a0:Int):Bool:=(bif (a0==(0:Int)) then true else (a0==(1:Int)))
theorem Zzm (a0:Int) (h_a0:i64.min≤a0∧a0≤i64.max) (hg:(true)=true):ansV prog (mkΓ []) 1000 Tryd.f113 [] [.i .i64 (a0)] []=some (.a (.b ((Zcv a0))),.none,true):=by
 refine (Zz9 1000 a0).trans ?_
 unfold Zcv
 revert hg
 generalize ((a0==(0:Int)))=b2
 intro hg
 cases b2
 ·skip
  first | (simp only [cond_true,cond_false,Bool.and_true,Bool.true_and,Bool.and_false,Bool.false_and];done) | rfl | exact (nomatch (hg:false=true))
 ·skip
  first | (simp only [cond_true,cond_false,Bool.and_true,Bool.true_and,Bool.and_false,Bool.false_and];done) | rfl | exact (nomatch (hg:false=true))
def Zl7:Con:=fun args h=>match args,h with
 | [.i .i64 a0],[]=>some (.a (.b ((Zcv a0))),.none,true)
 | _,_=>none
theorem Zhh:EntX prog 113:=Zai (fn:=Tryd.f113) (by kernel_rfl) (by kernel_rfl) (by kernel_rfl)
theorem Zkx:ConOkX mn prog 113 Zl7:=(Zaj (N:=1000) (by kernel_rfl) mkΓ_nilX (fn:=Tryd.f113) (by kernel_rfl) (by kernel_rfl) []).of (by
 intro ρ h w args vals r e hA hH hr
 unfold Zl7 at hr
 split at hr
 ·rename_i a0
  obtain ⟨rfl,hg⟩:=Prod.mk.inj (Option.some.inj hr)
  obtain ⟨rfl,hg2⟩:=Prod.mk.inj hg
  exact Zzm a0 (hA.rng 0 rfl) hg2
 ·cases hr)
theorem Yct (N:Nat) (a0:Array Value):ansV prog (mkΓ []) N Tryd.f117 [] [.g a0 166] []=(some (.a (.i .i64 (i64.wrap ((num a0 0)+(i64.wrap ((6:Int)*(num a0 1)))))),.none,true)):=by kernel_rfl
theorem Yaw (a0:Array Value) (h_a0:WT prog 166 a0) (hg:(true)=true):ansV prog (mkΓ []) 1000 Tryd.f117 [] [.g a0 166] []=some (.a (.i .i64 (i64.wrap ((num a0 0)+(i64.wrap ((6:Int)*(num a0 1)))))),.none,true):=by
 refine (Yct 1000 a0).trans ?_
 rfl
def Zkd:Con:=fun args h=>match args,h with
 | [.g a0 166],[]=>some (.a (.i .i64 (i64.wrap ((num a0 0)+(i64.wrap ((6:Int)*(num a0 1)))))),.none,true)
 | _,_=>none
theorem Zpk:EntX prog 117:=Zai (fn:=Tryd.f117) (by kernel_rfl) (by kernel_rfl) (by kernel_rfl)
theorem Zt8:ConOkX mn prog 117 Zkd:=(Zaj (N:=1000) (by kernel_rfl) mkΓ_nilX (fn:=Tryd.f117) (by kernel_rfl) (by kernel_rfl) []).of (by
 intro ρ h w args vals r e hA hH hr
 unfold Zkd at hr
 split at hr
 ·rename_i a0
  obtain ⟨rfl,hg⟩:=Prod.mk.inj (Option.some.inj hr)
  obtain ⟨rfl,hg2⟩:=Prod.mk.inj hg
  exact Yaw a0 (hA.wt 0 rfl) hg2
 ·cases hr)
end
end Go.Proofs.YtdofpgniogochaaDoor
