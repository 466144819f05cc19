import Derived.Test.YtdofpgniogochaaDoorProg
import Derived.Test.YtdofpgniogochaaDoorVcE
namespace Go.Proofs.YtdofpgniogochaaDoor
open Go.ChangeShapes Go.WideShapes Go.ChangeAt Go.RowKit Ve Vc
open Tryd (prog)
open IntKind (i64)
set_option linter.unusedVariables false
set_option linter.unusedSimpArgs false
set_option maxRecDepth 100000
noncomputable section
variable {mn:Md}
theorem Yc8 (N:Nat) (a0 a1 a2:Int):ansV prog (mkΓ []) N Tryd.f56 [] [.i .i64 (a0),.i .i64 (a1),.i .i64 (a2)] []=(bif decide (a0 ≥ a1) then (some (.a (.b (decide (a0≤a2))),.none,true))
  else (some (.a (.b (false)),.none,true))):=by kernel_rfl
def Zaa (a0 a1 a2:Int):Bool:=(bif decide (a0 ≥ a1) then decide (a0≤a2) else false)
theorem Ybw (a0 a1 a2:Int) (h_a0:i64.min≤a0∧a0≤i64.max) (h_a1:i64.min≤a1∧a1≤i64.max) (h_a2:i64.min≤a2∧a2≤i64.max) (hg:(true)=true):ansV prog (mkΓ []) 1000 Tryd.f56 [] [.i .i64 (a0),.i .i64 (a1),.i .i64 (a2)] []=some (.a (.b ((Zaa a0 a1 a2))),.none,true):=by
 refine (Yc8 1000 a0 a1 a2).trans ?_
 unfold Zaa
 revert hg
 generalize (decide (a0 ≥ a1))=b2
 intro hg
 cases b2
 ·skip
  first | (simp only [cond_true,cond_false,Bool.and_true,Bool.true_and,Bool.and_false,Bool.false_and];done) | rfl | exact (nomatch (hg:false=true))
 ·skip
  first | (simp only [cond_true,cond_false,Bool.and_true,Bool.true_and,Bool.and_false,Bool.false_and];done) | rfl | exact (nomatch (hg:false=true))
def Zbv:Con:=fun args h=>match args,h with
 | [.i .i64 a0,.i .i64 a1,.i .i64 a2],[]=>some (.a (.b ((Zaa a0 a1 a2))),.none,true)
 | _,_=>none
theorem Zep:EntX prog 56:=Zai (fn:=Tryd.f56) (by kernel_rfl) (by kernel_rfl) (by kernel_rfl)
theorem Zhl:ConOkX mn prog 56 Zbv:=(Zaj (N:=1000) (by kernel_rfl) mkΓ_nilX (fn:=Tryd.f56) (by kernel_rfl) (by kernel_rfl) []).of (by
 intro ρ h w args vals r e hA hH hr
 unfold Zbv at hr
 split at hr
 ·rename_i a0 a1 a2
  obtain ⟨rfl,hg⟩:=Prod.mk.inj (Option.some.inj hr)
  obtain ⟨rfl,hg2⟩:=Prod.mk.inj hg
  exact Ybw a0 a1 a2 (hA.rng 0 rfl) (hA.rng 1 rfl) (hA.rng 2 rfl) hg2
 ·cases hr)
theorem Ydl (N:Nat) (a1:Int) (a0:Array Value):ansV prog (mkΓ [(56,con Zbv)]) N Tryd.f86 [] [.w 0,.i .i64 (a1)] [.row a0 35]=(bif (Zaa a1 (0:Int) (35:Int)) then (bif decide (((a1).tmod (6:Int))<(i64.wrap (num a0 0))) then (some (.a (.b (decide ((i64.wrap ((a1).tdiv (6:Int)))<(i64.wrap (num a0 1))))),.none,true))
   else (some (.a (.b (false)),.none,true)))
  else (some (.a (.b (false)),.none,true))):=by kernel_rfl
def Zab (a1:Int) (a0:Array Value):Bool:=(bif (Zaa a1 (0:Int) (35:Int)) then (bif decide (((a1).tmod (6:Int))<(i64.wrap (num a0 0))) then decide ((i64.wrap ((a1).tdiv (6:Int)))<(i64.wrap (num a0 1))) else false) else false)
theorem Ycm (a1:Int) (a0:Array Value) (h_a1:i64.min≤a1∧a1≤i64.max) (h_a0:WT prog 35 a0) (hg:(true)=true):ansV prog (mkΓ [(56,con Zbv)]) 1000 Tryd.f86 [] [.w 0,.i .i64 (a1)] [.row a0 35]=some (.a (.b ((Zab a1 a0))),.none,true):=by
 refine (Ydl 1000 a1 a0).trans ?_
 unfold Zab
 revert hg
 generalize ((Zaa a1 (0:Int) (35:Int)))=b2
 intro hg
 cases b2
 ·skip
  first | (simp only [cond_true,cond_false,Bool.and_true,Bool.true_and,Bool.and_false,Bool.false_and];done) | rfl | exact (nomatch (hg:false=true))
 ·skip
  revert hg
  generalize (decide (((a1).tmod (6:Int))<(i64.wrap (num a0 0))))=b4
  intro hg
  cases b4
  ·skip
   first | (simp only [cond_true,cond_false,Bool.and_true,Bool.true_and,Bool.and_false,Bool.false_and];done) | rfl | exact (nomatch (hg:false=true))
  ·skip
   first | (simp only [cond_true,cond_false,Bool.and_true,Bool.true_and,Bool.and_false,Bool.false_and];done) | rfl | exact (nomatch (hg:false=true))
def Zbj:Con:=fun args h=>match args,h with
 | [.w 0,.i .i64 a1],[.row a0 35]=>some (.a (.b ((Zab a1 a0))),.none,true)
 | _,_=>none
theorem Zge:EntX prog 86:=Zai (fn:=Tryd.f86) (by kernel_rfl) (by kernel_rfl) (by kernel_rfl)
theorem Zja:ConOkX mn prog 86 Zbj:=(Zaj (N:=1000) (by kernel_rfl) (mkΓ_consX (Zad Zhl) Zep mkΓ_nilX) (fn:=Tryd.f86) (by kernel_rfl) (by kernel_rfl) []).of (by
 intro ρ h w args vals r e hA hH hr
 unfold Zbj at hr
 split at hr
 ·rename_i a1 a0
  obtain ⟨rfl,hg⟩:=Prod.mk.inj (Option.some.inj hr)
  obtain ⟨rfl,hg2⟩:=Prod.mk.inj hg
  exact Ycm a1 a0 (hA.rng 1 rfl) (hH.wt 0 rfl) hg2
 ·cases hr)
theorem Zzs (N:Nat) (a0:Int):ansV prog (mkΓ [(56,con Zbv)]) N Tryd.f108 [] [.i .i64 (a0)] []=(some (.a (.b ((Zaa a0 (0:Int) (1:Int)))),.none,true)):=by kernel_rfl
theorem Zxh (a0:Int) (h_a0:i64.min≤a0∧a0≤i64.max) (hg:(true)=true):ansV prog (mkΓ [(56,con Zbv)]) 1000 Tryd.f108 [] [.i .i64 (a0)] []=some (.a (.b ((Zaa a0 (0:Int) (1:Int)))),.none,true):=by
 refine (Zzs 1000 a0).trans ?_
 rfl
def Zk1:Con:=fun args h=>match args,h with
 | [.i .i64 a0],[]=>some (.a (.b ((Zaa a0 (0:Int) (1:Int)))),.none,true)
 | _,_=>none
theorem Zvo:EntX prog 108:=Zai (fn:=Tryd.f108) (by kernel_rfl) (by kernel_rfl) (by kernel_rfl)
theorem Yat:ConOkX mn prog 108 Zk1:=(Zaj (N:=1000) (by kernel_rfl) (mkΓ_consX (Zad Zhl) Zep mkΓ_nilX) (fn:=Tryd.f108) (by kernel_rfl) (by kernel_rfl) []).of (by
 intro ρ h w args vals r e hA hH hr
 unfold Zk1 at hr
 split at hr
 ·rename_i a0
  obtain ⟨rfl,hg⟩:=Prod.mk.inj (Option.some.inj hr)
  obtain ⟨rfl,hg2⟩:=Prod.mk.inj hg
  exact Zxh a0 (hA.rng 0 rfl) hg2
 ·cases hr)
theorem Ycw (N:Nat) (a1:Int) (a0:Array Value):ansV prog (mkΓ []) N Tryd.f87 [] [.w 0,.i .i64 (a1)] [.row a0 35]=(bif decide (0≤(IntKind.u64.wrap a1)) then (some (.a (.b (((((((num a0 2)).fdiv (2^(min ((IntKind.u64.wrap a1)).toNat IntKind.u64.bits)))).tmod (2:Int))==(1:Int)))),.none,true))
  else (none)):=by kernel_rfl
def Zag (a1:Int) (a0:Array Value):Bool:=((((((num a0 2)).fdiv (2^(min ((IntKind.u64.wrap a1)).toNat IntKind.u64.bits)))).tmod (2:Int))==(1:Int))
theorem Zzz (a1:Int) (a0:Array Value) (h_a1:i64.min≤a1∧a1≤i64.max) (h_a0:WT prog 35 a0) (hg:(decide (0≤(IntKind.u64.wrap a1)))=true):ansV prog (mkΓ []) 1000 Tryd.f87 [] [.w 0,.i .i64 (a1)] [.row a0 35]=some (.a (.b ((Zag a1 a0))),.none,true):=by
 refine (Ycw 1000 a1 a0).trans ?_
 unfold Zag
 revert hg
 generalize (decide (0≤(IntKind.u64.wrap a1)))=b2
 intro hg
 cases b2
 ·skip
  first | exact (nomatch (hg:false=true)) | (simp only [cond_true,cond_false,Bool.and_true,Bool.true_and,Bool.and_false,Bool.false_and];done) | rfl
 ·skip
  first | (simp only [cond_true,cond_false,Bool.and_true,Bool.true_and,Bool.and_false,Bool.false_and];done) | rfl | exact (nomatch (hg:false=true))
def Zfn:Con:=fun args h=>match args,h with
 | [.w 0,.i .i64 a1],[.row a0 35]=>some (.a (.b ((Zag a1 a0))),.none,decide (0≤(IntKind.u64.wrap a1)))
 | _,_=>none
theorem Zhq:EntX prog 87:=Zai (fn:=Tryd.f87) (by kernel_rfl) (by kernel_rfl) (by kernel_rfl)
theorem Zks:ConOkX mn prog 87 Zfn:=(Zaj (N:=1000) (by kernel_rfl) mkΓ_nilX (fn:=Tryd.f87) (by kernel_rfl) (by kernel_rfl) []).of (by
 intro ρ h w args vals r e hA hH hr
 unfold Zfn at hr
 split at hr
 ·rename_i a1 a0
  obtain ⟨rfl,hg⟩:=Prod.mk.inj (Option.some.inj hr)
  obtain ⟨rfl,hg2⟩:=Prod.mk.inj hg
  exact Zzz a1 a0 (hA.rng 1 rfl) (hH.wt 0 rfl) hg2
 ·cases hr)
def Zut:Cons:=(mkΓ [(86,con Zbj),(87,con Zfn)])
theorem Ycj (N:Nat) (a1:Int) (a0:Array Value):ansV prog Zut N Tryd.f105 [] [.w 0,.i .i64 (a1)] [.row a0 35]=(bif (Zab a1 a0) then (bif decide (0≤(IntKind.u64.wrap a1)) then (some (.a (.b ((!((Zag a1 a0))))),.none,true))
   else (none))
  else (some (.a (.b (false)),.none,true))):=by kernel_rfl
def Zah (a1:Int) (a0:Array Value):Bool:=(bif (Zab a1 a0) then (!((Zag a1 a0))) else false)
def Zbp (a1:Int) (a0:Array Value):Bool:=(bif (Zab a1 a0) then decide (0≤(IntKind.u64.wrap a1)) else true)
theorem Yaa (a1:Int) (a0:Array Value) (h_a1:i64.min≤a1∧a1≤i64.max) (h_a0:WT prog 35 a0) (hg:((Zbp a1 a0))=true):ansV prog Zut 1000 Tryd.f105 [] [.w 0,.i .i64 (a1)] [.row a0 35]=some (.a (.b ((Zah a1 a0))),.none,true):=by
 refine (Ycj 1000 a1 a0).trans ?_
 unfold Zbp at hg
 unfold Zah
 revert hg
 generalize ((Zab a1 a0))=b2
 intro hg
 cases b2
 ·skip
  first | (simp only [cond_true,cond_false,Bool.and_true,Bool.true_and,Bool.and_false,Bool.false_and];done) | rfl | exact (nomatch (hg:false=true))
 ·skip
  revert hg
  generalize (decide (0≤(IntKind.u64.wrap a1)))=b4
  intro hg
  cases b4
  ·skip
   first | exact (nomatch (hg:false=true)) | (simp only [cond_true,cond_false,Bool.and_true,Bool.true_and,Bool.and_false,Bool.false_and];done) | rfl
  ·skip
   first | (simp only [cond_true,cond_false,Bool.and_true,Bool.true_and,Bool.and_false,Bool.false_and];done) | rfl | exact (nomatch (hg:false=true))
def Zjt:Con:=fun args h=>match args,h with
 | [.w 0,.i .i64 a1],[.row a0 35]=>some (.a (.b ((Zah a1 a0))),.none,(Zbp a1 a0))
 | _,_=>none
theorem Zn3:EntX prog 105:=Zai (fn:=Tryd.f105) (by kernel_rfl) (by kernel_rfl) (by kernel_rfl)
theorem Zs1:ConOkX mn prog 105 Zjt:=(Zaj (N:=1000) (by kernel_rfl) (mkΓ_consX (Zad Zja) Zge (mkΓ_consX (Zad Zks) Zhq mkΓ_nilX)) (fn:=Tryd.f105) (by kernel_rfl) (by kernel_rfl) []).of (by
 intro ρ h w args vals r e hA hH hr
 unfold Zjt at hr
 split at hr
 ·rename_i a1 a0
  obtain ⟨rfl,hg⟩:=Prod.mk.inj (Option.some.inj hr)
  obtain ⟨rfl,hg2⟩:=Prod.mk.inj hg
  exact Yaa a1 a0 (hA.rng 1 rfl) (hH.wt 0 rfl) hg2
 ·cases hr)
theorem Zxn (N:Nat) (a0 a1:Array Value):ansV prog (mkΓ []) N Tryd.f119 [] [.g a0 35,.g a1 166] []=(bif decide ((num a1 0) ≥ (0:Int)) then (bif decide ((num a1 0)<(i64.wrap (num a0 0))) then (bif decide ((num a1 1) ≥ (0:Int)) then (some (.a (.b (decide ((num a1 1)<(i64.wrap (num a0 1))))),.none,true))
    else (some (.a (.b (false)),.none,true)))
   else (some (.a (.b (false)),.none,true)))
  else (some (.a (.b (false)),.none,true))):=by kernel_rfl
def Zaq (a0 a1:Array Value):Bool:=(bif decide ((num a1 0) ≥ (0:Int)) then (bif decide ((num a1 0)<(i64.wrap (num a0 0))) then (bif decide ((num a1 1) ≥ (0:Int)) then decide ((num a1 1)<(i64.wrap (num a0 1))) else false) else false) else false)
theorem Zvn (a0 a1:Array Value) (h_a0:WT prog 35 a0) (h_a1:WT prog 166 a1) (hg:(true)=true):ansV prog (mkΓ []) 1000 Tryd.f119 [] [.g a0 35,.g a1 166] []=some (.a (.b ((Zaq a0 a1))),.none,true):=by
 refine (Zxn 1000 a0 a1).trans ?_
 unfold Zaq
 revert hg
 generalize (decide ((num a1 0) ≥ (0:Int)))=b2
 intro hg
 cases b2
 ·skip
  first | (simp only [cond_true,cond_false,Bool.and_true,Bool.true_and,Bool.and_false,Bool.false_and];done) | rfl | exact (nomatch (hg:false=true))
 ·skip
  revert hg
  generalize (decide ((num a1 0)<(i64.wrap (num a0 0))))=b4
  intro hg
  cases b4
  ·skip
   first | (simp only [cond_true,cond_false,Bool.and_true,Bool.true_and,Bool.and_false,Bool.false_and];done) | rfl | exact (nomatch (hg:false=true))
  ·skip
   revert hg
   generalize (decide ((num a1 1) ≥ (0:Int)))=b6
   intro hg
   cases b6
   ·skip
    first | (simp only [cond_true,cond_false,Bool.and_true,Bool.true_and,Bool.and_false,Bool.false_and];done) | rfl | exact (nomatch (hg:false=true))
   ·skip
    first | (simp only [cond_true,cond_false,Bool.and_true,Bool.true_and,Bool.and_false,Bool.false_and];done) | rfl | exact (nomatch (hg:false=true))
def Zht:Con:=fun args h=>match args,h with
 | [.g a0 35,.g a1 166],[]=>some (.a (.b ((Zaq a0 a1))),.none,true)
 | _,_=>none
theorem Zmf:EntX prog 119:=Zai (fn:=Tryd.f119) (by kernel_rfl) (by kernel_rfl) (by kernel_rfl)
theorem Zpa:ConOkX mn prog 119 Zht:=(Zaj (N:=1000) (by kernel_rfl) mkΓ_nilX (fn:=Tryd.f119) (by kernel_rfl) (by kernel_rfl) []).of (by
 intro ρ h w args vals r e hA hH hr
 unfold Zht at hr
 split at hr
 ·rename_i a0 a1
  obtain ⟨rfl,hg⟩:=Prod.mk.inj (Option.some.inj hr)
  obtain ⟨rfl,hg2⟩:=Prod.mk.inj hg
  exact Zvn a0 a1 (hA.wt 0 rfl) (hA.wt 1 rfl) hg2
 ·cases hr)
theorem Zyv (N:Nat) (a0:Int):ansV prog (mkΓ []) N Tryd.f120 [] [.i .i64 (a0)] []=(some (.a (.g #[.int .i64 ((a0).tmod (6:Int)),.int .i64 (i64.wrap ((a0).tdiv (6:Int)))] 166),.none,true)):=by kernel_rfl
theorem Zwz (a0:Int) (h_a0:i64.min≤a0∧a0≤i64.max) (hg:(true)=true):ansV prog (mkΓ []) 1000 Tryd.f120 [] [.i .i64 (a0)] []=some (.a (.g #[.int .i64 ((a0).tmod (6:Int)),.int .i64 (i64.wrap ((a0).tdiv (6:Int)))] 166),.none,true):=by
 refine (Zyv 1000 a0).trans ?_
 rfl
def Zil:Con:=fun args h=>match args,h with
 | [.i .i64 a0],[]=>some (.a (.g #[.int .i64 ((a0).tmod (6:Int)),.int .i64 (i64.wrap ((a0).tdiv (6:Int)))] 166),.none,true)
 | _,_=>none
theorem Znd:EntX prog 120:=Zai (fn:=Tryd.f120) (by kernel_rfl) (by kernel_rfl) (by kernel_rfl)
theorem Zqj:ConOkX mn prog 120 Zil:=(Zaj (N:=1000) (by kernel_rfl) mkΓ_nilX (fn:=Tryd.f120) (by kernel_rfl) (by kernel_rfl) []).of (by
 intro ρ h w args vals r e hA hH hr
 unfold Zil at hr
 split at hr
 ·rename_i a0
  obtain ⟨rfl,hg⟩:=Prod.mk.inj (Option.some.inj hr)
  obtain ⟨rfl,hg2⟩:=Prod.mk.inj hg
  exact Zwz a0 (hA.rng 0 rfl) hg2
 ·cases hr)
def Zsx:Cons:=(mkΓ [(119,con Zht),(120,con Zil)])
theorem Zzj (N:Nat) (a0:Array Value) (a1:Int):ansV prog Zsx N Tryd.f88 [] [.g a0 35,.i .i64 (a1)] []=(bif decide (a1 ≥ (0:Int)) then (bif decide (a1<(36:Int)) then (some (.a (.b ((Zaq a0 (#[.int .i64 ((a1).tmod (6:Int)),.int .i64 (i64.wrap ((a1).tdiv (6:Int)))]:Array Value)))),.none,true))
   else (some (.a (.b (false)),.none,true)))
  else (some (.a (.b (false)),.none,true))):=by kernel_rfl
def Zap (a0:Array Value) (a1:Int):Bool:=(bif decide (a1 ≥ (0:Int)) then (bif decide (a1<(36:Int)) then (Zaq a0 (#[.int .i64 ((a1).tmod (6:Int)),.int .i64 (i64.wrap ((a1).tdiv (6:Int)))]:Array Value)) else false) else false)
theorem Zxg (a0:Array Value) (a1:Int) (h_a0:WT prog 35 a0) (h_a1:i64.min≤a1∧a1≤i64.max) (hg:(true)=true):ansV prog Zsx 1000 Tryd.f88 [] [.g a0 35,.i .i64 (a1)] []=some (.a (.b ((Zap a0 a1))),.none,true):=by
 refine (Zzj 1000 a0 a1).trans ?_
 unfold Zap
 revert hg
 generalize (decide (a1 ≥ (0:Int)))=b2
 intro hg
 cases b2
 ·skip
  first | (simp only [cond_true,cond_false,Bool.and_true,Bool.true_and,Bool.and_false,Bool.false_and];done) | rfl | exact (nomatch (hg:false=true))
 ·skip
  revert hg
  generalize (decide (a1<(36:Int)))=b4
  intro hg
  cases b4
  ·skip
   first | (simp only [cond_true,cond_false,Bool.and_true,Bool.true_and,Bool.and_false,Bool.false_and];done) | rfl | exact (nomatch (hg:false=true))
  ·skip
   first | (simp only [cond_true,cond_false,Bool.and_true,Bool.true_and,Bool.and_false,Bool.false_and];done) | rfl | exact (nomatch (hg:false=true))
def Zgc:Con:=fun args h=>match args,h with
 | [.g a0 35,.i .i64 a1],[]=>some (.a (.b ((Zap a0 a1))),.none,true)
 | _,_=>none
theorem Zde:EntX prog 88:=Zai (fn:=Tryd.f88) (by kernel_rfl) (by kernel_rfl) (by kernel_rfl)
theorem Zfb:ConOkX mn prog 88 Zgc:=(Zaj (N:=1000) (by kernel_rfl) (mkΓ_consX (Zad Zpa) Zmf (mkΓ_consX (Zad Zqj) Znd mkΓ_nilX)) (fn:=Tryd.f88) (by kernel_rfl) (by kernel_rfl) []).of (by
 intro ρ h w args vals r e hA hH hr
 unfold Zgc at hr
 split at hr
 ·rename_i a0 a1
  obtain ⟨rfl,hg⟩:=Prod.mk.inj (Option.some.inj hr)
  obtain ⟨rfl,hg2⟩:=Prod.mk.inj hg
  exact Zxg a0 a1 (hA.wt 0 rfl) (hA.rng 1 rfl) hg2
 ·cases hr)
theorem Ydo (N:Nat) (a0:Int):ansV prog (mkΓ []) N Tryd.f118 [] [.i .i64 (a0)] []=(bif decide (0≤a0) then (some (.a (.i .u64 (IntKind.u64.wrap ((1:Int)*2^(min (a0).toNat IntKind.u64.bits)))),.none,true))
  else (none)):=by kernel_rfl
def Zdt (a0:Int):Int:=(IntKind.u64.wrap ((1:Int)*2^(min (a0).toNat IntKind.u64.bits)))
theorem Ycr (a0:Int) (h_a0:i64.min≤a0∧a0≤i64.max) (hg:(decide (0≤a0))=true):ansV prog (mkΓ []) 1000 Tryd.f118 [] [.i .i64 (a0)] []=some (.a (.i .u64 (Zdt a0)),.none,true):=by
 refine (Ydo 1000 a0).trans ?_
 unfold Zdt
 revert hg
 generalize (decide (0≤a0))=b2
 intro hg
 cases b2
 ·skip
  first | exact (nomatch (hg:false=true)) | (simp only [cond_true,cond_false,Bool.and_true,Bool.true_and,Bool.and_false,Bool.false_and];done) | rfl
 ·skip
  first | (simp only [cond_true,cond_false,Bool.and_true,Bool.true_and,Bool.and_false,Bool.false_and];done) | rfl | exact (nomatch (hg:false=true))
def Zie:Con:=fun args h=>match args,h with
 | [.i .i64 a0],[]=>some (.a (.i .u64 (Zdt a0)),.none,decide (0≤a0))
 | _,_=>none
theorem Zpc:EntX prog 118:=Zai (fn:=Tryd.f118) (by kernel_rfl) (by kernel_rfl) (by kernel_rfl)
theorem Zu0:ConOkX mn prog 118 Zie:=(Zaj (N:=1000) (by kernel_rfl) mkΓ_nilX (fn:=Tryd.f118) (by kernel_rfl) (by kernel_rfl) []).of (by
 intro ρ h w args vals r e hA hH hr
 unfold Zie at hr
 split at hr
 ·rename_i a0
  obtain ⟨rfl,hg⟩:=Prod.mk.inj (Option.some.inj hr)
  obtain ⟨rfl,hg2⟩:=Prod.mk.inj hg
  exact Ycr a0 (hA.rng 0 rfl) hg2
 ·cases hr)
theorem Ybv (N:Nat) (a0:Array Value) (a1:Int):ansV prog (mkΓ [(118,con Zie)]) N Tryd.f85 [] [.g a0 35,.i .i64 (a1)] []=(bif decide (0≤a1) then (some (.a (.b (((IntKind.u64.wrap (BitVec.ofInt IntKind.u64.bits (num a0 2) &&& BitVec.ofInt IntKind.u64.bits (Zdt a1)).toNat) != (0:Int)))),.none,true))
  else (none)):=by kernel_rfl
def Zac (a0:Array Value) (a1:Int):Bool:=((IntKind.u64.wrap (BitVec.ofInt IntKind.u64.bits (num a0 2) &&& BitVec.ofInt IntKind.u64.bits (Zdt a1)).toNat) != (0:Int))
theorem Zzu (a0:Array Value) (a1:Int) (h_a0:WT prog 35 a0) (h_a1:i64.min≤a1∧a1≤i64.max) (hg:(decide (0≤a1))=true):ansV prog (mkΓ [(118,con Zie)]) 1000 Tryd.f85 [] [.g a0 35,.i .i64 (a1)] []=some (.a (.b ((Zac a0 a1))),.none,true):=by
 refine (Ybv 1000 a0 a1).trans ?_
 unfold Zac
 revert hg
 generalize (decide (0≤a1))=b2
 intro hg
 cases b2
 ·skip
  first | exact (nomatch (hg:false=true)) | (simp only [cond_true,cond_false,Bool.and_true,Bool.true_and,Bool.and_false,Bool.false_and];done) | rfl
 ·skip
  first | (simp only [cond_true,cond_false,Bool.and_true,Bool.true_and,Bool.and_false,Bool.false_and];done) | rfl | exact (nomatch (hg:false=true))
def Za5:Con:=fun args h=>match args,h with
 | [.g a0 35,.i .i64 a1],[]=>some (.a (.b ((Zac a0 a1))),.none,decide (0≤a1))
 | _,_=>none
theorem Zb6:EntX prog 85:=Zai (fn:=Tryd.f85) (by kernel_rfl) (by kernel_rfl) (by kernel_rfl)
theorem Zdz:ConOkX mn prog 85 Za5:=(Zaj (N:=1000) (by kernel_rfl) (mkΓ_consX (Zad Zu0) Zpc mkΓ_nilX) (fn:=Tryd.f85) (by kernel_rfl) (by kernel_rfl) []).of (by
 intro ρ h w args vals r e hA hH hr
 unfold Za5 at hr
 split at hr
 ·rename_i a0 a1
  obtain ⟨rfl,hg⟩:=Prod.mk.inj (Option.some.inj hr)
  obtain ⟨rfl,hg2⟩:=Prod.mk.inj hg
  exact Zzu a0 a1 (hA.wt 0 rfl) (hA.rng 1 rfl) hg2
 ·cases hr)
theorem Zy0 (N:Nat) (a0:Array Value) (a1:Int):ansV prog (mkΓ [(85,con Za5)]) N Tryd.f89 [] [.g a0 35,.i .i64 (a1)] []=(bif decide (0≤a1) then (some (.a (.b ((!((Zac a0 a1))))),.none,true))
  else (none)):=by kernel_rfl
def Zae (a0:Array Value) (a1:Int):Bool:=(!((Zac a0 a1)))
theorem Zxy (a0:Array Value) (a1:Int) (h_a0:WT prog 35 a0) (h_a1:i64.min≤a1∧a1≤i64.max) (hg:(decide (0≤a1))=true):ansV prog (mkΓ [(85,con Za5)]) 1000 Tryd.f89 [] [.g a0 35,.i .i64 (a1)] []=some (.a (.b ((Zae a0 a1))),.none,true):=by
 refine (Zy0 1000 a0 a1).trans ?_
 unfold Zae
 revert hg
 generalize (decide (0≤a1))=b2
 intro hg
 cases b2
 ·skip
  first | exact (nomatch (hg:false=true)) | (simp only [cond_true,cond_false,Bool.and_true,Bool.true_and,Bool.and_false,Bool.false_and];done) | rfl
 ·skip
  first | (simp only [cond_true,cond_false,Bool.and_true,Bool.true_and,Bool.and_false,Bool.false_and];done) | rfl | exact (nomatch (hg:false=true))
def Zeq:Con:=fun args h=>match args,h with
 | [.g a0 35,.i .i64 a1],[]=>some (.a (.b ((Zae a0 a1))),.none,decide (0≤a1))
 | _,_=>none
theorem Zgw:EntX prog 89:=Zai (fn:=Tryd.f89) (by kernel_rfl) (by kernel_rfl) (by kernel_rfl)
theorem Zju:ConOkX mn prog 89 Zeq:=(Zaj (N:=1000) (by kernel_rfl) (mkΓ_consX (Zad Zdz) Zb6 mkΓ_nilX) (fn:=Tryd.f89) (by kernel_rfl) (by kernel_rfl) []).of (by
 intro ρ h w args vals r e hA hH hr
 unfold Zeq at hr
 split at hr
 ·rename_i a0 a1
  obtain ⟨rfl,hg⟩:=Prod.mk.inj (Option.some.inj hr)
  obtain ⟨rfl,hg2⟩:=Prod.mk.inj hg
  exact Zxy a0 a1 (hA.wt 0 rfl) (hA.rng 1 rfl) hg2
 ·cases hr)
theorem Zzl (N:Nat) (a0:Int):ansV prog (mkΓ []) N Tryd.f113 [] [.i .i64 (a0)] []=(bif (a0==(0:Int)) then (some (.a (.b (true)),.none,true))
  else (some (.a (.b ((a0==(1:Int)))),.none,true))):=by kernel_rfl
def Zcj (a0:Int):Bool:=(bif (a0==(0:Int)) then true else (a0==(1:Int)))
theorem Zxk (a0:Int) (h_a0:i64.min≤a0∧a0≤i64.max) (hg:(true)=true):ansV prog (mkΓ []) 1000 Tryd.f113 [] [.i .i64 (a0)] []=some (.a (.b ((Zcj a0))),.none,true):=by
 refine (Zzl 1000 a0).trans ?_
 unfold Zcj
 revert hg
 generalize ((a0==(0:Int)))=b2
 intro hg
 cases b2
 ·skip
  first | (simp only [cond_true,cond_false,Bool.and_true,Bool.true_and,Bool.and_false,Bool.false_and];done) | rfl | exact (nomatch (hg:false=true))
 ·skip
  first | (simp only [cond_true,cond_false,Bool.and_true,Bool.true_and,Bool.and_false,Bool.false_and];done) | rfl | exact (nomatch (hg:false=true))
def Zlk:Con:=fun args h=>match args,h with
 | [.i .i64 a0],[]=>some (.a (.b ((Zcj a0))),.none,true)
 | _,_=>none
theorem Zgz:EntX prog 113:=Zai (fn:=Tryd.f113) (by kernel_rfl) (by kernel_rfl) (by kernel_rfl)
theorem Zjs:ConOkX mn prog 113 Zlk:=(Zaj (N:=1000) (by kernel_rfl) mkΓ_nilX (fn:=Tryd.f113) (by kernel_rfl) (by kernel_rfl) []).of (by
 intro ρ h w args vals r e hA hH hr
 unfold Zlk at hr
 split at hr
 ·rename_i a0
  obtain ⟨rfl,hg⟩:=Prod.mk.inj (Option.some.inj hr)
  obtain ⟨rfl,hg2⟩:=Prod.mk.inj hg
  exact Zxk a0 (hA.rng 0 rfl) hg2
 ·cases hr)
theorem Ycs (N:Nat) (a0:Array Value):ansV prog (mkΓ []) N Tryd.f117 [] [.g a0 166] []=(some (.a (.i .i64 (i64.wrap ((num a0 0)+(i64.wrap ((6:Int)*(num a0 1)))))),.none,true)):=by kernel_rfl
theorem Zzr (a0:Array Value) (h_a0:WT prog 166 a0) (hg:(true)=true):ansV prog (mkΓ []) 1000 Tryd.f117 [] [.g a0 166] []=some (.a (.i .i64 (i64.wrap ((num a0 0)+(i64.wrap ((6:Int)*(num a0 1)))))),.none,true):=by
 refine (Ycs 1000 a0).trans ?_
 rfl
def Zi2:Con:=fun args h=>match args,h with
 | [.g a0 166],[]=>some (.a (.i .i64 (i64.wrap ((num a0 0)+(i64.wrap ((6:Int)*(num a0 1)))))),.none,true)
 | _,_=>none
theorem Zn8:EntX prog 117:=Zai (fn:=Tryd.f117) (by kernel_rfl) (by kernel_rfl) (by kernel_rfl)
theorem Zsv:ConOkX mn prog 117 Zi2:=(Zaj (N:=1000) (by kernel_rfl) mkΓ_nilX (fn:=Tryd.f117) (by kernel_rfl) (by kernel_rfl) []).of (by
 intro ρ h w args vals r e hA hH hr
 unfold Zi2 at hr
 split at hr
 ·rename_i a0
  obtain ⟨rfl,hg⟩:=Prod.mk.inj (Option.some.inj hr)
  obtain ⟨rfl,hg2⟩:=Prod.mk.inj hg
  exact Zzr a0 (hA.wt 0 rfl) hg2
 ·cases hr)
end
end Go.Proofs.YtdofpgniogochaaDoor
