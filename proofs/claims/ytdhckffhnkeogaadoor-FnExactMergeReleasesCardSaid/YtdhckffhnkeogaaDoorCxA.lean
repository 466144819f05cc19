/- Places, tides, land and water, in company. -/
import Derived.Test.YtdhckffhnkeogaaDoorProg
import Derived.Test.YtdhckffhnkeogaaDoorVcE
set_option linter.unusedVariables false
set_option linter.unusedSimpArgs false
namespace Go.Proofs.YtdhckffhnkeogaaDoor
open Tryd (f33 f34 f35 f52 f56 f57 f68 f77 f78 f91 f92 f93 f97)
open Go.ChangeShapes Go.WideShapes Go.ChangeAt Go.RowKit Ve Vc
open Tryd (prog)
open IntKind (i64)
set_option maxRecDepth 100000
noncomputable section
abbrev SlT (e n:Nat) (A:Array Value):Prop:=A.size=n*(lay Tryd.prog e).length∧(∀ k,k<n→WT Tryd.prog e (A.extract (k*(lay Tryd.prog e).length) (k*(lay Tryd.prog e).length+(lay Tryd.prog e).length)))∧n≤9223372036854775807
variable {mn:Md}
theorem Zvu (N:Nat) (a0 a1 a2:Int):ansV prog (mkΓ []) N f34 [] [.i .i64 (a0),.i .i64 (a1),.i .i64 (a2)] []=(bif decide (a0 ≥ a1) then (some (.a (.b (decide (a0≤a2))),.none,true))
  else (some (.a (.b (false)),.none,true))):=by kernel_rfl
def Zab (a0 a1 a2:Int):Bool:=(bif decide (a0 ≥ a1) then decide (a0≤a2) else false)
theorem Zu7 (a0 a1 a2:Int) (h_a0:i64.min≤a0∧a0≤i64.max) (h_a1:i64.min≤a1∧a1≤i64.max) (h_a2:i64.min≤a2∧a2≤i64.max) (hg:(true)=true):ansV prog (mkΓ []) 1000 f34 [] [.i .i64 (a0),.i .i64 (a1),.i .i64 (a2)] []=some (.a (.b ((Zab a0 a1 a2))),.none,true):=by
 refine (Zvu 1000 a0 a1 a2).trans ?_
 unfold Zab
 revert hg
 generalize (decide (a0 ≥ a1))=b2
 intro hg
 cases b2
 ·skip
  first | (simp only [Q1,Q2,BQ6];done) | rfl | exact (nomatch (hg:false=true))
 ·skip
  first | (simp only [Q1,Q2,BQ6];done) | rfl | exact (nomatch (hg:false=true))
def Zdt:Con:=fun args h=>match args,h with
 | [.i .i64 a0,.i .i64 a1,.i .i64 a2],[]=>some (.a (.b ((Zab a0 a1 a2))),.none,true)
 | _,_=>none
theorem Zgs:EntX prog 34:=Zap (fn:=f34)
theorem Zit:Uab mn prog 34 Zdt:=(ansY (N:=1000) mkΓ_nilX f34 []).of (by
 intro ρ h w args vals r e hA hH hr
 unfold Zdt at hr
 split at hr
 ·rename_i a0 a1 a2
  obtain ⟨rfl,rfl,hg2⟩:=BQi hr
  exact Zu7 a0 a1 a2 (hA.rng 0 rfl) (hA.rng 1 rfl) (hA.rng 2 rfl) hg2
 ·cases hr)
theorem Zvr (N:Nat) (a1:Int) (a0:Array Value):ansV prog (mkΓ [(34,con Zdt)]) N f56 [] [.w 0,.i .i64 (a1)] [.row a0 42]=(bif (Zab a1 (0:Int) (35:Int)) then (bif decide (((a1).tmod (6:Int))<(i64.wrap (num a0 0))) then (some (.a (.b (decide ((i64.wrap ((a1).tdiv (6:Int)))<(i64.wrap (num a0 1))))),.none,true))
   else (some (.a (.b (false)),.none,true)))
  else (some (.a (.b (false)),.none,true))):=by kernel_rfl
def Zaz (a1:Int) (a0:Array Value):Bool:=(bif (Zab a1 (0:Int) (35:Int)) then (bif decide (((a1).tmod (6:Int))<(i64.wrap (num a0 0))) then decide ((i64.wrap ((a1).tdiv (6:Int)))<(i64.wrap (num a0 1))) else false) else false)
theorem Zt9 (a1:Int) (a0:Array Value) (h_a1:i64.min≤a1∧a1≤i64.max) (h_a0:WT prog 42 a0) (hg:(true)=true):ansV prog (mkΓ [(34,con Zdt)]) 1000 f56 [] [.w 0,.i .i64 (a1)] [.row a0 42]=some (.a (.b ((Zaz a1 a0))),.none,true):=by
 refine (Zvr 1000 a1 a0).trans ?_
 unfold Zaz
 revert hg
 generalize ((Zab a1 (0:Int) (35:Int)))=b2
 intro hg
 cases b2
 ·skip
  first | (simp only [Q1,Q2,BQ6];done) | rfl | exact (nomatch (hg:false=true))
 ·skip
  revert hg
  generalize (decide (((a1).tmod (6:Int))<(i64.wrap (num a0 0))))=b4
  intro hg
  cases b4
  ·skip
   first | (simp only [Q1,Q2,BQ6];done) | rfl | exact (nomatch (hg:false=true))
  ·skip
   first | (simp only [Q1,Q2,BQ6];done) | rfl | exact (nomatch (hg:false=true))
def Zc5:Con:=fun args h=>match args,h with
 | [.w 0,.i .i64 a1],[.row a0 42]=>some (.a (.b ((Zaz a1 a0))),.none,true)
 | _,_=>none
theorem Zl9:EntX prog 56:=Zap (fn:=f56)
theorem Zrc:Uab mn prog 56 Zc5:=(ansY (N:=1000) (mkΓ_consX (Zam Zit) Zgs mkΓ_nilX) f56 []).of (by
 intro ρ h w args vals r e hA hH hr
 unfold Zc5 at hr
 split at hr
 ·rename_i a1 a0
  obtain ⟨rfl,rfl,hg2⟩:=BQi hr
  exact Zt9 a1 a0 (hA.rng 1 rfl) (hH.wt 0 rfl) hg2
 ·cases hr)
theorem Ztv (N:Nat) (a0:Int):ansV prog (mkΓ [(34,con Zdt)]) N f33 [] [.i .i64 (a0)] []=(some (.a (.b ((Zab a0 (0:Int) (1:Int)))),.none,true)):=by kernel_rfl
theorem Zsj (a0:Int) (h_a0:i64.min≤a0∧a0≤i64.max) (hg:(true)=true):ansV prog (mkΓ [(34,con Zdt)]) 1000 f33 [] [.i .i64 (a0)] []=some (.a (.b ((Zab a0 (0:Int) (1:Int)))),.none,true):=by
 refine (Ztv 1000 a0).trans ?_
 rfl
def Zir:Con:=fun args h=>match args,h with
 | [.i .i64 a0],[]=>some (.a (.b ((Zab a0 (0:Int) (1:Int)))),.none,true)
 | _,_=>none
theorem Zqr:EntX prog 33:=Zap (fn:=f33)
theorem Zu0:Uab mn prog 33 Zir:=(ansY (N:=1000) (mkΓ_consX (Zam Zit) Zgs mkΓ_nilX) f33 []).of (by
 intro ρ h w args vals r e hA hH hr
 unfold Zir at hr
 split at hr
 ·rename_i a0
  obtain ⟨rfl,rfl,hg2⟩:=BQi hr
  exact Zsj a0 (hA.rng 0 rfl) hg2
 ·cases hr)
theorem Zu4 (N:Nat) (a1:Int) (a0:Array Value):ansV prog (mkΓ []) N f57 [] [.w 0,.i .i64 (a1)] [.row a0 42]=(bif decide (0≤(IntKind.u64.wrap a1)) then (some (.a (.b (((((((num a0 2)).fdiv (2^(min ((IntKind.u64.wrap a1)).toNat IntKind.u64.bits)))).tmod (2:Int))==(1:Int)))),.none,true))
  else (none)):=by kernel_rfl
def Zcn (a1:Int) (a0:Array Value):Bool:=((((((num a0 2)).fdiv (2^(min ((IntKind.u64.wrap a1)).toNat IntKind.u64.bits)))).tmod (2:Int))==(1:Int))
theorem Ztq (a1:Int) (a0:Array Value) (h_a1:i64.min≤a1∧a1≤i64.max) (h_a0:WT prog 42 a0) (hg:(decide (0≤(IntKind.u64.wrap a1)))=true):ansV prog (mkΓ []) 1000 f57 [] [.w 0,.i .i64 (a1)] [.row a0 42]=some (.a (.b ((Zcn a1 a0))),.none,true):=by
 refine (Zu4 1000 a1 a0).trans ?_
 unfold Zcn
 revert hg
 generalize (decide (0≤(IntKind.u64.wrap a1)))=b2
 intro hg
 cases b2
 ·skip
  first | exact (nomatch (hg:false=true)) | (simp only [Q1,Q2,BQ6];done) | rfl
 ·skip
  first | (simp only [Q1,Q2,BQ6];done) | rfl | exact (nomatch (hg:false=true))
def Zjh:Con:=fun args h=>match args,h with
 | [.w 0,.i .i64 a1],[.row a0 42]=>some (.a (.b ((Zcn a1 a0))),.none,decide (0≤(IntKind.u64.wrap a1)))
 | _,_=>none
theorem Zro:EntX prog 57:=Zap (fn:=f57)
theorem Zv7:Uab mn prog 57 Zjh:=(ansY (N:=1000) mkΓ_nilX f57 []).of (by
 intro ρ h w args vals r e hA hH hr
 unfold Zjh at hr
 split at hr
 ·rename_i a1 a0
  obtain ⟨rfl,rfl,hg2⟩:=BQi hr
  exact Ztq a1 a0 (hA.rng 1 rfl) (hH.wt 0 rfl) hg2
 ·cases hr)
def Zp8:Cons:=(mkΓ [(56,con Zc5),(57,con Zjh)])
theorem Zur (N:Nat) (a1:Int) (a0:Array Value):ansV prog Zp8 N f35 [] [.w 0,.i .i64 (a1)] [.row a0 42]=(bif (Zaz a1 a0) then (bif decide (0≤(IntKind.u64.wrap a1)) then (some (.a (.b ((!((Zcn a1 a0))))),.none,true))
   else (none))
  else (some (.a (.b (false)),.none,true))):=by kernel_rfl
def Zaq (a1:Int) (a0:Array Value):Bool:=(bif (Zaz a1 a0) then (!((Zcn a1 a0))) else false)
def Za5 (a1:Int) (a0:Array Value):Bool:=(bif (Zaz a1 a0) then decide (0≤(IntKind.u64.wrap a1)) else true)
theorem Zti (a1:Int) (a0:Array Value) (h_a1:i64.min≤a1∧a1≤i64.max) (h_a0:WT prog 42 a0) (hg:((Za5 a1 a0))=true):ansV prog Zp8 1000 f35 [] [.w 0,.i .i64 (a1)] [.row a0 42]=some (.a (.b ((Zaq a1 a0))),.none,true):=by
 refine (Zur 1000 a1 a0).trans ?_
 unfold Za5 at hg
 unfold Zaq
 revert hg
 generalize ((Zaz a1 a0))=b2
 intro hg
 cases b2
 ·skip
  first | (simp only [Q1,Q2,BQ6];done) | rfl | exact (nomatch (hg:false=true))
 ·skip
  revert hg
  generalize (decide (0≤(IntKind.u64.wrap a1)))=b4
  intro hg
  cases b4
  ·skip
   first | exact (nomatch (hg:false=true)) | (simp only [Q1,Q2,BQ6];done) | rfl
  ·skip
   first | (simp only [Q1,Q2,BQ6];done) | rfl | exact (nomatch (hg:false=true))
def Zhm:Con:=fun args h=>match args,h with
 | [.w 0,.i .i64 a1],[.row a0 42]=>some (.a (.b ((Zaq a1 a0))),.none,(Za5 a1 a0))
 | _,_=>none
theorem Zkp:EntX prog 35:=Zap (fn:=f35)
theorem Zo6:Uab mn prog 35 Zhm:=(ansY (N:=1000) (mkΓ_consX (Zam Zrc) Zl9 (mkΓ_consX (Zam Zv7) Zro mkΓ_nilX)) f35 []).of (by
 intro ρ h w args vals r e hA hH hr
 unfold Zhm at hr
 split at hr
 ·rename_i a1 a0
  obtain ⟨rfl,rfl,hg2⟩:=BQi hr
  exact Zti a1 a0 (hA.rng 1 rfl) (hH.wt 0 rfl) hg2
 ·cases hr)
theorem Zsm (N:Nat) (a0 a1:Array Value):ansV prog (mkΓ []) N f91 [] [.g a0 42,.g a1 167] []=(bif decide ((num a1 0) ≥ (0:Int)) then (bif decide ((num a1 0)<(i64.wrap (num a0 0))) then (bif decide ((num a1 1) ≥ (0:Int)) then (some (.a (.b (decide ((num a1 1)<(i64.wrap (num a0 1))))),.none,true))
    else (some (.a (.b (false)),.none,true)))
   else (some (.a (.b (false)),.none,true)))
  else (some (.a (.b (false)),.none,true))):=by kernel_rfl
def Zd9 (a0 a1:Array Value):Bool:=(bif decide ((num a1 0) ≥ (0:Int)) then (bif decide ((num a1 0)<(i64.wrap (num a0 0))) then (bif decide ((num a1 1) ≥ (0:Int)) then decide ((num a1 1)<(i64.wrap (num a0 1))) else false) else false) else false)
theorem Zp9 (a0 a1:Array Value) (h_a0:WT prog 42 a0) (h_a1:WT prog 167 a1) (hg:(true)=true):ansV prog (mkΓ []) 1000 f91 [] [.g a0 42,.g a1 167] []=some (.a (.b ((Zd9 a0 a1))),.none,true):=by
 refine (Zsm 1000 a0 a1).trans ?_
 unfold Zd9
 revert hg
 generalize (decide ((num a1 0) ≥ (0:Int)))=b2
 intro hg
 cases b2
 ·skip
  first | (simp only [Q1,Q2,BQ6];done) | rfl | exact (nomatch (hg:false=true))
 ·skip
  revert hg
  generalize (decide ((num a1 0)<(i64.wrap (num a0 0))))=b4
  intro hg
  cases b4
  ·skip
   first | (simp only [Q1,Q2,BQ6];done) | rfl | exact (nomatch (hg:false=true))
  ·skip
   revert hg
   generalize (decide ((num a1 1) ≥ (0:Int)))=b6
   intro hg
   cases b6
   ·skip
    first | (simp only [Q1,Q2,BQ6];done) | rfl | exact (nomatch (hg:false=true))
   ·skip
    first | (simp only [Q1,Q2,BQ6];done) | rfl | exact (nomatch (hg:false=true))
def Zh4:Con:=fun args h=>match args,h with
 | [.g a0 42,.g a1 167],[]=>some (.a (.b ((Zd9 a0 a1))),.none,true)
 | _,_=>none
theorem Zpn:EntX prog 91:=Zap (fn:=f91)
theorem Ztw:Uab mn prog 91 Zh4:=(ansY (N:=1000) mkΓ_nilX f91 []).of (by
 intro ρ h w args vals r e hA hH hr
 unfold Zh4 at hr
 split at hr
 ·rename_i a0 a1
  obtain ⟨rfl,rfl,hg2⟩:=BQi hr
  exact Zp9 a0 a1 (hA.wt 0 rfl) (hA.wt 1 rfl) hg2
 ·cases hr)
theorem Zta (N:Nat) (a0:Int):ansV prog (mkΓ []) N f92 [] [.i .i64 (a0)] []=(some (.a (.g #[.int .i64 ((a0).tmod (6:Int)),.int .i64 (i64.wrap ((a0).tdiv (6:Int)))] 167),.none,true)):=by kernel_rfl
theorem Zse (a0:Int) (h_a0:i64.min≤a0∧a0≤i64.max) (hg:(true)=true):ansV prog (mkΓ []) 1000 f92 [] [.i .i64 (a0)] []=some (.a (.g #[.int .i64 ((a0).tmod (6:Int)),.int .i64 (i64.wrap ((a0).tdiv (6:Int)))] 167),.none,true):=by
 refine (Zta 1000 a0).trans ?_
 rfl
def Zii:Con:=fun args h=>match args,h with
 | [.i .i64 a0],[]=>some (.a (.g #[.int .i64 ((a0).tmod (6:Int)),.int .i64 (i64.wrap ((a0).tdiv (6:Int)))] 167),.none,true)
 | _,_=>none
theorem Zqb:EntX prog 92:=Zap (fn:=f92)
theorem Zuf:Uab mn prog 92 Zii:=(ansY (N:=1000) mkΓ_nilX f92 []).of (by
 intro ρ h w args vals r e hA hH hr
 unfold Zii at hr
 split at hr
 ·rename_i a0
  obtain ⟨rfl,rfl,hg2⟩:=BQi hr
  exact Zse a0 (hA.rng 0 rfl) hg2
 ·cases hr)
def Zo3:Cons:=(mkΓ [(91,con Zh4),(92,con Zii)])
theorem Ztp (N:Nat) (a0:Array Value) (a1:Int):ansV prog Zo3 N f77 [] [.g a0 42,.i .i64 (a1)] []=(bif decide (a1 ≥ (0:Int)) then (bif decide (a1<(36:Int)) then (some (.a (.b ((Zd9 a0 (#[.int .i64 ((a1).tmod (6:Int)),.int .i64 (i64.wrap ((a1).tdiv (6:Int)))]:Array Value)))),.none,true))
   else (some (.a (.b (false)),.none,true)))
  else (some (.a (.b (false)),.none,true))):=by kernel_rfl
def Zal (a0:Array Value) (a1:Int):Bool:=(bif decide (a1 ≥ (0:Int)) then (bif decide (a1<(36:Int)) then (Zd9 a0 (#[.int .i64 ((a1).tmod (6:Int)),.int .i64 (i64.wrap ((a1).tdiv (6:Int)))]:Array Value)) else false) else false)
theorem Zsa (a0:Array Value) (a1:Int) (h_a0:WT prog 42 a0) (h_a1:i64.min≤a1∧a1≤i64.max) (hg:(true)=true):ansV prog Zo3 1000 f77 [] [.g a0 42,.i .i64 (a1)] []=some (.a (.b ((Zal a0 a1))),.none,true):=by
 refine (Ztp 1000 a0 a1).trans ?_
 unfold Zal
 revert hg
 generalize (decide (a1 ≥ (0:Int)))=b2
 intro hg
 cases b2
 ·skip
  first | (simp only [Q1,Q2,BQ6];done) | rfl | exact (nomatch (hg:false=true))
 ·skip
  revert hg
  generalize (decide (a1<(36:Int)))=b4
  intro hg
  cases b4
  ·skip
   first | (simp only [Q1,Q2,BQ6];done) | rfl | exact (nomatch (hg:false=true))
  ·skip
   first | (simp only [Q1,Q2,BQ6];done) | rfl | exact (nomatch (hg:false=true))
def Zgv:Con:=fun args h=>match args,h with
 | [.g a0 42,.i .i64 a1],[]=>some (.a (.b ((Zal a0 a1))),.none,true)
 | _,_=>none
theorem Zjt:EntX prog 77:=Zap (fn:=f77)
theorem Znr:Uab mn prog 77 Zgv:=(ansY (N:=1000) (mkΓ_consX (Zam Ztw) Zpn (mkΓ_consX (Zam Zuf) Zqb mkΓ_nilX)) f77 []).of (by
 intro ρ h w args vals r e hA hH hr
 unfold Zgv at hr
 split at hr
 ·rename_i a0 a1
  obtain ⟨rfl,rfl,hg2⟩:=BQi hr
  exact Zsa a0 a1 (hA.wt 0 rfl) (hA.rng 1 rfl) hg2
 ·cases hr)
theorem Zvm (N:Nat) (a0:Int):ansV prog (mkΓ []) N f52 [] [.i .i64 (a0)] []=(bif decide (0≤a0) then (some (.a (.i .u64 (IntKind.u64.wrap ((1:Int)*2^(min (a0).toNat IntKind.u64.bits)))),.none,true))
  else (none)):=by kernel_rfl
def Zc8 (a0:Int):Int:=(IntKind.u64.wrap ((1:Int)*2^(min (a0).toNat IntKind.u64.bits)))
theorem Zum (a0:Int) (h_a0:i64.min≤a0∧a0≤i64.max) (hg:(decide (0≤a0))=true):ansV prog (mkΓ []) 1000 f52 [] [.i .i64 (a0)] []=some (.a (.i .u64 (Zc8 a0)),.none,true):=by
 refine (Zvm 1000 a0).trans ?_
 unfold Zc8
 revert hg
 generalize (decide (0≤a0))=b2
 intro hg
 cases b2
 ·skip
  first | exact (nomatch (hg:false=true)) | (simp only [Q1,Q2,BQ6];done) | rfl
 ·skip
  first | (simp only [Q1,Q2,BQ6];done) | rfl | exact (nomatch (hg:false=true))
def Zgo:Con:=fun args h=>match args,h with
 | [.i .i64 a0],[]=>some (.a (.i .u64 (Zc8 a0)),.none,decide (0≤a0))
 | _,_=>none
theorem Zmc:EntX prog 52:=Zap (fn:=f52)
theorem Zq9:Uab mn prog 52 Zgo:=(ansY (N:=1000) mkΓ_nilX f52 []).of (by
 intro ρ h w args vals r e hA hH hr
 unfold Zgo at hr
 split at hr
 ·rename_i a0
  obtain ⟨rfl,rfl,hg2⟩:=BQi hr
  exact Zum a0 (hA.rng 0 rfl) hg2
 ·cases hr)
theorem Zuh (N:Nat) (a0:Array Value) (a1:Int):ansV prog (mkΓ [(52,con Zgo)]) N f93 [] [.g a0 42,.i .i64 (a1)] []=(bif decide (0≤a1) then (some (.a (.b (((IntKind.u64.wrap (BitVec.ofInt IntKind.u64.bits (num a0 2) &&& BitVec.ofInt IntKind.u64.bits (Zc8 a1)).toNat) != (0:Int)))),.none,true))
  else (none)):=by kernel_rfl
def Zdb (a0:Array Value) (a1:Int):Bool:=((IntKind.u64.wrap (BitVec.ofInt IntKind.u64.bits (num a0 2) &&& BitVec.ofInt IntKind.u64.bits (Zc8 a1)).toNat) != (0:Int))
theorem Ztj (a0:Array Value) (a1:Int) (h_a0:WT prog 42 a0) (h_a1:i64.min≤a1∧a1≤i64.max) (hg:(decide (0≤a1))=true):ansV prog (mkΓ [(52,con Zgo)]) 1000 f93 [] [.g a0 42,.i .i64 (a1)] []=some (.a (.b ((Zdb a0 a1))),.none,true):=by
 refine (Zuh 1000 a0 a1).trans ?_
 unfold Zdb
 revert hg
 generalize (decide (0≤a1))=b2
 intro hg
 cases b2
 ·skip
  first | exact (nomatch (hg:false=true)) | (simp only [Q1,Q2,BQ6];done) | rfl
 ·skip
  first | (simp only [Q1,Q2,BQ6];done) | rfl | exact (nomatch (hg:false=true))
def Zhd:Con:=fun args h=>match args,h with
 | [.g a0 42,.i .i64 a1],[]=>some (.a (.b ((Zdb a0 a1))),.none,decide (0≤a1))
 | _,_=>none
theorem Zsf:EntX prog 93:=Zap (fn:=f93)
theorem Zv8:Uab mn prog 93 Zhd:=(ansY (N:=1000) (mkΓ_consX (Zam Zq9) Zmc mkΓ_nilX) f93 []).of (by
 intro ρ h w args vals r e hA hH hr
 unfold Zhd at hr
 split at hr
 ·rename_i a0 a1
  obtain ⟨rfl,rfl,hg2⟩:=BQi hr
  exact Ztj a0 a1 (hA.wt 0 rfl) (hA.rng 1 rfl) hg2
 ·cases hr)
theorem Zto (N:Nat) (a0:Array Value) (a1:Int):ansV prog (mkΓ [(93,con Zhd)]) N f78 [] [.g a0 42,.i .i64 (a1)] []=(bif decide (0≤a1) then (some (.a (.b ((!((Zdb a0 a1))))),.none,true))
  else (none)):=by kernel_rfl
def Zbt (a0:Array Value) (a1:Int):Bool:=(!((Zdb a0 a1)))
theorem Zsq (a0:Array Value) (a1:Int) (h_a0:WT prog 42 a0) (h_a1:i64.min≤a1∧a1≤i64.max) (hg:(decide (0≤a1))=true):ansV prog (mkΓ [(93,con Zhd)]) 1000 f78 [] [.g a0 42,.i .i64 (a1)] []=some (.a (.b ((Zbt a0 a1))),.none,true):=by
 refine (Zto 1000 a0 a1).trans ?_
 unfold Zbt
 revert hg
 generalize (decide (0≤a1))=b2
 intro hg
 cases b2
 ·skip
  first | exact (nomatch (hg:false=true)) | (simp only [Q1,Q2,BQ6];done) | rfl
 ·skip
  first | (simp only [Q1,Q2,BQ6];done) | rfl | exact (nomatch (hg:false=true))
def Zgr:Con:=fun args h=>match args,h with
 | [.g a0 42,.i .i64 a1],[]=>some (.a (.b ((Zbt a0 a1))),.none,decide (0≤a1))
 | _,_=>none
theorem Zjz:EntX prog 78:=Zap (fn:=f78)
theorem Zn2:Uab mn prog 78 Zgr:=(ansY (N:=1000) (mkΓ_consX (Zam Zv8) Zsf mkΓ_nilX) f78 []).of (by
 intro ρ h w args vals r e hA hH hr
 unfold Zgr at hr
 split at hr
 ·rename_i a0 a1
  obtain ⟨rfl,rfl,hg2⟩:=BQi hr
  exact Zsq a0 a1 (hA.wt 0 rfl) (hA.rng 1 rfl) hg2
 ·cases hr)
theorem Ztc (N:Nat) (a0:Int):ansV prog (mkΓ []) N f68 [] [.i .i64 (a0)] []=(bif (a0==(0:Int)) then (some (.a (.b (true)),.none,true))
  else (some (.a (.b ((a0==(1:Int)))),.none,true))):=by kernel_rfl
def Zdd (a0:Int):Bool:=(bif (a0==(0:Int)) then true else (a0==(1:Int)))
theorem Zr0 (a0:Int) (h_a0:i64.min≤a0∧a0≤i64.max) (hg:(true)=true):ansV prog (mkΓ []) 1000 f68 [] [.i .i64 (a0)] []=some (.a (.b ((Zdd a0))),.none,true):=by
 refine (Ztc 1000 a0).trans ?_
 unfold Zdd
 revert hg
 generalize ((a0==(0:Int)))=b2
 intro hg
 cases b2
 ·skip
  first | (simp only [Q1,Q2,BQ6];done) | rfl | exact (nomatch (hg:false=true))
 ·skip
  first | (simp only [Q1,Q2,BQ6];done) | rfl | exact (nomatch (hg:false=true))
def Zgq:Con:=fun args h=>match args,h with
 | [.i .i64 a0],[]=>some (.a (.b ((Zdd a0))),.none,true)
 | _,_=>none
theorem Zq3:EntX prog 68:=Zap (fn:=f68)
theorem Zus:Uab mn prog 68 Zgq:=(ansY (N:=1000) mkΓ_nilX f68 []).of (by
 intro ρ h w args vals r e hA hH hr
 unfold Zgq at hr
 split at hr
 ·rename_i a0
  obtain ⟨rfl,rfl,hg2⟩:=BQi hr
  exact Zr0 a0 (hA.rng 0 rfl) hg2
 ·cases hr)
theorem Zuj (N:Nat) (a0:Array Value):ansV prog (mkΓ []) N f97 [] [.g a0 167] []=(some (.a (.i .i64 (i64.wrap ((num a0 0)+(i64.wrap ((6:Int)*(num a0 1)))))),.none,true)):=by kernel_rfl
theorem Ztf (a0:Array Value) (h_a0:WT prog 167 a0) (hg:(true)=true):ansV prog (mkΓ []) 1000 f97 [] [.g a0 167] []=some (.a (.i .i64 (i64.wrap ((num a0 0)+(i64.wrap ((6:Int)*(num a0 1)))))),.none,true):=by
 refine (Zuj 1000 a0).trans ?_
 rfl
def Ziz:Con:=fun args h=>match args,h with
 | [.g a0 167],[]=>some (.a (.i .i64 (i64.wrap ((num a0 0)+(i64.wrap ((6:Int)*(num a0 1)))))),.none,true)
 | _,_=>none
theorem Zrn:EntX prog 97:=Zap (fn:=f97)
theorem Zv6:Uab mn prog 97 Ziz:=(ansY (N:=1000) mkΓ_nilX f97 []).of (by
 intro ρ h w args vals r e hA hH hr
 unfold Ziz at hr
 split at hr
 ·rename_i a0
  obtain ⟨rfl,rfl,hg2⟩:=BQi hr
  exact Ztf a0 (hA.wt 0 rfl) hg2
 ·cases hr)
end
end Go.Proofs.YtdhckffhnkeogaaDoor
