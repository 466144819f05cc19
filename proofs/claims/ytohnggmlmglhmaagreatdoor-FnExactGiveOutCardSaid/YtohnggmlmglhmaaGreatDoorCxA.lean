/- Places, tides, land and water, in company. -/
import Derived.Test.YtohnggmlmglhmaaGreatDoorProg
import Derived.Test.YtohnggmlmglhmaaGreatDoorVcE
namespace Go.Proofs.YtohnggmlmglhmaaGreatDoor
open Go.ChangeShapes Go.WideShapes Go.ChangeAt Go.RowKit Ve Vc
open Tryz renaming prog → PZ
open IntKind (i64)
set_option linter.unusedVariables false
set_option linter.unusedSimpArgs false
set_option maxRecDepth 100000
noncomputable section
abbrev SlT (e n:Nat) (A:Array Value):Prop:=A.size=n*(lay PZ e).length∧(∀ k,k<n→WT PZ e (A.extract (k*(lay PZ e).length) (k*(lay PZ e).length+(lay PZ e).length)))∧n≤9223372036854775807
variable {mn:Md}
theorem Yf0 (N:Nat) (a0 a1 a2:Int):ansV PZ (mkΓ []) N Tryz.f47 [] [.i .i64 (a0),.i .i64 (a1),.i .i64 (a2)] []=(bif decide (a0 ≥ a1) then (some (.a (.b (decide (a0≤a2))),.none,true))
  else (some (.a (.b (false)),.none,true))):=by kernel_rfl
def Zaa (a0 a1 a2:Int):Bool:=(bif decide (a0 ≥ a1) then decide (a0≤a2) else false)
theorem Ydy (a0 a1 a2:Int) (h_a0:i64.min≤a0∧a0≤i64.max) (h_a1:i64.min≤a1∧a1≤i64.max) (h_a2:i64.min≤a2∧a2≤i64.max) (hg:(true)=true):ansV PZ (mkΓ []) 1000 Tryz.f47 [] [.i .i64 (a0),.i .i64 (a1),.i .i64 (a2)] []=some (.a (.b ((Zaa a0 a1 a2))),.none,true):=by
 refine (Yf0 1000 a0 a1 a2).trans ?_
 unfold Zaa
 revert hg
 generalize (decide (a0 ≥ a1))=b2
 intro hg
 cases b2
 ·skip
  first | (simp only [Q1,Q2,BQ6];done) | rfl | exact (nomatch (hg:false=true))
 ·skip
  first | (simp only [Q1,Q2,BQ6];done) | rfl | exact (nomatch (hg:false=true))
def Zcw:Con:=fun args h=>match args,h with
 | [.i .i64 a0,.i .i64 a1,.i .i64 a2],[]=>some (.a (.b ((Zaa a0 a1 a2))),.none,true)
 | _,_=>none
theorem Zep:EntX PZ 47:=Zag (fn:=Tryz.f47) (by kernel_rfl) (by kernel_rfl) (by kernel_rfl)
theorem Zgw:Uab mn PZ 47 Zcw:=(Zaf (N:=1000) (by kernel_rfl) mkΓ_nilX (fn:=Tryz.f47) (by kernel_rfl) (by kernel_rfl) []).of (by
 intro ρ h w args vals r e hA hH hr
 unfold Zcw at hr
 split at hr
 ·rename_i a0 a1 a2
  obtain ⟨rfl,rfl,hg2⟩:=BQi hr
  exact Ydy a0 a1 a2 (hA.rng 0 rfl) (hA.rng 1 rfl) (hA.rng 2 rfl) hg2
 ·cases hr)
theorem Yf7 (N:Nat) (a1:Int) (a0:Array Value):ansV PZ (mkΓ [(47,con Zcw)]) N Tryz.f24 [] [.w 0,.i .i64 (a1)] [.row a0 41]=(bif (Zaa a1 (0:Int) (35:Int)) then (bif decide (((a1).tmod (6:Int))<(i64.wrap (num a0 0))) then (some (.a (.b (decide ((i64.wrap ((a1).tdiv (6:Int)))<(i64.wrap (num a0 1))))),.none,true))
   else (some (.a (.b (false)),.none,true)))
  else (some (.a (.b (false)),.none,true))):=by kernel_rfl
def Zax (a1:Int) (a0:Array Value):Bool:=(bif (Zaa a1 (0:Int) (35:Int)) then (bif decide (((a1).tmod (6:Int))<(i64.wrap (num a0 0))) then decide ((i64.wrap ((a1).tdiv (6:Int)))<(i64.wrap (num a0 1))) else false) else false)
theorem Yek (a1:Int) (a0:Array Value) (h_a1:i64.min≤a1∧a1≤i64.max) (h_a0:WT PZ 41 a0) (hg:(true)=true):ansV PZ (mkΓ [(47,con Zcw)]) 1000 Tryz.f24 [] [.w 0,.i .i64 (a1)] [.row a0 41]=some (.a (.b ((Zax a1 a0))),.none,true):=by
 refine (Yf7 1000 a1 a0).trans ?_
 unfold Zax
 revert hg
 generalize ((Zaa a1 (0:Int) (35:Int)))=b2
 intro hg
 cases b2
 ·skip
  first | (simp only [Q1,Q2,BQ6];done) | rfl | exact (nomatch (hg:false=true))
 ·skip
  revert hg
  generalize (decide (((a1).tmod (6:Int))<(i64.wrap (num a0 0))))=b4
  intro hg
  cases b4
  ·skip
   first | (simp only [Q1,Q2,BQ6];done) | rfl | exact (nomatch (hg:false=true))
  ·skip
   first | (simp only [Q1,Q2,BQ6];done) | rfl | exact (nomatch (hg:false=true))
def Zd5:Con:=fun args h=>match args,h with
 | [.w 0,.i .i64 a1],[.row a0 41]=>some (.a (.b ((Zax a1 a0))),.none,true)
 | _,_=>none
theorem Zrf:EntX PZ 24:=Zag (fn:=Tryz.f24) (by kernel_rfl) (by kernel_rfl) (by kernel_rfl)
theorem Zy1:Uab mn PZ 24 Zd5:=(Zaf (N:=1000) (by kernel_rfl) (mkΓ_consX (Zac Zgw) Zep mkΓ_nilX) (fn:=Tryz.f24) (by kernel_rfl) (by kernel_rfl) []).of (by
 intro ρ h w args vals r e hA hH hr
 unfold Zd5 at hr
 split at hr
 ·rename_i a1 a0
  obtain ⟨rfl,rfl,hg2⟩:=BQi hr
  exact Yek a1 a0 (hA.rng 1 rfl) (hH.wt 0 rfl) hg2
 ·cases hr)
theorem Ybr (N:Nat) (a0:Int):ansV PZ (mkΓ [(47,con Zcw)]) N Tryz.f82 [] [.i .i64 (a0)] []=(some (.a (.b ((Zaa a0 (0:Int) (1:Int)))),.none,true)):=by kernel_rfl
theorem Zz7 (a0:Int) (h_a0:i64.min≤a0∧a0≤i64.max) (hg:(true)=true):ansV PZ (mkΓ [(47,con Zcw)]) 1000 Tryz.f82 [] [.i .i64 (a0)] []=some (.a (.b ((Zaa a0 (0:Int) (1:Int)))),.none,true):=by
 refine (Ybr 1000 a0).trans ?_
 rfl
def Zme:Con:=fun args h=>match args,h with
 | [.i .i64 a0],[]=>some (.a (.b ((Zaa a0 (0:Int) (1:Int)))),.none,true)
 | _,_=>none
theorem Zy6:EntX PZ 82:=Zag (fn:=Tryz.f82) (by kernel_rfl) (by kernel_rfl) (by kernel_rfl)
theorem Yex:Uab mn PZ 82 Zme:=(Zaf (N:=1000) (by kernel_rfl) (mkΓ_consX (Zac Zgw) Zep mkΓ_nilX) (fn:=Tryz.f82) (by kernel_rfl) (by kernel_rfl) []).of (by
 intro ρ h w args vals r e hA hH hr
 unfold Zme at hr
 split at hr
 ·rename_i a0
  obtain ⟨rfl,rfl,hg2⟩:=BQi hr
  exact Zz7 a0 (hA.rng 0 rfl) hg2
 ·cases hr)
theorem Yfc (N:Nat) (a1:Int) (a0:Array Value):ansV PZ (mkΓ []) N Tryz.f25 [] [.w 0,.i .i64 (a1)] [.row a0 41]=(bif decide (0≤(IntKind.u64.wrap a1)) then (some (.a (.b (((((((num a0 2)).fdiv (2^(min ((IntKind.u64.wrap a1)).toNat IntKind.u64.bits)))).tmod (2:Int))==(1:Int)))),.none,true))
  else (none)):=by kernel_rfl
def Zcb (a1:Int) (a0:Array Value):Bool:=((((((num a0 2)).fdiv (2^(min ((IntKind.u64.wrap a1)).toNat IntKind.u64.bits)))).tmod (2:Int))==(1:Int))
theorem Ybx (a1:Int) (a0:Array Value) (h_a1:i64.min≤a1∧a1≤i64.max) (h_a0:WT PZ 41 a0) (hg:(decide (0≤(IntKind.u64.wrap a1)))=true):ansV PZ (mkΓ []) 1000 Tryz.f25 [] [.w 0,.i .i64 (a1)] [.row a0 41]=some (.a (.b ((Zcb a1 a0))),.none,true):=by
 refine (Yfc 1000 a1 a0).trans ?_
 unfold Zcb
 revert hg
 generalize (decide (0≤(IntKind.u64.wrap a1)))=b2
 intro hg
 cases b2
 ·skip
  first | exact (nomatch (hg:false=true)) | (simp only [Q1,Q2,BQ6];done) | rfl
 ·skip
  first | (simp only [Q1,Q2,BQ6];done) | rfl | exact (nomatch (hg:false=true))
def Zm8:Con:=fun args h=>match args,h with
 | [.w 0,.i .i64 a1],[.row a0 41]=>some (.a (.b ((Zcb a1 a0))),.none,decide (0≤(IntKind.u64.wrap a1)))
 | _,_=>none
theorem Ya7:EntX PZ 25:=Zag (fn:=Tryz.f25) (by kernel_rfl) (by kernel_rfl) (by kernel_rfl)
theorem Yf3:Uab mn PZ 25 Zm8:=(Zaf (N:=1000) (by kernel_rfl) mkΓ_nilX (fn:=Tryz.f25) (by kernel_rfl) (by kernel_rfl) []).of (by
 intro ρ h w args vals r e hA hH hr
 unfold Zm8 at hr
 split at hr
 ·rename_i a1 a0
  obtain ⟨rfl,rfl,hg2⟩:=BQi hr
  exact Ybx a1 a0 (hA.rng 1 rfl) (hH.wt 0 rfl) hg2
 ·cases hr)
def Zxf:Cons:=(mkΓ [(24,con Zd5),(25,con Zm8)])
theorem Yez (N:Nat) (a1:Int) (a0:Array Value):ansV PZ Zxf N Tryz.f38 [] [.w 0,.i .i64 (a1)] [.row a0 41]=(bif (Zax a1 a0) then (bif decide (0≤(IntKind.u64.wrap a1)) then (some (.a (.b ((!((Zcb a1 a0))))),.none,true))
   else (none))
  else (some (.a (.b (false)),.none,true))):=by kernel_rfl
def Zae (a1:Int) (a0:Array Value):Bool:=(bif (Zax a1 a0) then (!((Zcb a1 a0))) else false)
def Za3 (a1:Int) (a0:Array Value):Bool:=(bif (Zax a1 a0) then decide (0≤(IntKind.u64.wrap a1)) else true)
theorem Ybv (a1:Int) (a0:Array Value) (h_a1:i64.min≤a1∧a1≤i64.max) (h_a0:WT PZ 41 a0) (hg:((Za3 a1 a0))=true):ansV PZ Zxf 1000 Tryz.f38 [] [.w 0,.i .i64 (a1)] [.row a0 41]=some (.a (.b ((Zae a1 a0))),.none,true):=by
 refine (Yez 1000 a1 a0).trans ?_
 unfold Za3 at hg
 unfold Zae
 revert hg
 generalize ((Zax a1 a0))=b2
 intro hg
 cases b2
 ·skip
  first | (simp only [Q1,Q2,BQ6];done) | rfl | exact (nomatch (hg:false=true))
 ·skip
  revert hg
  generalize (decide (0≤(IntKind.u64.wrap a1)))=b4
  intro hg
  cases b4
  ·skip
   first | exact (nomatch (hg:false=true)) | (simp only [Q1,Q2,BQ6];done) | rfl
  ·skip
   first | (simp only [Q1,Q2,BQ6];done) | rfl | exact (nomatch (hg:false=true))
def Zhu:Con:=fun args h=>match args,h with
 | [.w 0,.i .i64 a1],[.row a0 41]=>some (.a (.b ((Zae a1 a0))),.none,(Za3 a1 a0))
 | _,_=>none
theorem Zln:EntX PZ 38:=Zag (fn:=Tryz.f38) (by kernel_rfl) (by kernel_rfl) (by kernel_rfl)
theorem Zo1:Uab mn PZ 38 Zhu:=(Zaf (N:=1000) (by kernel_rfl) (mkΓ_consX (Zac Zy1) Zrf (mkΓ_consX (Zac Yf3) Ya7 mkΓ_nilX)) (fn:=Tryz.f38) (by kernel_rfl) (by kernel_rfl) []).of (by
 intro ρ h w args vals r e hA hH hr
 unfold Zhu at hr
 split at hr
 ·rename_i a1 a0
  obtain ⟨rfl,rfl,hg2⟩:=BQi hr
  exact Ybv a1 a0 (hA.rng 1 rfl) (hH.wt 0 rfl) hg2
 ·cases hr)
theorem Yan (N:Nat) (a0 a1:Array Value):ansV PZ (mkΓ []) N Tryz.f62 [] [.g a0 41,.g a1 122] []=(bif decide ((num a1 0) ≥ (0:Int)) then (bif decide ((num a1 0)<(i64.wrap (num a0 0))) then (bif decide ((num a1 1) ≥ (0:Int)) then (some (.a (.b (decide ((num a1 1)<(i64.wrap (num a0 1))))),.none,true))
    else (some (.a (.b (false)),.none,true)))
   else (some (.a (.b (false)),.none,true)))
  else (some (.a (.b (false)),.none,true))):=by kernel_rfl
def Zas (a0 a1:Array Value):Bool:=(bif decide ((num a1 0) ≥ (0:Int)) then (bif decide ((num a1 0)<(i64.wrap (num a0 0))) then (bif decide ((num a1 1) ≥ (0:Int)) then decide ((num a1 1)<(i64.wrap (num a0 1))) else false) else false) else false)
theorem Zxw (a0 a1:Array Value) (h_a0:WT PZ 41 a0) (h_a1:WT PZ 122 a1) (hg:(true)=true):ansV PZ (mkΓ []) 1000 Tryz.f62 [] [.g a0 41,.g a1 122] []=some (.a (.b ((Zas a0 a1))),.none,true):=by
 refine (Yan 1000 a0 a1).trans ?_
 unfold Zas
 revert hg
 generalize (decide ((num a1 0) ≥ (0:Int)))=b2
 intro hg
 cases b2
 ·skip
  first | (simp only [Q1,Q2,BQ6];done) | rfl | exact (nomatch (hg:false=true))
 ·skip
  revert hg
  generalize (decide ((num a1 0)<(i64.wrap (num a0 0))))=b4
  intro hg
  cases b4
  ·skip
   first | (simp only [Q1,Q2,BQ6];done) | rfl | exact (nomatch (hg:false=true))
  ·skip
   revert hg
   generalize (decide ((num a1 1) ≥ (0:Int)))=b6
   intro hg
   cases b6
   ·skip
    first | (simp only [Q1,Q2,BQ6];done) | rfl | exact (nomatch (hg:false=true))
   ·skip
    first | (simp only [Q1,Q2,BQ6];done) | rfl | exact (nomatch (hg:false=true))
def Zik:Con:=fun args h=>match args,h with
 | [.g a0 41,.g a1 122],[]=>some (.a (.b ((Zas a0 a1))),.none,true)
 | _,_=>none
theorem Zm6:EntX PZ 62:=Zag (fn:=Tryz.f62) (by kernel_rfl) (by kernel_rfl) (by kernel_rfl)
theorem Zra:Uab mn PZ 62 Zik:=(Zaf (N:=1000) (by kernel_rfl) mkΓ_nilX (fn:=Tryz.f62) (by kernel_rfl) (by kernel_rfl) []).of (by
 intro ρ h w args vals r e hA hH hr
 unfold Zik at hr
 split at hr
 ·rename_i a0 a1
  obtain ⟨rfl,rfl,hg2⟩:=BQi hr
  exact Zxw a0 a1 (hA.wt 0 rfl) (hA.wt 1 rfl) hg2
 ·cases hr)
theorem Yb5 (N:Nat) (a0:Int):ansV PZ (mkΓ []) N Tryz.f63 [] [.i .i64 (a0)] []=(some (.a (.g #[.int .i64 ((a0).tmod (6:Int)),.int .i64 (i64.wrap ((a0).tdiv (6:Int)))] 122),.none,true)):=by kernel_rfl
theorem Zz6 (a0:Int) (h_a0:i64.min≤a0∧a0≤i64.max) (hg:(true)=true):ansV PZ (mkΓ []) 1000 Tryz.f63 [] [.i .i64 (a0)] []=some (.a (.g #[.int .i64 ((a0).tmod (6:Int)),.int .i64 (i64.wrap ((a0).tdiv (6:Int)))] 122),.none,true):=by
 refine (Yb5 1000 a0).trans ?_
 rfl
def Zjf:Con:=fun args h=>match args,h with
 | [.i .i64 a0],[]=>some (.a (.g #[.int .i64 ((a0).tmod (6:Int)),.int .i64 (i64.wrap ((a0).tdiv (6:Int)))] 122),.none,true)
 | _,_=>none
theorem Zob:EntX PZ 63:=Zag (fn:=Tryz.f63) (by kernel_rfl) (by kernel_rfl) (by kernel_rfl)
theorem Zsv:Uab mn PZ 63 Zjf:=(Zaf (N:=1000) (by kernel_rfl) mkΓ_nilX (fn:=Tryz.f63) (by kernel_rfl) (by kernel_rfl) []).of (by
 intro ρ h w args vals r e hA hH hr
 unfold Zjf at hr
 split at hr
 ·rename_i a0
  obtain ⟨rfl,rfl,hg2⟩:=BQi hr
  exact Zz6 a0 (hA.rng 0 rfl) hg2
 ·cases hr)
def Zvf:Cons:=(mkΓ [(62,con Zik),(63,con Zjf)])
theorem Yca (N:Nat) (a0:Array Value) (a1:Int):ansV PZ Zvf N Tryz.f33 [] [.g a0 41,.i .i64 (a1)] []=(bif decide (a1 ≥ (0:Int)) then (bif decide (a1<(36:Int)) then (some (.a (.b ((Zas a0 (#[.int .i64 ((a1).tmod (6:Int)),.int .i64 (i64.wrap ((a1).tdiv (6:Int)))]:Array Value)))),.none,true))
   else (some (.a (.b (false)),.none,true)))
  else (some (.a (.b (false)),.none,true))):=by kernel_rfl
def Zao (a0:Array Value) (a1:Int):Bool:=(bif decide (a1 ≥ (0:Int)) then (bif decide (a1<(36:Int)) then (Zas a0 (#[.int .i64 ((a1).tmod (6:Int)),.int .i64 (i64.wrap ((a1).tdiv (6:Int)))]:Array Value)) else false) else false)
theorem Yap (a0:Array Value) (a1:Int) (h_a0:WT PZ 41 a0) (h_a1:i64.min≤a1∧a1≤i64.max) (hg:(true)=true):ansV PZ Zvf 1000 Tryz.f33 [] [.g a0 41,.i .i64 (a1)] []=some (.a (.b ((Zao a0 a1))),.none,true):=by
 refine (Yca 1000 a0 a1).trans ?_
 unfold Zao
 revert hg
 generalize (decide (a1 ≥ (0:Int)))=b2
 intro hg
 cases b2
 ·skip
  first | (simp only [Q1,Q2,BQ6];done) | rfl | exact (nomatch (hg:false=true))
 ·skip
  revert hg
  generalize (decide (a1<(36:Int)))=b4
  intro hg
  cases b4
  ·skip
   first | (simp only [Q1,Q2,BQ6];done) | rfl | exact (nomatch (hg:false=true))
  ·skip
   first | (simp only [Q1,Q2,BQ6];done) | rfl | exact (nomatch (hg:false=true))
def Zi8:Con:=fun args h=>match args,h with
 | [.g a0 41,.i .i64 a1],[]=>some (.a (.b ((Zao a0 a1))),.none,true)
 | _,_=>none
theorem Zoe:EntX PZ 33:=Zag (fn:=Tryz.f33) (by kernel_rfl) (by kernel_rfl) (by kernel_rfl)
theorem Zsa:Uab mn PZ 33 Zi8:=(Zaf (N:=1000) (by kernel_rfl) (mkΓ_consX (Zac Zra) Zm6 (mkΓ_consX (Zac Zsv) Zob mkΓ_nilX)) (fn:=Tryz.f33) (by kernel_rfl) (by kernel_rfl) []).of (by
 intro ρ h w args vals r e hA hH hr
 unfold Zi8 at hr
 split at hr
 ·rename_i a0 a1
  obtain ⟨rfl,rfl,hg2⟩:=BQi hr
  exact Yap a0 a1 (hA.wt 0 rfl) (hA.rng 1 rfl) hg2
 ·cases hr)
theorem Yfq (N:Nat) (a0:Int):ansV PZ (mkΓ []) N Tryz.f36 [] [.i .i64 (a0)] []=(bif decide (0≤a0) then (some (.a (.i .u64 (IntKind.u64.wrap ((1:Int)*2^(min (a0).toNat IntKind.u64.bits)))),.none,true))
  else (none)):=by kernel_rfl
def Zea (a0:Int):Int:=(IntKind.u64.wrap ((1:Int)*2^(min (a0).toNat IntKind.u64.bits)))
theorem Ydf (a0:Int) (h_a0:i64.min≤a0∧a0≤i64.max) (hg:(decide (0≤a0))=true):ansV PZ (mkΓ []) 1000 Tryz.f36 [] [.i .i64 (a0)] []=some (.a (.i .u64 (Zea a0)),.none,true):=by
 refine (Yfq 1000 a0).trans ?_
 unfold Zea
 revert hg
 generalize (decide (0≤a0))=b2
 intro hg
 cases b2
 ·skip
  first | exact (nomatch (hg:false=true)) | (simp only [Q1,Q2,BQ6];done) | rfl
 ·skip
  first | (simp only [Q1,Q2,BQ6];done) | rfl | exact (nomatch (hg:false=true))
def Zi3:Con:=fun args h=>match args,h with
 | [.i .i64 a0],[]=>some (.a (.i .u64 (Zea a0)),.none,decide (0≤a0))
 | _,_=>none
theorem Zrg:EntX PZ 36:=Zag (fn:=Tryz.f36) (by kernel_rfl) (by kernel_rfl) (by kernel_rfl)
theorem Zw7:Uab mn PZ 36 Zi3:=(Zaf (N:=1000) (by kernel_rfl) mkΓ_nilX (fn:=Tryz.f36) (by kernel_rfl) (by kernel_rfl) []).of (by
 intro ρ h w args vals r e hA hH hr
 unfold Zi3 at hr
 split at hr
 ·rename_i a0
  obtain ⟨rfl,rfl,hg2⟩:=BQi hr
  exact Ydf a0 (hA.rng 0 rfl) hg2
 ·cases hr)
theorem Yc6 (N:Nat) (a0:Array Value) (a1:Int):ansV PZ (mkΓ [(36,con Zi3)]) N Tryz.f34 [] [.g a0 41,.i .i64 (a1)] []=(bif decide (0≤a1) then (some (.a (.b (((IntKind.u64.wrap (BitVec.ofInt IntKind.u64.bits (num a0 2) &&& BitVec.ofInt IntKind.u64.bits (Zea a1)).toNat) != (0:Int)))),.none,true))
  else (none)):=by kernel_rfl
def Za9 (a0:Array Value) (a1:Int):Bool:=((IntKind.u64.wrap (BitVec.ofInt IntKind.u64.bits (num a0 2) &&& BitVec.ofInt IntKind.u64.bits (Zea a1)).toNat) != (0:Int))
theorem Ycf (a0:Array Value) (a1:Int) (h_a0:WT PZ 41 a0) (h_a1:i64.min≤a1∧a1≤i64.max) (hg:(decide (0≤a1))=true):ansV PZ (mkΓ [(36,con Zi3)]) 1000 Tryz.f34 [] [.g a0 41,.i .i64 (a1)] []=some (.a (.b ((Za9 a0 a1))),.none,true):=by
 refine (Yc6 1000 a0 a1).trans ?_
 unfold Za9
 revert hg
 generalize (decide (0≤a1))=b2
 intro hg
 cases b2
 ·skip
  first | exact (nomatch (hg:false=true)) | (simp only [Q1,Q2,BQ6];done) | rfl
 ·skip
  first | (simp only [Q1,Q2,BQ6];done) | rfl | exact (nomatch (hg:false=true))
def Zhz:Con:=fun args h=>match args,h with
 | [.g a0 41,.i .i64 a1],[]=>some (.a (.b ((Za9 a0 a1))),.none,decide (0≤a1))
 | _,_=>none
theorem Zpo:EntX PZ 34:=Zag (fn:=Tryz.f34) (by kernel_rfl) (by kernel_rfl) (by kernel_rfl)
theorem Zvn:Uab mn PZ 34 Zhz:=(Zaf (N:=1000) (by kernel_rfl) (mkΓ_consX (Zac Zw7) Zrg mkΓ_nilX) (fn:=Tryz.f34) (by kernel_rfl) (by kernel_rfl) []).of (by
 intro ρ h w args vals r e hA hH hr
 unfold Zhz at hr
 split at hr
 ·rename_i a0 a1
  obtain ⟨rfl,rfl,hg2⟩:=BQi hr
  exact Ycf a0 a1 (hA.wt 0 rfl) (hA.rng 1 rfl) hg2
 ·cases hr)
theorem Ych (N:Nat) (a0:Array Value) (a1:Int):ansV PZ (mkΓ [(34,con Zhz)]) N Tryz.f117 [] [.g a0 41,.i .i64 (a1)] []=(bif decide (0≤a1) then (some (.a (.b ((!((Za9 a0 a1))))),.none,true))
  else (none)):=by kernel_rfl
def Zb3 (a0:Array Value) (a1:Int):Bool:=(!((Za9 a0 a1)))
theorem Zzu (a0:Array Value) (a1:Int) (h_a0:WT PZ 41 a0) (h_a1:i64.min≤a1∧a1≤i64.max) (hg:(decide (0≤a1))=true):ansV PZ (mkΓ [(34,con Zhz)]) 1000 Tryz.f117 [] [.g a0 41,.i .i64 (a1)] []=some (.a (.b ((Zb3 a0 a1))),.none,true):=by
 refine (Ych 1000 a0 a1).trans ?_
 unfold Zb3
 revert hg
 generalize (decide (0≤a1))=b2
 intro hg
 cases b2
 ·skip
  first | exact (nomatch (hg:false=true)) | (simp only [Q1,Q2,BQ6];done) | rfl
 ·skip
  first | (simp only [Q1,Q2,BQ6];done) | rfl | exact (nomatch (hg:false=true))
def Zi9:Con:=fun args h=>match args,h with
 | [.g a0 41,.i .i64 a1],[]=>some (.a (.b ((Zb3 a0 a1))),.none,decide (0≤a1))
 | _,_=>none
theorem Zof:EntX PZ 117:=Zag (fn:=Tryz.f117) (by kernel_rfl) (by kernel_rfl) (by kernel_rfl)
theorem Zs1:Uab mn PZ 117 Zi9:=(Zaf (N:=1000) (by kernel_rfl) (mkΓ_consX (Zac Zvn) Zpo mkΓ_nilX) (fn:=Tryz.f117) (by kernel_rfl) (by kernel_rfl) []).of (by
 intro ρ h w args vals r e hA hH hr
 unfold Zi9 at hr
 split at hr
 ·rename_i a0 a1
  obtain ⟨rfl,rfl,hg2⟩:=BQi hr
  exact Zzu a0 a1 (hA.wt 0 rfl) (hA.rng 1 rfl) hg2
 ·cases hr)
theorem Ycg (N:Nat) (a0:Int):ansV PZ (mkΓ []) N Tryz.f97 [] [.i .i64 (a0)] []=(bif (a0==(0:Int)) then (some (.a (.b (true)),.none,true))
  else (some (.a (.b ((a0==(1:Int)))),.none,true))):=by kernel_rfl
def Zed (a0:Int):Bool:=(bif (a0==(0:Int)) then true else (a0==(1:Int)))
theorem Yab (a0:Int) (h_a0:i64.min≤a0∧a0≤i64.max) (hg:(true)=true):ansV PZ (mkΓ []) 1000 Tryz.f97 [] [.i .i64 (a0)] []=some (.a (.b ((Zed a0))),.none,true):=by
 refine (Ycg 1000 a0).trans ?_
 unfold Zed
 revert hg
 generalize ((a0==(0:Int)))=b2
 intro hg
 cases b2
 ·skip
  first | (simp only [Q1,Q2,BQ6];done) | rfl | exact (nomatch (hg:false=true))
 ·skip
  first | (simp only [Q1,Q2,BQ6];done) | rfl | exact (nomatch (hg:false=true))
def Zjb:Con:=fun args h=>match args,h with
 | [.i .i64 a0],[]=>some (.a (.b ((Zed a0))),.none,true)
 | _,_=>none
theorem Zxu:EntX PZ 97:=Zag (fn:=Tryz.f97) (by kernel_rfl) (by kernel_rfl) (by kernel_rfl)
theorem Yeg:Uab mn PZ 97 Zjb:=(Zaf (N:=1000) (by kernel_rfl) mkΓ_nilX (fn:=Tryz.f97) (by kernel_rfl) (by kernel_rfl) []).of (by
 intro ρ h w args vals r e hA hH hr
 unfold Zjb at hr
 split at hr
 ·rename_i a0
  obtain ⟨rfl,rfl,hg2⟩:=BQi hr
  exact Yab a0 (hA.rng 0 rfl) hg2
 ·cases hr)
theorem Yfg (N:Nat) (a0:Array Value):ansV PZ (mkΓ []) N Tryz.f115 [] [.g a0 122] []=(some (.a (.i .i64 (i64.wrap ((num a0 0)+(i64.wrap ((6:Int)*(num a0 1)))))),.none,true)):=by kernel_rfl
theorem Ycu (a0:Array Value) (h_a0:WT PZ 122 a0) (hg:(true)=true):ansV PZ (mkΓ []) 1000 Tryz.f115 [] [.g a0 122] []=some (.a (.i .i64 (i64.wrap ((num a0 0)+(i64.wrap ((6:Int)*(num a0 1)))))),.none,true):=by
 refine (Yfg 1000 a0).trans ?_
 rfl
def Zkb:Con:=fun args h=>match args,h with
 | [.g a0 122],[]=>some (.a (.i .i64 (i64.wrap ((num a0 0)+(i64.wrap ((6:Int)*(num a0 1)))))),.none,true)
 | _,_=>none
theorem Zp2:EntX PZ 115:=Zag (fn:=Tryz.f115) (by kernel_rfl) (by kernel_rfl) (by kernel_rfl)
theorem Zvl:Uab mn PZ 115 Zkb:=(Zaf (N:=1000) (by kernel_rfl) mkΓ_nilX (fn:=Tryz.f115) (by kernel_rfl) (by kernel_rfl) []).of (by
 intro ρ h w args vals r e hA hH hr
 unfold Zkb at hr
 split at hr
 ·rename_i a0
  obtain ⟨rfl,rfl,hg2⟩:=BQi hr
  exact Ycu a0 (hA.wt 0 rfl) hg2
 ·cases hr)
end
end Go.Proofs.YtohnggmlmglhmaaGreatDoor
