/- Places, tides, land and water, in company. -/
import Derived.Test.YtohnggmlmglhmaaGreatDoorProg
import Derived.Test.YtohnggmlmglhmaaGreatDoorVcE
namespace Go.Proofs.YtohnggmlmglhmaaGreatDoor
open Go.ChangeShapes Go.WideShapes Go.ChangeAt Go.RowKit Ve Vc
open Tryz renaming prog → PZ
open IntKind (i64)
set_option linter.unusedVariables false
set_option linter.unusedSimpArgs false
set_option maxRecDepth 100000
noncomputable section
variable {mn:Md}
theorem Yd7 (N:Nat) (a0 a1 a2:Int):ansV PZ (mkΓ []) N Tryz.f47 [] [.i .i64 (a0),.i .i64 (a1),.i .i64 (a2)] []=(bif decide (a0 ≥ a1) then (some (.a (.b (decide (a0≤a2))),.none,true))
  else (some (.a (.b (false)),.none,true))):=by kernel_rfl
def Zaa (a0 a1 a2:Int):Bool:=(bif decide (a0 ≥ a1) then decide (a0≤a2) else false)
theorem Yd0 (a0 a1 a2:Int) (h_a0:i64.min≤a0∧a0≤i64.max) (h_a1:i64.min≤a1∧a1≤i64.max) (h_a2:i64.min≤a2∧a2≤i64.max) (hg:(true)=true):ansV PZ (mkΓ []) 1000 Tryz.f47 [] [.i .i64 (a0),.i .i64 (a1),.i .i64 (a2)] []=some (.a (.b ((Zaa a0 a1 a2))),.none,true):=by
 refine (Yd7 1000 a0 a1 a2).trans ?_
 unfold Zaa
 revert hg
 generalize (decide (a0 ≥ a1))=b2
 intro hg
 cases b2
 ·skip
  first | (simp only [Q1,Q2,BQ6];done) | rfl | exact (nomatch (hg:false=true))
 ·skip
  first | (simp only [Q1,Q2,BQ6];done) | rfl | exact (nomatch (hg:false=true))
def Zc7:Con:=fun args h=>match args,h with
 | [.i .i64 a0,.i .i64 a1,.i .i64 a2],[]=>some (.a (.b ((Zaa a0 a1 a2))),.none,true)
 | _,_=>none
theorem Zgk:EntX PZ 47:=Zag (fn:=Tryz.f47) (by kernel_rfl) (by kernel_rfl) (by kernel_rfl)
theorem Zj6:Uad mn PZ 47 Zc7:=(Zai (N:=1000) (by kernel_rfl) mkΓ_nilX (fn:=Tryz.f47) (by kernel_rfl) (by kernel_rfl) []).of (by
 intro ρ h w args vals r e hA hH hr
 unfold Zc7 at hr
 split at hr
 ·rename_i a0 a1 a2
  obtain ⟨rfl,rfl,hg2⟩:=BQi hr
  exact Yd0 a0 a1 a2 (hA.rng 0 rfl) (hA.rng 1 rfl) (hA.rng 2 rfl) hg2
 ·cases hr)
theorem Yd6 (N:Nat) (a1:Int) (a0:Array Value):ansV PZ (mkΓ [(47,con Zc7)]) N Tryz.f24 [] [.w 0,.i .i64 (a1)] [.row a0 41]=(bif (Zaa a1 (0:Int) (35:Int)) then (bif decide (((a1).tmod (6:Int))<(i64.wrap (num a0 0))) then (some (.a (.b (decide ((i64.wrap ((a1).tdiv (6:Int)))<(i64.wrap (num a0 1))))),.none,true))
   else (some (.a (.b (false)),.none,true)))
  else (some (.a (.b (false)),.none,true))):=by kernel_rfl
def Zan (a1:Int) (a0:Array Value):Bool:=(bif (Zaa a1 (0:Int) (35:Int)) then (bif decide (((a1).tmod (6:Int))<(i64.wrap (num a0 0))) then decide ((i64.wrap ((a1).tdiv (6:Int)))<(i64.wrap (num a0 1))) else false) else false)
theorem Yc0 (a1:Int) (a0:Array Value) (h_a1:i64.min≤a1∧a1≤i64.max) (h_a0:WT PZ 41 a0) (hg:(true)=true):ansV PZ (mkΓ [(47,con Zc7)]) 1000 Tryz.f24 [] [.w 0,.i .i64 (a1)] [.row a0 41]=some (.a (.b ((Zan a1 a0))),.none,true):=by
 refine (Yd6 1000 a1 a0).trans ?_
 unfold Zan
 revert hg
 generalize ((Zaa a1 (0:Int) (35:Int)))=b2
 intro hg
 cases b2
 ·skip
  first | (simp only [Q1,Q2,BQ6];done) | rfl | exact (nomatch (hg:false=true))
 ·skip
  revert hg
  generalize (decide (((a1).tmod (6:Int))<(i64.wrap (num a0 0))))=b4
  intro hg
  cases b4
  ·skip
   first | (simp only [Q1,Q2,BQ6];done) | rfl | exact (nomatch (hg:false=true))
  ·skip
   first | (simp only [Q1,Q2,BQ6];done) | rfl | exact (nomatch (hg:false=true))
def Zcc:Con:=fun args h=>match args,h with
 | [.w 0,.i .i64 a1],[.row a0 41]=>some (.a (.b ((Zan a1 a0))),.none,true)
 | _,_=>none
theorem Zlg:EntX PZ 24:=Zag (fn:=Tryz.f24) (by kernel_rfl) (by kernel_rfl) (by kernel_rfl)
theorem Zpv:Uad mn PZ 24 Zcc:=(Zai (N:=1000) (by kernel_rfl) (mkΓ_consX (Zac Zj6) Zgk mkΓ_nilX) (fn:=Tryz.f24) (by kernel_rfl) (by kernel_rfl) []).of (by
 intro ρ h w args vals r e hA hH hr
 unfold Zcc at hr
 split at hr
 ·rename_i a1 a0
  obtain ⟨rfl,rfl,hg2⟩:=BQi hr
  exact Yc0 a1 a0 (hA.rng 1 rfl) (hH.wt 0 rfl) hg2
 ·cases hr)
theorem Ya0 (N:Nat) (a0:Int):ansV PZ (mkΓ [(47,con Zc7)]) N Tryz.f82 [] [.i .i64 (a0)] []=(some (.a (.b ((Zaa a0 (0:Int) (1:Int)))),.none,true)):=by kernel_rfl
theorem Zzy (a0:Int) (h_a0:i64.min≤a0∧a0≤i64.max) (hg:(true)=true):ansV PZ (mkΓ [(47,con Zc7)]) 1000 Tryz.f82 [] [.i .i64 (a0)] []=some (.a (.b ((Zaa a0 (0:Int) (1:Int)))),.none,true):=by
 refine (Ya0 1000 a0).trans ?_
 rfl
def Zlf:Con:=fun args h=>match args,h with
 | [.i .i64 a0],[]=>some (.a (.b ((Zaa a0 (0:Int) (1:Int)))),.none,true)
 | _,_=>none
theorem Zwl:EntX PZ 82:=Zag (fn:=Tryz.f82) (by kernel_rfl) (by kernel_rfl) (by kernel_rfl)
theorem Yc7:Uad mn PZ 82 Zlf:=(Zai (N:=1000) (by kernel_rfl) (mkΓ_consX (Zac Zj6) Zgk mkΓ_nilX) (fn:=Tryz.f82) (by kernel_rfl) (by kernel_rfl) []).of (by
 intro ρ h w args vals r e hA hH hr
 unfold Zlf at hr
 split at hr
 ·rename_i a0
  obtain ⟨rfl,rfl,hg2⟩:=BQi hr
  exact Zzy a0 (hA.rng 0 rfl) hg2
 ·cases hr)
theorem Ydg (N:Nat) (a1:Int) (a0:Array Value):ansV PZ (mkΓ []) N Tryz.f25 [] [.w 0,.i .i64 (a1)] [.row a0 41]=(bif decide (0≤(IntKind.u64.wrap a1)) then (some (.a (.b (((((((num a0 2)).fdiv (2^(min ((IntKind.u64.wrap a1)).toNat IntKind.u64.bits)))).tmod (2:Int))==(1:Int)))),.none,true))
  else (none)):=by kernel_rfl
def Za1 (a1:Int) (a0:Array Value):Bool:=((((((num a0 2)).fdiv (2^(min ((IntKind.u64.wrap a1)).toNat IntKind.u64.bits)))).tmod (2:Int))==(1:Int))
theorem Yaf (a1:Int) (a0:Array Value) (h_a1:i64.min≤a1∧a1≤i64.max) (h_a0:WT PZ 41 a0) (hg:(decide (0≤(IntKind.u64.wrap a1)))=true):ansV PZ (mkΓ []) 1000 Tryz.f25 [] [.w 0,.i .i64 (a1)] [.row a0 41]=some (.a (.b ((Za1 a1 a0))),.none,true):=by
 refine (Ydg 1000 a1 a0).trans ?_
 unfold Za1
 revert hg
 generalize (decide (0≤(IntKind.u64.wrap a1)))=b2
 intro hg
 cases b2
 ·skip
  first | exact (nomatch (hg:false=true)) | (simp only [Q1,Q2,BQ6];done) | rfl
 ·skip
  first | (simp only [Q1,Q2,BQ6];done) | rfl | exact (nomatch (hg:false=true))
def Zj7:Con:=fun args h=>match args,h with
 | [.w 0,.i .i64 a1],[.row a0 41]=>some (.a (.b ((Za1 a1 a0))),.none,decide (0≤(IntKind.u64.wrap a1)))
 | _,_=>none
theorem Zoi:EntX PZ 25:=Zag (fn:=Tryz.f25) (by kernel_rfl) (by kernel_rfl) (by kernel_rfl)
theorem Zt1:Uad mn PZ 25 Zj7:=(Zai (N:=1000) (by kernel_rfl) mkΓ_nilX (fn:=Tryz.f25) (by kernel_rfl) (by kernel_rfl) []).of (by
 intro ρ h w args vals r e hA hH hr
 unfold Zj7 at hr
 split at hr
 ·rename_i a1 a0
  obtain ⟨rfl,rfl,hg2⟩:=BQi hr
  exact Yaf a1 a0 (hA.rng 1 rfl) (hH.wt 0 rfl) hg2
 ·cases hr)
def Zwv:Cons:=(mkΓ [(24,con Zcc),(25,con Zj7)])
theorem Ycb (N:Nat) (a1:Int) (a0:Array Value):ansV PZ Zwv N Tryz.f38 [] [.w 0,.i .i64 (a1)] [.row a0 41]=(bif (Zan a1 a0) then (bif decide (0≤(IntKind.u64.wrap a1)) then (some (.a (.b ((!((Za1 a1 a0))))),.none,true))
   else (none))
  else (some (.a (.b (false)),.none,true))):=by kernel_rfl
def Zad (a1:Int) (a0:Array Value):Bool:=(bif (Zan a1 a0) then (!((Za1 a1 a0))) else false)
def Za7 (a1:Int) (a0:Array Value):Bool:=(bif (Zan a1 a0) then decide (0≤(IntKind.u64.wrap a1)) else true)
theorem Ya1 (a1:Int) (a0:Array Value) (h_a1:i64.min≤a1∧a1≤i64.max) (h_a0:WT PZ 41 a0) (hg:((Za7 a1 a0))=true):ansV PZ Zwv 1000 Tryz.f38 [] [.w 0,.i .i64 (a1)] [.row a0 41]=some (.a (.b ((Zad a1 a0))),.none,true):=by
 refine (Ycb 1000 a1 a0).trans ?_
 unfold Za7 at hg
 unfold Zad
 revert hg
 generalize ((Zan a1 a0))=b2
 intro hg
 cases b2
 ·skip
  first | (simp only [Q1,Q2,BQ6];done) | rfl | exact (nomatch (hg:false=true))
 ·skip
  revert hg
  generalize (decide (0≤(IntKind.u64.wrap a1)))=b4
  intro hg
  cases b4
  ·skip
   first | exact (nomatch (hg:false=true)) | (simp only [Q1,Q2,BQ6];done) | rfl
  ·skip
   first | (simp only [Q1,Q2,BQ6];done) | rfl | exact (nomatch (hg:false=true))
def Zg6:Con:=fun args h=>match args,h with
 | [.w 0,.i .i64 a1],[.row a0 41]=>some (.a (.b ((Zad a1 a0))),.none,(Za7 a1 a0))
 | _,_=>none
theorem Zki:EntX PZ 38:=Zag (fn:=Tryz.f38) (by kernel_rfl) (by kernel_rfl) (by kernel_rfl)
theorem Znn:Uad mn PZ 38 Zg6:=(Zai (N:=1000) (by kernel_rfl) (mkΓ_consX (Zac Zpv) Zlg (mkΓ_consX (Zac Zt1) Zoi mkΓ_nilX)) (fn:=Tryz.f38) (by kernel_rfl) (by kernel_rfl) []).of (by
 intro ρ h w args vals r e hA hH hr
 unfold Zg6 at hr
 split at hr
 ·rename_i a1 a0
  obtain ⟨rfl,rfl,hg2⟩:=BQi hr
  exact Ya1 a1 a0 (hA.rng 1 rfl) (hH.wt 0 rfl) hg2
 ·cases hr)
theorem Zzq (N:Nat) (a0 a1:Array Value):ansV PZ (mkΓ []) N Tryz.f62 [] [.g a0 41,.g a1 122] []=(bif decide ((num a1 0) ≥ (0:Int)) then (bif decide ((num a1 0)<(i64.wrap (num a0 0))) then (bif decide ((num a1 1) ≥ (0:Int)) then (some (.a (.b (decide ((num a1 1)<(i64.wrap (num a0 1))))),.none,true))
    else (some (.a (.b (false)),.none,true)))
   else (some (.a (.b (false)),.none,true)))
  else (some (.a (.b (false)),.none,true))):=by kernel_rfl
def Zat (a0 a1:Array Value):Bool:=(bif decide ((num a1 0) ≥ (0:Int)) then (bif decide ((num a1 0)<(i64.wrap (num a0 0))) then (bif decide ((num a1 1) ≥ (0:Int)) then decide ((num a1 1)<(i64.wrap (num a0 1))) else false) else false) else false)
theorem Zw4 (a0 a1:Array Value) (h_a0:WT PZ 41 a0) (h_a1:WT PZ 122 a1) (hg:(true)=true):ansV PZ (mkΓ []) 1000 Tryz.f62 [] [.g a0 41,.g a1 122] []=some (.a (.b ((Zat a0 a1))),.none,true):=by
 refine (Zzq 1000 a0 a1).trans ?_
 unfold Zat
 revert hg
 generalize (decide ((num a1 0) ≥ (0:Int)))=b2
 intro hg
 cases b2
 ·skip
  first | (simp only [Q1,Q2,BQ6];done) | rfl | exact (nomatch (hg:false=true))
 ·skip
  revert hg
  generalize (decide ((num a1 0)<(i64.wrap (num a0 0))))=b4
  intro hg
  cases b4
  ·skip
   first | (simp only [Q1,Q2,BQ6];done) | rfl | exact (nomatch (hg:false=true))
  ·skip
   revert hg
   generalize (decide ((num a1 1) ≥ (0:Int)))=b6
   intro hg
   cases b6
   ·skip
    first | (simp only [Q1,Q2,BQ6];done) | rfl | exact (nomatch (hg:false=true))
   ·skip
    first | (simp only [Q1,Q2,BQ6];done) | rfl | exact (nomatch (hg:false=true))
def Zhk:Con:=fun args h=>match args,h with
 | [.g a0 41,.g a1 122],[]=>some (.a (.b ((Zat a0 a1))),.none,true)
 | _,_=>none
theorem Zm4:EntX PZ 62:=Zag (fn:=Tryz.f62) (by kernel_rfl) (by kernel_rfl) (by kernel_rfl)
theorem Zp7:Uad mn PZ 62 Zhk:=(Zai (N:=1000) (by kernel_rfl) mkΓ_nilX (fn:=Tryz.f62) (by kernel_rfl) (by kernel_rfl) []).of (by
 intro ρ h w args vals r e hA hH hr
 unfold Zhk at hr
 split at hr
 ·rename_i a0 a1
  obtain ⟨rfl,rfl,hg2⟩:=BQi hr
  exact Zw4 a0 a1 (hA.wt 0 rfl) (hA.wt 1 rfl) hg2
 ·cases hr)
theorem Ybk (N:Nat) (a0:Int):ansV PZ (mkΓ []) N Tryz.f63 [] [.i .i64 (a0)] []=(some (.a (.g #[.int .i64 ((a0).tmod (6:Int)),.int .i64 (i64.wrap ((a0).tdiv (6:Int)))] 122),.none,true)):=by kernel_rfl
theorem Zy2 (a0:Int) (h_a0:i64.min≤a0∧a0≤i64.max) (hg:(true)=true):ansV PZ (mkΓ []) 1000 Tryz.f63 [] [.i .i64 (a0)] []=some (.a (.g #[.int .i64 ((a0).tmod (6:Int)),.int .i64 (i64.wrap ((a0).tdiv (6:Int)))] 122),.none,true):=by
 refine (Ybk 1000 a0).trans ?_
 rfl
def Zio:Con:=fun args h=>match args,h with
 | [.i .i64 a0],[]=>some (.a (.g #[.int .i64 ((a0).tmod (6:Int)),.int .i64 (i64.wrap ((a0).tdiv (6:Int)))] 122),.none,true)
 | _,_=>none
theorem Znk:EntX PZ 63:=Zag (fn:=Tryz.f63) (by kernel_rfl) (by kernel_rfl) (by kernel_rfl)
theorem Zrb:Uad mn PZ 63 Zio:=(Zai (N:=1000) (by kernel_rfl) mkΓ_nilX (fn:=Tryz.f63) (by kernel_rfl) (by kernel_rfl) []).of (by
 intro ρ h w args vals r e hA hH hr
 unfold Zio at hr
 split at hr
 ·rename_i a0
  obtain ⟨rfl,rfl,hg2⟩:=BQi hr
  exact Zy2 a0 (hA.rng 0 rfl) hg2
 ·cases hr)
def Ztz:Cons:=(mkΓ [(62,con Zhk),(63,con Zio)])
theorem Ybc (N:Nat) (a0:Array Value) (a1:Int):ansV PZ Ztz N Tryz.f33 [] [.g a0 41,.i .i64 (a1)] []=(bif decide (a1 ≥ (0:Int)) then (bif decide (a1<(36:Int)) then (some (.a (.b ((Zat a0 (#[.int .i64 ((a1).tmod (6:Int)),.int .i64 (i64.wrap ((a1).tdiv (6:Int)))]:Array Value)))),.none,true))
   else (some (.a (.b (false)),.none,true)))
  else (some (.a (.b (false)),.none,true))):=by kernel_rfl
def Zal (a0:Array Value) (a1:Int):Bool:=(bif decide (a1 ≥ (0:Int)) then (bif decide (a1<(36:Int)) then (Zat a0 (#[.int .i64 ((a1).tmod (6:Int)),.int .i64 (i64.wrap ((a1).tdiv (6:Int)))]:Array Value)) else false) else false)
theorem Zzg (a0:Array Value) (a1:Int) (h_a0:WT PZ 41 a0) (h_a1:i64.min≤a1∧a1≤i64.max) (hg:(true)=true):ansV PZ Ztz 1000 Tryz.f33 [] [.g a0 41,.i .i64 (a1)] []=some (.a (.b ((Zal a0 a1))),.none,true):=by
 refine (Ybc 1000 a0 a1).trans ?_
 unfold Zal
 revert hg
 generalize (decide (a1 ≥ (0:Int)))=b2
 intro hg
 cases b2
 ·skip
  first | (simp only [Q1,Q2,BQ6];done) | rfl | exact (nomatch (hg:false=true))
 ·skip
  revert hg
  generalize (decide (a1<(36:Int)))=b4
  intro hg
  cases b4
  ·skip
   first | (simp only [Q1,Q2,BQ6];done) | rfl | exact (nomatch (hg:false=true))
  ·skip
   first | (simp only [Q1,Q2,BQ6];done) | rfl | exact (nomatch (hg:false=true))
def Ze3:Con:=fun args h=>match args,h with
 | [.g a0 41,.i .i64 a1],[]=>some (.a (.b ((Zal a0 a1))),.none,true)
 | _,_=>none
theorem Zg1:EntX PZ 33:=Zag (fn:=Tryz.f33) (by kernel_rfl) (by kernel_rfl) (by kernel_rfl)
theorem Zji:Uad mn PZ 33 Ze3:=(Zai (N:=1000) (by kernel_rfl) (mkΓ_consX (Zac Zp7) Zm4 (mkΓ_consX (Zac Zrb) Znk mkΓ_nilX)) (fn:=Tryz.f33) (by kernel_rfl) (by kernel_rfl) []).of (by
 intro ρ h w args vals r e hA hH hr
 unfold Ze3 at hr
 split at hr
 ·rename_i a0 a1
  obtain ⟨rfl,rfl,hg2⟩:=BQi hr
  exact Zzg a0 a1 (hA.wt 0 rfl) (hA.rng 1 rfl) hg2
 ·cases hr)
theorem Yeh (N:Nat) (a0:Int):ansV PZ (mkΓ []) N Tryz.f36 [] [.i .i64 (a0)] []=(bif decide (0≤a0) then (some (.a (.i .u64 (IntKind.u64.wrap ((1:Int)*2^(min (a0).toNat IntKind.u64.bits)))),.none,true))
  else (none)):=by kernel_rfl
def Zam (a0:Int):Int:=(IntKind.u64.wrap ((1:Int)*2^(min (a0).toNat IntKind.u64.bits)))
theorem Yc4 (a0:Int) (h_a0:i64.min≤a0∧a0≤i64.max) (hg:(decide (0≤a0))=true):ansV PZ (mkΓ []) 1000 Tryz.f36 [] [.i .i64 (a0)] []=some (.a (.i .u64 (Zam a0)),.none,true):=by
 refine (Yeh 1000 a0).trans ?_
 unfold Zam
 revert hg
 generalize (decide (0≤a0))=b2
 intro hg
 cases b2
 ·skip
  first | exact (nomatch (hg:false=true)) | (simp only [Q1,Q2,BQ6];done) | rfl
 ·skip
  first | (simp only [Q1,Q2,BQ6];done) | rfl | exact (nomatch (hg:false=true))
def Zfj:Con:=fun args h=>match args,h with
 | [.i .i64 a0],[]=>some (.a (.i .u64 (Zam a0)),.none,decide (0≤a0))
 | _,_=>none
theorem Zin:EntX PZ 36:=Zag (fn:=Tryz.f36) (by kernel_rfl) (by kernel_rfl) (by kernel_rfl)
theorem Zlw:Uad mn PZ 36 Zfj:=(Zai (N:=1000) (by kernel_rfl) mkΓ_nilX (fn:=Tryz.f36) (by kernel_rfl) (by kernel_rfl) []).of (by
 intro ρ h w args vals r e hA hH hr
 unfold Zfj at hr
 split at hr
 ·rename_i a0
  obtain ⟨rfl,rfl,hg2⟩:=BQi hr
  exact Yc4 a0 (hA.rng 0 rfl) hg2
 ·cases hr)
theorem Ycg (N:Nat) (a0:Array Value) (a1:Int):ansV PZ (mkΓ [(36,con Zfj)]) N Tryz.f34 [] [.g a0 41,.i .i64 (a1)] []=(bif decide (0≤a1) then (some (.a (.b (((IntKind.u64.wrap (BitVec.ofInt IntKind.u64.bits (num a0 2) &&& BitVec.ofInt IntKind.u64.bits (Zam a1)).toNat) != (0:Int)))),.none,true))
  else (none)):=by kernel_rfl
def Zaj (a0:Array Value) (a1:Int):Bool:=((IntKind.u64.wrap (BitVec.ofInt IntKind.u64.bits (num a0 2) &&& BitVec.ofInt IntKind.u64.bits (Zam a1)).toNat) != (0:Int))
theorem Yai (a0:Array Value) (a1:Int) (h_a0:WT PZ 41 a0) (h_a1:i64.min≤a1∧a1≤i64.max) (hg:(decide (0≤a1))=true):ansV PZ (mkΓ [(36,con Zfj)]) 1000 Tryz.f34 [] [.g a0 41,.i .i64 (a1)] []=some (.a (.b ((Zaj a0 a1))),.none,true):=by
 refine (Ycg 1000 a0 a1).trans ?_
 unfold Zaj
 revert hg
 generalize (decide (0≤a1))=b2
 intro hg
 cases b2
 ·skip
  first | exact (nomatch (hg:false=true)) | (simp only [Q1,Q2,BQ6];done) | rfl
 ·skip
  first | (simp only [Q1,Q2,BQ6];done) | rfl | exact (nomatch (hg:false=true))
def Zex:Con:=fun args h=>match args,h with
 | [.g a0 41,.i .i64 a1],[]=>some (.a (.b ((Zaj a0 a1))),.none,decide (0≤a1))
 | _,_=>none
theorem Zhv:EntX PZ 34:=Zag (fn:=Tryz.f34) (by kernel_rfl) (by kernel_rfl) (by kernel_rfl)
theorem Zky:Uad mn PZ 34 Zex:=(Zai (N:=1000) (by kernel_rfl) (mkΓ_consX (Zac Zlw) Zin mkΓ_nilX) (fn:=Tryz.f34) (by kernel_rfl) (by kernel_rfl) []).of (by
 intro ρ h w args vals r e hA hH hr
 unfold Zex at hr
 split at hr
 ·rename_i a0 a1
  obtain ⟨rfl,rfl,hg2⟩:=BQi hr
  exact Yai a0 a1 (hA.wt 0 rfl) (hA.rng 1 rfl) hg2
 ·cases hr)
theorem Yao (N:Nat) (a0:Array Value) (a1:Int):ansV PZ (mkΓ [(34,con Zex)]) N Tryz.f117 [] [.g a0 41,.i .i64 (a1)] []=(bif decide (0≤a1) then (some (.a (.b ((!((Zaj a0 a1))))),.none,true))
  else (none)):=by kernel_rfl
def Zb9 (a0:Array Value) (a1:Int):Bool:=(!((Zaj a0 a1)))
theorem Zyi (a0:Array Value) (a1:Int) (h_a0:WT PZ 41 a0) (h_a1:i64.min≤a1∧a1≤i64.max) (hg:(decide (0≤a1))=true):ansV PZ (mkΓ [(34,con Zex)]) 1000 Tryz.f117 [] [.g a0 41,.i .i64 (a1)] []=some (.a (.b ((Zb9 a0 a1))),.none,true):=by
 refine (Yao 1000 a0 a1).trans ?_
 unfold Zb9
 revert hg
 generalize (decide (0≤a1))=b2
 intro hg
 cases b2
 ·skip
  first | exact (nomatch (hg:false=true)) | (simp only [Q1,Q2,BQ6];done) | rfl
 ·skip
  first | (simp only [Q1,Q2,BQ6];done) | rfl | exact (nomatch (hg:false=true))
def Zip:Con:=fun args h=>match args,h with
 | [.g a0 41,.i .i64 a1],[]=>some (.a (.b ((Zb9 a0 a1))),.none,decide (0≤a1))
 | _,_=>none
theorem Znf:EntX PZ 117:=Zag (fn:=Tryz.f117) (by kernel_rfl) (by kernel_rfl) (by kernel_rfl)
theorem Zq5:Uad mn PZ 117 Zip:=(Zai (N:=1000) (by kernel_rfl) (mkΓ_consX (Zac Zky) Zhv mkΓ_nilX) (fn:=Tryz.f117) (by kernel_rfl) (by kernel_rfl) []).of (by
 intro ρ h w args vals r e hA hH hr
 unfold Zip at hr
 split at hr
 ·rename_i a0 a1
  obtain ⟨rfl,rfl,hg2⟩:=BQi hr
  exact Zyi a0 a1 (hA.wt 0 rfl) (hA.rng 1 rfl) hg2
 ·cases hr)
theorem Ybe (N:Nat) (a0:Int):ansV PZ (mkΓ []) N Tryz.f97 [] [.i .i64 (a0)] []=(bif (a0==(0:Int)) then (some (.a (.b (true)),.none,true))
  else (some (.a (.b ((a0==(1:Int)))),.none,true))):=by kernel_rfl
def Zd2 (a0:Int):Bool:=(bif (a0==(0:Int)) then true else (a0==(1:Int)))
theorem Zym (a0:Int) (h_a0:i64.min≤a0∧a0≤i64.max) (hg:(true)=true):ansV PZ (mkΓ []) 1000 Tryz.f97 [] [.i .i64 (a0)] []=some (.a (.b ((Zd2 a0))),.none,true):=by
 refine (Ybe 1000 a0).trans ?_
 unfold Zd2
 revert hg
 generalize ((a0==(0:Int)))=b2
 intro hg
 cases b2
 ·skip
  first | (simp only [Q1,Q2,BQ6];done) | rfl | exact (nomatch (hg:false=true))
 ·skip
  first | (simp only [Q1,Q2,BQ6];done) | rfl | exact (nomatch (hg:false=true))
def Ziq:Con:=fun args h=>match args,h with
 | [.i .i64 a0],[]=>some (.a (.b ((Zd2 a0))),.none,true)
 | _,_=>none
theorem Zx2:EntX PZ 97:=Zag (fn:=Tryz.f97) (by kernel_rfl) (by kernel_rfl) (by kernel_rfl)
theorem Ycn:Uad mn PZ 97 Ziq:=(Zai (N:=1000) (by kernel_rfl) mkΓ_nilX (fn:=Tryz.f97) (by kernel_rfl) (by kernel_rfl) []).of (by
 intro ρ h w args vals r e hA hH hr
 unfold Ziq at hr
 split at hr
 ·rename_i a0
  obtain ⟨rfl,rfl,hg2⟩:=BQi hr
  exact Zym a0 (hA.rng 0 rfl) hg2
 ·cases hr)
theorem Ydq (N:Nat) (a0:Array Value):ansV PZ (mkΓ []) N Tryz.f115 [] [.g a0 122] []=(some (.a (.i .i64 (i64.wrap ((num a0 0)+(i64.wrap ((6:Int)*(num a0 1)))))),.none,true)):=by kernel_rfl
theorem Yag (a0:Array Value) (h_a0:WT PZ 122 a0) (hg:(true)=true):ansV PZ (mkΓ []) 1000 Tryz.f115 [] [.g a0 122] []=some (.a (.i .i64 (i64.wrap ((num a0 0)+(i64.wrap ((6:Int)*(num a0 1)))))),.none,true):=by
 refine (Ydq 1000 a0).trans ?_
 rfl
def Zj3:Con:=fun args h=>match args,h with
 | [.g a0 122],[]=>some (.a (.i .i64 (i64.wrap ((num a0 0)+(i64.wrap ((6:Int)*(num a0 1)))))),.none,true)
 | _,_=>none
theorem Zoz:EntX PZ 115:=Zag (fn:=Tryz.f115) (by kernel_rfl) (by kernel_rfl) (by kernel_rfl)
theorem Zt0:Uad mn PZ 115 Zj3:=(Zai (N:=1000) (by kernel_rfl) mkΓ_nilX (fn:=Tryz.f115) (by kernel_rfl) (by kernel_rfl) []).of (by
 intro ρ h w args vals r e hA hH hr
 unfold Zj3 at hr
 split at hr
 ·rename_i a0
  obtain ⟨rfl,rfl,hg2⟩:=BQi hr
  exact Yag a0 (hA.wt 0 rfl) hg2
 ·cases hr)
end
end Go.Proofs.YtohnggmlmglhmaaGreatDoor
