/- Places, tides, land and water, in company. -/
import Derived.Test.YtohnggmlmglhmaaGreatDoorProg
import Derived.Test.YtohnggmlmglhmaaGreatDoorVcE
namespace Go.Proofs.YtohnggmlmglhmaaGreatDoor
open Go.ChangeShapes Go.WideShapes Go.ChangeAt Go.RowKit Ve Vc
open Tryz renaming prog → PZ
open IntKind (i64)
set_option linter.unusedVariables false
set_option linter.unusedSimpArgs false
set_option maxRecDepth 100000
noncomputable section
variable {mn:Md}
theorem Yed (N:Nat) (a0 a1 a2:Int):ansV PZ (mkΓ []) N Tryz.f47 [] [.i .i64 (a0),.i .i64 (a1),.i .i64 (a2)] []=(bif decide (a0 ≥ a1) then (some (.a (.b (decide (a0≤a2))),.none,true))
  else (some (.a (.b (false)),.none,true))):=by kernel_rfl
def Zaa (a0 a1 a2:Int):Bool:=(bif decide (a0 ≥ a1) then decide (a0≤a2) else false)
theorem Yc6 (a0 a1 a2:Int) (h_a0:i64.min≤a0∧a0≤i64.max) (h_a1:i64.min≤a1∧a1≤i64.max) (h_a2:i64.min≤a2∧a2≤i64.max) (hg:(true)=true):ansV PZ (mkΓ []) 1000 Tryz.f47 [] [.i .i64 (a0),.i .i64 (a1),.i .i64 (a2)] []=some (.a (.b ((Zaa a0 a1 a2))),.none,true):=by
 refine (Yed 1000 a0 a1 a2).trans ?_
 unfold Zaa
 revert hg
 generalize (decide (a0 ≥ a1))=b2
 intro hg
 cases b2
 ·skip
  first | (simp only [BQ6];done) | rfl | exact (nomatch (hg:false=true))
 ·skip
  first | (simp only [BQ6];done) | rfl | exact (nomatch (hg:false=true))
def Zc7:Con:=fun args h=>match args,h with
 | [.i .i64 a0,.i .i64 a1,.i .i64 a2],[]=>some (.a (.b ((Zaa a0 a1 a2))),.none,true)
 | _,_=>none
theorem Zgk:EntX PZ 47:=Zag (fn:=Tryz.f47) (by kernel_rfl) (by kernel_rfl) (by kernel_rfl)
theorem Zju:Uad mn PZ 47 Zc7:=(Zai (N:=1000) (by kernel_rfl) mkΓ_nilX (fn:=Tryz.f47) (by kernel_rfl) (by kernel_rfl) []).of (by
 intro ρ h w args vals r e hA hH hr
 unfold Zc7 at hr
 split at hr
 ·rename_i a0 a1 a2
  obtain ⟨rfl,rfl,hg2⟩:=BQi hr
  exact Yc6 a0 a1 a2 (hA.rng 0 rfl) (hA.rng 1 rfl) (hA.rng 2 rfl) hg2
 ·cases hr)
theorem Yea (N:Nat) (a1:Int) (a0:Array Value):ansV PZ (mkΓ [(47,con Zc7)]) N Tryz.f24 [] [.w 0,.i .i64 (a1)] [.row a0 41]=(bif (Zaa a1 (0:Int) (35:Int)) then (bif decide (((a1).tmod (6:Int))<(i64.wrap (num a0 0))) then (some (.a (.b (decide ((i64.wrap ((a1).tdiv (6:Int)))<(i64.wrap (num a0 1))))),.none,true))
   else (some (.a (.b (false)),.none,true)))
  else (some (.a (.b (false)),.none,true))):=by kernel_rfl
def Zam (a1:Int) (a0:Array Value):Bool:=(bif (Zaa a1 (0:Int) (35:Int)) then (bif decide (((a1).tmod (6:Int))<(i64.wrap (num a0 0))) then decide ((i64.wrap ((a1).tdiv (6:Int)))<(i64.wrap (num a0 1))) else false) else false)
theorem Ycr (a1:Int) (a0:Array Value) (h_a1:i64.min≤a1∧a1≤i64.max) (h_a0:WT PZ 41 a0) (hg:(true)=true):ansV PZ (mkΓ [(47,con Zc7)]) 1000 Tryz.f24 [] [.w 0,.i .i64 (a1)] [.row a0 41]=some (.a (.b ((Zam a1 a0))),.none,true):=by
 refine (Yea 1000 a1 a0).trans ?_
 unfold Zam
 revert hg
 generalize ((Zaa a1 (0:Int) (35:Int)))=b2
 intro hg
 cases b2
 ·skip
  first | (simp only [BQ6];done) | rfl | exact (nomatch (hg:false=true))
 ·skip
  revert hg
  generalize (decide (((a1).tmod (6:Int))<(i64.wrap (num a0 0))))=b4
  intro hg
  cases b4
  ·skip
   first | (simp only [BQ6];done) | rfl | exact (nomatch (hg:false=true))
  ·skip
   first | (simp only [BQ6];done) | rfl | exact (nomatch (hg:false=true))
def Zcf:Con:=fun args h=>match args,h with
 | [.w 0,.i .i64 a1],[.row a0 41]=>some (.a (.b ((Zam a1 a0))),.none,true)
 | _,_=>none
theorem Zk8:EntX PZ 24:=Zag (fn:=Tryz.f24) (by kernel_rfl) (by kernel_rfl) (by kernel_rfl)
theorem Zpx:Uad mn PZ 24 Zcf:=(Zai (N:=1000) (by kernel_rfl) (mkΓ_consX (Zac Zju) Zgk mkΓ_nilX) (fn:=Tryz.f24) (by kernel_rfl) (by kernel_rfl) []).of (by
 intro ρ h w args vals r e hA hH hr
 unfold Zcf at hr
 split at hr
 ·rename_i a1 a0
  obtain ⟨rfl,rfl,hg2⟩:=BQi hr
  exact Ycr a1 a0 (hA.rng 1 rfl) (hH.wt 0 rfl) hg2
 ·cases hr)
theorem Yaq (N:Nat) (a0:Int):ansV PZ (mkΓ [(47,con Zc7)]) N Tryz.f82 [] [.i .i64 (a0)] []=(some (.a (.b ((Zaa a0 (0:Int) (1:Int)))),.none,true)):=by kernel_rfl
theorem Zy5 (a0:Int) (h_a0:i64.min≤a0∧a0≤i64.max) (hg:(true)=true):ansV PZ (mkΓ [(47,con Zc7)]) 1000 Tryz.f82 [] [.i .i64 (a0)] []=some (.a (.b ((Zaa a0 (0:Int) (1:Int)))),.none,true):=by
 refine (Yaq 1000 a0).trans ?_
 rfl
def Zk7:Con:=fun args h=>match args,h with
 | [.i .i64 a0],[]=>some (.a (.b ((Zaa a0 (0:Int) (1:Int)))),.none,true)
 | _,_=>none
theorem Zv2:EntX PZ 82:=Zag (fn:=Tryz.f82) (by kernel_rfl) (by kernel_rfl) (by kernel_rfl)
theorem Yds:Uad mn PZ 82 Zk7:=(Zai (N:=1000) (by kernel_rfl) (mkΓ_consX (Zac Zju) Zgk mkΓ_nilX) (fn:=Tryz.f82) (by kernel_rfl) (by kernel_rfl) []).of (by
 intro ρ h w args vals r e hA hH hr
 unfold Zk7 at hr
 split at hr
 ·rename_i a0
  obtain ⟨rfl,rfl,hg2⟩:=BQi hr
  exact Zy5 a0 (hA.rng 0 rfl) hg2
 ·cases hr)
theorem Ydt (N:Nat) (a1:Int) (a0:Array Value):ansV PZ (mkΓ []) N Tryz.f25 [] [.w 0,.i .i64 (a1)] [.row a0 41]=(bif decide (0≤(IntKind.u64.wrap a1)) then (some (.a (.b (((((((num a0 2)).fdiv (2^(min ((IntKind.u64.wrap a1)).toNat IntKind.u64.bits)))).tmod (2:Int))==(1:Int)))),.none,true))
  else (none)):=by kernel_rfl
def Za2 (a1:Int) (a0:Array Value):Bool:=((((((num a0 2)).fdiv (2^(min ((IntKind.u64.wrap a1)).toNat IntKind.u64.bits)))).tmod (2:Int))==(1:Int))
theorem Yac (a1:Int) (a0:Array Value) (h_a1:i64.min≤a1∧a1≤i64.max) (h_a0:WT PZ 41 a0) (hg:(decide (0≤(IntKind.u64.wrap a1)))=true):ansV PZ (mkΓ []) 1000 Tryz.f25 [] [.w 0,.i .i64 (a1)] [.row a0 41]=some (.a (.b ((Za2 a1 a0))),.none,true):=by
 refine (Ydt 1000 a1 a0).trans ?_
 unfold Za2
 revert hg
 generalize (decide (0≤(IntKind.u64.wrap a1)))=b2
 intro hg
 cases b2
 ·skip
  first | exact (nomatch (hg:false=true)) | (simp only [BQ6];done) | rfl
 ·skip
  first | (simp only [BQ6];done) | rfl | exact (nomatch (hg:false=true))
def Zjv:Con:=fun args h=>match args,h with
 | [.w 0,.i .i64 a1],[.row a0 41]=>some (.a (.b ((Za2 a1 a0))),.none,decide (0≤(IntKind.u64.wrap a1)))
 | _,_=>none
theorem Zom:EntX PZ 25:=Zag (fn:=Tryz.f25) (by kernel_rfl) (by kernel_rfl) (by kernel_rfl)
theorem Zt0:Uad mn PZ 25 Zjv:=(Zai (N:=1000) (by kernel_rfl) mkΓ_nilX (fn:=Tryz.f25) (by kernel_rfl) (by kernel_rfl) []).of (by
 intro ρ h w args vals r e hA hH hr
 unfold Zjv at hr
 split at hr
 ·rename_i a1 a0
  obtain ⟨rfl,rfl,hg2⟩:=BQi hr
  exact Yac a1 a0 (hA.rng 1 rfl) (hH.wt 0 rfl) hg2
 ·cases hr)
def Zwj:Cons:=(mkΓ [(24,con Zcf),(25,con Zjv)])
theorem Ydz (N:Nat) (a1:Int) (a0:Array Value):ansV PZ Zwj N Tryz.f38 [] [.w 0,.i .i64 (a1)] [.row a0 41]=(bif (Zam a1 a0) then (bif decide (0≤(IntKind.u64.wrap a1)) then (some (.a (.b ((!((Za2 a1 a0))))),.none,true))
   else (none))
  else (some (.a (.b (false)),.none,true))):=by kernel_rfl
def Zad (a1:Int) (a0:Array Value):Bool:=(bif (Zam a1 a0) then (!((Za2 a1 a0))) else false)
def Za7 (a1:Int) (a0:Array Value):Bool:=(bif (Zam a1 a0) then decide (0≤(IntKind.u64.wrap a1)) else true)
theorem Yaj (a1:Int) (a0:Array Value) (h_a1:i64.min≤a1∧a1≤i64.max) (h_a0:WT PZ 41 a0) (hg:((Za7 a1 a0))=true):ansV PZ Zwj 1000 Tryz.f38 [] [.w 0,.i .i64 (a1)] [.row a0 41]=some (.a (.b ((Zad a1 a0))),.none,true):=by
 refine (Ydz 1000 a1 a0).trans ?_
 unfold Za7 at hg
 unfold Zad
 revert hg
 generalize ((Zam a1 a0))=b2
 intro hg
 cases b2
 ·skip
  first | (simp only [BQ6];done) | rfl | exact (nomatch (hg:false=true))
 ·skip
  revert hg
  generalize (decide (0≤(IntKind.u64.wrap a1)))=b4
  intro hg
  cases b4
  ·skip
   first | exact (nomatch (hg:false=true)) | (simp only [BQ6];done) | rfl
  ·skip
   first | (simp only [BQ6];done) | rfl | exact (nomatch (hg:false=true))
def Zhf:Con:=fun args h=>match args,h with
 | [.w 0,.i .i64 a1],[.row a0 41]=>some (.a (.b ((Zad a1 a0))),.none,(Za7 a1 a0))
 | _,_=>none
theorem Zku:EntX PZ 38:=Zag (fn:=Tryz.f38) (by kernel_rfl) (by kernel_rfl) (by kernel_rfl)
theorem Zn2:Uad mn PZ 38 Zhf:=(Zai (N:=1000) (by kernel_rfl) (mkΓ_consX (Zac Zpx) Zk8 (mkΓ_consX (Zac Zt0) Zom mkΓ_nilX)) (fn:=Tryz.f38) (by kernel_rfl) (by kernel_rfl) []).of (by
 intro ρ h w args vals r e hA hH hr
 unfold Zhf at hr
 split at hr
 ·rename_i a1 a0
  obtain ⟨rfl,rfl,hg2⟩:=BQi hr
  exact Yaj a1 a0 (hA.rng 1 rfl) (hH.wt 0 rfl) hg2
 ·cases hr)
theorem Zy2 (N:Nat) (a0 a1:Array Value):ansV PZ (mkΓ []) N Tryz.f62 [] [.g a0 41,.g a1 122] []=(bif decide ((num a1 0) ≥ (0:Int)) then (bif decide ((num a1 0)<(i64.wrap (num a0 0))) then (bif decide ((num a1 1) ≥ (0:Int)) then (some (.a (.b (decide ((num a1 1)<(i64.wrap (num a0 1))))),.none,true))
    else (some (.a (.b (false)),.none,true)))
   else (some (.a (.b (false)),.none,true)))
  else (some (.a (.b (false)),.none,true))):=by kernel_rfl
def Zat (a0 a1:Array Value):Bool:=(bif decide ((num a1 0) ≥ (0:Int)) then (bif decide ((num a1 0)<(i64.wrap (num a0 0))) then (bif decide ((num a1 1) ≥ (0:Int)) then decide ((num a1 1)<(i64.wrap (num a0 1))) else false) else false) else false)
theorem Zwt (a0 a1:Array Value) (h_a0:WT PZ 41 a0) (h_a1:WT PZ 122 a1) (hg:(true)=true):ansV PZ (mkΓ []) 1000 Tryz.f62 [] [.g a0 41,.g a1 122] []=some (.a (.b ((Zat a0 a1))),.none,true):=by
 refine (Zy2 1000 a0 a1).trans ?_
 unfold Zat
 revert hg
 generalize (decide ((num a1 0) ≥ (0:Int)))=b2
 intro hg
 cases b2
 ·skip
  first | (simp only [BQ6];done) | rfl | exact (nomatch (hg:false=true))
 ·skip
  revert hg
  generalize (decide ((num a1 0)<(i64.wrap (num a0 0))))=b4
  intro hg
  cases b4
  ·skip
   first | (simp only [BQ6];done) | rfl | exact (nomatch (hg:false=true))
  ·skip
   revert hg
   generalize (decide ((num a1 1) ≥ (0:Int)))=b6
   intro hg
   cases b6
   ·skip
    first | (simp only [BQ6];done) | rfl | exact (nomatch (hg:false=true))
   ·skip
    first | (simp only [BQ6];done) | rfl | exact (nomatch (hg:false=true))
def Zhw:Con:=fun args h=>match args,h with
 | [.g a0 41,.g a1 122],[]=>some (.a (.b ((Zat a0 a1))),.none,true)
 | _,_=>none
theorem Zm8:EntX PZ 62:=Zag (fn:=Tryz.f62) (by kernel_rfl) (by kernel_rfl) (by kernel_rfl)
theorem Zp1:Uad mn PZ 62 Zhw:=(Zai (N:=1000) (by kernel_rfl) mkΓ_nilX (fn:=Tryz.f62) (by kernel_rfl) (by kernel_rfl) []).of (by
 intro ρ h w args vals r e hA hH hr
 unfold Zhw at hr
 split at hr
 ·rename_i a0 a1
  obtain ⟨rfl,rfl,hg2⟩:=BQi hr
  exact Zwt a0 a1 (hA.wt 0 rfl) (hA.wt 1 rfl) hg2
 ·cases hr)
theorem Ya6 (N:Nat) (a0:Int):ansV PZ (mkΓ []) N Tryz.f63 [] [.i .i64 (a0)] []=(some (.a (.g #[.int .i64 ((a0).tmod (6:Int)),.int .i64 (i64.wrap ((a0).tdiv (6:Int)))] 122),.none,true)):=by kernel_rfl
theorem Zyw (a0:Int) (h_a0:i64.min≤a0∧a0≤i64.max) (hg:(true)=true):ansV PZ (mkΓ []) 1000 Tryz.f63 [] [.i .i64 (a0)] []=some (.a (.g #[.int .i64 ((a0).tmod (6:Int)),.int .i64 (i64.wrap ((a0).tdiv (6:Int)))] 122),.none,true):=by
 refine (Ya6 1000 a0).trans ?_
 rfl
def Zin:Con:=fun args h=>match args,h with
 | [.i .i64 a0],[]=>some (.a (.g #[.int .i64 ((a0).tmod (6:Int)),.int .i64 (i64.wrap ((a0).tdiv (6:Int)))] 122),.none,true)
 | _,_=>none
theorem Zng:EntX PZ 63:=Zag (fn:=Tryz.f63) (by kernel_rfl) (by kernel_rfl) (by kernel_rfl)
theorem Zq2:Uad mn PZ 63 Zin:=(Zai (N:=1000) (by kernel_rfl) mkΓ_nilX (fn:=Tryz.f63) (by kernel_rfl) (by kernel_rfl) []).of (by
 intro ρ h w args vals r e hA hH hr
 unfold Zin at hr
 split at hr
 ·rename_i a0
  obtain ⟨rfl,rfl,hg2⟩:=BQi hr
  exact Zyw a0 (hA.rng 0 rfl) hg2
 ·cases hr)
def Zt5:Cons:=(mkΓ [(62,con Zhw),(63,con Zin)])
theorem Yad (N:Nat) (a0:Array Value) (a1:Int):ansV PZ Zt5 N Tryz.f33 [] [.g a0 41,.i .i64 (a1)] []=(bif decide (a1 ≥ (0:Int)) then (bif decide (a1<(36:Int)) then (some (.a (.b ((Zat a0 (#[.int .i64 ((a1).tmod (6:Int)),.int .i64 (i64.wrap ((a1).tdiv (6:Int)))]:Array Value)))),.none,true))
   else (some (.a (.b (false)),.none,true)))
  else (some (.a (.b (false)),.none,true))):=by kernel_rfl
def Zal (a0:Array Value) (a1:Int):Bool:=(bif decide (a1 ≥ (0:Int)) then (bif decide (a1<(36:Int)) then (Zat a0 (#[.int .i64 ((a1).tmod (6:Int)),.int .i64 (i64.wrap ((a1).tdiv (6:Int)))]:Array Value)) else false) else false)
theorem Zyh (a0:Array Value) (a1:Int) (h_a0:WT PZ 41 a0) (h_a1:i64.min≤a1∧a1≤i64.max) (hg:(true)=true):ansV PZ Zt5 1000 Tryz.f33 [] [.g a0 41,.i .i64 (a1)] []=some (.a (.b ((Zal a0 a1))),.none,true):=by
 refine (Yad 1000 a0 a1).trans ?_
 unfold Zal
 revert hg
 generalize (decide (a1 ≥ (0:Int)))=b2
 intro hg
 cases b2
 ·skip
  first | (simp only [BQ6];done) | rfl | exact (nomatch (hg:false=true))
 ·skip
  revert hg
  generalize (decide (a1<(36:Int)))=b4
  intro hg
  cases b4
  ·skip
   first | (simp only [BQ6];done) | rfl | exact (nomatch (hg:false=true))
  ·skip
   first | (simp only [BQ6];done) | rfl | exact (nomatch (hg:false=true))
def Zez:Con:=fun args h=>match args,h with
 | [.g a0 41,.i .i64 a1],[]=>some (.a (.b ((Zal a0 a1))),.none,true)
 | _,_=>none
theorem Zg2:EntX PZ 33:=Zag (fn:=Tryz.f33) (by kernel_rfl) (by kernel_rfl) (by kernel_rfl)
theorem Zjy:Uad mn PZ 33 Zez:=(Zai (N:=1000) (by kernel_rfl) (mkΓ_consX (Zac Zp1) Zm8 (mkΓ_consX (Zac Zq2) Zng mkΓ_nilX)) (fn:=Tryz.f33) (by kernel_rfl) (by kernel_rfl) []).of (by
 intro ρ h w args vals r e hA hH hr
 unfold Zez at hr
 split at hr
 ·rename_i a0 a1
  obtain ⟨rfl,rfl,hg2⟩:=BQi hr
  exact Zyh a0 a1 (hA.wt 0 rfl) (hA.rng 1 rfl) hg2
 ·cases hr)
theorem Yd8 (N:Nat) (a0:Int):ansV PZ (mkΓ []) N Tryz.f36 [] [.i .i64 (a0)] []=(bif decide (0≤a0) then (some (.a (.i .u64 (IntKind.u64.wrap ((1:Int)*2^(min (a0).toNat IntKind.u64.bits)))),.none,true))
  else (none)):=by kernel_rfl
def Zan (a0:Int):Int:=(IntKind.u64.wrap ((1:Int)*2^(min (a0).toNat IntKind.u64.bits)))
theorem Yb4 (a0:Int) (h_a0:i64.min≤a0∧a0≤i64.max) (hg:(decide (0≤a0))=true):ansV PZ (mkΓ []) 1000 Tryz.f36 [] [.i .i64 (a0)] []=some (.a (.i .u64 (Zan a0)),.none,true):=by
 refine (Yd8 1000 a0).trans ?_
 unfold Zan
 revert hg
 generalize (decide (0≤a0))=b2
 intro hg
 cases b2
 ·skip
  first | exact (nomatch (hg:false=true)) | (simp only [BQ6];done) | rfl
 ·skip
  first | (simp only [BQ6];done) | rfl | exact (nomatch (hg:false=true))
def Zfk:Con:=fun args h=>match args,h with
 | [.i .i64 a0],[]=>some (.a (.i .u64 (Zan a0)),.none,decide (0≤a0))
 | _,_=>none
theorem Zir:EntX PZ 36:=Zag (fn:=Tryz.f36) (by kernel_rfl) (by kernel_rfl) (by kernel_rfl)
theorem Zlz:Uad mn PZ 36 Zfk:=(Zai (N:=1000) (by kernel_rfl) mkΓ_nilX (fn:=Tryz.f36) (by kernel_rfl) (by kernel_rfl) []).of (by
 intro ρ h w args vals r e hA hH hr
 unfold Zfk at hr
 split at hr
 ·rename_i a0
  obtain ⟨rfl,rfl,hg2⟩:=BQi hr
  exact Yb4 a0 (hA.rng 0 rfl) hg2
 ·cases hr)
theorem Ybx (N:Nat) (a0:Array Value) (a1:Int):ansV PZ (mkΓ [(36,con Zfk)]) N Tryz.f34 [] [.g a0 41,.i .i64 (a1)] []=(bif decide (0≤a1) then (some (.a (.b (((IntKind.u64.wrap (BitVec.ofInt IntKind.u64.bits (num a0 2) &&& BitVec.ofInt IntKind.u64.bits (Zan a1)).toNat) != (0:Int)))),.none,true))
  else (none)):=by kernel_rfl
def Zaj (a0:Array Value) (a1:Int):Bool:=((IntKind.u64.wrap (BitVec.ofInt IntKind.u64.bits (num a0 2) &&& BitVec.ofInt IntKind.u64.bits (Zan a1)).toNat) != (0:Int))
theorem Yaf (a0:Array Value) (a1:Int) (h_a0:WT PZ 41 a0) (h_a1:i64.min≤a1∧a1≤i64.max) (hg:(decide (0≤a1))=true):ansV PZ (mkΓ [(36,con Zfk)]) 1000 Tryz.f34 [] [.g a0 41,.i .i64 (a1)] []=some (.a (.b ((Zaj a0 a1))),.none,true):=by
 refine (Ybx 1000 a0 a1).trans ?_
 unfold Zaj
 revert hg
 generalize (decide (0≤a1))=b2
 intro hg
 cases b2
 ·skip
  first | exact (nomatch (hg:false=true)) | (simp only [BQ6];done) | rfl
 ·skip
  first | (simp only [BQ6];done) | rfl | exact (nomatch (hg:false=true))
def Zex:Con:=fun args h=>match args,h with
 | [.g a0 41,.i .i64 a1],[]=>some (.a (.b ((Zaj a0 a1))),.none,decide (0≤a1))
 | _,_=>none
theorem Zhx:EntX PZ 34:=Zag (fn:=Tryz.f34) (by kernel_rfl) (by kernel_rfl) (by kernel_rfl)
theorem Zkz:Uad mn PZ 34 Zex:=(Zai (N:=1000) (by kernel_rfl) (mkΓ_consX (Zac Zlz) Zir mkΓ_nilX) (fn:=Tryz.f34) (by kernel_rfl) (by kernel_rfl) []).of (by
 intro ρ h w args vals r e hA hH hr
 unfold Zex at hr
 split at hr
 ·rename_i a0 a1
  obtain ⟨rfl,rfl,hg2⟩:=BQi hr
  exact Yaf a0 a1 (hA.wt 0 rfl) (hA.rng 1 rfl) hg2
 ·cases hr)
theorem Ybl (N:Nat) (a0:Array Value) (a1:Int):ansV PZ (mkΓ [(34,con Zex)]) N Tryz.f117 [] [.g a0 41,.i .i64 (a1)] []=(bif decide (0≤a1) then (some (.a (.b ((!((Zaj a0 a1))))),.none,true))
  else (none)):=by kernel_rfl
def Zb9 (a0:Array Value) (a1:Int):Bool:=(!((Zaj a0 a1)))
theorem Zy8 (a0:Array Value) (a1:Int) (h_a0:WT PZ 41 a0) (h_a1:i64.min≤a1∧a1≤i64.max) (hg:(decide (0≤a1))=true):ansV PZ (mkΓ [(34,con Zex)]) 1000 Tryz.f117 [] [.g a0 41,.i .i64 (a1)] []=some (.a (.b ((Zb9 a0 a1))),.none,true):=by
 refine (Ybl 1000 a0 a1).trans ?_
 unfold Zb9
 revert hg
 generalize (decide (0≤a1))=b2
 intro hg
 cases b2
 ·skip
  first | exact (nomatch (hg:false=true)) | (simp only [BQ6];done) | rfl
 ·skip
  first | (simp only [BQ6];done) | rfl | exact (nomatch (hg:false=true))
def Zip:Con:=fun args h=>match args,h with
 | [.g a0 41,.i .i64 a1],[]=>some (.a (.b ((Zb9 a0 a1))),.none,decide (0≤a1))
 | _,_=>none
theorem Zne:EntX PZ 117:=Zag (fn:=Tryz.f117) (by kernel_rfl) (by kernel_rfl) (by kernel_rfl)
theorem Zrp:Uad mn PZ 117 Zip:=(Zai (N:=1000) (by kernel_rfl) (mkΓ_consX (Zac Zkz) Zhx mkΓ_nilX) (fn:=Tryz.f117) (by kernel_rfl) (by kernel_rfl) []).of (by
 intro ρ h w args vals r e hA hH hr
 unfold Zip at hr
 split at hr
 ·rename_i a0 a1
  obtain ⟨rfl,rfl,hg2⟩:=BQi hr
  exact Zy8 a0 a1 (hA.wt 0 rfl) (hA.rng 1 rfl) hg2
 ·cases hr)
theorem Ybk (N:Nat) (a0:Int):ansV PZ (mkΓ []) N Tryz.f97 [] [.i .i64 (a0)] []=(bif (a0==(0:Int)) then (some (.a (.b (true)),.none,true))
  else (some (.a (.b ((a0==(1:Int)))),.none,true))):=by kernel_rfl
def Zd3 (a0:Int):Bool:=(bif (a0==(0:Int)) then true else (a0==(1:Int)))
theorem Zy9 (a0:Int) (h_a0:i64.min≤a0∧a0≤i64.max) (hg:(true)=true):ansV PZ (mkΓ []) 1000 Tryz.f97 [] [.i .i64 (a0)] []=some (.a (.b ((Zd3 a0))),.none,true):=by
 refine (Ybk 1000 a0).trans ?_
 unfold Zd3
 revert hg
 generalize ((a0==(0:Int)))=b2
 intro hg
 cases b2
 ·skip
  first | (simp only [BQ6];done) | rfl | exact (nomatch (hg:false=true))
 ·skip
  first | (simp only [BQ6];done) | rfl | exact (nomatch (hg:false=true))
def Zio:Con:=fun args h=>match args,h with
 | [.i .i64 a0],[]=>some (.a (.b ((Zd3 a0))),.none,true)
 | _,_=>none
theorem Zw0:EntX PZ 97:=Zag (fn:=Tryz.f97) (by kernel_rfl) (by kernel_rfl) (by kernel_rfl)
theorem Ydu:Uad mn PZ 97 Zio:=(Zai (N:=1000) (by kernel_rfl) mkΓ_nilX (fn:=Tryz.f97) (by kernel_rfl) (by kernel_rfl) []).of (by
 intro ρ h w args vals r e hA hH hr
 unfold Zio at hr
 split at hr
 ·rename_i a0
  obtain ⟨rfl,rfl,hg2⟩:=BQi hr
  exact Zy9 a0 (hA.rng 0 rfl) hg2
 ·cases hr)
theorem Ycn (N:Nat) (a0:Array Value):ansV PZ (mkΓ []) N Tryz.f115 [] [.g a0 122] []=(some (.a (.i .i64 (i64.wrap ((num a0 0)+(i64.wrap ((6:Int)*(num a0 1)))))),.none,true)):=by kernel_rfl
theorem Ya5 (a0:Array Value) (h_a0:WT PZ 122 a0) (hg:(true)=true):ansV PZ (mkΓ []) 1000 Tryz.f115 [] [.g a0 122] []=some (.a (.i .i64 (i64.wrap ((num a0 0)+(i64.wrap ((6:Int)*(num a0 1)))))),.none,true):=by
 refine (Ycn 1000 a0).trans ?_
 rfl
def Zj5:Con:=fun args h=>match args,h with
 | [.g a0 122],[]=>some (.a (.i .i64 (i64.wrap ((num a0 0)+(i64.wrap ((6:Int)*(num a0 1)))))),.none,true)
 | _,_=>none
theorem Zn8:EntX PZ 115:=Zag (fn:=Tryz.f115) (by kernel_rfl) (by kernel_rfl) (by kernel_rfl)
theorem Zt1:Uad mn PZ 115 Zj5:=(Zai (N:=1000) (by kernel_rfl) mkΓ_nilX (fn:=Tryz.f115) (by kernel_rfl) (by kernel_rfl) []).of (by
 intro ρ h w args vals r e hA hH hr
 unfold Zj5 at hr
 split at hr
 ·rename_i a0
  obtain ⟨rfl,rfl,hg2⟩:=BQi hr
  exact Ya5 a0 (hA.wt 0 rfl) hg2
 ·cases hr)
end
end Go.Proofs.YtohnggmlmglhmaaGreatDoor
