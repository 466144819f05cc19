/- Places, tides, land and water, in company. -/
import Derived.Test.YtohnggmlmglhmaaGreatDoorProg
import Derived.Test.YtohnggmlmglhmaaGreatDoorVcE
namespace Go.Proofs.YtohnggmlmglhmaaGreatDoor
open Go.ChangeShapes Go.WideShapes Go.ChangeAt Go.RowKit Ve Vc
open Tryz renaming prog → PZ
open IntKind (i64)
set_option linter.unusedVariables false
set_option linter.unusedSimpArgs false
set_option maxRecDepth 100000
noncomputable section
variable {mn:Md}
theorem Yek (N:Nat) (a0 a1 a2:Int):ansV PZ (mkΓ []) N Tryz.f47 [] [.i .i64 (a0),.i .i64 (a1),.i .i64 (a2)] []=(bif decide (a0 ≥ a1) then (some (.a (.b (decide (a0≤a2))),.none,true))
  else (some (.a (.b (false)),.none,true))):=by kernel_rfl
def Zaa (a0 a1 a2:Int):Bool:=(bif decide (a0 ≥ a1) then decide (a0≤a2) else false)
theorem Yc5 (a0 a1 a2:Int) (h_a0:i64.min≤a0∧a0≤i64.max) (h_a1:i64.min≤a1∧a1≤i64.max) (h_a2:i64.min≤a2∧a2≤i64.max) (hg:(true)=true):ansV PZ (mkΓ []) 1000 Tryz.f47 [] [.i .i64 (a0),.i .i64 (a1),.i .i64 (a2)] []=some (.a (.b ((Zaa a0 a1 a2))),.none,true):=by
 refine (Yek 1000 a0 a1 a2).trans ?_
 unfold Zaa
 revert hg
 generalize (decide (a0 ≥ a1))=b2
 intro hg
 cases b2
 ·skip
  first | (simp only [Q1,Q2,BQ6];done) | rfl | exact (nomatch (hg:false=true))
 ·skip
  first | (simp only [Q1,Q2,BQ6];done) | rfl | exact (nomatch (hg:false=true))
def Zc7:Con:=fun args h=>match args,h with
 | [.i .i64 a0,.i .i64 a1,.i .i64 a2],[]=>some (.a (.b ((Zaa a0 a1 a2))),.none,true)
 | _,_=>none
theorem Zgp:EntX PZ 47:=Zag (fn:=Tryz.f47) (by kernel_rfl) (by kernel_rfl) (by kernel_rfl)
theorem Zjn:Uad mn PZ 47 Zc7:=(Zai (N:=1000) (by kernel_rfl) mkΓ_nilX (fn:=Tryz.f47) (by kernel_rfl) (by kernel_rfl) []).of (by
 intro ρ h w args vals r e hA hH hr
 unfold Zc7 at hr
 split at hr
 ·rename_i a0 a1 a2
  obtain ⟨rfl,rfl,hg2⟩:=BQi hr
  exact Yc5 a0 a1 a2 (hA.rng 0 rfl) (hA.rng 1 rfl) (hA.rng 2 rfl) hg2
 ·cases hr)
theorem Ye3 (N:Nat) (a1:Int) (a0:Array Value):ansV PZ (mkΓ [(47,con Zc7)]) N Tryz.f24 [] [.w 0,.i .i64 (a1)] [.row a0 41]=(bif (Zaa a1 (0:Int) (35:Int)) then (bif decide (((a1).tmod (6:Int))<(i64.wrap (num a0 0))) then (some (.a (.b (decide ((i64.wrap ((a1).tdiv (6:Int)))<(i64.wrap (num a0 1))))),.none,true))
   else (some (.a (.b (false)),.none,true)))
  else (some (.a (.b (false)),.none,true))):=by kernel_rfl
def Zaz (a1:Int) (a0:Array Value):Bool:=(bif (Zaa a1 (0:Int) (35:Int)) then (bif decide (((a1).tmod (6:Int))<(i64.wrap (num a0 0))) then decide ((i64.wrap ((a1).tdiv (6:Int)))<(i64.wrap (num a0 1))) else false) else false)
theorem Yeb (a1:Int) (a0:Array Value) (h_a1:i64.min≤a1∧a1≤i64.max) (h_a0:WT PZ 41 a0) (hg:(true)=true):ansV PZ (mkΓ [(47,con Zc7)]) 1000 Tryz.f24 [] [.w 0,.i .i64 (a1)] [.row a0 41]=some (.a (.b ((Zaz a1 a0))),.none,true):=by
 refine (Ye3 1000 a1 a0).trans ?_
 unfold Zaz
 revert hg
 generalize ((Zaa a1 (0:Int) (35:Int)))=b2
 intro hg
 cases b2
 ·skip
  first | (simp only [Q1,Q2,BQ6];done) | rfl | exact (nomatch (hg:false=true))
 ·skip
  revert hg
  generalize (decide (((a1).tmod (6:Int))<(i64.wrap (num a0 0))))=b4
  intro hg
  cases b4
  ·skip
   first | (simp only [Q1,Q2,BQ6];done) | rfl | exact (nomatch (hg:false=true))
  ·skip
   first | (simp only [Q1,Q2,BQ6];done) | rfl | exact (nomatch (hg:false=true))
def Zcw:Con:=fun args h=>match args,h with
 | [.w 0,.i .i64 a1],[.row a0 41]=>some (.a (.b ((Zaz a1 a0))),.none,true)
 | _,_=>none
theorem Zqd:EntX PZ 24:=Zag (fn:=Tryz.f24) (by kernel_rfl) (by kernel_rfl) (by kernel_rfl)
theorem Zwa:Uad mn PZ 24 Zcw:=(Zai (N:=1000) (by kernel_rfl) (mkΓ_consX (Zad Zjn) Zgp mkΓ_nilX) (fn:=Tryz.f24) (by kernel_rfl) (by kernel_rfl) []).of (by
 intro ρ h w args vals r e hA hH hr
 unfold Zcw at hr
 split at hr
 ·rename_i a1 a0
  obtain ⟨rfl,rfl,hg2⟩:=BQi hr
  exact Yeb a1 a0 (hA.rng 1 rfl) (hH.wt 0 rfl) hg2
 ·cases hr)
theorem Yar (N:Nat) (a0:Int):ansV PZ (mkΓ [(47,con Zc7)]) N Tryz.f82 [] [.i .i64 (a0)] []=(some (.a (.b ((Zaa a0 (0:Int) (1:Int)))),.none,true)):=by kernel_rfl
theorem Zz6 (a0:Int) (h_a0:i64.min≤a0∧a0≤i64.max) (hg:(true)=true):ansV PZ (mkΓ [(47,con Zc7)]) 1000 Tryz.f82 [] [.i .i64 (a0)] []=some (.a (.b ((Zaa a0 (0:Int) (1:Int)))),.none,true):=by
 refine (Yar 1000 a0).trans ?_
 rfl
def Zlh:Con:=fun args h=>match args,h with
 | [.i .i64 a0],[]=>some (.a (.b ((Zaa a0 (0:Int) (1:Int)))),.none,true)
 | _,_=>none
theorem Zxk:EntX PZ 82:=Zag (fn:=Tryz.f82) (by kernel_rfl) (by kernel_rfl) (by kernel_rfl)
theorem Yct:Uad mn PZ 82 Zlh:=(Zai (N:=1000) (by kernel_rfl) (mkΓ_consX (Zad Zjn) Zgp mkΓ_nilX) (fn:=Tryz.f82) (by kernel_rfl) (by kernel_rfl) []).of (by
 intro ρ h w args vals r e hA hH hr
 unfold Zlh at hr
 split at hr
 ·rename_i a0
  obtain ⟨rfl,rfl,hg2⟩:=BQi hr
  exact Zz6 a0 (hA.rng 0 rfl) hg2
 ·cases hr)
theorem Ych (N:Nat) (a1:Int) (a0:Array Value):ansV PZ (mkΓ []) N Tryz.f25 [] [.w 0,.i .i64 (a1)] [.row a0 41]=(bif decide (0≤(IntKind.u64.wrap a1)) then (some (.a (.b (((((((num a0 2)).fdiv (2^(min ((IntKind.u64.wrap a1)).toNat IntKind.u64.bits)))).tmod (2:Int))==(1:Int)))),.none,true))
  else (none)):=by kernel_rfl
def Zcd (a1:Int) (a0:Array Value):Bool:=((((((num a0 2)).fdiv (2^(min ((IntKind.u64.wrap a1)).toNat IntKind.u64.bits)))).tmod (2:Int))==(1:Int))
theorem Ybl (a1:Int) (a0:Array Value) (h_a1:i64.min≤a1∧a1≤i64.max) (h_a0:WT PZ 41 a0) (hg:(decide (0≤(IntKind.u64.wrap a1)))=true):ansV PZ (mkΓ []) 1000 Tryz.f25 [] [.w 0,.i .i64 (a1)] [.row a0 41]=some (.a (.b ((Zcd a1 a0))),.none,true):=by
 refine (Ych 1000 a1 a0).trans ?_
 unfold Zcd
 revert hg
 generalize (decide (0≤(IntKind.u64.wrap a1)))=b2
 intro hg
 cases b2
 ·skip
  first | exact (nomatch (hg:false=true)) | (simp only [Q1,Q2,BQ6];done) | rfl
 ·skip
  first | (simp only [Q1,Q2,BQ6];done) | rfl | exact (nomatch (hg:false=true))
def Zmy:Con:=fun args h=>match args,h with
 | [.w 0,.i .i64 a1],[.row a0 41]=>some (.a (.b ((Zcd a1 a0))),.none,decide (0≤(IntKind.u64.wrap a1)))
 | _,_=>none
theorem Zzo:EntX PZ 25:=Zag (fn:=Tryz.f25) (by kernel_rfl) (by kernel_rfl) (by kernel_rfl)
theorem Yej:Uad mn PZ 25 Zmy:=(Zai (N:=1000) (by kernel_rfl) mkΓ_nilX (fn:=Tryz.f25) (by kernel_rfl) (by kernel_rfl) []).of (by
 intro ρ h w args vals r e hA hH hr
 unfold Zmy at hr
 split at hr
 ·rename_i a1 a0
  obtain ⟨rfl,rfl,hg2⟩:=BQi hr
  exact Ybl a1 a0 (hA.rng 1 rfl) (hH.wt 0 rfl) hg2
 ·cases hr)
def Zwu:Cons:=(mkΓ [(24,con Zcw),(25,con Zmy)])
theorem Ycm (N:Nat) (a1:Int) (a0:Array Value):ansV PZ Zwu N Tryz.f38 [] [.w 0,.i .i64 (a1)] [.row a0 41]=(bif (Zaz a1 a0) then (bif decide (0≤(IntKind.u64.wrap a1)) then (some (.a (.b ((!((Zcd a1 a0))))),.none,true))
   else (none))
  else (some (.a (.b (false)),.none,true))):=by kernel_rfl
def Zac (a1:Int) (a0:Array Value):Bool:=(bif (Zaz a1 a0) then (!((Zcd a1 a0))) else false)
def Zay (a1:Int) (a0:Array Value):Bool:=(bif (Zaz a1 a0) then decide (0≤(IntKind.u64.wrap a1)) else true)
theorem Ybr (a1:Int) (a0:Array Value) (h_a1:i64.min≤a1∧a1≤i64.max) (h_a0:WT PZ 41 a0) (hg:((Zay a1 a0))=true):ansV PZ Zwu 1000 Tryz.f38 [] [.w 0,.i .i64 (a1)] [.row a0 41]=some (.a (.b ((Zac a1 a0))),.none,true):=by
 refine (Ycm 1000 a1 a0).trans ?_
 unfold Zay at hg
 unfold Zac
 revert hg
 generalize ((Zaz a1 a0))=b2
 intro hg
 cases b2
 ·skip
  first | (simp only [Q1,Q2,BQ6];done) | rfl | exact (nomatch (hg:false=true))
 ·skip
  revert hg
  generalize (decide (0≤(IntKind.u64.wrap a1)))=b4
  intro hg
  cases b4
  ·skip
   first | exact (nomatch (hg:false=true)) | (simp only [Q1,Q2,BQ6];done) | rfl
  ·skip
   first | (simp only [Q1,Q2,BQ6];done) | rfl | exact (nomatch (hg:false=true))
def Zf3:Con:=fun args h=>match args,h with
 | [.w 0,.i .i64 a1],[.row a0 41]=>some (.a (.b ((Zac a1 a0))),.none,(Zay a1 a0))
 | _,_=>none
theorem Zhv:EntX PZ 38:=Zag (fn:=Tryz.f38) (by kernel_rfl) (by kernel_rfl) (by kernel_rfl)
theorem Zk3:Uad mn PZ 38 Zf3:=(Zai (N:=1000) (by kernel_rfl) (mkΓ_consX (Zad Zwa) Zqd (mkΓ_consX (Zad Yej) Zzo mkΓ_nilX)) (fn:=Tryz.f38) (by kernel_rfl) (by kernel_rfl) []).of (by
 intro ρ h w args vals r e hA hH hr
 unfold Zf3 at hr
 split at hr
 ·rename_i a1 a0
  obtain ⟨rfl,rfl,hg2⟩:=BQi hr
  exact Ybr a1 a0 (hA.rng 1 rfl) (hH.wt 0 rfl) hg2
 ·cases hr)
theorem Zz4 (N:Nat) (a0 a1:Array Value):ansV PZ (mkΓ []) N Tryz.f62 [] [.g a0 41,.g a1 122] []=(bif decide ((num a1 0) ≥ (0:Int)) then (bif decide ((num a1 0)<(i64.wrap (num a0 0))) then (bif decide ((num a1 1) ≥ (0:Int)) then (some (.a (.b (decide ((num a1 1)<(i64.wrap (num a0 1))))),.none,true))
    else (some (.a (.b (false)),.none,true)))
   else (some (.a (.b (false)),.none,true)))
  else (some (.a (.b (false)),.none,true))):=by kernel_rfl
def Zas (a0 a1:Array Value):Bool:=(bif decide ((num a1 0) ≥ (0:Int)) then (bif decide ((num a1 0)<(i64.wrap (num a0 0))) then (bif decide ((num a1 1) ≥ (0:Int)) then decide ((num a1 1)<(i64.wrap (num a0 1))) else false) else false) else false)
theorem Zwe (a0 a1:Array Value) (h_a0:WT PZ 41 a0) (h_a1:WT PZ 122 a1) (hg:(true)=true):ansV PZ (mkΓ []) 1000 Tryz.f62 [] [.g a0 41,.g a1 122] []=some (.a (.b ((Zas a0 a1))),.none,true):=by
 refine (Zz4 1000 a0 a1).trans ?_
 unfold Zas
 revert hg
 generalize (decide ((num a1 0) ≥ (0:Int)))=b2
 intro hg
 cases b2
 ·skip
  first | (simp only [Q1,Q2,BQ6];done) | rfl | exact (nomatch (hg:false=true))
 ·skip
  revert hg
  generalize (decide ((num a1 0)<(i64.wrap (num a0 0))))=b4
  intro hg
  cases b4
  ·skip
   first | (simp only [Q1,Q2,BQ6];done) | rfl | exact (nomatch (hg:false=true))
  ·skip
   revert hg
   generalize (decide ((num a1 1) ≥ (0:Int)))=b6
   intro hg
   cases b6
   ·skip
    first | (simp only [Q1,Q2,BQ6];done) | rfl | exact (nomatch (hg:false=true))
   ·skip
    first | (simp only [Q1,Q2,BQ6];done) | rfl | exact (nomatch (hg:false=true))
def Zhp:Con:=fun args h=>match args,h with
 | [.g a0 41,.g a1 122],[]=>some (.a (.b ((Zas a0 a1))),.none,true)
 | _,_=>none
theorem Znc:EntX PZ 62:=Zag (fn:=Tryz.f62) (by kernel_rfl) (by kernel_rfl) (by kernel_rfl)
theorem Zp9:Uad mn PZ 62 Zhp:=(Zai (N:=1000) (by kernel_rfl) mkΓ_nilX (fn:=Tryz.f62) (by kernel_rfl) (by kernel_rfl) []).of (by
 intro ρ h w args vals r e hA hH hr
 unfold Zhp at hr
 split at hr
 ·rename_i a0 a1
  obtain ⟨rfl,rfl,hg2⟩:=BQi hr
  exact Zwe a0 a1 (hA.wt 0 rfl) (hA.wt 1 rfl) hg2
 ·cases hr)
theorem Yak (N:Nat) (a0:Int):ansV PZ (mkΓ []) N Tryz.f63 [] [.i .i64 (a0)] []=(some (.a (.g #[.int .i64 ((a0).tmod (6:Int)),.int .i64 (i64.wrap ((a0).tdiv (6:Int)))] 122),.none,true)):=by kernel_rfl
theorem Zyn (a0:Int) (h_a0:i64.min≤a0∧a0≤i64.max) (hg:(true)=true):ansV PZ (mkΓ []) 1000 Tryz.f63 [] [.i .i64 (a0)] []=some (.a (.g #[.int .i64 ((a0).tmod (6:Int)),.int .i64 (i64.wrap ((a0).tdiv (6:Int)))] 122),.none,true):=by
 refine (Yak 1000 a0).trans ?_
 rfl
def Zis:Con:=fun args h=>match args,h with
 | [.i .i64 a0],[]=>some (.a (.g #[.int .i64 ((a0).tmod (6:Int)),.int .i64 (i64.wrap ((a0).tdiv (6:Int)))] 122),.none,true)
 | _,_=>none
theorem Znp:EntX PZ 63:=Zag (fn:=Tryz.f63) (by kernel_rfl) (by kernel_rfl) (by kernel_rfl)
theorem Zsn:Uad mn PZ 63 Zis:=(Zai (N:=1000) (by kernel_rfl) mkΓ_nilX (fn:=Tryz.f63) (by kernel_rfl) (by kernel_rfl) []).of (by
 intro ρ h w args vals r e hA hH hr
 unfold Zis at hr
 split at hr
 ·rename_i a0
  obtain ⟨rfl,rfl,hg2⟩:=BQi hr
  exact Zyn a0 (hA.rng 0 rfl) hg2
 ·cases hr)
def Zt5:Cons:=(mkΓ [(62,con Zhp),(63,con Zis)])
theorem Yaz (N:Nat) (a0:Array Value) (a1:Int):ansV PZ Zt5 N Tryz.f33 [] [.g a0 41,.i .i64 (a1)] []=(bif decide (a1 ≥ (0:Int)) then (bif decide (a1<(36:Int)) then (some (.a (.b ((Zas a0 (#[.int .i64 ((a1).tmod (6:Int)),.int .i64 (i64.wrap ((a1).tdiv (6:Int)))]:Array Value)))),.none,true))
   else (some (.a (.b (false)),.none,true)))
  else (some (.a (.b (false)),.none,true))):=by kernel_rfl
def Zan (a0:Array Value) (a1:Int):Bool:=(bif decide (a1 ≥ (0:Int)) then (bif decide (a1<(36:Int)) then (Zas a0 (#[.int .i64 ((a1).tmod (6:Int)),.int .i64 (i64.wrap ((a1).tdiv (6:Int)))]:Array Value)) else false) else false)
theorem Zz3 (a0:Array Value) (a1:Int) (h_a0:WT PZ 41 a0) (h_a1:i64.min≤a1∧a1≤i64.max) (hg:(true)=true):ansV PZ Zt5 1000 Tryz.f33 [] [.g a0 41,.i .i64 (a1)] []=some (.a (.b ((Zan a0 a1))),.none,true):=by
 refine (Yaz 1000 a0 a1).trans ?_
 unfold Zan
 revert hg
 generalize (decide (a1 ≥ (0:Int)))=b2
 intro hg
 cases b2
 ·skip
  first | (simp only [Q1,Q2,BQ6];done) | rfl | exact (nomatch (hg:false=true))
 ·skip
  revert hg
  generalize (decide (a1<(36:Int)))=b4
  intro hg
  cases b4
  ·skip
   first | (simp only [Q1,Q2,BQ6];done) | rfl | exact (nomatch (hg:false=true))
  ·skip
   first | (simp only [Q1,Q2,BQ6];done) | rfl | exact (nomatch (hg:false=true))
def Ziu:Con:=fun args h=>match args,h with
 | [.g a0 41,.i .i64 a1],[]=>some (.a (.b ((Zan a0 a1))),.none,true)
 | _,_=>none
theorem Znk:EntX PZ 33:=Zag (fn:=Tryz.f33) (by kernel_rfl) (by kernel_rfl) (by kernel_rfl)
theorem Zsl:Uad mn PZ 33 Ziu:=(Zai (N:=1000) (by kernel_rfl) (mkΓ_consX (Zad Zp9) Znc (mkΓ_consX (Zad Zsn) Znp mkΓ_nilX)) (fn:=Tryz.f33) (by kernel_rfl) (by kernel_rfl) []).of (by
 intro ρ h w args vals r e hA hH hr
 unfold Ziu at hr
 split at hr
 ·rename_i a0 a1
  obtain ⟨rfl,rfl,hg2⟩:=BQi hr
  exact Zz3 a0 a1 (hA.wt 0 rfl) (hA.rng 1 rfl) hg2
 ·cases hr)
theorem Yen (N:Nat) (a0:Int):ansV PZ (mkΓ []) N Tryz.f36 [] [.i .i64 (a0)] []=(bif decide (0≤a0) then (some (.a (.i .u64 (IntKind.u64.wrap ((1:Int)*2^(min (a0).toNat IntKind.u64.bits)))),.none,true))
  else (none)):=by kernel_rfl
def Zd4 (a0:Int):Int:=(IntKind.u64.wrap ((1:Int)*2^(min (a0).toNat IntKind.u64.bits)))
theorem Yc7 (a0:Int) (h_a0:i64.min≤a0∧a0≤i64.max) (hg:(decide (0≤a0))=true):ansV PZ (mkΓ []) 1000 Tryz.f36 [] [.i .i64 (a0)] []=some (.a (.i .u64 (Zd4 a0)),.none,true):=by
 refine (Yen 1000 a0).trans ?_
 unfold Zd4
 revert hg
 generalize (decide (0≤a0))=b2
 intro hg
 cases b2
 ·skip
  first | exact (nomatch (hg:false=true)) | (simp only [Q1,Q2,BQ6];done) | rfl
 ·skip
  first | (simp only [Q1,Q2,BQ6];done) | rfl | exact (nomatch (hg:false=true))
def Zil:Con:=fun args h=>match args,h with
 | [.i .i64 a0],[]=>some (.a (.i .u64 (Zd4 a0)),.none,decide (0≤a0))
 | _,_=>none
theorem Zp5:EntX PZ 36:=Zag (fn:=Tryz.f36) (by kernel_rfl) (by kernel_rfl) (by kernel_rfl)
theorem Zw5:Uad mn PZ 36 Zil:=(Zai (N:=1000) (by kernel_rfl) mkΓ_nilX (fn:=Tryz.f36) (by kernel_rfl) (by kernel_rfl) []).of (by
 intro ρ h w args vals r e hA hH hr
 unfold Zil at hr
 split at hr
 ·rename_i a0
  obtain ⟨rfl,rfl,hg2⟩:=BQi hr
  exact Yc7 a0 (hA.rng 0 rfl) hg2
 ·cases hr)
theorem Yc2 (N:Nat) (a0:Array Value) (a1:Int):ansV PZ (mkΓ [(36,con Zil)]) N Tryz.f34 [] [.g a0 41,.i .i64 (a1)] []=(bif decide (0≤a1) then (some (.a (.b (((IntKind.u64.wrap (BitVec.ofInt IntKind.u64.bits (num a0 2) &&& BitVec.ofInt IntKind.u64.bits (Zd4 a1)).toNat) != (0:Int)))),.none,true))
  else (none)):=by kernel_rfl
def Zal (a0:Array Value) (a1:Int):Bool:=((IntKind.u64.wrap (BitVec.ofInt IntKind.u64.bits (num a0 2) &&& BitVec.ofInt IntKind.u64.bits (Zd4 a1)).toNat) != (0:Int))
theorem Ybp (a0:Array Value) (a1:Int) (h_a0:WT PZ 41 a0) (h_a1:i64.min≤a1∧a1≤i64.max) (hg:(decide (0≤a1))=true):ansV PZ (mkΓ [(36,con Zil)]) 1000 Tryz.f34 [] [.g a0 41,.i .i64 (a1)] []=some (.a (.b ((Zal a0 a1))),.none,true):=by
 refine (Yc2 1000 a0 a1).trans ?_
 unfold Zal
 revert hg
 generalize (decide (0≤a1))=b2
 intro hg
 cases b2
 ·skip
  first | exact (nomatch (hg:false=true)) | (simp only [Q1,Q2,BQ6];done) | rfl
 ·skip
  first | (simp only [Q1,Q2,BQ6];done) | rfl | exact (nomatch (hg:false=true))
def Zhc:Con:=fun args h=>match args,h with
 | [.g a0 41,.i .i64 a1],[]=>some (.a (.b ((Zal a0 a1))),.none,decide (0≤a1))
 | _,_=>none
theorem Zo0:EntX PZ 34:=Zag (fn:=Tryz.f34) (by kernel_rfl) (by kernel_rfl) (by kernel_rfl)
theorem Zua:Uad mn PZ 34 Zhc:=(Zai (N:=1000) (by kernel_rfl) (mkΓ_consX (Zad Zw5) Zp5 mkΓ_nilX) (fn:=Tryz.f34) (by kernel_rfl) (by kernel_rfl) []).of (by
 intro ρ h w args vals r e hA hH hr
 unfold Zhc at hr
 split at hr
 ·rename_i a0 a1
  obtain ⟨rfl,rfl,hg2⟩:=BQi hr
  exact Ybp a0 a1 (hA.wt 0 rfl) (hA.rng 1 rfl) hg2
 ·cases hr)
theorem Yas (N:Nat) (a0:Array Value) (a1:Int):ansV PZ (mkΓ [(34,con Zhc)]) N Tryz.f117 [] [.g a0 41,.i .i64 (a1)] []=(bif decide (0≤a1) then (some (.a (.b ((!((Zal a0 a1))))),.none,true))
  else (none)):=by kernel_rfl
def Zb7 (a0:Array Value) (a1:Int):Bool:=(!((Zal a0 a1)))
theorem Zz0 (a0:Array Value) (a1:Int) (h_a0:WT PZ 41 a0) (h_a1:i64.min≤a1∧a1≤i64.max) (hg:(decide (0≤a1))=true):ansV PZ (mkΓ [(34,con Zhc)]) 1000 Tryz.f117 [] [.g a0 41,.i .i64 (a1)] []=some (.a (.b ((Zb7 a0 a1))),.none,true):=by
 refine (Yas 1000 a0 a1).trans ?_
 unfold Zb7
 revert hg
 generalize (decide (0≤a1))=b2
 intro hg
 cases b2
 ·skip
  first | exact (nomatch (hg:false=true)) | (simp only [Q1,Q2,BQ6];done) | rfl
 ·skip
  first | (simp only [Q1,Q2,BQ6];done) | rfl | exact (nomatch (hg:false=true))
def Zir:Con:=fun args h=>match args,h with
 | [.g a0 41,.i .i64 a1],[]=>some (.a (.b ((Zb7 a0 a1))),.none,decide (0≤a1))
 | _,_=>none
theorem Zno:EntX PZ 117:=Zag (fn:=Tryz.f117) (by kernel_rfl) (by kernel_rfl) (by kernel_rfl)
theorem Zrg:Uad mn PZ 117 Zir:=(Zai (N:=1000) (by kernel_rfl) (mkΓ_consX (Zad Zua) Zo0 mkΓ_nilX) (fn:=Tryz.f117) (by kernel_rfl) (by kernel_rfl) []).of (by
 intro ρ h w args vals r e hA hH hr
 unfold Zir at hr
 split at hr
 ·rename_i a0 a1
  obtain ⟨rfl,rfl,hg2⟩:=BQi hr
  exact Zz0 a0 a1 (hA.wt 0 rfl) (hA.rng 1 rfl) hg2
 ·cases hr)
theorem Ybg (N:Nat) (a0:Int):ansV PZ (mkΓ []) N Tryz.f97 [] [.i .i64 (a0)] []=(bif (a0==(0:Int)) then (some (.a (.b (true)),.none,true))
  else (some (.a (.b ((a0==(1:Int)))),.none,true))):=by kernel_rfl
def Zd8 (a0:Int):Bool:=(bif (a0==(0:Int)) then true else (a0==(1:Int)))
theorem Zzh (a0:Int) (h_a0:i64.min≤a0∧a0≤i64.max) (hg:(true)=true):ansV PZ (mkΓ []) 1000 Tryz.f97 [] [.i .i64 (a0)] []=some (.a (.b ((Zd8 a0))),.none,true):=by
 refine (Ybg 1000 a0).trans ?_
 unfold Zd8
 revert hg
 generalize ((a0==(0:Int)))=b2
 intro hg
 cases b2
 ·skip
  first | (simp only [Q1,Q2,BQ6];done) | rfl | exact (nomatch (hg:false=true))
 ·skip
  first | (simp only [Q1,Q2,BQ6];done) | rfl | exact (nomatch (hg:false=true))
def Ziv:Con:=fun args h=>match args,h with
 | [.i .i64 a0],[]=>some (.a (.b ((Zd8 a0))),.none,true)
 | _,_=>none
theorem Zv6:EntX PZ 97:=Zag (fn:=Tryz.f97) (by kernel_rfl) (by kernel_rfl) (by kernel_rfl)
theorem Ycu:Uad mn PZ 97 Ziv:=(Zai (N:=1000) (by kernel_rfl) mkΓ_nilX (fn:=Tryz.f97) (by kernel_rfl) (by kernel_rfl) []).of (by
 intro ρ h w args vals r e hA hH hr
 unfold Ziv at hr
 split at hr
 ·rename_i a0
  obtain ⟨rfl,rfl,hg2⟩:=BQi hr
  exact Zzh a0 (hA.rng 0 rfl) hg2
 ·cases hr)
theorem Yd5 (N:Nat) (a0:Array Value):ansV PZ (mkΓ []) N Tryz.f115 [] [.g a0 122] []=(some (.a (.i .i64 (i64.wrap ((num a0 0)+(i64.wrap ((6:Int)*(num a0 1)))))),.none,true)):=by kernel_rfl
theorem Ybu (a0:Array Value) (h_a0:WT PZ 122 a0) (hg:(true)=true):ansV PZ (mkΓ []) 1000 Tryz.f115 [] [.g a0 122] []=some (.a (.i .i64 (i64.wrap ((num a0 0)+(i64.wrap ((6:Int)*(num a0 1)))))),.none,true):=by
 refine (Yd5 1000 a0).trans ?_
 rfl
def Zkc:Con:=fun args h=>match args,h with
 | [.g a0 122],[]=>some (.a (.i .i64 (i64.wrap ((num a0 0)+(i64.wrap ((6:Int)*(num a0 1)))))),.none,true)
 | _,_=>none
theorem Zo2:EntX PZ 115:=Zag (fn:=Tryz.f115) (by kernel_rfl) (by kernel_rfl) (by kernel_rfl)
theorem Zt8:Uad mn PZ 115 Zkc:=(Zai (N:=1000) (by kernel_rfl) mkΓ_nilX (fn:=Tryz.f115) (by kernel_rfl) (by kernel_rfl) []).of (by
 intro ρ h w args vals r e hA hH hr
 unfold Zkc at hr
 split at hr
 ·rename_i a0
  obtain ⟨rfl,rfl,hg2⟩:=BQi hr
  exact Ybu a0 (hA.wt 0 rfl) hg2
 ·cases hr)
end
end Go.Proofs.YtohnggmlmglhmaaGreatDoor
