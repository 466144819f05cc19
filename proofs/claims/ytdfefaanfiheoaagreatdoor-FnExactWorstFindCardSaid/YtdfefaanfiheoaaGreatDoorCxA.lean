/- Places, tides, land and water, in company. -/
import Derived.Test.YtdfefaanfiheoaaGreatDoorProg
import Derived.Test.YtdfefaanfiheoaaGreatDoorVcE
set_option linter.unusedVariables false
set_option linter.unusedSimpArgs false
namespace Go.Proofs.YtdfefaanfiheoaaGreatDoor
open Tryz (f47 f70 f72 f73 f75 f81 f82 f83 f94 f100 f101 f102 f119)
open Go.ChangeShapes Go.WideShapes Go.ChangeAt Go.RowKit Ve Vc
open Tryz renaming prog → PZ
open IntKind (i64)
set_option maxRecDepth 100000
noncomputable section
abbrev SlT (e n:Nat) (A:Array Value):Prop:=A.size=n*(lay PZ e).length∧(∀ k,k<n→WT PZ e (A.extract (k*(lay PZ e).length) (k*(lay PZ e).length+(lay PZ e).length)))∧n≤9223372036854775807
variable {mn:Md}
theorem Yez (N:Nat) (a0 a1 a2:Int):ansV PZ (mkΓ []) N f47 [] [.i .i64 (a0),.i .i64 (a1),.i .i64 (a2)] []=(bif decide (a0 ≥ a1) then (some (.a (.b (decide (a0≤a2))),.none,true))
  else (some (.a (.b (false)),.none,true))):=by kernel_rfl
def Zaa (a0 a1 a2:Int):Bool:=(bif decide (a0 ≥ a1) then decide (a0≤a2) else false)
theorem Yea (a0 a1 a2:Int) (h_a0:i64.min≤a0∧a0≤i64.max) (h_a1:i64.min≤a1∧a1≤i64.max) (h_a2:i64.min≤a2∧a2≤i64.max) (hg:(true)=true):ansV PZ (mkΓ []) 1000 f47 [] [.i .i64 (a0),.i .i64 (a1),.i .i64 (a2)] []=some (.a (.b ((Zaa a0 a1 a2))),.none,true):=by
 refine (Yez 1000 a0 a1 a2).trans ?_
 unfold Zaa
 revert hg
 generalize (decide (a0 ≥ a1))=b2
 intro hg
 cases b2
 ·skip
  first | (simp only [Q1,Q2,BQ6];done) | rfl | exact (nomatch (hg:false=true))
 ·skip
  first | (simp only [Q1,Q2,BQ6];done) | rfl | exact (nomatch (hg:false=true))
def Zb1:Con:=fun args h=>match args,h with
 | [.i .i64 a0,.i .i64 a1,.i .i64 a2],[]=>some (.a (.b ((Zaa a0 a1 a2))),.none,true)
 | _,_=>none
theorem Zgh:EntX PZ 47:=Zah (fn:=f47)
theorem Zjz:Uac mn PZ 47 Zb1:=(ansY (N:=1000) mkΓ_nilX f47 []).of (by
 intro ρ h w args vals r e hA hH hr
 unfold Zb1 at hr
 split at hr
 ·rename_i a0 a1 a2
  obtain ⟨rfl,rfl,hg2⟩:=BQi hr
  exact Yea a0 a1 a2 (hA.rng 0 rfl) (hA.rng 1 rfl) (hA.rng 2 rfl) hg2
 ·cases hr)
theorem Ye8 (N:Nat) (a1:Int) (a0:Array Value):ansV PZ (mkΓ [(47,con Zb1)]) N f72 [] [.w 0,.i .i64 (a1)] [.row a0 37]=(bif (Zaa a1 (0:Int) (35:Int)) then (bif decide (((a1).tmod (6:Int))<(i64.wrap (num a0 0))) then (some (.a (.b (decide ((i64.wrap ((a1).tdiv (6:Int)))<(i64.wrap (num a0 1))))),.none,true))
   else (some (.a (.b (false)),.none,true)))
  else (some (.a (.b (false)),.none,true))):=by kernel_rfl
def Zab (a1:Int) (a0:Array Value):Bool:=(bif (Zaa a1 (0:Int) (35:Int)) then (bif decide (((a1).tmod (6:Int))<(i64.wrap (num a0 0))) then decide ((i64.wrap ((a1).tdiv (6:Int)))<(i64.wrap (num a0 1))) else false) else false)
theorem Yeh (a1:Int) (a0:Array Value) (h_a1:i64.min≤a1∧a1≤i64.max) (h_a0:WT PZ 37 a0) (hg:(true)=true):ansV PZ (mkΓ [(47,con Zb1)]) 1000 f72 [] [.w 0,.i .i64 (a1)] [.row a0 37]=some (.a (.b ((Zab a1 a0))),.none,true):=by
 refine (Ye8 1000 a1 a0).trans ?_
 unfold Zab
 revert hg
 generalize ((Zaa a1 (0:Int) (35:Int)))=b2
 intro hg
 cases b2
 ·skip
  first | (simp only [Q1,Q2,BQ6];done) | rfl | exact (nomatch (hg:false=true))
 ·skip
  revert hg
  generalize (decide (((a1).tmod (6:Int))<(i64.wrap (num a0 0))))=b4
  intro hg
  cases b4
  ·skip
   first | (simp only [Q1,Q2,BQ6];done) | rfl | exact (nomatch (hg:false=true))
  ·skip
   first | (simp only [Q1,Q2,BQ6];done) | rfl | exact (nomatch (hg:false=true))
def Zbq:Con:=fun args h=>match args,h with
 | [.w 0,.i .i64 a1],[.row a0 37]=>some (.a (.b ((Zab a1 a0))),.none,true)
 | _,_=>none
theorem Zgk:EntX PZ 72:=Zah (fn:=f72)
theorem Zji:Uac mn PZ 72 Zbq:=(ansY (N:=1000) (mkΓ_consX (Zae Zjz) Zgh mkΓ_nilX) f72 []).of (by
 intro ρ h w args vals r e hA hH hr
 unfold Zbq at hr
 split at hr
 ·rename_i a1 a0
  obtain ⟨rfl,rfl,hg2⟩:=BQi hr
  exact Yeh a1 a0 (hA.rng 1 rfl) (hH.wt 0 rfl) hg2
 ·cases hr)
theorem Ybu (N:Nat) (a0:Int):ansV PZ (mkΓ [(47,con Zb1)]) N f75 [] [.i .i64 (a0)] []=(some (.a (.b ((Zaa a0 (0:Int) (1:Int)))),.none,true)):=by kernel_rfl
theorem Zx2 (a0:Int) (h_a0:i64.min≤a0∧a0≤i64.max) (hg:(true)=true):ansV PZ (mkΓ [(47,con Zb1)]) 1000 f75 [] [.i .i64 (a0)] []=some (.a (.b ((Zaa a0 (0:Int) (1:Int)))),.none,true):=by
 refine (Ybu 1000 a0).trans ?_
 rfl
def Zlb:Con:=fun args h=>match args,h with
 | [.i .i64 a0],[]=>some (.a (.b ((Zaa a0 (0:Int) (1:Int)))),.none,true)
 | _,_=>none
theorem Zv3:EntX PZ 75:=Zah (fn:=f75)
theorem Ydi:Uac mn PZ 75 Zlb:=(ansY (N:=1000) (mkΓ_consX (Zae Zjz) Zgh mkΓ_nilX) f75 []).of (by
 intro ρ h w args vals r e hA hH hr
 unfold Zlb at hr
 split at hr
 ·rename_i a0
  obtain ⟨rfl,rfl,hg2⟩:=BQi hr
  exact Zx2 a0 (hA.rng 0 rfl) hg2
 ·cases hr)
theorem Ycq (N:Nat) (a1:Int) (a0:Array Value):ansV PZ (mkΓ []) N f73 [] [.w 0,.i .i64 (a1)] [.row a0 37]=(bif decide (0≤(IntKind.u64.wrap a1)) then (some (.a (.b (((((((num a0 2)).fdiv (2^(min ((IntKind.u64.wrap a1)).toNat IntKind.u64.bits)))).tmod (2:Int))==(1:Int)))),.none,true))
  else (none)):=by kernel_rfl
def Zag (a1:Int) (a0:Array Value):Bool:=((((((num a0 2)).fdiv (2^(min ((IntKind.u64.wrap a1)).toNat IntKind.u64.bits)))).tmod (2:Int))==(1:Int))
theorem Ya1 (a1:Int) (a0:Array Value) (h_a1:i64.min≤a1∧a1≤i64.max) (h_a0:WT PZ 37 a0) (hg:(decide (0≤(IntKind.u64.wrap a1)))=true):ansV PZ (mkΓ []) 1000 f73 [] [.w 0,.i .i64 (a1)] [.row a0 37]=some (.a (.b ((Zag a1 a0))),.none,true):=by
 refine (Ycq 1000 a1 a0).trans ?_
 unfold Zag
 revert hg
 generalize (decide (0≤(IntKind.u64.wrap a1)))=b2
 intro hg
 cases b2
 ·skip
  first | exact (nomatch (hg:false=true)) | (simp only [Q1,Q2,BQ6];done) | rfl
 ·skip
  first | (simp only [Q1,Q2,BQ6];done) | rfl | exact (nomatch (hg:false=true))
def Zft:Con:=fun args h=>match args,h with
 | [.w 0,.i .i64 a1],[.row a0 37]=>some (.a (.b ((Zag a1 a0))),.none,decide (0≤(IntKind.u64.wrap a1)))
 | _,_=>none
theorem Zhp:EntX PZ 73:=Zah (fn:=f73)
theorem Zk4:Uac mn PZ 73 Zft:=(ansY (N:=1000) mkΓ_nilX f73 []).of (by
 intro ρ h w args vals r e hA hH hr
 unfold Zft at hr
 split at hr
 ·rename_i a1 a0
  obtain ⟨rfl,rfl,hg2⟩:=BQi hr
  exact Ya1 a1 a0 (hA.rng 1 rfl) (hH.wt 0 rfl) hg2
 ·cases hr)
def Zwk:Cons:=(mkΓ [(72,con Zbq),(73,con Zft)])
theorem Yd1 (N:Nat) (a1:Int) (a0:Array Value):ansV PZ Zwk N f70 [] [.w 0,.i .i64 (a1)] [.row a0 37]=(bif (Zab a1 a0) then (bif decide (0≤(IntKind.u64.wrap a1)) then (some (.a (.b ((!((Zag a1 a0))))),.none,true))
   else (none))
  else (some (.a (.b (false)),.none,true))):=by kernel_rfl
def Zai (a1:Int) (a0:Array Value):Bool:=(bif (Zab a1 a0) then (!((Zag a1 a0))) else false)
def Zbh (a1:Int) (a0:Array Value):Bool:=(bif (Zab a1 a0) then decide (0≤(IntKind.u64.wrap a1)) else true)
theorem Yae (a1:Int) (a0:Array Value) (h_a1:i64.min≤a1∧a1≤i64.max) (h_a0:WT PZ 37 a0) (hg:((Zbh a1 a0))=true):ansV PZ Zwk 1000 f70 [] [.w 0,.i .i64 (a1)] [.row a0 37]=some (.a (.b ((Zai a1 a0))),.none,true):=by
 refine (Yd1 1000 a1 a0).trans ?_
 unfold Zbh at hg
 unfold Zai
 revert hg
 generalize ((Zab a1 a0))=b2
 intro hg
 cases b2
 ·skip
  first | (simp only [Q1,Q2,BQ6];done) | rfl | exact (nomatch (hg:false=true))
 ·skip
  revert hg
  generalize (decide (0≤(IntKind.u64.wrap a1)))=b4
  intro hg
  cases b4
  ·skip
   first | exact (nomatch (hg:false=true)) | (simp only [Q1,Q2,BQ6];done) | rfl
  ·skip
   first | (simp only [Q1,Q2,BQ6];done) | rfl | exact (nomatch (hg:false=true))
def Zjr:Con:=fun args h=>match args,h with
 | [.w 0,.i .i64 a1],[.row a0 37]=>some (.a (.b ((Zai a1 a0))),.none,(Zbh a1 a0))
 | _,_=>none
theorem Zoe:EntX PZ 70:=Zah (fn:=f70)
theorem Ztt:Uac mn PZ 70 Zjr:=(ansY (N:=1000) (mkΓ_consX (Zae Zji) Zgk (mkΓ_consX (Zae Zk4) Zhp mkΓ_nilX)) f70 []).of (by
 intro ρ h w args vals r e hA hH hr
 unfold Zjr at hr
 split at hr
 ·rename_i a1 a0
  obtain ⟨rfl,rfl,hg2⟩:=BQi hr
  exact Yae a1 a0 (hA.rng 1 rfl) (hH.wt 0 rfl) hg2
 ·cases hr)
theorem Zyr (N:Nat) (a0 a1:Array Value):ansV PZ (mkΓ []) N f100 [] [.g a0 37,.g a1 151] []=(bif decide ((num a1 0) ≥ (0:Int)) then (bif decide ((num a1 0)<(i64.wrap (num a0 0))) then (bif decide ((num a1 1) ≥ (0:Int)) then (some (.a (.b (decide ((num a1 1)<(i64.wrap (num a0 1))))),.none,true))
    else (some (.a (.b (false)),.none,true)))
   else (some (.a (.b (false)),.none,true)))
  else (some (.a (.b (false)),.none,true))):=by kernel_rfl
def Zap (a0 a1:Array Value):Bool:=(bif decide ((num a1 0) ≥ (0:Int)) then (bif decide ((num a1 0)<(i64.wrap (num a0 0))) then (bif decide ((num a1 1) ≥ (0:Int)) then decide ((num a1 1)<(i64.wrap (num a0 1))) else false) else false) else false)
theorem Zvx (a0 a1:Array Value) (h_a0:WT PZ 37 a0) (h_a1:WT PZ 151 a1) (hg:(true)=true):ansV PZ (mkΓ []) 1000 f100 [] [.g a0 37,.g a1 151] []=some (.a (.b ((Zap a0 a1))),.none,true):=by
 refine (Zyr 1000 a0 a1).trans ?_
 unfold Zap
 revert hg
 generalize (decide ((num a1 0) ≥ (0:Int)))=b2
 intro hg
 cases b2
 ·skip
  first | (simp only [Q1,Q2,BQ6];done) | rfl | exact (nomatch (hg:false=true))
 ·skip
  revert hg
  generalize (decide ((num a1 0)<(i64.wrap (num a0 0))))=b4
  intro hg
  cases b4
  ·skip
   first | (simp only [Q1,Q2,BQ6];done) | rfl | exact (nomatch (hg:false=true))
  ·skip
   revert hg
   generalize (decide ((num a1 1) ≥ (0:Int)))=b6
   intro hg
   cases b6
   ·skip
    first | (simp only [Q1,Q2,BQ6];done) | rfl | exact (nomatch (hg:false=true))
   ·skip
    first | (simp only [Q1,Q2,BQ6];done) | rfl | exact (nomatch (hg:false=true))
def Zhv:Con:=fun args h=>match args,h with
 | [.g a0 37,.g a1 151],[]=>some (.a (.b ((Zap a0 a1))),.none,true)
 | _,_=>none
theorem Zmp:EntX PZ 100:=Zah (fn:=f100)
theorem Zpo:Uac mn PZ 100 Zhv:=(ansY (N:=1000) mkΓ_nilX f100 []).of (by
 intro ρ h w args vals r e hA hH hr
 unfold Zhv at hr
 split at hr
 ·rename_i a0 a1
  obtain ⟨rfl,rfl,hg2⟩:=BQi hr
  exact Zvx a0 a1 (hA.wt 0 rfl) (hA.wt 1 rfl) hg2
 ·cases hr)
theorem Yax (N:Nat) (a0:Int):ansV PZ (mkΓ []) N f101 [] [.i .i64 (a0)] []=(some (.a (.g #[.int .i64 ((a0).tmod (6:Int)),.int .i64 (i64.wrap ((a0).tdiv (6:Int)))] 151),.none,true)):=by kernel_rfl
theorem Zy9 (a0:Int) (h_a0:i64.min≤a0∧a0≤i64.max) (hg:(true)=true):ansV PZ (mkΓ []) 1000 f101 [] [.i .i64 (a0)] []=some (.a (.g #[.int .i64 ((a0).tmod (6:Int)),.int .i64 (i64.wrap ((a0).tdiv (6:Int)))] 151),.none,true):=by
 refine (Yax 1000 a0).trans ?_
 rfl
def Zip:Con:=fun args h=>match args,h with
 | [.i .i64 a0],[]=>some (.a (.g #[.int .i64 ((a0).tmod (6:Int)),.int .i64 (i64.wrap ((a0).tdiv (6:Int)))] 151),.none,true)
 | _,_=>none
theorem Zng:EntX PZ 101:=Zah (fn:=f101)
theorem Zqx:Uac mn PZ 101 Zip:=(ansY (N:=1000) mkΓ_nilX f101 []).of (by
 intro ρ h w args vals r e hA hH hr
 unfold Zip at hr
 split at hr
 ·rename_i a0
  obtain ⟨rfl,rfl,hg2⟩:=BQi hr
  exact Zy9 a0 (hA.rng 0 rfl) hg2
 ·cases hr)
def Ztp:Cons:=(mkΓ [(100,con Zhv),(101,con Zip)])
theorem Ybe (N:Nat) (a0:Array Value) (a1:Int):ansV PZ Ztp N f81 [] [.g a0 37,.i .i64 (a1)] []=(bif decide (a1 ≥ (0:Int)) then (bif decide (a1<(36:Int)) then (some (.a (.b ((Zap a0 (#[.int .i64 ((a1).tmod (6:Int)),.int .i64 (i64.wrap ((a1).tdiv (6:Int)))]:Array Value)))),.none,true))
   else (some (.a (.b (false)),.none,true)))
  else (some (.a (.b (false)),.none,true))):=by kernel_rfl
def Zal (a0:Array Value) (a1:Int):Bool:=(bif decide (a1 ≥ (0:Int)) then (bif decide (a1<(36:Int)) then (Zap a0 (#[.int .i64 ((a1).tmod (6:Int)),.int .i64 (i64.wrap ((a1).tdiv (6:Int)))]:Array Value)) else false) else false)
theorem Zy7 (a0:Array Value) (a1:Int) (h_a0:WT PZ 37 a0) (h_a1:i64.min≤a1∧a1≤i64.max) (hg:(true)=true):ansV PZ Ztp 1000 f81 [] [.g a0 37,.i .i64 (a1)] []=some (.a (.b ((Zal a0 a1))),.none,true):=by
 refine (Ybe 1000 a0 a1).trans ?_
 unfold Zal
 revert hg
 generalize (decide (a1 ≥ (0:Int)))=b2
 intro hg
 cases b2
 ·skip
  first | (simp only [Q1,Q2,BQ6];done) | rfl | exact (nomatch (hg:false=true))
 ·skip
  revert hg
  generalize (decide (a1<(36:Int)))=b4
  intro hg
  cases b4
  ·skip
   first | (simp only [Q1,Q2,BQ6];done) | rfl | exact (nomatch (hg:false=true))
  ·skip
   first | (simp only [Q1,Q2,BQ6];done) | rfl | exact (nomatch (hg:false=true))
def Zgn:Con:=fun args h=>match args,h with
 | [.g a0 37,.i .i64 a1],[]=>some (.a (.b ((Zal a0 a1))),.none,true)
 | _,_=>none
theorem Zdk:EntX PZ 81:=Zah (fn:=f81)
theorem Zfu:Uac mn PZ 81 Zgn:=(ansY (N:=1000) (mkΓ_consX (Zae Zpo) Zmp (mkΓ_consX (Zae Zqx) Zng mkΓ_nilX)) f81 []).of (by
 intro ρ h w args vals r e hA hH hr
 unfold Zgn at hr
 split at hr
 ·rename_i a0 a1
  obtain ⟨rfl,rfl,hg2⟩:=BQi hr
  exact Zy7 a0 a1 (hA.wt 0 rfl) (hA.rng 1 rfl) hg2
 ·cases hr)
theorem Yfc (N:Nat) (a0:Int):ansV PZ (mkΓ []) N f102 [] [.i .i64 (a0)] []=(bif decide (0≤a0) then (some (.a (.i .u64 (IntKind.u64.wrap ((1:Int)*2^(min (a0).toNat IntKind.u64.bits)))),.none,true))
  else (none)):=by kernel_rfl
def Zdw (a0:Int):Int:=(IntKind.u64.wrap ((1:Int)*2^(min (a0).toNat IntKind.u64.bits)))
theorem Yct (a0:Int) (h_a0:i64.min≤a0∧a0≤i64.max) (hg:(decide (0≤a0))=true):ansV PZ (mkΓ []) 1000 f102 [] [.i .i64 (a0)] []=some (.a (.i .u64 (Zdw a0)),.none,true):=by
 refine (Yfc 1000 a0).trans ?_
 unfold Zdw
 revert hg
 generalize (decide (0≤a0))=b2
 intro hg
 cases b2
 ·skip
  first | exact (nomatch (hg:false=true)) | (simp only [Q1,Q2,BQ6];done) | rfl
 ·skip
  first | (simp only [Q1,Q2,BQ6];done) | rfl | exact (nomatch (hg:false=true))
def Zim:Con:=fun args h=>match args,h with
 | [.i .i64 a0],[]=>some (.a (.i .u64 (Zdw a0)),.none,decide (0≤a0))
 | _,_=>none
theorem Zpp:EntX PZ 102:=Zah (fn:=f102)
theorem Zws:Uac mn PZ 102 Zim:=(ansY (N:=1000) mkΓ_nilX f102 []).of (by
 intro ρ h w args vals r e hA hH hr
 unfold Zim at hr
 split at hr
 ·rename_i a0
  obtain ⟨rfl,rfl,hg2⟩:=BQi hr
  exact Yct a0 (hA.rng 0 rfl) hg2
 ·cases hr)
theorem Ydj (N:Nat) (a0:Array Value) (a1:Int):ansV PZ (mkΓ [(102,con Zim)]) N f83 [] [.g a0 37,.i .i64 (a1)] []=(bif decide (0≤a1) then (some (.a (.b (((IntKind.u64.wrap (BitVec.ofInt IntKind.u64.bits (num a0 2) &&& BitVec.ofInt IntKind.u64.bits (Zdw a1)).toNat) != (0:Int)))),.none,true))
  else (none)):=by kernel_rfl
def Zac (a0:Array Value) (a1:Int):Bool:=((IntKind.u64.wrap (BitVec.ofInt IntKind.u64.bits (num a0 2) &&& BitVec.ofInt IntKind.u64.bits (Zdw a1)).toNat) != (0:Int))
theorem Ybp (a0:Array Value) (a1:Int) (h_a0:WT PZ 37 a0) (h_a1:i64.min≤a1∧a1≤i64.max) (hg:(decide (0≤a1))=true):ansV PZ (mkΓ [(102,con Zim)]) 1000 f83 [] [.g a0 37,.i .i64 (a1)] []=some (.a (.b ((Zac a0 a1))),.none,true):=by
 refine (Ydj 1000 a0 a1).trans ?_
 unfold Zac
 revert hg
 generalize (decide (0≤a1))=b2
 intro hg
 cases b2
 ·skip
  first | exact (nomatch (hg:false=true)) | (simp only [Q1,Q2,BQ6];done) | rfl
 ·skip
  first | (simp only [Q1,Q2,BQ6];done) | rfl | exact (nomatch (hg:false=true))
def Zba:Con:=fun args h=>match args,h with
 | [.g a0 37,.i .i64 a1],[]=>some (.a (.b ((Zac a0 a1))),.none,decide (0≤a1))
 | _,_=>none
theorem Zcb:EntX PZ 83:=Zah (fn:=f83)
theorem Zd1:Uac mn PZ 83 Zba:=(ansY (N:=1000) (mkΓ_consX (Zae Zws) Zpp mkΓ_nilX) f83 []).of (by
 intro ρ h w args vals r e hA hH hr
 unfold Zba at hr
 split at hr
 ·rename_i a0 a1
  obtain ⟨rfl,rfl,hg2⟩:=BQi hr
  exact Ybp a0 a1 (hA.wt 0 rfl) (hA.rng 1 rfl) hg2
 ·cases hr)
theorem Ya3 (N:Nat) (a0:Array Value) (a1:Int):ansV PZ (mkΓ [(83,con Zba)]) N f94 [] [.g a0 37,.i .i64 (a1)] []=(bif decide (0≤a1) then (some (.a (.b ((!((Zac a0 a1))))),.none,true))
  else (none)):=by kernel_rfl
def Zad (a0:Array Value) (a1:Int):Bool:=(!((Zac a0 a1)))
theorem Zy3 (a0:Array Value) (a1:Int) (h_a0:WT PZ 37 a0) (h_a1:i64.min≤a1∧a1≤i64.max) (hg:(decide (0≤a1))=true):ansV PZ (mkΓ [(83,con Zba)]) 1000 f94 [] [.g a0 37,.i .i64 (a1)] []=some (.a (.b ((Zad a0 a1))),.none,true):=by
 refine (Ya3 1000 a0 a1).trans ?_
 unfold Zad
 revert hg
 generalize (decide (0≤a1))=b2
 intro hg
 cases b2
 ·skip
  first | exact (nomatch (hg:false=true)) | (simp only [Q1,Q2,BQ6];done) | rfl
 ·skip
  first | (simp only [Q1,Q2,BQ6];done) | rfl | exact (nomatch (hg:false=true))
def Zeq:Con:=fun args h=>match args,h with
 | [.g a0 37,.i .i64 a1],[]=>some (.a (.b ((Zad a0 a1))),.none,decide (0≤a1))
 | _,_=>none
theorem Zg5:EntX PZ 94:=Zah (fn:=f94)
theorem Zjy:Uac mn PZ 94 Zeq:=(ansY (N:=1000) (mkΓ_consX (Zae Zd1) Zcb mkΓ_nilX) f94 []).of (by
 intro ρ h w args vals r e hA hH hr
 unfold Zeq at hr
 split at hr
 ·rename_i a0 a1
  obtain ⟨rfl,rfl,hg2⟩:=BQi hr
  exact Zy3 a0 a1 (hA.wt 0 rfl) (hA.rng 1 rfl) hg2
 ·cases hr)
theorem Ybr (N:Nat) (a0:Int):ansV PZ (mkΓ []) N f82 [] [.i .i64 (a0)] []=(bif (a0==(0:Int)) then (some (.a (.b (true)),.none,true))
  else (some (.a (.b ((a0==(1:Int)))),.none,true))):=by kernel_rfl
def Zch (a0:Int):Bool:=(bif (a0==(0:Int)) then true else (a0==(1:Int)))
theorem Zx1 (a0:Int) (h_a0:i64.min≤a0∧a0≤i64.max) (hg:(true)=true):ansV PZ (mkΓ []) 1000 f82 [] [.i .i64 (a0)] []=some (.a (.b ((Zch a0))),.none,true):=by
 refine (Ybr 1000 a0).trans ?_
 unfold Zch
 revert hg
 generalize ((a0==(0:Int)))=b2
 intro hg
 cases b2
 ·skip
  first | (simp only [Q1,Q2,BQ6];done) | rfl | exact (nomatch (hg:false=true))
 ·skip
  first | (simp only [Q1,Q2,BQ6];done) | rfl | exact (nomatch (hg:false=true))
def Zlk:Con:=fun args h=>match args,h with
 | [.i .i64 a0],[]=>some (.a (.b ((Zch a0))),.none,true)
 | _,_=>none
theorem Zg7:EntX PZ 82:=Zah (fn:=f82)
theorem Zj2:Uac mn PZ 82 Zlk:=(ansY (N:=1000) mkΓ_nilX f82 []).of (by
 intro ρ h w args vals r e hA hH hr
 unfold Zlk at hr
 split at hr
 ·rename_i a0
  obtain ⟨rfl,rfl,hg2⟩:=BQi hr
  exact Zx1 a0 (hA.rng 0 rfl) hg2
 ·cases hr)
theorem Yci (N:Nat) (a0:Array Value):ansV PZ (mkΓ []) N f119 [] [.g a0 151] []=(some (.a (.i .i64 (i64.wrap ((num a0 0)+(i64.wrap ((6:Int)*(num a0 1)))))),.none,true)):=by kernel_rfl
theorem Yaj (a0:Array Value) (h_a0:WT PZ 151 a0) (hg:(true)=true):ansV PZ (mkΓ []) 1000 f119 [] [.g a0 151] []=some (.a (.i .i64 (i64.wrap ((num a0 0)+(i64.wrap ((6:Int)*(num a0 1)))))),.none,true):=by
 refine (Yci 1000 a0).trans ?_
 rfl
def Zka:Con:=fun args h=>match args,h with
 | [.g a0 151],[]=>some (.a (.i .i64 (i64.wrap ((num a0 0)+(i64.wrap ((6:Int)*(num a0 1)))))),.none,true)
 | _,_=>none
theorem Zom:EntX PZ 119:=Zah (fn:=f119)
theorem Ztq:Uac mn PZ 119 Zka:=(ansY (N:=1000) mkΓ_nilX f119 []).of (by
 intro ρ h w args vals r e hA hH hr
 unfold Zka at hr
 split at hr
 ·rename_i a0
  obtain ⟨rfl,rfl,hg2⟩:=BQi hr
  exact Yaj a0 (hA.wt 0 rfl) hg2
 ·cases hr)
end
end Go.Proofs.YtdfefaanfiheoaaGreatDoor
