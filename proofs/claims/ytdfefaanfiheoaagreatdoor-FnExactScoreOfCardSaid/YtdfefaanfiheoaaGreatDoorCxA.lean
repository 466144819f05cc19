/- Places, tides, land and water, in company. -/
import Derived.Test.YtdfefaanfiheoaaGreatDoorProg
import Derived.Test.YtdfefaanfiheoaaGreatDoorVcE
namespace Go.Proofs.YtdfefaanfiheoaaGreatDoor
open Go.ChangeShapes Go.WideShapes Go.ChangeAt Go.RowKit Ve Vc
open Tryz renaming prog → PZ
open IntKind (i64)
set_option linter.unusedVariables false
set_option linter.unusedSimpArgs false
set_option maxRecDepth 100000
noncomputable section
abbrev SlT (e n:Nat) (A:Array Value):Prop:=A.size=n*(lay PZ e).length∧(∀ k,k<n→WT PZ e (A.extract (k*(lay PZ e).length) (k*(lay PZ e).length+(lay PZ e).length)))∧n≤9223372036854775807
variable {mn:Md}
theorem Yek (N:Nat) (a0 a1 a2:Int):ansV PZ (mkΓ []) N Tryz.f47 [] [.i .i64 (a0),.i .i64 (a1),.i .i64 (a2)] []=(bif decide (a0 ≥ a1) then (some (.a (.b (decide (a0≤a2))),.none,true))
  else (some (.a (.b (false)),.none,true))):=by kernel_rfl
def Zaa (a0 a1 a2:Int):Bool:=(bif decide (a0 ≥ a1) then decide (a0≤a2) else false)
theorem Ycf (a0 a1 a2:Int) (h_a0:i64.min≤a0∧a0≤i64.max) (h_a1:i64.min≤a1∧a1≤i64.max) (h_a2:i64.min≤a2∧a2≤i64.max) (hg:(true)=true):ansV PZ (mkΓ []) 1000 Tryz.f47 [] [.i .i64 (a0),.i .i64 (a1),.i .i64 (a2)] []=some (.a (.b ((Zaa a0 a1 a2))),.none,true):=by
 refine (Yek 1000 a0 a1 a2).trans ?_
 unfold Zaa
 revert hg
 generalize (decide (a0 ≥ a1))=b2
 intro hg
 cases b2
 ·skip
  first | (simp only [Q1,Q2,BQ6];done) | rfl | exact (nomatch (hg:false=true))
 ·skip
  first | (simp only [Q1,Q2,BQ6];done) | rfl | exact (nomatch (hg:false=true))
def Zb1:Con:=fun args h=>match args,h with
 | [.i .i64 a0,.i .i64 a1,.i .i64 a2],[]=>some (.a (.b ((Zaa a0 a1 a2))),.none,true)
 | _,_=>none
theorem Zga:EntX PZ 47:=Zah (fn:=Tryz.f47) (by kernel_rfl) (by kernel_rfl) (by kernel_rfl)
theorem Zi5:Uac mn PZ 47 Zb1:=(Zai (N:=1000) (by kernel_rfl) mkΓ_nilX (fn:=Tryz.f47) (by kernel_rfl) (by kernel_rfl) []).of (by
 intro ρ h w args vals r e hA hH hr
 unfold Zb1 at hr
 split at hr
 ·rename_i a0 a1 a2
  obtain ⟨rfl,rfl,hg2⟩:=BQi hr
  exact Ycf a0 a1 a2 (hA.rng 0 rfl) (hA.rng 1 rfl) (hA.rng 2 rfl) hg2
 ·cases hr)
theorem Ye1 (N:Nat) (a1:Int) (a0:Array Value):ansV PZ (mkΓ [(47,con Zb1)]) N Tryz.f72 [] [.w 0,.i .i64 (a1)] [.row a0 37]=(bif (Zaa a1 (0:Int) (35:Int)) then (bif decide (((a1).tmod (6:Int))<(i64.wrap (num a0 0))) then (some (.a (.b (decide ((i64.wrap ((a1).tdiv (6:Int)))<(i64.wrap (num a0 1))))),.none,true))
   else (some (.a (.b (false)),.none,true)))
  else (some (.a (.b (false)),.none,true))):=by kernel_rfl
def Zab (a1:Int) (a0:Array Value):Bool:=(bif (Zaa a1 (0:Int) (35:Int)) then (bif decide (((a1).tmod (6:Int))<(i64.wrap (num a0 0))) then decide ((i64.wrap ((a1).tdiv (6:Int)))<(i64.wrap (num a0 1))) else false) else false)
theorem Ydl (a1:Int) (a0:Array Value) (h_a1:i64.min≤a1∧a1≤i64.max) (h_a0:WT PZ 37 a0) (hg:(true)=true):ansV PZ (mkΓ [(47,con Zb1)]) 1000 Tryz.f72 [] [.w 0,.i .i64 (a1)] [.row a0 37]=some (.a (.b ((Zab a1 a0))),.none,true):=by
 refine (Ye1 1000 a1 a0).trans ?_
 unfold Zab
 revert hg
 generalize ((Zaa a1 (0:Int) (35:Int)))=b2
 intro hg
 cases b2
 ·skip
  first | (simp only [Q1,Q2,BQ6];done) | rfl | exact (nomatch (hg:false=true))
 ·skip
  revert hg
  generalize (decide (((a1).tmod (6:Int))<(i64.wrap (num a0 0))))=b4
  intro hg
  cases b4
  ·skip
   first | (simp only [Q1,Q2,BQ6];done) | rfl | exact (nomatch (hg:false=true))
  ·skip
   first | (simp only [Q1,Q2,BQ6];done) | rfl | exact (nomatch (hg:false=true))
def Zbo:Con:=fun args h=>match args,h with
 | [.w 0,.i .i64 a1],[.row a0 37]=>some (.a (.b ((Zab a1 a0))),.none,true)
 | _,_=>none
theorem Zge:EntX PZ 72:=Zah (fn:=Tryz.f72) (by kernel_rfl) (by kernel_rfl) (by kernel_rfl)
theorem Zjt:Uac mn PZ 72 Zbo:=(Zai (N:=1000) (by kernel_rfl) (mkΓ_consX (Zae Zi5) Zga mkΓ_nilX) (fn:=Tryz.f72) (by kernel_rfl) (by kernel_rfl) []).of (by
 intro ρ h w args vals r e hA hH hr
 unfold Zbo at hr
 split at hr
 ·rename_i a1 a0
  obtain ⟨rfl,rfl,hg2⟩:=BQi hr
  exact Ydl a1 a0 (hA.rng 1 rfl) (hH.wt 0 rfl) hg2
 ·cases hr)
theorem Zz5 (N:Nat) (a0:Int):ansV PZ (mkΓ [(47,con Zb1)]) N Tryz.f75 [] [.i .i64 (a0)] []=(some (.a (.b ((Zaa a0 (0:Int) (1:Int)))),.none,true)):=by kernel_rfl
theorem Zyb (a0:Int) (h_a0:i64.min≤a0∧a0≤i64.max) (hg:(true)=true):ansV PZ (mkΓ [(47,con Zb1)]) 1000 Tryz.f75 [] [.i .i64 (a0)] []=some (.a (.b ((Zaa a0 (0:Int) (1:Int)))),.none,true):=by
 refine (Zz5 1000 a0).trans ?_
 rfl
def Zk8:Con:=fun args h=>match args,h with
 | [.i .i64 a0],[]=>some (.a (.b ((Zaa a0 (0:Int) (1:Int)))),.none,true)
 | _,_=>none
theorem Zw9:EntX PZ 75:=Zah (fn:=Tryz.f75) (by kernel_rfl) (by kernel_rfl) (by kernel_rfl)
theorem Ych:Uac mn PZ 75 Zk8:=(Zai (N:=1000) (by kernel_rfl) (mkΓ_consX (Zae Zi5) Zga mkΓ_nilX) (fn:=Tryz.f75) (by kernel_rfl) (by kernel_rfl) []).of (by
 intro ρ h w args vals r e hA hH hr
 unfold Zk8 at hr
 split at hr
 ·rename_i a0
  obtain ⟨rfl,rfl,hg2⟩:=BQi hr
  exact Zyb a0 (hA.rng 0 rfl) hg2
 ·cases hr)
theorem Yd3 (N:Nat) (a1:Int) (a0:Array Value):ansV PZ (mkΓ []) N Tryz.f73 [] [.w 0,.i .i64 (a1)] [.row a0 37]=(bif decide (0≤(IntKind.u64.wrap a1)) then (some (.a (.b (((((((num a0 2)).fdiv (2^(min ((IntKind.u64.wrap a1)).toNat IntKind.u64.bits)))).tmod (2:Int))==(1:Int)))),.none,true))
  else (none)):=by kernel_rfl
def Zag (a1:Int) (a0:Array Value):Bool:=((((((num a0 2)).fdiv (2^(min ((IntKind.u64.wrap a1)).toNat IntKind.u64.bits)))).tmod (2:Int))==(1:Int))
theorem Ybd (a1:Int) (a0:Array Value) (h_a1:i64.min≤a1∧a1≤i64.max) (h_a0:WT PZ 37 a0) (hg:(decide (0≤(IntKind.u64.wrap a1)))=true):ansV PZ (mkΓ []) 1000 Tryz.f73 [] [.w 0,.i .i64 (a1)] [.row a0 37]=some (.a (.b ((Zag a1 a0))),.none,true):=by
 refine (Yd3 1000 a1 a0).trans ?_
 unfold Zag
 revert hg
 generalize (decide (0≤(IntKind.u64.wrap a1)))=b2
 intro hg
 cases b2
 ·skip
  first | exact (nomatch (hg:false=true)) | (simp only [Q1,Q2,BQ6];done) | rfl
 ·skip
  first | (simp only [Q1,Q2,BQ6];done) | rfl | exact (nomatch (hg:false=true))
def Zfo:Con:=fun args h=>match args,h with
 | [.w 0,.i .i64 a1],[.row a0 37]=>some (.a (.b ((Zag a1 a0))),.none,decide (0≤(IntKind.u64.wrap a1)))
 | _,_=>none
theorem Zhq:EntX PZ 73:=Zah (fn:=Tryz.f73) (by kernel_rfl) (by kernel_rfl) (by kernel_rfl)
theorem Zku:Uac mn PZ 73 Zfo:=(Zai (N:=1000) (by kernel_rfl) mkΓ_nilX (fn:=Tryz.f73) (by kernel_rfl) (by kernel_rfl) []).of (by
 intro ρ h w args vals r e hA hH hr
 unfold Zfo at hr
 split at hr
 ·rename_i a1 a0
  obtain ⟨rfl,rfl,hg2⟩:=BQi hr
  exact Ybd a1 a0 (hA.rng 1 rfl) (hH.wt 0 rfl) hg2
 ·cases hr)
def Zxb:Cons:=(mkΓ [(72,con Zbo),(73,con Zfo)])
theorem Ydh (N:Nat) (a1:Int) (a0:Array Value):ansV PZ Zxb N Tryz.f70 [] [.w 0,.i .i64 (a1)] [.row a0 37]=(bif (Zab a1 a0) then (bif decide (0≤(IntKind.u64.wrap a1)) then (some (.a (.b ((!((Zag a1 a0))))),.none,true))
   else (none))
  else (some (.a (.b (false)),.none,true))):=by kernel_rfl
def Zaj (a1:Int) (a0:Array Value):Bool:=(bif (Zab a1 a0) then (!((Zag a1 a0))) else false)
def Zbh (a1:Int) (a0:Array Value):Bool:=(bif (Zab a1 a0) then decide (0≤(IntKind.u64.wrap a1)) else true)
theorem Yae (a1:Int) (a0:Array Value) (h_a1:i64.min≤a1∧a1≤i64.max) (h_a0:WT PZ 37 a0) (hg:((Zbh a1 a0))=true):ansV PZ Zxb 1000 Tryz.f70 [] [.w 0,.i .i64 (a1)] [.row a0 37]=some (.a (.b ((Zaj a1 a0))),.none,true):=by
 refine (Ydh 1000 a1 a0).trans ?_
 unfold Zbh at hg
 unfold Zaj
 revert hg
 generalize ((Zab a1 a0))=b2
 intro hg
 cases b2
 ·skip
  first | (simp only [Q1,Q2,BQ6];done) | rfl | exact (nomatch (hg:false=true))
 ·skip
  revert hg
  generalize (decide (0≤(IntKind.u64.wrap a1)))=b4
  intro hg
  cases b4
  ·skip
   first | exact (nomatch (hg:false=true)) | (simp only [Q1,Q2,BQ6];done) | rfl
  ·skip
   first | (simp only [Q1,Q2,BQ6];done) | rfl | exact (nomatch (hg:false=true))
def Zj0:Con:=fun args h=>match args,h with
 | [.w 0,.i .i64 a1],[.row a0 37]=>some (.a (.b ((Zaj a1 a0))),.none,(Zbh a1 a0))
 | _,_=>none
theorem Zn8:EntX PZ 70:=Zah (fn:=Tryz.f70) (by kernel_rfl) (by kernel_rfl) (by kernel_rfl)
theorem Ztd:Uac mn PZ 70 Zj0:=(Zai (N:=1000) (by kernel_rfl) (mkΓ_consX (Zae Zjt) Zge (mkΓ_consX (Zae Zku) Zhq mkΓ_nilX)) (fn:=Tryz.f70) (by kernel_rfl) (by kernel_rfl) []).of (by
 intro ρ h w args vals r e hA hH hr
 unfold Zj0 at hr
 split at hr
 ·rename_i a1 a0
  obtain ⟨rfl,rfl,hg2⟩:=BQi hr
  exact Yae a1 a0 (hA.rng 1 rfl) (hH.wt 0 rfl) hg2
 ·cases hr)
theorem Zx3 (N:Nat) (a0 a1:Array Value):ansV PZ (mkΓ []) N Tryz.f100 [] [.g a0 37,.g a1 151] []=(bif decide ((num a1 0) ≥ (0:Int)) then (bif decide ((num a1 0)<(i64.wrap (num a0 0))) then (bif decide ((num a1 1) ≥ (0:Int)) then (some (.a (.b (decide ((num a1 1)<(i64.wrap (num a0 1))))),.none,true))
    else (some (.a (.b (false)),.none,true)))
   else (some (.a (.b (false)),.none,true)))
  else (some (.a (.b (false)),.none,true))):=by kernel_rfl
def Zap (a0 a1:Array Value):Bool:=(bif decide ((num a1 0) ≥ (0:Int)) then (bif decide ((num a1 0)<(i64.wrap (num a0 0))) then (bif decide ((num a1 1) ≥ (0:Int)) then decide ((num a1 1)<(i64.wrap (num a0 1))) else false) else false) else false)
theorem Zwa (a0 a1:Array Value) (h_a0:WT PZ 37 a0) (h_a1:WT PZ 151 a1) (hg:(true)=true):ansV PZ (mkΓ []) 1000 Tryz.f100 [] [.g a0 37,.g a1 151] []=some (.a (.b ((Zap a0 a1))),.none,true):=by
 refine (Zx3 1000 a0 a1).trans ?_
 unfold Zap
 revert hg
 generalize (decide ((num a1 0) ≥ (0:Int)))=b2
 intro hg
 cases b2
 ·skip
  first | (simp only [Q1,Q2,BQ6];done) | rfl | exact (nomatch (hg:false=true))
 ·skip
  revert hg
  generalize (decide ((num a1 0)<(i64.wrap (num a0 0))))=b4
  intro hg
  cases b4
  ·skip
   first | (simp only [Q1,Q2,BQ6];done) | rfl | exact (nomatch (hg:false=true))
  ·skip
   revert hg
   generalize (decide ((num a1 1) ≥ (0:Int)))=b6
   intro hg
   cases b6
   ·skip
    first | (simp only [Q1,Q2,BQ6];done) | rfl | exact (nomatch (hg:false=true))
   ·skip
    first | (simp only [Q1,Q2,BQ6];done) | rfl | exact (nomatch (hg:false=true))
def Zhx:Con:=fun args h=>match args,h with
 | [.g a0 37,.g a1 151],[]=>some (.a (.b ((Zap a0 a1))),.none,true)
 | _,_=>none
theorem Zm4:EntX PZ 100:=Zah (fn:=Tryz.f100) (by kernel_rfl) (by kernel_rfl) (by kernel_rfl)
theorem Zpo:Uac mn PZ 100 Zhx:=(Zai (N:=1000) (by kernel_rfl) mkΓ_nilX (fn:=Tryz.f100) (by kernel_rfl) (by kernel_rfl) []).of (by
 intro ρ h w args vals r e hA hH hr
 unfold Zhx at hr
 split at hr
 ·rename_i a0 a1
  obtain ⟨rfl,rfl,hg2⟩:=BQi hr
  exact Zwa a0 a1 (hA.wt 0 rfl) (hA.wt 1 rfl) hg2
 ·cases hr)
theorem Zz2 (N:Nat) (a0:Int):ansV PZ (mkΓ []) N Tryz.f101 [] [.i .i64 (a0)] []=(some (.a (.g #[.int .i64 ((a0).tmod (6:Int)),.int .i64 (i64.wrap ((a0).tdiv (6:Int)))] 151),.none,true)):=by kernel_rfl
theorem Zyh (a0:Int) (h_a0:i64.min≤a0∧a0≤i64.max) (hg:(true)=true):ansV PZ (mkΓ []) 1000 Tryz.f101 [] [.i .i64 (a0)] []=some (.a (.g #[.int .i64 ((a0).tmod (6:Int)),.int .i64 (i64.wrap ((a0).tdiv (6:Int)))] 151),.none,true):=by
 refine (Zz2 1000 a0).trans ?_
 rfl
def Zil:Con:=fun args h=>match args,h with
 | [.i .i64 a0],[]=>some (.a (.g #[.int .i64 ((a0).tmod (6:Int)),.int .i64 (i64.wrap ((a0).tdiv (6:Int)))] 151),.none,true)
 | _,_=>none
theorem Znl:EntX PZ 101:=Zah (fn:=Tryz.f101) (by kernel_rfl) (by kernel_rfl) (by kernel_rfl)
theorem Zp9:Uac mn PZ 101 Zil:=(Zai (N:=1000) (by kernel_rfl) mkΓ_nilX (fn:=Tryz.f101) (by kernel_rfl) (by kernel_rfl) []).of (by
 intro ρ h w args vals r e hA hH hr
 unfold Zil at hr
 split at hr
 ·rename_i a0
  obtain ⟨rfl,rfl,hg2⟩:=BQi hr
  exact Zyh a0 (hA.rng 0 rfl) hg2
 ·cases hr)
def Ztl:Cons:=(mkΓ [(100,con Zhx),(101,con Zil)])
theorem Yag (N:Nat) (a0:Array Value) (a1:Int):ansV PZ Ztl N Tryz.f81 [] [.g a0 37,.i .i64 (a1)] []=(bif decide (a1 ≥ (0:Int)) then (bif decide (a1<(36:Int)) then (some (.a (.b ((Zap a0 (#[.int .i64 ((a1).tmod (6:Int)),.int .i64 (i64.wrap ((a1).tdiv (6:Int)))]:Array Value)))),.none,true))
   else (some (.a (.b (false)),.none,true)))
  else (some (.a (.b (false)),.none,true))):=by kernel_rfl
def Zam (a0:Array Value) (a1:Int):Bool:=(bif decide (a1 ≥ (0:Int)) then (bif decide (a1<(36:Int)) then (Zap a0 (#[.int .i64 ((a1).tmod (6:Int)),.int .i64 (i64.wrap ((a1).tdiv (6:Int)))]:Array Value)) else false) else false)
theorem Zxw (a0:Array Value) (a1:Int) (h_a0:WT PZ 37 a0) (h_a1:i64.min≤a1∧a1≤i64.max) (hg:(true)=true):ansV PZ Ztl 1000 Tryz.f81 [] [.g a0 37,.i .i64 (a1)] []=some (.a (.b ((Zam a0 a1))),.none,true):=by
 refine (Yag 1000 a0 a1).trans ?_
 unfold Zam
 revert hg
 generalize (decide (a1 ≥ (0:Int)))=b2
 intro hg
 cases b2
 ·skip
  first | (simp only [Q1,Q2,BQ6];done) | rfl | exact (nomatch (hg:false=true))
 ·skip
  revert hg
  generalize (decide (a1<(36:Int)))=b4
  intro hg
  cases b4
  ·skip
   first | (simp only [Q1,Q2,BQ6];done) | rfl | exact (nomatch (hg:false=true))
  ·skip
   first | (simp only [Q1,Q2,BQ6];done) | rfl | exact (nomatch (hg:false=true))
def Zgk:Con:=fun args h=>match args,h with
 | [.g a0 37,.i .i64 a1],[]=>some (.a (.b ((Zam a0 a1))),.none,true)
 | _,_=>none
theorem Zdi:EntX PZ 81:=Zah (fn:=Tryz.f81) (by kernel_rfl) (by kernel_rfl) (by kernel_rfl)
theorem Zfu:Uac mn PZ 81 Zgk:=(Zai (N:=1000) (by kernel_rfl) (mkΓ_consX (Zae Zpo) Zm4 (mkΓ_consX (Zae Zp9) Znl mkΓ_nilX)) (fn:=Tryz.f81) (by kernel_rfl) (by kernel_rfl) []).of (by
 intro ρ h w args vals r e hA hH hr
 unfold Zgk at hr
 split at hr
 ·rename_i a0 a1
  obtain ⟨rfl,rfl,hg2⟩:=BQi hr
  exact Zxw a0 a1 (hA.wt 0 rfl) (hA.rng 1 rfl) hg2
 ·cases hr)
theorem Yeu (N:Nat) (a0:Int):ansV PZ (mkΓ []) N Tryz.f102 [] [.i .i64 (a0)] []=(bif decide (0≤a0) then (some (.a (.i .u64 (IntKind.u64.wrap ((1:Int)*2^(min (a0).toNat IntKind.u64.bits)))),.none,true))
  else (none)):=by kernel_rfl
def Zdy (a0:Int):Int:=(IntKind.u64.wrap ((1:Int)*2^(min (a0).toNat IntKind.u64.bits)))
theorem Ydv (a0:Int) (h_a0:i64.min≤a0∧a0≤i64.max) (hg:(decide (0≤a0))=true):ansV PZ (mkΓ []) 1000 Tryz.f102 [] [.i .i64 (a0)] []=some (.a (.i .u64 (Zdy a0)),.none,true):=by
 refine (Yeu 1000 a0).trans ?_
 unfold Zdy
 revert hg
 generalize (decide (0≤a0))=b2
 intro hg
 cases b2
 ·skip
  first | exact (nomatch (hg:false=true)) | (simp only [Q1,Q2,BQ6];done) | rfl
 ·skip
  first | (simp only [Q1,Q2,BQ6];done) | rfl | exact (nomatch (hg:false=true))
def Zif:Con:=fun args h=>match args,h with
 | [.i .i64 a0],[]=>some (.a (.i .u64 (Zdy a0)),.none,decide (0≤a0))
 | _,_=>none
theorem Zpl:EntX PZ 102:=Zah (fn:=Tryz.f102) (by kernel_rfl) (by kernel_rfl) (by kernel_rfl)
theorem Zwr:Uac mn PZ 102 Zif:=(Zai (N:=1000) (by kernel_rfl) mkΓ_nilX (fn:=Tryz.f102) (by kernel_rfl) (by kernel_rfl) []).of (by
 intro ρ h w args vals r e hA hH hr
 unfold Zif at hr
 split at hr
 ·rename_i a0
  obtain ⟨rfl,rfl,hg2⟩:=BQi hr
  exact Ydv a0 (hA.rng 0 rfl) hg2
 ·cases hr)
theorem Yc1 (N:Nat) (a0:Array Value) (a1:Int):ansV PZ (mkΓ [(102,con Zif)]) N Tryz.f83 [] [.g a0 37,.i .i64 (a1)] []=(bif decide (0≤a1) then (some (.a (.b (((IntKind.u64.wrap (BitVec.ofInt IntKind.u64.bits (num a0 2) &&& BitVec.ofInt IntKind.u64.bits (Zdy a1)).toNat) != (0:Int)))),.none,true))
  else (none)):=by kernel_rfl
def Zac (a0:Array Value) (a1:Int):Bool:=((IntKind.u64.wrap (BitVec.ofInt IntKind.u64.bits (num a0 2) &&& BitVec.ofInt IntKind.u64.bits (Zdy a1)).toNat) != (0:Int))
theorem Yas (a0:Array Value) (a1:Int) (h_a0:WT PZ 37 a0) (h_a1:i64.min≤a1∧a1≤i64.max) (hg:(decide (0≤a1))=true):ansV PZ (mkΓ [(102,con Zif)]) 1000 Tryz.f83 [] [.g a0 37,.i .i64 (a1)] []=some (.a (.b ((Zac a0 a1))),.none,true):=by
 refine (Yc1 1000 a0 a1).trans ?_
 unfold Zac
 revert hg
 generalize (decide (0≤a1))=b2
 intro hg
 cases b2
 ·skip
  first | exact (nomatch (hg:false=true)) | (simp only [Q1,Q2,BQ6];done) | rfl
 ·skip
  first | (simp only [Q1,Q2,BQ6];done) | rfl | exact (nomatch (hg:false=true))
def Zbb:Con:=fun args h=>match args,h with
 | [.g a0 37,.i .i64 a1],[]=>some (.a (.b ((Zac a0 a1))),.none,decide (0≤a1))
 | _,_=>none
theorem Zb9:EntX PZ 83:=Zah (fn:=Tryz.f83) (by kernel_rfl) (by kernel_rfl) (by kernel_rfl)
theorem Zd0:Uac mn PZ 83 Zbb:=(Zai (N:=1000) (by kernel_rfl) (mkΓ_consX (Zae Zwr) Zpl mkΓ_nilX) (fn:=Tryz.f83) (by kernel_rfl) (by kernel_rfl) []).of (by
 intro ρ h w args vals r e hA hH hr
 unfold Zbb at hr
 split at hr
 ·rename_i a0 a1
  obtain ⟨rfl,rfl,hg2⟩:=BQi hr
  exact Yas a0 a1 (hA.wt 0 rfl) (hA.rng 1 rfl) hg2
 ·cases hr)
theorem Yak (N:Nat) (a0:Array Value) (a1:Int):ansV PZ (mkΓ [(83,con Zbb)]) N Tryz.f94 [] [.g a0 37,.i .i64 (a1)] []=(bif decide (0≤a1) then (some (.a (.b ((!((Zac a0 a1))))),.none,true))
  else (none)):=by kernel_rfl
def Zad (a0:Array Value) (a1:Int):Bool:=(!((Zac a0 a1)))
theorem Zyr (a0:Array Value) (a1:Int) (h_a0:WT PZ 37 a0) (h_a1:i64.min≤a1∧a1≤i64.max) (hg:(decide (0≤a1))=true):ansV PZ (mkΓ [(83,con Zbb)]) 1000 Tryz.f94 [] [.g a0 37,.i .i64 (a1)] []=some (.a (.b ((Zad a0 a1))),.none,true):=by
 refine (Yak 1000 a0 a1).trans ?_
 unfold Zad
 revert hg
 generalize (decide (0≤a1))=b2
 intro hg
 cases b2
 ·skip
  first | exact (nomatch (hg:false=true)) | (simp only [Q1,Q2,BQ6];done) | rfl
 ·skip
  first | (simp only [Q1,Q2,BQ6];done) | rfl | exact (nomatch (hg:false=true))
def Zej:Con:=fun args h=>match args,h with
 | [.g a0 37,.i .i64 a1],[]=>some (.a (.b ((Zad a0 a1))),.none,decide (0≤a1))
 | _,_=>none
theorem Zg4:EntX PZ 94:=Zah (fn:=Tryz.f94) (by kernel_rfl) (by kernel_rfl) (by kernel_rfl)
theorem Zjd:Uac mn PZ 94 Zej:=(Zai (N:=1000) (by kernel_rfl) (mkΓ_consX (Zae Zd0) Zb9 mkΓ_nilX) (fn:=Tryz.f94) (by kernel_rfl) (by kernel_rfl) []).of (by
 intro ρ h w args vals r e hA hH hr
 unfold Zej at hr
 split at hr
 ·rename_i a0 a1
  obtain ⟨rfl,rfl,hg2⟩:=BQi hr
  exact Zyr a0 a1 (hA.wt 0 rfl) (hA.rng 1 rfl) hg2
 ·cases hr)
theorem Yaa (N:Nat) (a0:Int):ansV PZ (mkΓ []) N Tryz.f82 [] [.i .i64 (a0)] []=(bif (a0==(0:Int)) then (some (.a (.b (true)),.none,true))
  else (some (.a (.b ((a0==(1:Int)))),.none,true))):=by kernel_rfl
def Zcm (a0:Int):Bool:=(bif (a0==(0:Int)) then true else (a0==(1:Int)))
theorem Zyw (a0:Int) (h_a0:i64.min≤a0∧a0≤i64.max) (hg:(true)=true):ansV PZ (mkΓ []) 1000 Tryz.f82 [] [.i .i64 (a0)] []=some (.a (.b ((Zcm a0))),.none,true):=by
 refine (Yaa 1000 a0).trans ?_
 unfold Zcm
 revert hg
 generalize ((a0==(0:Int)))=b2
 intro hg
 cases b2
 ·skip
  first | (simp only [Q1,Q2,BQ6];done) | rfl | exact (nomatch (hg:false=true))
 ·skip
  first | (simp only [Q1,Q2,BQ6];done) | rfl | exact (nomatch (hg:false=true))
def Zk9:Con:=fun args h=>match args,h with
 | [.i .i64 a0],[]=>some (.a (.b ((Zcm a0))),.none,true)
 | _,_=>none
theorem Zg2:EntX PZ 82:=Zah (fn:=Tryz.f82) (by kernel_rfl) (by kernel_rfl) (by kernel_rfl)
theorem Zjv:Uac mn PZ 82 Zk9:=(Zai (N:=1000) (by kernel_rfl) mkΓ_nilX (fn:=Tryz.f82) (by kernel_rfl) (by kernel_rfl) []).of (by
 intro ρ h w args vals r e hA hH hr
 unfold Zk9 at hr
 split at hr
 ·rename_i a0
  obtain ⟨rfl,rfl,hg2⟩:=BQi hr
  exact Zyw a0 (hA.rng 0 rfl) hg2
 ·cases hr)
theorem Yd4 (N:Nat) (a0:Array Value):ansV PZ (mkΓ []) N Tryz.f119 [] [.g a0 151] []=(some (.a (.i .i64 (i64.wrap ((num a0 0)+(i64.wrap ((6:Int)*(num a0 1)))))),.none,true)):=by kernel_rfl
theorem Ybk (a0:Array Value) (h_a0:WT PZ 151 a0) (hg:(true)=true):ansV PZ (mkΓ []) 1000 Tryz.f119 [] [.g a0 151] []=some (.a (.i .i64 (i64.wrap ((num a0 0)+(i64.wrap ((6:Int)*(num a0 1)))))),.none,true):=by
 refine (Yd4 1000 a0).trans ?_
 rfl
def Zjl:Con:=fun args h=>match args,h with
 | [.g a0 151],[]=>some (.a (.i .i64 (i64.wrap ((num a0 0)+(i64.wrap ((6:Int)*(num a0 1)))))),.none,true)
 | _,_=>none
theorem Zol:EntX PZ 119:=Zah (fn:=Tryz.f119) (by kernel_rfl) (by kernel_rfl) (by kernel_rfl)
theorem Ztm:Uac mn PZ 119 Zjl:=(Zai (N:=1000) (by kernel_rfl) mkΓ_nilX (fn:=Tryz.f119) (by kernel_rfl) (by kernel_rfl) []).of (by
 intro ρ h w args vals r e hA hH hr
 unfold Zjl at hr
 split at hr
 ·rename_i a0
  obtain ⟨rfl,rfl,hg2⟩:=BQi hr
  exact Ybk a0 (hA.wt 0 rfl) hg2
 ·cases hr)
end
end Go.Proofs.YtdfefaanfiheoaaGreatDoor
