/- Places, tides, land and water, in company. -/
import Derived.Test.YtdfefaanfiheoaaGreatDoorProg
import Derived.Test.YtdfefaanfiheoaaGreatDoorVcE
set_option linter.unusedVariables false
set_option linter.unusedSimpArgs false
namespace Go.Proofs.YtdfefaanfiheoaaGreatDoor
open Tryz (f47 f70 f72 f73 f75 f81 f82 f83 f94 f100 f101 f102 f119)
open Go.ChangeShapes Go.WideShapes Go.ChangeAt Go.RowKit Ve Vc
open Tryz renaming prog -> PZ
open IntKind (i64)
set_option maxRecDepth 100000
noncomputable section
abbrev SlT (e n:Nat) (A:Array Value):Prop:=A.size=n*(lay PZ e).length/\(∀ k,k<n->WT PZ e (A.extract (k*(lay PZ e).length) (k*(lay PZ e).length+(lay PZ e).length)))/\n<=9223372036854775807
variable {mn:Md}
theorem Yfy (N:Nat) (a0 a1 a2:Int):ansV PZ (mkΓ []) N f47 [] [.i .i64 (a0),.i .i64 (a1),.i .i64 (a2)] []=(bif decide (a0>=a1) then (some (.a (.b (decide (a0<=a2))),.none,true))
  else (some (.a (.b (false)),.none,true))):=by kernel_rfl
def Zaa (a0 a1 a2:Int):Bool:=(bif decide (a0>=a1) then decide (a0<=a2) else false)
theorem Ydf (a0 a1 a2:Int) (h_a0:i64.min<=a0/\a0<=i64.max) (h_a1:i64.min<=a1/\a1<=i64.max) (h_a2:i64.min<=a2/\a2<=i64.max) (hg:(true)=true):ansV PZ (mkΓ []) 1000 f47 [] [.i .i64 (a0),.i .i64 (a1),.i .i64 (a2)] []=some (.a (.b ((Zaa a0 a1 a2))),.none,true):=by
 refine (Yfy 1000 a0 a1 a2).trans ?_
 unfold Zaa
 revert hg
 generalize (decide (a0>=a1))=b2
 intro hg
 cases b2
 ·skip
  first | (simp only [Q1,Q2,BQ6];done) | rfl | exact (nomatch (hg:false=true))
 ·skip
  first | (simp only [Q1,Q2,BQ6];done) | rfl | exact (nomatch (hg:false=true))
def Zb2:Con:=λ args h=>match args,h with
 | [.i .i64 a0,.i .i64 a1,.i .i64 a2],[]=>some (.a (.b ((Zaa a0 a1 a2))),.none,true)
 | _,_=>none
theorem Zgp:EntX PZ 47:=Zah (fn:=f47)
theorem Zkf:Uac mn PZ 47 Zb2:=(ansY (N:=1000) mKn f47 []).of (by
 intro ρ h w args vals r e hA hH hr
 unfold Zb2 at hr
 split at hr
 ·rename_i a0 a1 a2
  obtain ⟨rfl,rfl,hg2⟩:=BQi hr
  exact Ydf a0 a1 a2 (hA.rng 0 rfl) (hA.rng 1 rfl) (hA.rng 2 rfl) hg2
 ·cases hr)
theorem Yfu (N:Nat) (a1:Int) (a0:Array Value):ansV PZ (mkΓ [(47,con Zb2)]) N f72 [] [.w 0,.i .i64 (a1)] [.row a0 37]=(bif (Zaa a1 (0:Int) (35:Int)) then (bif decide (((a1).tmod (6:Int))<(i64.wrap (num a0 0))) then (some (.a (.b (decide ((i64.wrap ((a1).tdiv (6:Int)))<(i64.wrap (num a0 1))))),.none,true))
   else (some (.a (.b (false)),.none,true)))
  else (some (.a (.b (false)),.none,true))):=by kernel_rfl
def Zab (a1:Int) (a0:Array Value):Bool:=(bif (Zaa a1 (0:Int) (35:Int)) then (bif decide (((a1).tmod (6:Int))<(i64.wrap (num a0 0))) then decide ((i64.wrap ((a1).tdiv (6:Int)))<(i64.wrap (num a0 1))) else false) else false)
theorem Yff (a1:Int) (a0:Array Value) (h_a1:i64.min<=a1/\a1<=i64.max) (h_a0:WT PZ 37 a0) (hg:(true)=true):ansV PZ (mkΓ [(47,con Zb2)]) 1000 f72 [] [.w 0,.i .i64 (a1)] [.row a0 37]=some (.a (.b ((Zab a1 a0))),.none,true):=by
 refine (Yfu 1000 a1 a0).trans ?_
 unfold Zab
 revert hg
 generalize ((Zaa a1 (0:Int) (35:Int)))=b2
 intro hg
 cases b2
 ·skip
  first | (simp only [Q1,Q2,BQ6];done) | rfl | exact (nomatch (hg:false=true))
 ·skip
  revert hg
  generalize (decide (((a1).tmod (6:Int))<(i64.wrap (num a0 0))))=b4
  intro hg
  cases b4
  ·skip
   first | (simp only [Q1,Q2,BQ6];done) | rfl | exact (nomatch (hg:false=true))
  ·skip
   first | (simp only [Q1,Q2,BQ6];done) | rfl | exact (nomatch (hg:false=true))
def Zbt:Con:=λ args h=>match args,h with
 | [.w 0,.i .i64 a1],[.row a0 37]=>some (.a (.b ((Zab a1 a0))),.none,true)
 | _,_=>none
theorem Zgq:EntX PZ 72:=Zah (fn:=f72)
theorem Zka:Uac mn PZ 72 Zbt:=(ansY (N:=1000) (mKc (Zae Zkf) Zgp mKn) f72 []).of (by
 intro ρ h w args vals r e hA hH hr
 unfold Zbt at hr
 split at hr
 ·rename_i a1 a0
  obtain ⟨rfl,rfl,hg2⟩:=BQi hr
  exact Yff a1 a0 (hA.rng 1 rfl) (hH.wt 0 rfl) hg2
 ·cases hr)
theorem Yce (N:Nat) (a0:Int):ansV PZ (mkΓ [(47,con Zb2)]) N f75 [] [.i .i64 (a0)] []=(some (.a (.b ((Zaa a0 (0:Int) (1:Int)))),.none,true)):=by kernel_rfl
theorem Zys (a0:Int) (h_a0:i64.min<=a0/\a0<=i64.max) (hg:(true)=true):ansV PZ (mkΓ [(47,con Zb2)]) 1000 f75 [] [.i .i64 (a0)] []=some (.a (.b ((Zaa a0 (0:Int) (1:Int)))),.none,true):=by
 refine (Yce 1000 a0).trans ?_
 rfl
def Zlw:Con:=λ args h=>match args,h with
 | [.i .i64 a0],[]=>some (.a (.b ((Zaa a0 (0:Int) (1:Int)))),.none,true)
 | _,_=>none
theorem Zxx:EntX PZ 75:=Zah (fn:=f75)
theorem Yes:Uac mn PZ 75 Zlw:=(ansY (N:=1000) (mKc (Zae Zkf) Zgp mKn) f75 []).of (by
 intro ρ h w args vals r e hA hH hr
 unfold Zlw at hr
 split at hr
 ·rename_i a0
  obtain ⟨rfl,rfl,hg2⟩:=BQi hr
  exact Zys a0 (hA.rng 0 rfl) hg2
 ·cases hr)
theorem Yeh (N:Nat) (a1:Int) (a0:Array Value):ansV PZ (mkΓ []) N f73 [] [.w 0,.i .i64 (a1)] [.row a0 37]=(bif decide (0<=(IntKind.u64.wrap a1)) then (some (.a (.b (((((((num a0 2)).fdiv (2^(min ((IntKind.u64.wrap a1)).toNat IntKind.u64.bits)))).tmod (2:Int))==(1:Int)))),.none,true))
  else (none)):=by kernel_rfl
def Zag (a1:Int) (a0:Array Value):Bool:=((((((num a0 2)).fdiv (2^(min ((IntKind.u64.wrap a1)).toNat IntKind.u64.bits)))).tmod (2:Int))==(1:Int))
theorem Ycc (a1:Int) (a0:Array Value) (h_a1:i64.min<=a1/\a1<=i64.max) (h_a0:WT PZ 37 a0) (hg:(decide (0<=(IntKind.u64.wrap a1)))=true):ansV PZ (mkΓ []) 1000 f73 [] [.w 0,.i .i64 (a1)] [.row a0 37]=some (.a (.b ((Zag a1 a0))),.none,true):=by
 refine (Yeh 1000 a1 a0).trans ?_
 unfold Zag
 revert hg
 generalize (decide (0<=(IntKind.u64.wrap a1)))=b2
 intro hg
 cases b2
 ·skip
  first | exact (nomatch (hg:false=true)) | (simp only [Q1,Q2,BQ6];done) | rfl
 ·skip
  first | (simp only [Q1,Q2,BQ6];done) | rfl | exact (nomatch (hg:false=true))
def Zfu:Con:=λ args h=>match args,h with
 | [.w 0,.i .i64 a1],[.row a0 37]=>some (.a (.b ((Zag a1 a0))),.none,decide (0<=(IntKind.u64.wrap a1)))
 | _,_=>none
theorem Zh3:EntX PZ 73:=Zah (fn:=f73)
theorem Zk4:Uac mn PZ 73 Zfu:=(ansY (N:=1000) mKn f73 []).of (by
 intro ρ h w args vals r e hA hH hr
 unfold Zfu at hr
 split at hr
 ·rename_i a1 a0
  obtain ⟨rfl,rfl,hg2⟩:=BQi hr
  exact Ycc a1 a0 (hA.rng 1 rfl) (hH.wt 0 rfl) hg2
 ·cases hr)
def Zw4:Cons:=(mkΓ [(72,con Zbt),(73,con Zfu)])
theorem Yed (N:Nat) (a1:Int) (a0:Array Value):ansV PZ Zw4 N f70 [] [.w 0,.i .i64 (a1)] [.row a0 37]=(bif (Zab a1 a0) then (bif decide (0<=(IntKind.u64.wrap a1)) then (some (.a (.b ((!((Zag a1 a0))))),.none,true))
   else (none))
  else (some (.a (.b (false)),.none,true))):=by kernel_rfl
def Zai (a1:Int) (a0:Array Value):Bool:=(bif (Zab a1 a0) then (!((Zag a1 a0))) else false)
def Zbj (a1:Int) (a0:Array Value):Bool:=(bif (Zab a1 a0) then decide (0<=(IntKind.u64.wrap a1)) else true)
theorem Ya3 (a1:Int) (a0:Array Value) (h_a1:i64.min<=a1/\a1<=i64.max) (h_a0:WT PZ 37 a0) (hg:((Zbj a1 a0))=true):ansV PZ Zw4 1000 f70 [] [.w 0,.i .i64 (a1)] [.row a0 37]=some (.a (.b ((Zai a1 a0))),.none,true):=by
 refine (Yed 1000 a1 a0).trans ?_
 unfold Zbj at hg
 unfold Zai
 revert hg
 generalize ((Zab a1 a0))=b2
 intro hg
 cases b2
 ·skip
  first | (simp only [Q1,Q2,BQ6];done) | rfl | exact (nomatch (hg:false=true))
 ·skip
  revert hg
  generalize (decide (0<=(IntKind.u64.wrap a1)))=b4
  intro hg
  cases b4
  ·skip
   first | exact (nomatch (hg:false=true)) | (simp only [Q1,Q2,BQ6];done) | rfl
  ·skip
   first | (simp only [Q1,Q2,BQ6];done) | rfl | exact (nomatch (hg:false=true))
def Zj3:Con:=λ args h=>match args,h with
 | [.w 0,.i .i64 a1],[.row a0 37]=>some (.a (.b ((Zai a1 a0))),.none,(Zbj a1 a0))
 | _,_=>none
theorem Zom:EntX PZ 70:=Zah (fn:=f70)
theorem Ztz:Uac mn PZ 70 Zj3:=(ansY (N:=1000) (mKc (Zae Zka) Zgq (mKc (Zae Zk4) Zh3 mKn)) f70 []).of (by
 intro ρ h w args vals r e hA hH hr
 unfold Zj3 at hr
 split at hr
 ·rename_i a1 a0
  obtain ⟨rfl,rfl,hg2⟩:=BQi hr
  exact Ya3 a1 a0 (hA.rng 1 rfl) (hH.wt 0 rfl) hg2
 ·cases hr)
theorem Zzs (N:Nat) (a0 a1:Array Value):ansV PZ (mkΓ []) N f100 [] [.g a0 37,.g a1 151] []=(bif decide ((num a1 0)>=(0:Int)) then (bif decide ((num a1 0)<(i64.wrap (num a0 0))) then (bif decide ((num a1 1)>=(0:Int)) then (some (.a (.b (decide ((num a1 1)<(i64.wrap (num a0 1))))),.none,true))
    else (some (.a (.b (false)),.none,true)))
   else (some (.a (.b (false)),.none,true)))
  else (some (.a (.b (false)),.none,true))):=by kernel_rfl
def Zao (a0 a1:Array Value):Bool:=(bif decide ((num a1 0)>=(0:Int)) then (bif decide ((num a1 0)<(i64.wrap (num a0 0))) then (bif decide ((num a1 1)>=(0:Int)) then decide ((num a1 1)<(i64.wrap (num a0 1))) else false) else false) else false)
theorem Zx4 (a0 a1:Array Value) (h_a0:WT PZ 37 a0) (h_a1:WT PZ 151 a1) (hg:(true)=true):ansV PZ (mkΓ []) 1000 f100 [] [.g a0 37,.g a1 151] []=some (.a (.b ((Zao a0 a1))),.none,true):=by
 refine (Zzs 1000 a0 a1).trans ?_
 unfold Zao
 revert hg
 generalize (decide ((num a1 0)>=(0:Int)))=b2
 intro hg
 cases b2
 ·skip
  first | (simp only [Q1,Q2,BQ6];done) | rfl | exact (nomatch (hg:false=true))
 ·skip
  revert hg
  generalize (decide ((num a1 0)<(i64.wrap (num a0 0))))=b4
  intro hg
  cases b4
  ·skip
   first | (simp only [Q1,Q2,BQ6];done) | rfl | exact (nomatch (hg:false=true))
  ·skip
   revert hg
   generalize (decide ((num a1 1)>=(0:Int)))=b6
   intro hg
   cases b6
   ·skip
    first | (simp only [Q1,Q2,BQ6];done) | rfl | exact (nomatch (hg:false=true))
   ·skip
    first | (simp only [Q1,Q2,BQ6];done) | rfl | exact (nomatch (hg:false=true))
def Zh4:Con:=λ args h=>match args,h with
 | [.g a0 37,.g a1 151],[]=>some (.a (.b ((Zao a0 a1))),.none,true)
 | _,_=>none
theorem Znn:EntX PZ 100:=Zah (fn:=f100)
theorem Zp1:Uac mn PZ 100 Zh4:=(ansY (N:=1000) mKn f100 []).of (by
 intro ρ h w args vals r e hA hH hr
 unfold Zh4 at hr
 split at hr
 ·rename_i a0 a1
  obtain ⟨rfl,rfl,hg2⟩:=BQi hr
  exact Zx4 a0 a1 (hA.wt 0 rfl) (hA.wt 1 rfl) hg2
 ·cases hr)
theorem Ya4 (N:Nat) (a0:Int):ansV PZ (mkΓ []) N f101 [] [.i .i64 (a0)] []=(some (.a (.g #[.int .i64 ((a0).tmod (6:Int)),.int .i64 (i64.wrap ((a0).tdiv (6:Int)))] 151),.none,true)):=by kernel_rfl
theorem Zyl (a0:Int) (h_a0:i64.min<=a0/\a0<=i64.max) (hg:(true)=true):ansV PZ (mkΓ []) 1000 f101 [] [.i .i64 (a0)] []=some (.a (.g #[.int .i64 ((a0).tmod (6:Int)),.int .i64 (i64.wrap ((a0).tdiv (6:Int)))] 151),.none,true):=by
 refine (Ya4 1000 a0).trans ?_
 rfl
def Ziv:Con:=λ args h=>match args,h with
 | [.i .i64 a0],[]=>some (.a (.g #[.int .i64 ((a0).tmod (6:Int)),.int .i64 (i64.wrap ((a0).tdiv (6:Int)))] 151),.none,true)
 | _,_=>none
theorem Znu:EntX PZ 101:=Zah (fn:=f101)
theorem Zr5:Uac mn PZ 101 Ziv:=(ansY (N:=1000) mKn f101 []).of (by
 intro ρ h w args vals r e hA hH hr
 unfold Ziv at hr
 split at hr
 ·rename_i a0
  obtain ⟨rfl,rfl,hg2⟩:=BQi hr
  exact Zyl a0 (hA.rng 0 rfl) hg2
 ·cases hr)
def Zt3:Cons:=(mkΓ [(100,con Zh4),(101,con Ziv)])
theorem Yaz (N:Nat) (a0:Array Value) (a1:Int):ansV PZ Zt3 N f81 [] [.g a0 37,.i .i64 (a1)] []=(bif decide (a1>=(0:Int)) then (bif decide (a1<(36:Int)) then (some (.a (.b ((Zao a0 (#[.int .i64 ((a1).tmod (6:Int)),.int .i64 (i64.wrap ((a1).tdiv (6:Int)))]:Array Value)))),.none,true))
   else (some (.a (.b (false)),.none,true)))
  else (some (.a (.b (false)),.none,true))):=by kernel_rfl
def Zal (a0:Array Value) (a1:Int):Bool:=(bif decide (a1>=(0:Int)) then (bif decide (a1<(36:Int)) then (Zao a0 (#[.int .i64 ((a1).tmod (6:Int)),.int .i64 (i64.wrap ((a1).tdiv (6:Int)))]:Array Value)) else false) else false)
theorem Zyn (a0:Array Value) (a1:Int) (h_a0:WT PZ 37 a0) (h_a1:i64.min<=a1/\a1<=i64.max) (hg:(true)=true):ansV PZ Zt3 1000 f81 [] [.g a0 37,.i .i64 (a1)] []=some (.a (.b ((Zal a0 a1))),.none,true):=by
 refine (Yaz 1000 a0 a1).trans ?_
 unfold Zal
 revert hg
 generalize (decide (a1>=(0:Int)))=b2
 intro hg
 cases b2
 ·skip
  first | (simp only [Q1,Q2,BQ6];done) | rfl | exact (nomatch (hg:false=true))
 ·skip
  revert hg
  generalize (decide (a1<(36:Int)))=b4
  intro hg
  cases b4
  ·skip
   first | (simp only [Q1,Q2,BQ6];done) | rfl | exact (nomatch (hg:false=true))
  ·skip
   first | (simp only [Q1,Q2,BQ6];done) | rfl | exact (nomatch (hg:false=true))
def Zgd:Con:=λ args h=>match args,h with
 | [.g a0 37,.i .i64 a1],[]=>some (.a (.b ((Zal a0 a1))),.none,true)
 | _,_=>none
theorem Zdj:EntX PZ 81:=Zah (fn:=f81)
theorem Zfk:Uac mn PZ 81 Zgd:=(ansY (N:=1000) (mKc (Zae Zp1) Znn (mKc (Zae Zr5) Znu mKn)) f81 []).of (by
 intro ρ h w args vals r e hA hH hr
 unfold Zgd at hr
 split at hr
 ·rename_i a0 a1
  obtain ⟨rfl,rfl,hg2⟩:=BQi hr
  exact Zyn a0 a1 (hA.wt 0 rfl) (hA.rng 1 rfl) hg2
 ·cases hr)
theorem Yfg (N:Nat) (a0:Int):ansV PZ (mkΓ []) N f102 [] [.i .i64 (a0)] []=(bif decide (0<=a0) then (some (.a (.i .u64 (IntKind.u64.wrap ((1:Int)*2^(min (a0).toNat IntKind.u64.bits)))),.none,true))
  else (none)):=by kernel_rfl
def Zd1 (a0:Int):Int:=(IntKind.u64.wrap ((1:Int)*2^(min (a0).toNat IntKind.u64.bits)))
theorem Yei (a0:Int) (h_a0:i64.min<=a0/\a0<=i64.max) (hg:(decide (0<=a0))=true):ansV PZ (mkΓ []) 1000 f102 [] [.i .i64 (a0)] []=some (.a (.i .u64 (Zd1 a0)),.none,true):=by
 refine (Yfg 1000 a0).trans ?_
 unfold Zd1
 revert hg
 generalize (decide (0<=a0))=b2
 intro hg
 cases b2
 ·skip
  first | exact (nomatch (hg:false=true)) | (simp only [Q1,Q2,BQ6];done) | rfl
 ·skip
  first | (simp only [Q1,Q2,BQ6];done) | rfl | exact (nomatch (hg:false=true))
def Ziq:Con:=λ args h=>match args,h with
 | [.i .i64 a0],[]=>some (.a (.i .u64 (Zd1 a0)),.none,decide (0<=a0))
 | _,_=>none
theorem Zp0:EntX PZ 102:=Zah (fn:=f102)
theorem Zxr:Uac mn PZ 102 Ziq:=(ansY (N:=1000) mKn f102 []).of (by
 intro ρ h w args vals r e hA hH hr
 unfold Ziq at hr
 split at hr
 ·rename_i a0
  obtain ⟨rfl,rfl,hg2⟩:=BQi hr
  exact Yei a0 (hA.rng 0 rfl) hg2
 ·cases hr)
theorem Ye8 (N:Nat) (a0:Array Value) (a1:Int):ansV PZ (mkΓ [(102,con Ziq)]) N f83 [] [.g a0 37,.i .i64 (a1)] []=(bif decide (0<=a1) then (some (.a (.b (((IntKind.u64.wrap (BitVec.ofInt IntKind.u64.bits (num a0 2) &&& BitVec.ofInt IntKind.u64.bits (Zd1 a1)).toNat) != (0:Int)))),.none,true))
  else (none)):=by kernel_rfl
def Zac (a0:Array Value) (a1:Int):Bool:=((IntKind.u64.wrap (BitVec.ofInt IntKind.u64.bits (num a0 2) &&& BitVec.ofInt IntKind.u64.bits (Zd1 a1)).toNat) != (0:Int))
theorem Ya1 (a0:Array Value) (a1:Int) (h_a0:WT PZ 37 a0) (h_a1:i64.min<=a1/\a1<=i64.max) (hg:(decide (0<=a1))=true):ansV PZ (mkΓ [(102,con Ziq)]) 1000 f83 [] [.g a0 37,.i .i64 (a1)] []=some (.a (.b ((Zac a0 a1))),.none,true):=by
 refine (Ye8 1000 a0 a1).trans ?_
 unfold Zac
 revert hg
 generalize (decide (0<=a1))=b2
 intro hg
 cases b2
 ·skip
  first | exact (nomatch (hg:false=true)) | (simp only [Q1,Q2,BQ6];done) | rfl
 ·skip
  first | (simp only [Q1,Q2,BQ6];done) | rfl | exact (nomatch (hg:false=true))
def Zbd:Con:=λ args h=>match args,h with
 | [.g a0 37,.i .i64 a1],[]=>some (.a (.b ((Zac a0 a1))),.none,decide (0<=a1))
 | _,_=>none
theorem Zcd:EntX PZ 83:=Zah (fn:=f83)
theorem Zd5:Uac mn PZ 83 Zbd:=(ansY (N:=1000) (mKc (Zae Zxr) Zp0 mKn) f83 []).of (by
 intro ρ h w args vals r e hA hH hr
 unfold Zbd at hr
 split at hr
 ·rename_i a0 a1
  obtain ⟨rfl,rfl,hg2⟩:=BQi hr
  exact Ya1 a0 a1 (hA.wt 0 rfl) (hA.rng 1 rfl) hg2
 ·cases hr)
theorem Yca (N:Nat) (a0:Array Value) (a1:Int):ansV PZ (mkΓ [(83,con Zbd)]) N f94 [] [.g a0 37,.i .i64 (a1)] []=(bif decide (0<=a1) then (some (.a (.b ((!((Zac a0 a1))))),.none,true))
  else (none)):=by kernel_rfl
def Zad (a0:Array Value) (a1:Int):Bool:=(!((Zac a0 a1)))
theorem Zzi (a0:Array Value) (a1:Int) (h_a0:WT PZ 37 a0) (h_a1:i64.min<=a1/\a1<=i64.max) (hg:(decide (0<=a1))=true):ansV PZ (mkΓ [(83,con Zbd)]) 1000 f94 [] [.g a0 37,.i .i64 (a1)] []=some (.a (.b ((Zad a0 a1))),.none,true):=by
 refine (Yca 1000 a0 a1).trans ?_
 unfold Zad
 revert hg
 generalize (decide (0<=a1))=b2
 intro hg
 cases b2
 ·skip
  first | exact (nomatch (hg:false=true)) | (simp only [Q1,Q2,BQ6];done) | rfl
 ·skip
  first | (simp only [Q1,Q2,BQ6];done) | rfl | exact (nomatch (hg:false=true))
def Zew:Con:=λ args h=>match args,h with
 | [.g a0 37,.i .i64 a1],[]=>some (.a (.b ((Zad a0 a1))),.none,decide (0<=a1))
 | _,_=>none
theorem Zha:EntX PZ 94:=Zah (fn:=f94)
theorem Zji:Uac mn PZ 94 Zew:=(ansY (N:=1000) (mKc (Zae Zd5) Zcd mKn) f94 []).of (by
 intro ρ h w args vals r e hA hH hr
 unfold Zew at hr
 split at hr
 ·rename_i a0 a1
  obtain ⟨rfl,rfl,hg2⟩:=BQi hr
  exact Zzi a0 a1 (hA.wt 0 rfl) (hA.rng 1 rfl) hg2
 ·cases hr)
theorem Ybo (N:Nat) (a0:Int):ansV PZ (mkΓ []) N f82 [] [.i .i64 (a0)] []=(bif (a0==(0:Int)) then (some (.a (.b (true)),.none,true))
  else (some (.a (.b ((a0==(1:Int)))),.none,true))):=by kernel_rfl
def Zcq (a0:Int):Bool:=(bif (a0==(0:Int)) then true else (a0==(1:Int)))
theorem Zyw (a0:Int) (h_a0:i64.min<=a0/\a0<=i64.max) (hg:(true)=true):ansV PZ (mkΓ []) 1000 f82 [] [.i .i64 (a0)] []=some (.a (.b ((Zcq a0))),.none,true):=by
 refine (Ybo 1000 a0).trans ?_
 unfold Zcq
 revert hg
 generalize ((a0==(0:Int)))=b2
 intro hg
 cases b2
 ·skip
  first | (simp only [Q1,Q2,BQ6];done) | rfl | exact (nomatch (hg:false=true))
 ·skip
  first | (simp only [Q1,Q2,BQ6];done) | rfl | exact (nomatch (hg:false=true))
def Zls:Con:=λ args h=>match args,h with
 | [.i .i64 a0],[]=>some (.a (.b ((Zcq a0))),.none,true)
 | _,_=>none
theorem Zg9:EntX PZ 82:=Zah (fn:=f82)
theorem Zjn:Uac mn PZ 82 Zls:=(ansY (N:=1000) mKn f82 []).of (by
 intro ρ h w args vals r e hA hH hr
 unfold Zls at hr
 split at hr
 ·rename_i a0
  obtain ⟨rfl,rfl,hg2⟩:=BQi hr
  exact Zyw a0 (hA.rng 0 rfl) hg2
 ·cases hr)
theorem Ye7 (N:Nat) (a0:Array Value):ansV PZ (mkΓ []) N f119 [] [.g a0 151] []=(some (.a (.i .i64 (i64.wrap ((num a0 0)+(i64.wrap ((6:Int)*(num a0 1)))))),.none,true)):=by kernel_rfl
theorem Yb7 (a0:Array Value) (h_a0:WT PZ 151 a0) (hg:(true)=true):ansV PZ (mkΓ []) 1000 f119 [] [.g a0 151] []=some (.a (.i .i64 (i64.wrap ((num a0 0)+(i64.wrap ((6:Int)*(num a0 1)))))),.none,true):=by
 refine (Ye7 1000 a0).trans ?_
 rfl
def Zju:Con:=λ args h=>match args,h with
 | [.g a0 151],[]=>some (.a (.i .i64 (i64.wrap ((num a0 0)+(i64.wrap ((6:Int)*(num a0 1)))))),.none,true)
 | _,_=>none
theorem Zoo:EntX PZ 119:=Zah (fn:=f119)
theorem Zt1:Uac mn PZ 119 Zju:=(ansY (N:=1000) mKn f119 []).of (by
 intro ρ h w args vals r e hA hH hr
 unfold Zju at hr
 split at hr
 ·rename_i a0
  obtain ⟨rfl,rfl,hg2⟩:=BQi hr
  exact Yb7 a0 (hA.wt 0 rfl) hg2
 ·cases hr)
end
end Go.Proofs.YtdfefaanfiheoaaGreatDoor
