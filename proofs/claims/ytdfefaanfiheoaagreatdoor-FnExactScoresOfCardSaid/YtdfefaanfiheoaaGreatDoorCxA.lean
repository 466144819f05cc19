/- Places, tides, land and water, in company. -/
import Derived.Test.YtdfefaanfiheoaaGreatDoorProg
import Derived.Test.YtdfefaanfiheoaaGreatDoorVcE
set_option linter.unusedVariables false
set_option linter.unusedSimpArgs false
namespace Go.Proofs.YtdfefaanfiheoaaGreatDoor
open Tryz (f47 f70 f72 f73 f75 f81 f82 f83 f94 f100 f101 f102 f119)
open Go.ChangeShapes Go.WideShapes Go.ChangeAt Go.RowKit Ve Vc
open Tryz renaming prog -> PZ
open IntKind (i64)
set_option maxRecDepth 100000
noncomputable section
abbrev SlT(e n:Nat)(A:Array Value):Prop:=A.size=n*(lay PZ e).length/\(∀k,k<n->WT PZ e (A.extract (k*(lay PZ e).length) (k*(lay PZ e).length+(lay PZ e).length)))/\n<=9223372036854775807
variable {mn:Md}
theorem Ygu(N:Nat)(a0 a1 a2:Int):ansV PZ (mkΓ []) N f47 [] [.i .i64 (a0),.i .i64 (a1),.i .i64 (a2)] []=(bif decide (a0>=a1) then (some (.a (.b (decide (a0<=a2))),.none,true))
  else (some (.a (.b (false)),.none,true))):=by kernel_rfl
def Zaa(a0 a1 a2:Int):Bool:=(bif decide (a0>=a1) then decide (a0<=a2) else false)
theorem Yek(a0 a1 a2:Int)(h_a0:i64.min<=a0/\a0<=i64.max)(h_a1:i64.min<=a1/\a1<=i64.max)(h_a2:i64.min<=a2/\a2<=i64.max)(hg:(true)=true):ansV PZ (mkΓ []) 1000 f47 [] [.i .i64 (a0),.i .i64 (a1),.i .i64 (a2)] []=some (.a (.b ((Zaa a0 a1 a2))),.none,true):=by
 refine(Ygu 1000 a0 a1 a2).trans ?_;unfold Zaa;revert hg;generalize (decide (a0>=a1))=b2;intro hg;cases b2
 ·skip
  first | (simp only[Q1,Q2,BQ6];done)|rfl|exact(nomatch (hg:false=true))
 ·skip
  first | (simp only[Q1,Q2,BQ6];done)|rfl|exact(nomatch (hg:false=true))
def Zb4:Con:=λargs h=>match args,h with
 |[.i .i64 a0,.i .i64 a1,.i .i64 a2],[]=>some (.a (.b ((Zaa a0 a1 a2))),.none,true)
 |_,_=>none
theorem Zgx:EntX PZ 47:=Zah (fn:=f47)
theorem Zkw:Uac mn PZ 47 Zb4:=(ansY (N:=1000) mKn f47 []).of (by
 intro ρ h w args vals r e hA hH hr;unfold Zb4 at hr;split at hr
 ·rename_i a0 a1 a2
  obtain⟨rfl,rfl,hg2⟩:=BQi hr;exact Yek a0 a1 a2 (hA.rng 0 rfl) (hA.rng 1 rfl) (hA.rng 2 rfl) hg2
 ·cases hr)
theorem Yf8(N:Nat)(a1:Int)(a0:Array Value):ansV PZ (mkΓ [(47,con Zb4)]) N f72 [] [.w 0,.i .i64 (a1)] [.row a0 37]=(bif (Zaa a1 (0:Int) (35:Int)) then (bif decide (((a1).tmod (6:Int))<(i64.wrap (num a0 0))) then (some (.a (.b (decide ((i64.wrap ((a1).tdiv (6:Int)))<(i64.wrap (num a0 1))))),.none,true))
   else (some (.a (.b (false)),.none,true)))
  else (some (.a (.b (false)),.none,true))):=by kernel_rfl
def Zab(a1:Int)(a0:Array Value):Bool:=(bif (Zaa a1 (0:Int) (35:Int)) then (bif decide (((a1).tmod (6:Int))<(i64.wrap (num a0 0))) then decide ((i64.wrap ((a1).tdiv (6:Int)))<(i64.wrap (num a0 1))) else false) else false)
theorem Yec(a1:Int)(a0:Array Value)(h_a1:i64.min<=a1/\a1<=i64.max)(h_a0:WT PZ 37 a0)(hg:(true)=true):ansV PZ (mkΓ [(47,con Zb4)]) 1000 f72 [] [.w 0,.i .i64 (a1)] [.row a0 37]=some (.a (.b ((Zab a1 a0))),.none,true):=by
 refine(Yf8 1000 a1 a0).trans ?_;unfold Zab;revert hg;generalize ((Zaa a1 (0:Int) (35:Int)))=b2;intro hg;cases b2
 ·skip
  first | (simp only[Q1,Q2,BQ6];done)|rfl|exact(nomatch (hg:false=true))
 ·skip
  revert hg;generalize (decide (((a1).tmod (6:Int))<(i64.wrap (num a0 0))))=b4;intro hg;cases b4
  ·skip
   first | (simp only[Q1,Q2,BQ6];done)|rfl|exact(nomatch (hg:false=true))
  ·skip
   first | (simp only[Q1,Q2,BQ6];done)|rfl|exact(nomatch (hg:false=true))
def Zbo:Con:=λargs h=>match args,h with
 |[.w 0,.i .i64 a1],[.row a0 37]=>some (.a (.b ((Zab a1 a0))),.none,true)
 |_,_=>none
theorem Zgt:EntX PZ 72:=Zah (fn:=f72)
theorem Zkl:Uac mn PZ 72 Zbo:=(ansY (N:=1000) (mKc (Zae Zkw) Zgx mKn) f72 []).of (by
 intro ρ h w args vals r e hA hH hr;unfold Zbo at hr;split at hr
 ·rename_i a1 a0
  obtain⟨rfl,rfl,hg2⟩:=BQi hr;exact Yec a1 a0 (hA.rng 1 rfl) (hH.wt 0 rfl) hg2
 ·cases hr)
theorem Yco(N:Nat)(a0:Int):ansV PZ (mkΓ [(47,con Zb4)]) N f75 [] [.i .i64 (a0)] []=(some (.a (.b ((Zaa a0 (0:Int) (1:Int)))),.none,true)):=by kernel_rfl
theorem Zy9(a0:Int)(h_a0:i64.min<=a0/\a0<=i64.max)(hg:(true)=true):ansV PZ (mkΓ [(47,con Zb4)]) 1000 f75 [] [.i .i64 (a0)] []=some (.a (.b ((Zaa a0 (0:Int) (1:Int)))),.none,true):=by refine(Yco 1000 a0).trans ?_;rfl
def Zmj:Con:=λargs h=>match args,h with
 |[.i .i64 a0],[]=>some (.a (.b ((Zaa a0 (0:Int) (1:Int)))),.none,true)
 |_,_=>none
theorem Zx7:EntX PZ 75:=Zah (fn:=f75)
theorem Yfd:Uac mn PZ 75 Zmj:=(ansY (N:=1000) (mKc (Zae Zkw) Zgx mKn) f75 []).of (by
 intro ρ h w args vals r e hA hH hr;unfold Zmj at hr;split at hr
 ·rename_i a0
  obtain⟨rfl,rfl,hg2⟩:=BQi hr;exact Zy9 a0 (hA.rng 0 rfl) hg2
 ·cases hr)
theorem Ydo(N:Nat)(a1:Int)(a0:Array Value):ansV PZ (mkΓ []) N f73 [] [.w 0,.i .i64 (a1)] [.row a0 37]=(bif decide (0<=(IntKind.u64.wrap a1)) then (some (.a (.b (((((((num a0 2)).fdiv (2^(min ((IntKind.u64.wrap a1)).toNat IntKind.u64.bits)))).tmod (2:Int))==(1:Int)))),.none,true))
  else (none)):=by kernel_rfl
def Zag(a1:Int)(a0:Array Value):Bool:=((((((num a0 2)).fdiv (2^(min ((IntKind.u64.wrap a1)).toNat IntKind.u64.bits)))).tmod (2:Int))==(1:Int))
theorem Ycb(a1:Int)(a0:Array Value)(h_a1:i64.min<=a1/\a1<=i64.max)(h_a0:WT PZ 37 a0)(hg:(decide (0<=(IntKind.u64.wrap a1)))=true):ansV PZ (mkΓ []) 1000 f73 [] [.w 0,.i .i64 (a1)] [.row a0 37]=some (.a (.b ((Zag a1 a0))),.none,true):=by
 refine(Ydo 1000 a1 a0).trans ?_;unfold Zag;revert hg;generalize (decide (0<=(IntKind.u64.wrap a1)))=b2;intro hg;cases b2
 ·skip
  first|exact(nomatch (hg:false=true)) | (simp only[Q1,Q2,BQ6];done)|rfl
 ·skip
  first | (simp only[Q1,Q2,BQ6];done)|rfl|exact(nomatch (hg:false=true))
def Zga:Con:=λargs h=>match args,h with
 |[.w 0,.i .i64 a1],[.row a0 37]=>some (.a (.b ((Zag a1 a0))),.none,decide (0<=(IntKind.u64.wrap a1)))
 |_,_=>none
theorem Zh5:EntX PZ 73:=Zah (fn:=f73)
theorem Zlv:Uac mn PZ 73 Zga:=(ansY (N:=1000) mKn f73 []).of (by
 intro ρ h w args vals r e hA hH hr;unfold Zga at hr;split at hr
 ·rename_i a1 a0
  obtain⟨rfl,rfl,hg2⟩:=BQi hr;exact Ycb a1 a0 (hA.rng 1 rfl) (hH.wt 0 rfl) hg2
 ·cases hr)
def Zv9:Cons:=(mkΓ [(72,con Zbo),(73,con Zga)])
theorem Ydw(N:Nat)(a1:Int)(a0:Array Value):ansV PZ Zv9 N f70 [] [.w 0,.i .i64 (a1)] [.row a0 37]=(bif (Zab a1 a0) then (bif decide (0<=(IntKind.u64.wrap a1)) then (some (.a (.b ((!((Zag a1 a0))))),.none,true))
   else (none))
  else (some (.a (.b (false)),.none,true))):=by kernel_rfl
def Zai(a1:Int)(a0:Array Value):Bool:=(bif (Zab a1 a0) then (!((Zag a1 a0))) else false)
def Zbi(a1:Int)(a0:Array Value):Bool:=(bif (Zab a1 a0) then decide (0<=(IntKind.u64.wrap a1)) else true)
theorem Ybp(a1:Int)(a0:Array Value)(h_a1:i64.min<=a1/\a1<=i64.max)(h_a0:WT PZ 37 a0)(hg:((Zbi a1 a0))=true):ansV PZ Zv9 1000 f70 [] [.w 0,.i .i64 (a1)] [.row a0 37]=some (.a (.b ((Zai a1 a0))),.none,true):=by
 refine(Ydw 1000 a1 a0).trans ?_;unfold Zbi at hg;unfold Zai;revert hg;generalize ((Zab a1 a0))=b2;intro hg;cases b2
 ·skip
  first | (simp only[Q1,Q2,BQ6];done)|rfl|exact(nomatch (hg:false=true))
 ·skip
  revert hg;generalize (decide (0<=(IntKind.u64.wrap a1)))=b4;intro hg;cases b4
  ·skip
   first|exact(nomatch (hg:false=true)) | (simp only[Q1,Q2,BQ6];done)|rfl
  ·skip
   first | (simp only[Q1,Q2,BQ6];done)|rfl|exact(nomatch (hg:false=true))
def Zj9:Con:=λargs h=>match args,h with
 |[.w 0,.i .i64 a1],[.row a0 37]=>some (.a (.b ((Zai a1 a0))),.none,(Zbi a1 a0))
 |_,_=>none
theorem Zpa:EntX PZ 70:=Zah (fn:=f70)
theorem Zum:Uac mn PZ 70 Zj9:=(ansY (N:=1000) (mKc (Zae Zkl) Zgt (mKc (Zae Zlv) Zh5 mKn)) f70 []).of (by
 intro ρ h w args vals r e hA hH hr;unfold Zj9 at hr;split at hr
 ·rename_i a1 a0
  obtain⟨rfl,rfl,hg2⟩:=BQi hr;exact Ybp a1 a0 (hA.rng 1 rfl) (hH.wt 0 rfl) hg2
 ·cases hr)
theorem Yad(N:Nat)(a0 a1:Array Value):ansV PZ (mkΓ []) N f100 [] [.g a0 37,.g a1 151] []=(bif decide ((num a1 0)>=(0:Int)) then (bif decide ((num a1 0)<(i64.wrap (num a0 0))) then (bif decide ((num a1 1)>=(0:Int)) then (some (.a (.b (decide ((num a1 1)<(i64.wrap (num a0 1))))),.none,true))
    else (some (.a (.b (false)),.none,true)))
   else (some (.a (.b (false)),.none,true)))
  else (some (.a (.b (false)),.none,true))):=by kernel_rfl
def Zat(a0 a1:Array Value):Bool:=(bif decide ((num a1 0)>=(0:Int)) then (bif decide ((num a1 0)<(i64.wrap (num a0 0))) then (bif decide ((num a1 1)>=(0:Int)) then decide ((num a1 1)<(i64.wrap (num a0 1))) else false) else false) else false)
theorem Zv3(a0 a1:Array Value)(h_a0:WT PZ 37 a0)(h_a1:WT PZ 151 a1)(hg:(true)=true):ansV PZ (mkΓ []) 1000 f100 [] [.g a0 37,.g a1 151] []=some (.a (.b ((Zat a0 a1))),.none,true):=by
 refine(Yad 1000 a0 a1).trans ?_;unfold Zat;revert hg;generalize (decide ((num a1 0)>=(0:Int)))=b2;intro hg;cases b2
 ·skip
  first | (simp only[Q1,Q2,BQ6];done)|rfl|exact(nomatch (hg:false=true))
 ·skip
  revert hg;generalize (decide ((num a1 0)<(i64.wrap (num a0 0))))=b4;intro hg;cases b4
  ·skip
   first | (simp only[Q1,Q2,BQ6];done)|rfl|exact(nomatch (hg:false=true))
  ·skip
   revert hg;generalize (decide ((num a1 1)>=(0:Int)))=b6;intro hg;cases b6
   ·skip
    first | (simp only[Q1,Q2,BQ6];done)|rfl|exact(nomatch (hg:false=true))
   ·skip
    first | (simp only[Q1,Q2,BQ6];done)|rfl|exact(nomatch (hg:false=true))
def Zie:Con:=λargs h=>match args,h with
 |[.g a0 37,.g a1 151],[]=>some (.a (.b ((Zat a0 a1))),.none,true)
 |_,_=>none
theorem Znz:EntX PZ 100:=Zah (fn:=f100)
theorem Zqd:Uac mn PZ 100 Zie:=(ansY (N:=1000) mKn f100 []).of (by
 intro ρ h w args vals r e hA hH hr;unfold Zie at hr;split at hr
 ·rename_i a0 a1
  obtain⟨rfl,rfl,hg2⟩:=BQi hr;exact Zv3 a0 a1 (hA.wt 0 rfl) (hA.wt 1 rfl) hg2
 ·cases hr)
theorem Ycr(N:Nat)(a0:Int):ansV PZ (mkΓ []) N f101 [] [.i .i64 (a0)] []=(some (.a (.g #[.int .i64 ((a0).tmod (6:Int)),.int .i64 (i64.wrap ((a0).tdiv (6:Int)))] 151),.none,true)):=by kernel_rfl
theorem Zz1(a0:Int)(h_a0:i64.min<=a0/\a0<=i64.max)(hg:(true)=true):ansV PZ (mkΓ []) 1000 f101 [] [.i .i64 (a0)] []=some (.a (.g #[.int .i64 ((a0).tmod (6:Int)),.int .i64 (i64.wrap ((a0).tdiv (6:Int)))] 151),.none,true):=by refine(Ycr 1000 a0).trans ?_;rfl
def Zi9:Con:=λargs h=>match args,h with
 |[.i .i64 a0],[]=>some (.a (.g #[.int .i64 ((a0).tmod (6:Int)),.int .i64 (i64.wrap ((a0).tdiv (6:Int)))] 151),.none,true)
 |_,_=>none
theorem Zn6:EntX PZ 101:=Zah (fn:=f101)
theorem Zsi:Uac mn PZ 101 Zi9:=(ansY (N:=1000) mKn f101 []).of (by
 intro ρ h w args vals r e hA hH hr;unfold Zi9 at hr;split at hr
 ·rename_i a0
  obtain⟨rfl,rfl,hg2⟩:=BQi hr;exact Zz1 a0 (hA.rng 0 rfl) hg2
 ·cases hr)
def Zuo:Cons:=(mkΓ [(100,con Zie),(101,con Zi9)])
theorem Ycs(N:Nat)(a0:Array Value)(a1:Int):ansV PZ Zuo N f81 [] [.g a0 37,.i .i64 (a1)] []=(bif decide (a1>=(0:Int)) then (bif decide (a1<(36:Int)) then (some (.a (.b ((Zat a0 (#[.int .i64 ((a1).tmod (6:Int)),.int .i64 (i64.wrap ((a1).tdiv (6:Int)))]:Array Value)))),.none,true))
   else (some (.a (.b (false)),.none,true)))
  else (some (.a (.b (false)),.none,true))):=by kernel_rfl
def Zal(a0:Array Value)(a1:Int):Bool:=(bif decide (a1>=(0:Int)) then (bif decide (a1<(36:Int)) then (Zat a0 (#[.int .i64 ((a1).tmod (6:Int)),.int .i64 (i64.wrap ((a1).tdiv (6:Int)))]:Array Value)) else false) else false)
theorem Zzc(a0:Array Value)(a1:Int)(h_a0:WT PZ 37 a0)(h_a1:i64.min<=a1/\a1<=i64.max)(hg:(true)=true):ansV PZ Zuo 1000 f81 [] [.g a0 37,.i .i64 (a1)] []=some (.a (.b ((Zal a0 a1))),.none,true):=by
 refine(Ycs 1000 a0 a1).trans ?_;unfold Zal;revert hg;generalize (decide (a1>=(0:Int)))=b2;intro hg;cases b2
 ·skip
  first | (simp only[Q1,Q2,BQ6];done)|rfl|exact(nomatch (hg:false=true))
 ·skip
  revert hg;generalize (decide (a1<(36:Int)))=b4;intro hg;cases b4
  ·skip
   first | (simp only[Q1,Q2,BQ6];done)|rfl|exact(nomatch (hg:false=true))
  ·skip
   first | (simp only[Q1,Q2,BQ6];done)|rfl|exact(nomatch (hg:false=true))
def Zg0:Con:=λargs h=>match args,h with
 |[.g a0 37,.i .i64 a1],[]=>some (.a (.b ((Zal a0 a1))),.none,true)
 |_,_=>none
theorem Zdp:EntX PZ 81:=Zah (fn:=f81)
theorem Zf5:Uac mn PZ 81 Zg0:=(ansY (N:=1000) (mKc (Zae Zqd) Znz (mKc (Zae Zsi) Zn6 mKn)) f81 []).of (by
 intro ρ h w args vals r e hA hH hr;unfold Zg0 at hr;split at hr
 ·rename_i a0 a1
  obtain⟨rfl,rfl,hg2⟩:=BQi hr;exact Zzc a0 a1 (hA.wt 0 rfl) (hA.rng 1 rfl) hg2
 ·cases hr)
theorem Yga(N:Nat)(a0:Int):ansV PZ (mkΓ []) N f102 [] [.i .i64 (a0)] []=(bif decide (0<=a0) then (some (.a (.i .u64 (IntKind.u64.wrap ((1:Int)*2^(min (a0).toNat IntKind.u64.bits)))),.none,true))
  else (none)):=by kernel_rfl
def Zd7(a0:Int):Int:=(IntKind.u64.wrap ((1:Int)*2^(min (a0).toNat IntKind.u64.bits)))
theorem Ye5(a0:Int)(h_a0:i64.min<=a0/\a0<=i64.max)(hg:(decide (0<=a0))=true):ansV PZ (mkΓ []) 1000 f102 [] [.i .i64 (a0)] []=some (.a (.i .u64 (Zd7 a0)),.none,true):=by
 refine(Yga 1000 a0).trans ?_;unfold Zd7;revert hg;generalize (decide (0<=a0))=b2;intro hg;cases b2
 ·skip
  first|exact(nomatch (hg:false=true)) | (simp only[Q1,Q2,BQ6];done)|rfl
 ·skip
  first | (simp only[Q1,Q2,BQ6];done)|rfl|exact(nomatch (hg:false=true))
def Zi7:Con:=λargs h=>match args,h with
 |[.i .i64 a0],[]=>some (.a (.i .u64 (Zd7 a0)),.none,decide (0<=a0))
 |_,_=>none
theorem Zqc:EntX PZ 102:=Zah (fn:=f102)
theorem Zwe:Uac mn PZ 102 Zi7:=(ansY (N:=1000) mKn f102 []).of (by
 intro ρ h w args vals r e hA hH hr;unfold Zi7 at hr;split at hr
 ·rename_i a0
  obtain⟨rfl,rfl,hg2⟩:=BQi hr;exact Ye5 a0 (hA.rng 0 rfl) hg2
 ·cases hr)
theorem Yd8(N:Nat)(a0:Array Value)(a1:Int):ansV PZ (mkΓ [(102,con Zi7)]) N f83 [] [.g a0 37,.i .i64 (a1)] []=(bif decide (0<=a1) then (some (.a (.b (((IntKind.u64.wrap (BitVec.ofInt IntKind.u64.bits (num a0 2) &&& BitVec.ofInt IntKind.u64.bits (Zd7 a1)).toNat) != (0:Int)))),.none,true))
  else (none)):=by kernel_rfl
def Zac(a0:Array Value)(a1:Int):Bool:=((IntKind.u64.wrap (BitVec.ofInt IntKind.u64.bits (num a0 2) &&& BitVec.ofInt IntKind.u64.bits (Zd7 a1)).toNat) != (0:Int))
theorem Ycg(a0:Array Value)(a1:Int)(h_a0:WT PZ 37 a0)(h_a1:i64.min<=a1/\a1<=i64.max)(hg:(decide (0<=a1))=true):ansV PZ (mkΓ [(102,con Zi7)]) 1000 f83 [] [.g a0 37,.i .i64 (a1)] []=some (.a (.b ((Zac a0 a1))),.none,true):=by
 refine(Yd8 1000 a0 a1).trans ?_;unfold Zac;revert hg;generalize (decide (0<=a1))=b2;intro hg;cases b2
 ·skip
  first|exact(nomatch (hg:false=true)) | (simp only[Q1,Q2,BQ6];done)|rfl
 ·skip
  first | (simp only[Q1,Q2,BQ6];done)|rfl|exact(nomatch (hg:false=true))
def Zbd:Con:=λargs h=>match args,h with
 |[.g a0 37,.i .i64 a1],[]=>some (.a (.b ((Zac a0 a1))),.none,decide (0<=a1))
 |_,_=>none
theorem Zcf:EntX PZ 83:=Zah (fn:=f83)
theorem Zec:Uac mn PZ 83 Zbd:=(ansY (N:=1000) (mKc (Zae Zwe) Zqc mKn) f83 []).of (by
 intro ρ h w args vals r e hA hH hr;unfold Zbd at hr;split at hr
 ·rename_i a0 a1
  obtain⟨rfl,rfl,hg2⟩:=BQi hr;exact Ycg a0 a1 (hA.wt 0 rfl) (hA.rng 1 rfl) hg2
 ·cases hr)
theorem Ycj(N:Nat)(a0:Array Value)(a1:Int):ansV PZ (mkΓ [(83,con Zbd)]) N f94 [] [.g a0 37,.i .i64 (a1)] []=(bif decide (0<=a1) then (some (.a (.b ((!((Zac a0 a1))))),.none,true))
  else (none)):=by kernel_rfl
def Zad(a0:Array Value)(a1:Int):Bool:=(!((Zac a0 a1)))
theorem Zz9(a0:Array Value)(a1:Int)(h_a0:WT PZ 37 a0)(h_a1:i64.min<=a1/\a1<=i64.max)(hg:(decide (0<=a1))=true):ansV PZ (mkΓ [(83,con Zbd)]) 1000 f94 [] [.g a0 37,.i .i64 (a1)] []=some (.a (.b ((Zad a0 a1))),.none,true):=by
 refine(Ycj 1000 a0 a1).trans ?_;unfold Zad;revert hg;generalize (decide (0<=a1))=b2;intro hg;cases b2
 ·skip
  first|exact(nomatch (hg:false=true)) | (simp only[Q1,Q2,BQ6];done)|rfl
 ·skip
  first | (simp only[Q1,Q2,BQ6];done)|rfl|exact(nomatch (hg:false=true))
def Zex:Con:=λargs h=>match args,h with
 |[.g a0 37,.i .i64 a1],[]=>some (.a (.b ((Zad a0 a1))),.none,decide (0<=a1))
 |_,_=>none
theorem Zhj:EntX PZ 94:=Zah (fn:=f94)
theorem Zj2:Uac mn PZ 94 Zex:=(ansY (N:=1000) (mKc (Zae Zec) Zcf mKn) f94 []).of (by
 intro ρ h w args vals r e hA hH hr;unfold Zex at hr;split at hr
 ·rename_i a0 a1
  obtain⟨rfl,rfl,hg2⟩:=BQi hr;exact Zz9 a0 a1 (hA.wt 0 rfl) (hA.rng 1 rfl) hg2
 ·cases hr)
theorem Ycf(N:Nat)(a0:Int):ansV PZ (mkΓ []) N f82 [] [.i .i64 (a0)] []=(bif (a0==(0:Int)) then (some (.a (.b (true)),.none,true))
  else (some (.a (.b ((a0==(1:Int)))),.none,true))):=by kernel_rfl
def Zci(a0:Int):Bool:=(bif (a0==(0:Int)) then true else (a0==(1:Int)))
theorem Zzj(a0:Int)(h_a0:i64.min<=a0/\a0<=i64.max)(hg:(true)=true):ansV PZ (mkΓ []) 1000 f82 [] [.i .i64 (a0)] []=some (.a (.b ((Zci a0))),.none,true):=by
 refine(Ycf 1000 a0).trans ?_;unfold Zci;revert hg;generalize ((a0==(0:Int)))=b2;intro hg;cases b2
 ·skip
  first | (simp only[Q1,Q2,BQ6];done)|rfl|exact(nomatch (hg:false=true))
 ·skip
  first | (simp only[Q1,Q2,BQ6];done)|rfl|exact(nomatch (hg:false=true))
def Zmo:Con:=λargs h=>match args,h with
 |[.i .i64 a0],[]=>some (.a (.b ((Zci a0))),.none,true)
 |_,_=>none
theorem Zhn:EntX PZ 82:=Zah (fn:=f82)
theorem Zjy:Uac mn PZ 82 Zmo:=(ansY (N:=1000) mKn f82 []).of (by
 intro ρ h w args vals r e hA hH hr;unfold Zmo at hr;split at hr
 ·rename_i a0
  obtain⟨rfl,rfl,hg2⟩:=BQi hr;exact Zzj a0 (hA.rng 0 rfl) hg2
 ·cases hr)
theorem Yfo(N:Nat)(a0:Array Value):ansV PZ (mkΓ []) N f119 [] [.g a0 151] []=(some (.a (.i .i64 (i64.wrap ((num a0 0)+(i64.wrap ((6:Int)*(num a0 1)))))),.none,true)):=by kernel_rfl
theorem Yc8(a0:Array Value)(h_a0:WT PZ 151 a0)(hg:(true)=true):ansV PZ (mkΓ []) 1000 f119 [] [.g a0 151] []=some (.a (.i .i64 (i64.wrap ((num a0 0)+(i64.wrap ((6:Int)*(num a0 1)))))),.none,true):=by refine(Yfo 1000 a0).trans ?_;rfl
def Zj1:Con:=λargs h=>match args,h with
 |[.g a0 151],[]=>some (.a (.i .i64 (i64.wrap ((num a0 0)+(i64.wrap ((6:Int)*(num a0 1)))))),.none,true)
 |_,_=>none
theorem Zo6:EntX PZ 119:=Zah (fn:=f119)
theorem Zuk:Uac mn PZ 119 Zj1:=(ansY (N:=1000) mKn f119 []).of (by
 intro ρ h w args vals r e hA hH hr;unfold Zj1 at hr;split at hr
 ·rename_i a0
  obtain⟨rfl,rfl,hg2⟩:=BQi hr;exact Yc8 a0 (hA.wt 0 rfl) hg2
 ·cases hr)
end
end Go.Proofs.YtdfefaanfiheoaaGreatDoor
