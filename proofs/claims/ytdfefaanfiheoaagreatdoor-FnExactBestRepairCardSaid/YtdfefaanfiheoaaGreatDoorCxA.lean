/- Places, tides, land and water, in company. -/
import Derived.Test.YtdfefaanfiheoaaGreatDoorProg
import Derived.Test.YtdfefaanfiheoaaGreatDoorVcE
set_option linter.unusedVariables false
set_option linter.unusedSimpArgs false
namespace Go.Proofs.YtdfefaanfiheoaaGreatDoor
open Tryz (f47 f70 f72 f73 f75 f81 f82 f83 f94 f100 f101 f102 f119)
open Go.ChangeShapes Go.WideShapes Go.ChangeAt Go.RowKit Ve Vc
open Tryz renaming prog -> PZ
open IntKind (i64)
set_option maxRecDepth 100000
noncomputable section
abbrev SlT(e n:Nat)(A:Array Value):Prop:=A.size=n*(lay PZ e).length/\(∀k,k<n->WT PZ e (A.extract (k*(lay PZ e).length) (k*(lay PZ e).length+(lay PZ e).length)))/\n<=9223372036854775807
variable {mn:Md}
theorem Yix(N:Nat)(a0 a1 a2:Int):ansV PZ (mkΓ []) N f47 [] [.i .i64 a0,.i .i64 a1,.i .i64 a2] []=(bif decide (a0>=a1) then (some (.a (.b (decide (a0<=a2))),.none,true)) else (some (.a (.b false),.none,true))):=by kernel_rfl
def Zaa(a0 a1 a2:Int):Bool:=(bif decide (a0>=a1) then decide (a0<=a2) else false)
theorem Yfs(a0 a1 a2:Int)(h_a0:i64.min<=a0/\a0<=i64.max)(h_a1:i64.min<=a1/\a1<=i64.max)(h_a2:i64.min<=a2/\a2<=i64.max)(hg:(true)=true):ansV PZ (mkΓ []) 1000 f47 [] [.i .i64 a0,.i .i64 a1,.i .i64 a2] []=some (.a (.b ((Zaa a0 a1 a2))),.none,true):=by
 refine(Yix 1000 a0 a1 a2).trans ?_;unfold Zaa;revert hg;generalize (decide (a0>=a1))=b2;intro hg;cases b2
 ·skip
  first|rfl|exact(nomatch (hg:false=true))
 ·skip
  first|rfl|exact(nomatch (hg:false=true))
def Zci:Con:=λargs h=>match args,h with|[.i .i64 a0,.i .i64 a1,.i .i64 a2],[]=>some (.a (.b ((Zaa a0 a1 a2))),.none,true)|_,_=>none
theorem Zhu:EntX PZ 47:=Zaj (fn:=f47)
theorem Zkr:Uac mn PZ 47 Zci:=(ansY (N:=1000) mKn f47 []).of (by
 intro ρ h w args vals r e hA hH hr;unfold Zci at hr;split at hr
 ·rename_i a0 a1 a2;obtain⟨rfl,rfl,hg2⟩:=BQi hr;exact Yfs a0 a1 a2 (hA.rng 0 rfl) (hA.rng 1 rfl) (hA.rng 2 rfl) hg2
 ·cases hr)
theorem Yjf(N:Nat)(a1:Int)(a0:Array Value):ansV PZ (mkΓ [(47,con Zci)]) N f72 [] [.w 0,.i .i64 a1] [.row a0 37]=(bif (Zaa a1 (0:Int) (35:Int)) then (bif decide (((a1).tmod (6:Int))<(i64.wrap (num a0 0))) then (some (.a (.b (decide ((i64.wrap ((a1).tdiv (6:Int)))<(i64.wrap (num a0 1))))),.none,true)) else (some (.a (.b false),.none,true))) else (some (.a (.b false),.none,true))):=by kernel_rfl
def Zab(a1:Int)(a0:Array Value):Bool:=(bif (Zaa a1 (0:Int) (35:Int)) then (bif decide (((a1).tmod (6:Int))<(i64.wrap (num a0 0))) then decide ((i64.wrap ((a1).tdiv (6:Int)))<(i64.wrap (num a0 1))) else false) else false)
theorem Yht(a1:Int)(a0:Array Value)(h_a1:i64.min<=a1/\a1<=i64.max)(h_a0:WT PZ 37 a0)(hg:(true)=true):ansV PZ (mkΓ [(47,con Zci)]) 1000 f72 [] [.w 0,.i .i64 a1] [.row a0 37]=some (.a (.b ((Zab a1 a0))),.none,true):=by
 refine(Yjf 1000 a1 a0).trans ?_;unfold Zab;revert hg;generalize ((Zaa a1 (0:Int) (35:Int)))=b2;intro hg;cases b2
 ·skip
  first|rfl|exact(nomatch (hg:false=true))
 ·skip
  revert hg;generalize (decide (((a1).tmod (6:Int))<(i64.wrap (num a0 0))))=b4;intro hg;cases b4
  ·skip
   first|rfl|exact(nomatch (hg:false=true))
  ·skip
   first|rfl|exact(nomatch (hg:false=true))
def Zb9:Con:=λargs h=>match args,h with|[.w 0,.i .i64 a1],[.row a0 37]=>some (.a (.b ((Zab a1 a0))),.none,true)|_,_=>none
theorem Zhp:EntX PZ 72:=Zaj (fn:=f72)
theorem Zku:Uac mn PZ 72 Zb9:=(ansY (N:=1000) (mKc (Zae Zkr) Zhu mKn) f72 []).of (by
 intro ρ h w args vals r e hA hH hr;unfold Zb9 at hr;split at hr
 ·rename_i a1 a0;obtain⟨rfl,rfl,hg2⟩:=BQi hr;exact Yht a1 a0 (hA.rng 1 rfl) (hH.wt 0 rfl) hg2
 ·cases hr)
theorem Yc7(N:Nat)(a0:Int):ansV PZ (mkΓ [(47,con Zci)]) N f75 [] [.i .i64 a0] []=(some (.a (.b ((Zaa a0 (0:Int) (1:Int)))),.none,true)):=by kernel_rfl
theorem Ybi(a0:Int)(h_a0:i64.min<=a0/\a0<=i64.max)(hg:(true)=true):ansV PZ (mkΓ [(47,con Zci)]) 1000 f75 [] [.i .i64 a0] []=some (.a (.b ((Zaa a0 (0:Int) (1:Int)))),.none,true):=by refine(Yc7 1000 a0).trans ?_;rfl
def Znk:Con:=λargs h=>match args,h with|[.i .i64 a0],[]=>some (.a (.b ((Zaa a0 (0:Int) (1:Int)))),.none,true)|_,_=>none
theorem Zx3:EntX PZ 75:=Zaj (fn:=f75)
theorem Yft:Uac mn PZ 75 Znk:=(ansY (N:=1000) (mKc (Zae Zkr) Zhu mKn) f75 []).of (by
 intro ρ h w args vals r e hA hH hr;unfold Znk at hr;split at hr
 ·rename_i a0;obtain⟨rfl,rfl,hg2⟩:=BQi hr;exact Ybi a0 (hA.rng 0 rfl) hg2
 ·cases hr)
theorem Yfw(N:Nat)(a1:Int)(a0:Array Value):ansV PZ (mkΓ []) N f73 [] [.w 0,.i .i64 a1] [.row a0 37]=(bif decide (0<=(IntKind.u64.wrap a1)) then (some (.a (.b (((((((num a0 2)).fdiv (2^(min ((IntKind.u64.wrap a1)).toNat IntKind.u64.bits)))).tmod (2:Int))==(1:Int)))),.none,true)) else (none)):=by kernel_rfl
def Zaf(a1:Int)(a0:Array Value):Bool:=((((((num a0 2)).fdiv (2^(min ((IntKind.u64.wrap a1)).toNat IntKind.u64.bits)))).tmod (2:Int))==(1:Int))
theorem Yec(a1:Int)(a0:Array Value)(h_a1:i64.min<=a1/\a1<=i64.max)(h_a0:WT PZ 37 a0)(hg:(decide (0<=(IntKind.u64.wrap a1)))=true):ansV PZ (mkΓ []) 1000 f73 [] [.w 0,.i .i64 a1] [.row a0 37]=some (.a (.b ((Zaf a1 a0))),.none,true):=by
 refine(Yfw 1000 a1 a0).trans ?_;unfold Zaf;revert hg;generalize (decide (0<=(IntKind.u64.wrap a1)))=b2;intro hg;cases b2
 ·skip
  first|exact(nomatch (hg:false=true))|rfl
 ·skip
  first|rfl|exact(nomatch (hg:false=true))
def Zgu:Con:=λargs h=>match args,h with|[.w 0,.i .i64 a1],[.row a0 37]=>some (.a (.b ((Zaf a1 a0))),.none,decide (0<=(IntKind.u64.wrap a1)))|_,_=>none
theorem Zi7:EntX PZ 73:=Zaj (fn:=f73)
theorem Zml:Uac mn PZ 73 Zgu:=(ansY (N:=1000) mKn f73 []).of (by
 intro ρ h w args vals r e hA hH hr;unfold Zgu at hr;split at hr
 ·rename_i a1 a0;obtain⟨rfl,rfl,hg2⟩:=BQi hr;exact Yec a1 a0 (hA.rng 1 rfl) (hH.wt 0 rfl) hg2
 ·cases hr)
def Zza:Cons:=(mkΓ [(72,con Zb9),(73,con Zgu)])
theorem Yhi(N:Nat)(a1:Int)(a0:Array Value):ansV PZ Zza N f70 [] [.w 0,.i .i64 a1] [.row a0 37]=(bif (Zab a1 a0) then (bif decide (0<=(IntKind.u64.wrap a1)) then (some (.a (.b ((!((Zaf a1 a0))))),.none,true)) else (none)) else (some (.a (.b false),.none,true))):=by kernel_rfl
def Zal(a1:Int)(a0:Array Value):Bool:=(bif (Zab a1 a0) then (!((Zaf a1 a0))) else false)
def Zbw(a1:Int)(a0:Array Value):Bool:=(bif (Zab a1 a0) then decide (0<=(IntKind.u64.wrap a1)) else true)
theorem Yev(a1:Int)(a0:Array Value)(h_a1:i64.min<=a1/\a1<=i64.max)(h_a0:WT PZ 37 a0)(hg:((Zbw a1 a0))=true):ansV PZ Zza 1000 f70 [] [.w 0,.i .i64 a1] [.row a0 37]=some (.a (.b ((Zal a1 a0))),.none,true):=by
 refine(Yhi 1000 a1 a0).trans ?_;unfold Zbw at hg;unfold Zal;revert hg;generalize ((Zab a1 a0))=b2;intro hg;cases b2
 ·skip
  first|rfl|exact(nomatch (hg:false=true))
 ·skip
  revert hg;generalize (decide (0<=(IntKind.u64.wrap a1)))=b4;intro hg;cases b4
  ·skip
   first|exact(nomatch (hg:false=true))|rfl
  ·skip
   first|rfl|exact(nomatch (hg:false=true))
def Zk5:Con:=λargs h=>match args,h with|[.w 0,.i .i64 a1],[.row a0 37]=>some (.a (.b ((Zal a1 a0))),.none,(Zbw a1 a0))|_,_=>none
theorem Zql:EntX PZ 70:=Zaj (fn:=f70)
theorem Zwe:Uac mn PZ 70 Zk5:=(ansY (N:=1000) (mKc (Zae Zku) Zhp (mKc (Zae Zml) Zi7 mKn)) f70 []).of (by
 intro ρ h w args vals r e hA hH hr;unfold Zk5 at hr;split at hr
 ·rename_i a1 a0;obtain⟨rfl,rfl,hg2⟩:=BQi hr;exact Yev a1 a0 (hA.rng 1 rfl) (hH.wt 0 rfl) hg2
 ·cases hr)
theorem Yce(N:Nat)(a0 a1:Array Value):ansV PZ (mkΓ []) N f100 [] [.g a0 37,.g a1 151] []=(bif decide ((num a1 0)>=(0:Int)) then (bif decide ((num a1 0)<(i64.wrap (num a0 0))) then (bif decide ((num a1 1)>=(0:Int)) then (some (.a (.b (decide ((num a1 1)<(i64.wrap (num a0 1))))),.none,true)) else (some (.a (.b false),.none,true))) else (some (.a (.b false),.none,true))) else (some (.a (.b false),.none,true))):=by kernel_rfl
def Zaz(a0 a1:Array Value):Bool:=(bif decide ((num a1 0)>=(0:Int)) then (bif decide ((num a1 0)<(i64.wrap (num a0 0))) then (bif decide ((num a1 1)>=(0:Int)) then decide ((num a1 1)<(i64.wrap (num a0 1))) else false) else false) else false)
theorem Zyo(a0 a1:Array Value)(h_a0:WT PZ 37 a0)(h_a1:WT PZ 151 a1)(hg:(true)=true):ansV PZ (mkΓ []) 1000 f100 [] [.g a0 37,.g a1 151] []=some (.a (.b ((Zaz a0 a1))),.none,true):=by
 refine(Yce 1000 a0 a1).trans ?_;unfold Zaz;revert hg;generalize (decide ((num a1 0)>=(0:Int)))=b2;intro hg;cases b2
 ·skip
  first|rfl|exact(nomatch (hg:false=true))
 ·skip
  revert hg;generalize (decide ((num a1 0)<(i64.wrap (num a0 0))))=b4;intro hg;cases b4
  ·skip
   first|rfl|exact(nomatch (hg:false=true))
  ·skip
   revert hg;generalize (decide ((num a1 1)>=(0:Int)))=b6;intro hg;cases b6
   ·skip
    first|rfl|exact(nomatch (hg:false=true))
   ·skip
    first|rfl|exact(nomatch (hg:false=true))
def Zjc:Con:=λargs h=>match args,h with|[.g a0 37,.g a1 151],[]=>some (.a (.b ((Zaz a0 a1))),.none,true)|_,_=>none
theorem Zop:EntX PZ 100:=Zaj (fn:=f100)
theorem Zrx:Uac mn PZ 100 Zjc:=(ansY (N:=1000) mKn f100 []).of (by
 intro ρ h w args vals r e hA hH hr;unfold Zjc at hr;split at hr
 ·rename_i a0 a1;obtain⟨rfl,rfl,hg2⟩:=BQi hr;exact Zyo a0 a1 (hA.wt 0 rfl) (hA.wt 1 rfl) hg2
 ·cases hr)
theorem Ydo(N:Nat)(a0:Int):ansV PZ (mkΓ []) N f101 [] [.i .i64 a0] []=(some (.a (.g #[.int .i64 ((a0).tmod (6:Int)),.int .i64 (i64.wrap ((a0).tdiv (6:Int)))] 151),.none,true)):=by kernel_rfl
theorem Ybl(a0:Int)(h_a0:i64.min<=a0/\a0<=i64.max)(hg:(true)=true):ansV PZ (mkΓ []) 1000 f101 [] [.i .i64 a0] []=some (.a (.g #[.int .i64 ((a0).tmod (6:Int)),.int .i64 (i64.wrap ((a0).tdiv (6:Int)))] 151),.none,true):=by refine(Ydo 1000 a0).trans ?_;rfl
def Zj1:Con:=λargs h=>match args,h with|[.i .i64 a0],[]=>some (.a (.g #[.int .i64 ((a0).tmod (6:Int)),.int .i64 (i64.wrap ((a0).tdiv (6:Int)))] 151),.none,true)|_,_=>none
theorem Zpo:EntX PZ 101:=Zaj (fn:=f101)
theorem Zt4:Uac mn PZ 101 Zj1:=(ansY (N:=1000) mKn f101 []).of (by
 intro ρ h w args vals r e hA hH hr;unfold Zj1 at hr;split at hr
 ·rename_i a0;obtain⟨rfl,rfl,hg2⟩:=BQi hr;exact Ybl a0 (hA.rng 0 rfl) hg2
 ·cases hr)
def Zwc:Cons:=(mkΓ [(100,con Zjc),(101,con Zj1)])
theorem Yey(N:Nat)(a0:Array Value)(a1:Int):ansV PZ Zwc N f81 [] [.g a0 37,.i .i64 a1] []=(bif decide (a1>=(0:Int)) then (bif decide (a1<(36:Int)) then (some (.a (.b ((Zaz a0 (#[.int .i64 ((a1).tmod (6:Int)),.int .i64 (i64.wrap ((a1).tdiv (6:Int)))]:Array Value)))),.none,true)) else (some (.a (.b false),.none,true))) else (some (.a (.b false),.none,true))):=by kernel_rfl
def Zau(a0:Array Value)(a1:Int):Bool:=(bif decide (a1>=(0:Int)) then (bif decide (a1<(36:Int)) then (Zaz a0 (#[.int .i64 ((a1).tmod (6:Int)),.int .i64 (i64.wrap ((a1).tdiv (6:Int)))]:Array Value)) else false) else false)
theorem Ya1(a0:Array Value)(a1:Int)(h_a0:WT PZ 37 a0)(h_a1:i64.min<=a1/\a1<=i64.max)(hg:(true)=true):ansV PZ Zwc 1000 f81 [] [.g a0 37,.i .i64 a1] []=some (.a (.b ((Zau a0 a1))),.none,true):=by
 refine(Yey 1000 a0 a1).trans ?_;unfold Zau;revert hg;generalize (decide (a1>=(0:Int)))=b2;intro hg;cases b2
 ·skip
  first|rfl|exact(nomatch (hg:false=true))
 ·skip
  revert hg;generalize (decide (a1<(36:Int)))=b4;intro hg;cases b4
  ·skip
   first|rfl|exact(nomatch (hg:false=true))
  ·skip
   first|rfl|exact(nomatch (hg:false=true))
def Zhv:Con:=λargs h=>match args,h with|[.g a0 37,.i .i64 a1],[]=>some (.a (.b ((Zau a0 a1))),.none,true)|_,_=>none
theorem Zd7:EntX PZ 81:=Zaj (fn:=f81)
theorem Zgz:Uac mn PZ 81 Zhv:=(ansY (N:=1000) (mKc (Zae Zrx) Zop (mKc (Zae Zt4) Zpo mKn)) f81 []).of (by
 intro ρ h w args vals r e hA hH hr;unfold Zhv at hr;split at hr
 ·rename_i a0 a1;obtain⟨rfl,rfl,hg2⟩:=BQi hr;exact Ya1 a0 a1 (hA.wt 0 rfl) (hA.rng 1 rfl) hg2
 ·cases hr)
theorem Yiq(N:Nat)(a0:Int):ansV PZ (mkΓ []) N f102 [] [.i .i64 a0] []=(bif decide (0<=a0) then (some (.a (.i .u64 (IntKind.u64.wrap ((1:Int)*2^(min (a0).toNat IntKind.u64.bits)))),.none,true)) else (none)):=by kernel_rfl
def Zev(a0:Int):Int:=(IntKind.u64.wrap ((1:Int)*2^(min (a0).toNat IntKind.u64.bits)))
theorem Ygu(a0:Int)(h_a0:i64.min<=a0/\a0<=i64.max)(hg:(decide (0<=a0))=true):ansV PZ (mkΓ []) 1000 f102 [] [.i .i64 a0] []=some (.a (.i .u64 (Zev a0)),.none,true):=by
 refine(Yiq 1000 a0).trans ?_;unfold Zev;revert hg;generalize (decide (0<=a0))=b2;intro hg;cases b2
 ·skip
  first|exact(nomatch (hg:false=true))|rfl
 ·skip
  first|rfl|exact(nomatch (hg:false=true))
def Zjx:Con:=λargs h=>match args,h with|[.i .i64 a0],[]=>some (.a (.i .u64 (Zev a0)),.none,decide (0<=a0))|_,_=>none
theorem Zrz:EntX PZ 102:=Zaj (fn:=f102)
theorem Zzs:Uac mn PZ 102 Zjx:=(ansY (N:=1000) mKn f102 []).of (by
 intro ρ h w args vals r e hA hH hr;unfold Zjx at hr;split at hr
 ·rename_i a0;obtain⟨rfl,rfl,hg2⟩:=BQi hr;exact Ygu a0 (hA.rng 0 rfl) hg2
 ·cases hr)
theorem Yf2(N:Nat)(a0:Array Value)(a1:Int):ansV PZ (mkΓ [(102,con Zjx)]) N f83 [] [.g a0 37,.i .i64 a1] []=(bif decide (0<=a1) then (some (.a (.b (((IntKind.u64.wrap (BitVec.ofInt IntKind.u64.bits (num a0 2) &&& BitVec.ofInt IntKind.u64.bits (Zev a1)).toNat) != (0:Int)))),.none,true)) else (none)):=by kernel_rfl
def Zad(a0:Array Value)(a1:Int):Bool:=((IntKind.u64.wrap (BitVec.ofInt IntKind.u64.bits (num a0 2) &&& BitVec.ofInt IntKind.u64.bits (Zev a1)).toNat) != (0:Int))
theorem Yd9(a0:Array Value)(a1:Int)(h_a0:WT PZ 37 a0)(h_a1:i64.min<=a1/\a1<=i64.max)(hg:(decide (0<=a1))=true):ansV PZ (mkΓ [(102,con Zjx)]) 1000 f83 [] [.g a0 37,.i .i64 a1] []=some (.a (.b ((Zad a0 a1))),.none,true):=by
 refine(Yf2 1000 a0 a1).trans ?_;unfold Zad;revert hg;generalize (decide (0<=a1))=b2;intro hg;cases b2
 ·skip
  first|exact(nomatch (hg:false=true))|rfl
 ·skip
  first|rfl|exact(nomatch (hg:false=true))
def Zbl:Con:=λargs h=>match args,h with|[.g a0 37,.i .i64 a1],[]=>some (.a (.b ((Zad a0 a1))),.none,decide (0<=a1))|_,_=>none
theorem Zcx:EntX PZ 83:=Zaj (fn:=f83)
theorem Zez:Uac mn PZ 83 Zbl:=(ansY (N:=1000) (mKc (Zae Zzs) Zrz mKn) f83 []).of (by
 intro ρ h w args vals r e hA hH hr;unfold Zbl at hr;split at hr
 ·rename_i a0 a1;obtain⟨rfl,rfl,hg2⟩:=BQi hr;exact Yd9 a0 a1 (hA.wt 0 rfl) (hA.rng 1 rfl) hg2
 ·cases hr)
theorem Yeg(N:Nat)(a0:Array Value)(a1:Int):ansV PZ (mkΓ [(83,con Zbl)]) N f94 [] [.g a0 37,.i .i64 a1] []=(bif decide (0<=a1) then (some (.a (.b ((!((Zad a0 a1))))),.none,true)) else (none)):=by kernel_rfl
def Zac(a0:Array Value)(a1:Int):Bool:=(!((Zad a0 a1)))
theorem Ya6(a0:Array Value)(a1:Int)(h_a0:WT PZ 37 a0)(h_a1:i64.min<=a1/\a1<=i64.max)(hg:(decide (0<=a1))=true):ansV PZ (mkΓ [(83,con Zbl)]) 1000 f94 [] [.g a0 37,.i .i64 a1] []=some (.a (.b ((Zac a0 a1))),.none,true):=by
 refine(Yeg 1000 a0 a1).trans ?_;unfold Zac;revert hg;generalize (decide (0<=a1))=b2;intro hg;cases b2
 ·skip
  first|exact(nomatch (hg:false=true))|rfl
 ·skip
  first|rfl|exact(nomatch (hg:false=true))
def Zfr:Con:=λargs h=>match args,h with|[.g a0 37,.i .i64 a1],[]=>some (.a (.b ((Zac a0 a1))),.none,decide (0<=a1))|_,_=>none
theorem Zie:EntX PZ 94:=Zaj (fn:=f94)
theorem Zlf:Uac mn PZ 94 Zfr:=(ansY (N:=1000) (mKc (Zae Zez) Zcx mKn) f94 []).of (by
 intro ρ h w args vals r e hA hH hr;unfold Zfr at hr;split at hr
 ·rename_i a0 a1;obtain⟨rfl,rfl,hg2⟩:=BQi hr;exact Ya6 a0 a1 (hA.wt 0 rfl) (hA.rng 1 rfl) hg2
 ·cases hr)
theorem Ydi(N:Nat)(a0:Int):ansV PZ (mkΓ []) N f82 [] [.i .i64 a0] []=(bif (a0==(0:Int)) then (some (.a (.b true),.none,true)) else (some (.a (.b ((a0==(1:Int)))),.none,true))):=by kernel_rfl
def Zc6(a0:Int):Bool:=(bif (a0==(0:Int)) then true else (a0==(1:Int)))
theorem Ybv(a0:Int)(h_a0:i64.min<=a0/\a0<=i64.max)(hg:(true)=true):ansV PZ (mkΓ []) 1000 f82 [] [.i .i64 a0] []=some (.a (.b ((Zc6 a0))),.none,true):=by
 refine(Ydi 1000 a0).trans ?_;unfold Zc6;revert hg;generalize ((a0==(0:Int)))=b2;intro hg;cases b2
 ·skip
  first|rfl|exact(nomatch (hg:false=true))
 ·skip
  first|rfl|exact(nomatch (hg:false=true))
def Zns:Con:=λargs h=>match args,h with|[.i .i64 a0],[]=>some (.a (.b ((Zc6 a0))),.none,true)|_,_=>none
theorem Zic:EntX PZ 82:=Zaj (fn:=f82)
theorem Zla:Uac mn PZ 82 Zns:=(ansY (N:=1000) mKn f82 []).of (by
 intro ρ h w args vals r e hA hH hr;unfold Zns at hr;split at hr
 ·rename_i a0;obtain⟨rfl,rfl,hg2⟩:=BQi hr;exact Ybv a0 (hA.rng 0 rfl) hg2
 ·cases hr)
theorem Yib(N:Nat)(a0:Array Value):ansV PZ (mkΓ []) N f119 [] [.g a0 151] []=(some (.a (.i .i64 (i64.wrap ((num a0 0)+(i64.wrap ((6:Int)*(num a0 1)))))),.none,true)):=by kernel_rfl
theorem Yen(a0:Array Value)(h_a0:WT PZ 151 a0)(hg:(true)=true):ansV PZ (mkΓ []) 1000 f119 [] [.g a0 151] []=some (.a (.i .i64 (i64.wrap ((num a0 0)+(i64.wrap ((6:Int)*(num a0 1)))))),.none,true):=by refine(Yib 1000 a0).trans ?_;rfl
def Zko:Con:=λargs h=>match args,h with|[.g a0 151],[]=>some (.a (.i .i64 (i64.wrap ((num a0 0)+(i64.wrap ((6:Int)*(num a0 1)))))),.none,true)|_,_=>none
theorem Zqe:EntX PZ 119:=Zaj (fn:=f119)
theorem Zv8:Uac mn PZ 119 Zko:=(ansY (N:=1000) mKn f119 []).of (by
 intro ρ h w args vals r e hA hH hr;unfold Zko at hr;split at hr
 ·rename_i a0;obtain⟨rfl,rfl,hg2⟩:=BQi hr;exact Yen a0 (hA.wt 0 rfl) hg2
 ·cases hr)
end
end Go.Proofs.YtdfefaanfiheoaaGreatDoor
