/- Places, tides, land and water, in company. -/
import Derived.Test.YtefjogahegolbaaDoorProg
import Derived.Test.YtefjogahegolbaaDoorVcE
set_option linter.unusedVariables false
set_option linter.unusedSimpArgs false
namespace Go.Proofs.YtefjogahegolbaaDoor
open Tryd (f30 f31 f34 f35 f44 f49 f50 f53 f54 f55 f63 f70 f71)
open Go.ChangeShapes Go.WideShapes Go.ChangeAt Go.RowKit Ve Vc
open Tryd (prog)
open IntKind (i64)
set_option maxRecDepth 100000
noncomputable section
variable {mn:Md}
theorem Yao(N:Nat)(a0 a1 a2:Int):ansV prog (mkΓ []) N f44 [] [.i .i64 a0,.i .i64 a1,.i .i64 a2] []=(bif decide (a0>=a1) then (some (.a (.b (decide (a0<=a2))),.none,true)) else (some (.a (.b false),.none,true))):=by kernel_rfl
def Zaa(a0 a1 a2:Int):Bool:=(bif decide (a0>=a1) then decide (a0<=a2) else false)
theorem Zy5(a0 a1 a2:Int)(h_a0:i64.min<=a0/\a0<=i64.max)(h_a1:i64.min<=a1/\a1<=i64.max)(h_a2:i64.min<=a2/\a2<=i64.max)(hg:(true)=true):ansV prog (mkΓ []) 1000 f44 [] [.i .i64 a0,.i .i64 a1,.i .i64 a2] []=some (.a (.b ((Zaa a0 a1 a2))),.none,true):=by
 refine(Yao 1000 a0 a1 a2).trans ?_;unfold Zaa;revert hg;generalize (decide (a0>=a1))=b2;intro hg;cases b2
 ·skip
  first|rfl|exact(nomatch (hg:false=true))
 ·skip
  first|rfl|exact(nomatch (hg:false=true))
def Zdf:Con:=λargs h=>match args,h with|[.i .i64 a0,.i .i64 a1,.i .i64 a2],[]=>some (.a (.b ((Zaa a0 a1 a2))),.none,true)|_,_=>none
theorem Zhm:EntX prog 44:=Zal (fn:=f44)
theorem Zkd:Uad mn prog 44 Zdf:=(ansY (N:=1000) mKn f44 []).of (by
 intro ρ h w args vals r e hA hH hr;unfold Zdf at hr;split at hr
 ·rename_i a0 a1 a2;obtain⟨rfl,rfl,hg2⟩:=BQi hr;exact Zy5 a0 a1 a2 (hA.rng 0 rfl) (hA.rng 1 rfl) (hA.rng 2 rfl) hg2
 ·cases hr)
theorem Yag(N:Nat)(a1:Int)(a0:Array Value):ansV prog (mkΓ [(44,con Zdf)]) N f30 [] [.w 0,.i .i64 a1] [.row a0 35]=(bif (Zaa a1 (0:Int) (35:Int)) then (bif decide (((a1).tmod (6:Int))<(i64.wrap (num a0 0))) then (some (.a (.b (decide ((i64.wrap ((a1).tdiv (6:Int)))<(i64.wrap (num a0 1))))),.none,true)) else (some (.a (.b false),.none,true))) else (some (.a (.b false),.none,true))):=by kernel_rfl
def Zac(a1:Int)(a0:Array Value):Bool:=(bif (Zaa a1 (0:Int) (35:Int)) then (bif decide (((a1).tmod (6:Int))<(i64.wrap (num a0 0))) then decide ((i64.wrap ((a1).tdiv (6:Int)))<(i64.wrap (num a0 1))) else false) else false)
theorem Zyj(a1:Int)(a0:Array Value)(h_a1:i64.min<=a1/\a1<=i64.max)(h_a0:WT prog 35 a0)(hg:(true)=true):ansV prog (mkΓ [(44,con Zdf)]) 1000 f30 [] [.w 0,.i .i64 a1] [.row a0 35]=some (.a (.b ((Zac a1 a0))),.none,true):=by
 refine(Yag 1000 a1 a0).trans ?_;unfold Zac;revert hg;generalize ((Zaa a1 (0:Int) (35:Int)))=b2;intro hg;cases b2
 ·skip
  first|rfl|exact(nomatch (hg:false=true))
 ·skip
  revert hg;generalize (decide (((a1).tmod (6:Int))<(i64.wrap (num a0 0))))=b4;intro hg;cases b4
  ·skip
   first|rfl|exact(nomatch (hg:false=true))
  ·skip
   first|rfl|exact(nomatch (hg:false=true))
def Zbj:Con:=λargs h=>match args,h with|[.w 0,.i .i64 a1],[.row a0 35]=>some (.a (.b ((Zac a1 a0))),.none,true)|_,_=>none
theorem Zfs:EntX prog 30:=Zal (fn:=f30)
theorem Zim:Uad mn prog 30 Zbj:=(ansY (N:=1000) (mKc (Zah Zkd) Zhm mKn) f30 []).of (by
 intro ρ h w args vals r e hA hH hr;unfold Zbj at hr;split at hr
 ·rename_i a1 a0;obtain⟨rfl,rfl,hg2⟩:=BQi hr;exact Zyj a1 a0 (hA.rng 1 rfl) (hH.wt 0 rfl) hg2
 ·cases hr)
theorem Zw0(N:Nat)(a0:Int):ansV prog (mkΓ [(44,con Zdf)]) N f50 [] [.i .i64 a0] []=(some (.a (.b ((Zaa a0 (0:Int) (1:Int)))),.none,true)):=by kernel_rfl
theorem Zut(a0:Int)(h_a0:i64.min<=a0/\a0<=i64.max)(hg:(true)=true):ansV prog (mkΓ [(44,con Zdf)]) 1000 f50 [] [.i .i64 a0] []=some (.a (.b ((Zaa a0 (0:Int) (1:Int)))),.none,true):=by refine(Zw0 1000 a0).trans ?_;rfl
def Zjw:Con:=λargs h=>match args,h with|[.i .i64 a0],[]=>some (.a (.b ((Zaa a0 (0:Int) (1:Int)))),.none,true)|_,_=>none
theorem Ztf:EntX prog 50:=Zal (fn:=f50)
theorem Zzm:Uad mn prog 50 Zjw:=(ansY (N:=1000) (mKc (Zah Zkd) Zhm mKn) f50 []).of (by
 intro ρ h w args vals r e hA hH hr;unfold Zjw at hr;split at hr
 ·rename_i a0;obtain⟨rfl,rfl,hg2⟩:=BQi hr;exact Zut a0 (hA.rng 0 rfl) hg2
 ·cases hr)
theorem Zx6(N:Nat)(a1:Int)(a0:Array Value):ansV prog (mkΓ []) N f31 [] [.w 0,.i .i64 a1] [.row a0 35]=(bif decide (0<=(IntKind.u64.wrap a1)) then (some (.a (.b (((((((num a0 2)).fdiv (2^(min ((IntKind.u64.wrap a1)).toNat IntKind.u64.bits)))).tmod (2:Int))==(1:Int)))),.none,true)) else (none)):=by kernel_rfl
def Zab(a1:Int)(a0:Array Value):Bool:=((((((num a0 2)).fdiv (2^(min ((IntKind.u64.wrap a1)).toNat IntKind.u64.bits)))).tmod (2:Int))==(1:Int))
theorem Zwy(a1:Int)(a0:Array Value)(h_a1:i64.min<=a1/\a1<=i64.max)(h_a0:WT prog 35 a0)(hg:(decide (0<=(IntKind.u64.wrap a1)))=true):ansV prog (mkΓ []) 1000 f31 [] [.w 0,.i .i64 a1] [.row a0 35]=some (.a (.b ((Zab a1 a0))),.none,true):=by
 refine(Zx6 1000 a1 a0).trans ?_;unfold Zab;revert hg;generalize (decide (0<=(IntKind.u64.wrap a1)))=b2;intro hg;cases b2
 ·skip
  first|exact(nomatch (hg:false=true))|rfl
 ·skip
  first|rfl|exact(nomatch (hg:false=true))
def Ze6:Con:=λargs h=>match args,h with|[.w 0,.i .i64 a1],[.row a0 35]=>some (.a (.b ((Zab a1 a0))),.none,decide (0<=(IntKind.u64.wrap a1)))|_,_=>none
theorem Zgu:EntX prog 31:=Zal (fn:=f31)
theorem Zjg:Uad mn prog 31 Ze6:=(ansY (N:=1000) mKn f31 []).of (by
 intro ρ h w args vals r e hA hH hr;unfold Ze6 at hr;split at hr
 ·rename_i a1 a0;obtain⟨rfl,rfl,hg2⟩:=BQi hr;exact Zwy a1 a0 (hA.rng 1 rfl) (hH.wt 0 rfl) hg2
 ·cases hr)
def Zt6:Cons:=(mkΓ [(30,con Zbj),(31,con Ze6)])
theorem Zyb(N:Nat)(a1:Int)(a0:Array Value):ansV prog Zt6 N f63 [] [.w 0,.i .i64 a1] [.row a0 35]=(bif (Zac a1 a0) then (bif decide (0<=(IntKind.u64.wrap a1)) then (some (.a (.b ((!((Zab a1 a0))))),.none,true)) else (none)) else (some (.a (.b false),.none,true))):=by kernel_rfl
def Zam(a1:Int)(a0:Array Value):Bool:=(bif (Zac a1 a0) then (!((Zab a1 a0))) else false)
def Zbr(a1:Int)(a0:Array Value):Bool:=(bif (Zac a1 a0) then decide (0<=(IntKind.u64.wrap a1)) else true)
theorem Zv7(a1:Int)(a0:Array Value)(h_a1:i64.min<=a1/\a1<=i64.max)(h_a0:WT prog 35 a0)(hg:((Zbr a1 a0))=true):ansV prog Zt6 1000 f63 [] [.w 0,.i .i64 a1] [.row a0 35]=some (.a (.b ((Zam a1 a0))),.none,true):=by
 refine(Zyb 1000 a1 a0).trans ?_;unfold Zbr at hg;unfold Zam;revert hg;generalize ((Zac a1 a0))=b2;intro hg;cases b2
 ·skip
  first|rfl|exact(nomatch (hg:false=true))
 ·skip
  revert hg;generalize (decide (0<=(IntKind.u64.wrap a1)))=b4;intro hg;cases b4
  ·skip
   first|exact(nomatch (hg:false=true))|rfl
  ·skip
   first|rfl|exact(nomatch (hg:false=true))
def Zh6:Con:=λargs h=>match args,h with|[.w 0,.i .i64 a1],[.row a0 35]=>some (.a (.b ((Zam a1 a0))),.none,(Zbr a1 a0))|_,_=>none
theorem Zl4:EntX prog 63:=Zal (fn:=f63)
theorem Zqy:Uad mn prog 63 Zh6:=(ansY (N:=1000) (mKc (Zah Zim) Zfs (mKc (Zah Zjg) Zgu mKn)) f63 []).of (by
 intro ρ h w args vals r e hA hH hr;unfold Zh6 at hr;split at hr
 ·rename_i a1 a0;obtain⟨rfl,rfl,hg2⟩:=BQi hr;exact Zv7 a1 a0 (hA.rng 1 rfl) (hH.wt 0 rfl) hg2
 ·cases hr)
theorem Zu6(N:Nat)(a0 a1:Array Value):ansV prog (mkΓ []) N f54 [] [.g a0 35,.g a1 95] []=(bif decide ((num a1 0)>=(0:Int)) then (bif decide ((num a1 0)<(i64.wrap (num a0 0))) then (bif decide ((num a1 1)>=(0:Int)) then (some (.a (.b (decide ((num a1 1)<(i64.wrap (num a0 1))))),.none,true)) else (some (.a (.b false),.none,true))) else (some (.a (.b false),.none,true))) else (some (.a (.b false),.none,true))):=by kernel_rfl
def Zas(a0 a1:Array Value):Bool:=(bif decide ((num a1 0)>=(0:Int)) then (bif decide ((num a1 0)<(i64.wrap (num a0 0))) then (bif decide ((num a1 1)>=(0:Int)) then decide ((num a1 1)<(i64.wrap (num a0 1))) else false) else false) else false)
theorem Zsd(a0 a1:Array Value)(h_a0:WT prog 35 a0)(h_a1:WT prog 95 a1)(hg:(true)=true):ansV prog (mkΓ []) 1000 f54 [] [.g a0 35,.g a1 95] []=some (.a (.b ((Zas a0 a1))),.none,true):=by
 refine(Zu6 1000 a0 a1).trans ?_;unfold Zas;revert hg;generalize (decide ((num a1 0)>=(0:Int)))=b2;intro hg;cases b2
 ·skip
  first|rfl|exact(nomatch (hg:false=true))
 ·skip
  revert hg;generalize (decide ((num a1 0)<(i64.wrap (num a0 0))))=b4;intro hg;cases b4
  ·skip
   first|rfl|exact(nomatch (hg:false=true))
  ·skip
   revert hg;generalize (decide ((num a1 1)>=(0:Int)))=b6;intro hg;cases b6
   ·skip
    first|rfl|exact(nomatch (hg:false=true))
   ·skip
    first|rfl|exact(nomatch (hg:false=true))
def Zg0:Con:=λargs h=>match args,h with|[.g a0 35,.g a1 95],[]=>some (.a (.b ((Zas a0 a1))),.none,true)|_,_=>none
theorem Zkn:EntX prog 54:=Zal (fn:=f54)
theorem Znm:Uad mn prog 54 Zg0:=(ansY (N:=1000) mKn f54 []).of (by
 intro ρ h w args vals r e hA hH hr;unfold Zg0 at hr;split at hr
 ·rename_i a0 a1;obtain⟨rfl,rfl,hg2⟩:=BQi hr;exact Zsd a0 a1 (hA.wt 0 rfl) (hA.wt 1 rfl) hg2
 ·cases hr)
theorem Zxb(N:Nat)(a0:Int):ansV prog (mkΓ []) N f55 [] [.i .i64 a0] []=(some (.a (.g #[.int .i64 ((a0).tmod (6:Int)),.int .i64 (i64.wrap ((a0).tdiv (6:Int)))] 95),.none,true)):=by kernel_rfl
theorem Zva(a0:Int)(h_a0:i64.min<=a0/\a0<=i64.max)(hg:(true)=true):ansV prog (mkΓ []) 1000 f55 [] [.i .i64 a0] []=some (.a (.g #[.int .i64 ((a0).tmod (6:Int)),.int .i64 (i64.wrap ((a0).tdiv (6:Int)))] 95),.none,true):=by refine(Zxb 1000 a0).trans ?_;rfl
def Zhp:Con:=λargs h=>match args,h with|[.i .i64 a0],[]=>some (.a (.g #[.int .i64 ((a0).tmod (6:Int)),.int .i64 (i64.wrap ((a0).tdiv (6:Int)))] 95),.none,true)|_,_=>none
theorem Zlj:EntX prog 55:=Zal (fn:=f55)
theorem Zot:Uad mn prog 55 Zhp:=(ansY (N:=1000) mKn f55 []).of (by
 intro ρ h w args vals r e hA hH hr;unfold Zhp at hr;split at hr
 ·rename_i a0;obtain⟨rfl,rfl,hg2⟩:=BQi hr;exact Zva a0 (hA.rng 0 rfl) hg2
 ·cases hr)
def Zqx:Cons:=(mkΓ [(54,con Zg0),(55,con Zhp)])
theorem Zwl(N:Nat)(a0:Array Value)(a1:Int):ansV prog Zqx N f34 [] [.g a0 35,.i .i64 a1] []=(bif decide (a1>=(0:Int)) then (bif decide (a1<(36:Int)) then (some (.a (.b ((Zas a0 (#[.int .i64 ((a1).tmod (6:Int)),.int .i64 (i64.wrap ((a1).tdiv (6:Int)))]:Array Value)))),.none,true)) else (some (.a (.b false),.none,true))) else (some (.a (.b false),.none,true))):=by kernel_rfl
def Zak(a0:Array Value)(a1:Int):Bool:=(bif decide (a1>=(0:Int)) then (bif decide (a1<(36:Int)) then (Zas a0 (#[.int .i64 ((a1).tmod (6:Int)),.int .i64 (i64.wrap ((a1).tdiv (6:Int)))]:Array Value)) else false) else false)
theorem Zuw(a0:Array Value)(a1:Int)(h_a0:WT prog 35 a0)(h_a1:i64.min<=a1/\a1<=i64.max)(hg:(true)=true):ansV prog Zqx 1000 f34 [] [.g a0 35,.i .i64 a1] []=some (.a (.b ((Zak a0 a1))),.none,true):=by
 refine(Zwl 1000 a0 a1).trans ?_;unfold Zak;revert hg;generalize (decide (a1>=(0:Int)))=b2;intro hg;cases b2
 ·skip
  first|rfl|exact(nomatch (hg:false=true))
 ·skip
  revert hg;generalize (decide (a1<(36:Int)))=b4;intro hg;cases b4
  ·skip
   first|rfl|exact(nomatch (hg:false=true))
  ·skip
   first|rfl|exact(nomatch (hg:false=true))
def Zc3:Con:=λargs h=>match args,h with|[.g a0 35,.i .i64 a1],[]=>some (.a (.b ((Zak a0 a1))),.none,true)|_,_=>none
theorem Zbm:EntX prog 34:=Zal (fn:=f34)
theorem Zca:Uad mn prog 34 Zc3:=(ansY (N:=1000) (mKc (Zah Znm) Zkn (mKc (Zah Zot) Zlj mKn)) f34 []).of (by
 intro ρ h w args vals r e hA hH hr;unfold Zc3 at hr;split at hr
 ·rename_i a0 a1;obtain⟨rfl,rfl,hg2⟩:=BQi hr;exact Zuw a0 a1 (hA.wt 0 rfl) (hA.rng 1 rfl) hg2
 ·cases hr)
theorem Zz1(N:Nat)(a0:Int):ansV prog (mkΓ []) N f71 [] [.i .i64 a0] []=(bif decide (0<=a0) then (some (.a (.i .u64 (IntKind.u64.wrap ((1:Int)*2^(min (a0).toNat IntKind.u64.bits)))),.none,true)) else (none)):=by kernel_rfl
def Zdu(a0:Int):Int:=(IntKind.u64.wrap ((1:Int)*2^(min (a0).toNat IntKind.u64.bits)))
theorem Zyf(a0:Int)(h_a0:i64.min<=a0/\a0<=i64.max)(hg:(decide (0<=a0))=true):ansV prog (mkΓ []) 1000 f71 [] [.i .i64 a0] []=some (.a (.i .u64 (Zdu a0)),.none,true):=by
 refine(Zz1 1000 a0).trans ?_;unfold Zdu;revert hg;generalize (decide (0<=a0))=b2;intro hg;cases b2
 ·skip
  first|exact(nomatch (hg:false=true))|rfl
 ·skip
  first|rfl|exact(nomatch (hg:false=true))
def Zhk:Con:=λargs h=>match args,h with|[.i .i64 a0],[]=>some (.a (.i .u64 (Zdu a0)),.none,decide (0<=a0))|_,_=>none
theorem Zno:EntX prog 71:=Zal (fn:=f71)
theorem Zua:Uad mn prog 71 Zhk:=(ansY (N:=1000) mKn f71 []).of (by
 intro ρ h w args vals r e hA hH hr;unfold Zhk at hr;split at hr
 ·rename_i a0;obtain⟨rfl,rfl,hg2⟩:=BQi hr;exact Zyf a0 (hA.rng 0 rfl) hg2
 ·cases hr)
theorem Zyu(N:Nat)(a0:Array Value)(a1:Int):ansV prog (mkΓ [(71,con Zhk)]) N f49 [] [.g a0 35,.i .i64 a1] []=(bif decide (0<=a1) then (some (.a (.b (((IntKind.u64.wrap (BitVec.ofInt IntKind.u64.bits (num a0 2) &&& BitVec.ofInt IntKind.u64.bits (Zdu a1)).toNat) != (0:Int)))),.none,true)) else (none)):=by kernel_rfl
def Zae(a0:Array Value)(a1:Int):Bool:=((IntKind.u64.wrap (BitVec.ofInt IntKind.u64.bits (num a0 2) &&& BitVec.ofInt IntKind.u64.bits (Zdu a1)).toNat) != (0:Int))
theorem Zwg(a0:Array Value)(a1:Int)(h_a0:WT prog 35 a0)(h_a1:i64.min<=a1/\a1<=i64.max)(hg:(decide (0<=a1))=true):ansV prog (mkΓ [(71,con Zhk)]) 1000 f49 [] [.g a0 35,.i .i64 a1] []=some (.a (.b ((Zae a0 a1))),.none,true):=by
 refine(Zyu 1000 a0 a1).trans ?_;unfold Zae;revert hg;generalize (decide (0<=a1))=b2;intro hg;cases b2
 ·skip
  first|exact(nomatch (hg:false=true))|rfl
 ·skip
  first|rfl|exact(nomatch (hg:false=true))
def Za1:Con:=λargs h=>match args,h with|[.g a0 35,.i .i64 a1],[]=>some (.a (.b ((Zae a0 a1))),.none,decide (0<=a1))|_,_=>none
theorem Zch:EntX prog 49:=Zal (fn:=f49)
theorem Zd2:Uad mn prog 49 Za1:=(ansY (N:=1000) (mKc (Zah Zua) Zno mKn) f49 []).of (by
 intro ρ h w args vals r e hA hH hr;unfold Za1 at hr;split at hr
 ·rename_i a0 a1;obtain⟨rfl,rfl,hg2⟩:=BQi hr;exact Zwg a0 a1 (hA.wt 0 rfl) (hA.rng 1 rfl) hg2
 ·cases hr)
theorem Zw7(N:Nat)(a0:Array Value)(a1:Int):ansV prog (mkΓ [(49,con Za1)]) N f35 [] [.g a0 35,.i .i64 a1] []=(bif decide (0<=a1) then (some (.a (.b ((!((Zae a0 a1))))),.none,true)) else (none)):=by kernel_rfl
def Zaf(a0:Array Value)(a1:Int):Bool:=(!((Zae a0 a1)))
theorem Zvl(a0:Array Value)(a1:Int)(h_a0:WT prog 35 a0)(h_a1:i64.min<=a1/\a1<=i64.max)(hg:(decide (0<=a1))=true):ansV prog (mkΓ [(49,con Za1)]) 1000 f35 [] [.g a0 35,.i .i64 a1] []=some (.a (.b ((Zaf a0 a1))),.none,true):=by
 refine(Zw7 1000 a0 a1).trans ?_;unfold Zaf;revert hg;generalize (decide (0<=a1))=b2;intro hg;cases b2
 ·skip
  first|exact(nomatch (hg:false=true))|rfl
 ·skip
  first|rfl|exact(nomatch (hg:false=true))
def Zce:Con:=λargs h=>match args,h with|[.g a0 35,.i .i64 a1],[]=>some (.a (.b ((Zaf a0 a1))),.none,decide (0<=a1))|_,_=>none
theorem Zb6:EntX prog 35:=Zal (fn:=f35)
theorem Zdg:Uad mn prog 35 Zce:=(ansY (N:=1000) (mKc (Zah Zd2) Zch mKn) f35 []).of (by
 intro ρ h w args vals r e hA hH hr;unfold Zce at hr;split at hr
 ·rename_i a0 a1;obtain⟨rfl,rfl,hg2⟩:=BQi hr;exact Zvl a0 a1 (hA.wt 0 rfl) (hA.rng 1 rfl) hg2
 ·cases hr)
theorem Zwq(N:Nat)(a0:Int):ansV prog (mkΓ []) N f53 [] [.i .i64 a0] []=(bif (a0==(0:Int)) then (some (.a (.b true),.none,true)) else (some (.a (.b ((a0==(1:Int)))),.none,true))):=by kernel_rfl
def Zcl(a0:Int):Bool:=(bif (a0==(0:Int)) then true else (a0==(1:Int)))
theorem Zue(a0:Int)(h_a0:i64.min<=a0/\a0<=i64.max)(hg:(true)=true):ansV prog (mkΓ []) 1000 f53 [] [.i .i64 a0] []=some (.a (.b ((Zcl a0))),.none,true):=by
 refine(Zwq 1000 a0).trans ?_;unfold Zcl;revert hg;generalize ((a0==(0:Int)))=b2;intro hg;cases b2
 ·skip
  first|rfl|exact(nomatch (hg:false=true))
 ·skip
  first|rfl|exact(nomatch (hg:false=true))
def Zj8:Con:=λargs h=>match args,h with|[.i .i64 a0],[]=>some (.a (.b ((Zcl a0))),.none,true)|_,_=>none
theorem Zge:EntX prog 53:=Zal (fn:=f53)
theorem Zh7:Uad mn prog 53 Zj8:=(ansY (N:=1000) mKn f53 []).of (by
 intro ρ h w args vals r e hA hH hr;unfold Zj8 at hr;split at hr
 ·rename_i a0;obtain⟨rfl,rfl,hg2⟩:=BQi hr;exact Zue a0 (hA.rng 0 rfl) hg2
 ·cases hr)
theorem Zyp(N:Nat)(a0:Array Value):ansV prog (mkΓ []) N f70 [] [.g a0 95] []=(some (.a (.i .i64 (i64.wrap ((num a0 0)+(i64.wrap ((6:Int)*(num a0 1)))))),.none,true)):=by kernel_rfl
theorem Zwz(a0:Array Value)(h_a0:WT prog 95 a0)(hg:(true)=true):ansV prog (mkΓ []) 1000 f70 [] [.g a0 95] []=some (.a (.i .i64 (i64.wrap ((num a0 0)+(i64.wrap ((6:Int)*(num a0 1)))))),.none,true):=by refine(Zyp 1000 a0).trans ?_;rfl
def Zii:Con:=λargs h=>match args,h with|[.g a0 95],[]=>some (.a (.i .i64 (i64.wrap ((num a0 0)+(i64.wrap ((6:Int)*(num a0 1)))))),.none,true)|_,_=>none
theorem Zme:EntX prog 70:=Zal (fn:=f70)
theorem Zq3:Uad mn prog 70 Zii:=(ansY (N:=1000) mKn f70 []).of (by
 intro ρ h w args vals r e hA hH hr;unfold Zii at hr;split at hr
 ·rename_i a0;obtain⟨rfl,rfl,hg2⟩:=BQi hr;exact Zwz a0 (hA.wt 0 rfl) hg2
 ·cases hr)
end
end Go.Proofs.YtefjogahegolbaaDoor
