/- Places, tides, land and water, in company. -/
import Derived.Test.YtefjogahegolbaaDoorProg
import Derived.Test.YtefjogahegolbaaDoorVcE
set_option linter.unusedVariables false
set_option linter.unusedSimpArgs false
namespace Go.Proofs.YtefjogahegolbaaDoor
open Tryd (f30 f31 f34 f35 f44 f49 f50 f53 f54 f55 f63 f70 f71)
open Go.ChangeShapes Go.WideShapes Go.ChangeAt Go.RowKit Ve Vc
open Tryd (prog)
open IntKind (i64)
set_option maxRecDepth 100000
noncomputable section
variable {mn:Md}
theorem Ycm(N:Nat)(a0 a1 a2:Int):ansV prog (mkΓ []) N f44 [] [.i .i64 a0,.i .i64 a1,.i .i64 a2] []=(bif decide (a0>=a1) then (some (.a (.b (decide (a0<=a2))),.none,true)) else (some (.a (.b false),.none,true))):=by kernel_rfl
def Zaa(a0 a1 a2:Int):Bool:=(bif decide (a0>=a1) then decide (a0<=a2) else false)
theorem Ya1(a0 a1 a2:Int)(h_a0:i64.min<=a0/\a0<=i64.max)(h_a1:i64.min<=a1/\a1<=i64.max)(h_a2:i64.min<=a2/\a2<=i64.max)(hg:(true)=true):ansV prog (mkΓ []) 1000 f44 [] [.i .i64 a0,.i .i64 a1,.i .i64 a2] []=some (.a (.b ((Zaa a0 a1 a2))),.none,true):=by
 refine(Ycm 1000 a0 a1 a2).trans ?_;unfold Zaa;revert hg;generalize (decide (a0>=a1))=b2;intro hg;cases b2
 ·skip
  first|rfl|exact(nomatch (hg:false=true))
 ·skip
  first|rfl|exact(nomatch (hg:false=true))
def Zcb:Con:=λargs h=>match args,h with|[.i .i64 a0,.i .i64 a1,.i .i64 a2],[]=>some (.a (.b ((Zaa a0 a1 a2))),.none,true)|_,_=>none
theorem Zgb:EntX prog 44:=Zam (fn:=f44)
theorem Zjh:Uad mn prog 44 Zcb:=(ansY (N:=1000) mKn f44 []).of (by
 intro ρ h w args vals r e hA hH hr;unfold Zcb at hr;split at hr
 ·rename_i a0 a1 a2;obtain⟨rfl,rfl,hg2⟩:=BQi hr;exact Ya1 a0 a1 a2 (hA.rng 0 rfl) (hA.rng 1 rfl) (hA.rng 2 rfl) hg2
 ·cases hr)
theorem Yco(N:Nat)(a1:Int)(a0:Array Value):ansV prog (mkΓ [(44,con Zcb)]) N f30 [] [.w 0,.i .i64 a1] [.row a0 35]=(bif (Zaa a1 (0:Int) (35:Int)) then (bif decide (((a1).tmod (6:Int))<(i64.wrap (num a0 0))) then (some (.a (.b (decide ((i64.wrap ((a1).tdiv (6:Int)))<(i64.wrap (num a0 1))))),.none,true)) else (some (.a (.b false),.none,true))) else (some (.a (.b false),.none,true))):=by kernel_rfl
def Zac(a1:Int)(a0:Array Value):Bool:=(bif (Zaa a1 (0:Int) (35:Int)) then (bif decide (((a1).tmod (6:Int))<(i64.wrap (num a0 0))) then decide ((i64.wrap ((a1).tdiv (6:Int)))<(i64.wrap (num a0 1))) else false) else false)
theorem Yb2(a1:Int)(a0:Array Value)(h_a1:i64.min<=a1/\a1<=i64.max)(h_a0:WT prog 35 a0)(hg:(true)=true):ansV prog (mkΓ [(44,con Zcb)]) 1000 f30 [] [.w 0,.i .i64 a1] [.row a0 35]=some (.a (.b ((Zac a1 a0))),.none,true):=by
 refine(Yco 1000 a1 a0).trans ?_;unfold Zac;revert hg;generalize ((Zaa a1 (0:Int) (35:Int)))=b2;intro hg;cases b2
 ·skip
  first|rfl|exact(nomatch (hg:false=true))
 ·skip
  revert hg;generalize (decide (((a1).tmod (6:Int))<(i64.wrap (num a0 0))))=b4;intro hg;cases b4
  ·skip
   first|rfl|exact(nomatch (hg:false=true))
  ·skip
   first|rfl|exact(nomatch (hg:false=true))
def Zbn:Con:=λargs h=>match args,h with|[.w 0,.i .i64 a1],[.row a0 35]=>some (.a (.b ((Zac a1 a0))),.none,true)|_,_=>none
theorem Zf7:EntX prog 30:=Zam (fn:=f30)
theorem Zi3:Uad mn prog 30 Zbn:=(ansY (N:=1000) (mKc (Zah Zjh) Zgb mKn) f30 []).of (by
 intro ρ h w args vals r e hA hH hr;unfold Zbn at hr;split at hr
 ·rename_i a1 a0;obtain⟨rfl,rfl,hg2⟩:=BQi hr;exact Yb2 a1 a0 (hA.rng 1 rfl) (hH.wt 0 rfl) hg2
 ·cases hr)
theorem Zzq(N:Nat)(a0:Int):ansV prog (mkΓ [(44,con Zcb)]) N f50 [] [.i .i64 a0] []=(some (.a (.b ((Zaa a0 (0:Int) (1:Int)))),.none,true)):=by kernel_rfl
theorem Zwl(a0:Int)(h_a0:i64.min<=a0/\a0<=i64.max)(hg:(true)=true):ansV prog (mkΓ [(44,con Zcb)]) 1000 f50 [] [.i .i64 a0] []=some (.a (.b ((Zaa a0 (0:Int) (1:Int)))),.none,true):=by refine(Zzq 1000 a0).trans ?_;rfl
def Zkx:Con:=λargs h=>match args,h with|[.i .i64 a0],[]=>some (.a (.b ((Zaa a0 (0:Int) (1:Int)))),.none,true)|_,_=>none
theorem Ztu:EntX prog 50:=Zam (fn:=f50)
theorem Ycc:Uad mn prog 50 Zkx:=(ansY (N:=1000) (mKc (Zah Zjh) Zgb mKn) f50 []).of (by
 intro ρ h w args vals r e hA hH hr;unfold Zkx at hr;split at hr
 ·rename_i a0;obtain⟨rfl,rfl,hg2⟩:=BQi hr;exact Zwl a0 (hA.rng 0 rfl) hg2
 ·cases hr)
theorem Ybc(N:Nat)(a1:Int)(a0:Array Value):ansV prog (mkΓ []) N f31 [] [.w 0,.i .i64 a1] [.row a0 35]=(bif decide (0<=(IntKind.u64.wrap a1)) then (some (.a (.b (((((((num a0 2)).fdiv (2^(min ((IntKind.u64.wrap a1)).toNat IntKind.u64.bits)))).tmod (2:Int))==(1:Int)))),.none,true)) else (none)):=by kernel_rfl
def Zak(a1:Int)(a0:Array Value):Bool:=((((((num a0 2)).fdiv (2^(min ((IntKind.u64.wrap a1)).toNat IntKind.u64.bits)))).tmod (2:Int))==(1:Int))
theorem Zx6(a1:Int)(a0:Array Value)(h_a1:i64.min<=a1/\a1<=i64.max)(h_a0:WT prog 35 a0)(hg:(decide (0<=(IntKind.u64.wrap a1)))=true):ansV prog (mkΓ []) 1000 f31 [] [.w 0,.i .i64 a1] [.row a0 35]=some (.a (.b ((Zak a1 a0))),.none,true):=by
 refine(Ybc 1000 a1 a0).trans ?_;unfold Zak;revert hg;generalize (decide (0<=(IntKind.u64.wrap a1)))=b2;intro hg;cases b2
 ·skip
  first|exact(nomatch (hg:false=true))|rfl
 ·skip
  first|rfl|exact(nomatch (hg:false=true))
def Zfl:Con:=λargs h=>match args,h with|[.w 0,.i .i64 a1],[.row a0 35]=>some (.a (.b ((Zak a1 a0))),.none,decide (0<=(IntKind.u64.wrap a1)))|_,_=>none
theorem Zhj:EntX prog 31:=Zam (fn:=f31)
theorem Zkj:Uad mn prog 31 Zfl:=(ansY (N:=1000) mKn f31 []).of (by
 intro ρ h w args vals r e hA hH hr;unfold Zfl at hr;split at hr
 ·rename_i a1 a0;obtain⟨rfl,rfl,hg2⟩:=BQi hr;exact Zx6 a1 a0 (hA.rng 1 rfl) (hH.wt 0 rfl) hg2
 ·cases hr)
def Zuj:Cons:=(mkΓ [(30,con Zbn),(31,con Zfl)])
theorem Ybp(N:Nat)(a1:Int)(a0:Array Value):ansV prog Zuj N f63 [] [.w 0,.i .i64 a1] [.row a0 35]=(bif (Zac a1 a0) then (bif decide (0<=(IntKind.u64.wrap a1)) then (some (.a (.b ((!((Zak a1 a0))))),.none,true)) else (none)) else (some (.a (.b false),.none,true))):=by kernel_rfl
def Zal(a1:Int)(a0:Array Value):Bool:=(bif (Zac a1 a0) then (!((Zak a1 a0))) else false)
def Zbu(a1:Int)(a0:Array Value):Bool:=(bif (Zac a1 a0) then decide (0<=(IntKind.u64.wrap a1)) else true)
theorem Zx0(a1:Int)(a0:Array Value)(h_a1:i64.min<=a1/\a1<=i64.max)(h_a0:WT prog 35 a0)(hg:((Zbu a1 a0))=true):ansV prog Zuj 1000 f63 [] [.w 0,.i .i64 a1] [.row a0 35]=some (.a (.b ((Zal a1 a0))),.none,true):=by
 refine(Ybp 1000 a1 a0).trans ?_;unfold Zbu at hg;unfold Zal;revert hg;generalize ((Zac a1 a0))=b2;intro hg;cases b2
 ·skip
  first|rfl|exact(nomatch (hg:false=true))
 ·skip
  revert hg;generalize (decide (0<=(IntKind.u64.wrap a1)))=b4;intro hg;cases b4
  ·skip
   first|exact(nomatch (hg:false=true))|rfl
  ·skip
   first|rfl|exact(nomatch (hg:false=true))
def Zjo:Con:=λargs h=>match args,h with|[.w 0,.i .i64 a1],[.row a0 35]=>some (.a (.b ((Zal a1 a0))),.none,(Zbu a1 a0))|_,_=>none
theorem Znf:EntX prog 63:=Zam (fn:=f63)
theorem Zr2:Uad mn prog 63 Zjo:=(ansY (N:=1000) (mKc (Zah Zi3) Zf7 (mKc (Zah Zkj) Zhj mKn)) f63 []).of (by
 intro ρ h w args vals r e hA hH hr;unfold Zjo at hr;split at hr
 ·rename_i a1 a0;obtain⟨rfl,rfl,hg2⟩:=BQi hr;exact Zx0 a1 a0 (hA.rng 1 rfl) (hH.wt 0 rfl) hg2
 ·cases hr)
theorem Zwo(N:Nat)(a0 a1:Array Value):ansV prog (mkΓ []) N f54 [] [.g a0 35,.g a1 95] []=(bif decide ((num a1 0)>=(0:Int)) then (bif decide ((num a1 0)<(i64.wrap (num a0 0))) then (bif decide ((num a1 1)>=(0:Int)) then (some (.a (.b (decide ((num a1 1)<(i64.wrap (num a0 1))))),.none,true)) else (some (.a (.b false),.none,true))) else (some (.a (.b false),.none,true))) else (some (.a (.b false),.none,true))):=by kernel_rfl
def Zat(a0 a1:Array Value):Bool:=(bif decide ((num a1 0)>=(0:Int)) then (bif decide ((num a1 0)<(i64.wrap (num a0 0))) then (bif decide ((num a1 1)>=(0:Int)) then decide ((num a1 1)<(i64.wrap (num a0 1))) else false) else false) else false)
theorem Ztm(a0 a1:Array Value)(h_a0:WT prog 35 a0)(h_a1:WT prog 95 a1)(hg:(true)=true):ansV prog (mkΓ []) 1000 f54 [] [.g a0 35,.g a1 95] []=some (.a (.b ((Zat a0 a1))),.none,true):=by
 refine(Zwo 1000 a0 a1).trans ?_;unfold Zat;revert hg;generalize (decide ((num a1 0)>=(0:Int)))=b2;intro hg;cases b2
 ·skip
  first|rfl|exact(nomatch (hg:false=true))
 ·skip
  revert hg;generalize (decide ((num a1 0)<(i64.wrap (num a0 0))))=b4;intro hg;cases b4
  ·skip
   first|rfl|exact(nomatch (hg:false=true))
  ·skip
   revert hg;generalize (decide ((num a1 1)>=(0:Int)))=b6;intro hg;cases b6
   ·skip
    first|rfl|exact(nomatch (hg:false=true))
   ·skip
    first|rfl|exact(nomatch (hg:false=true))
def Zhf:Con:=λargs h=>match args,h with|[.g a0 35,.g a1 95],[]=>some (.a (.b ((Zat a0 a1))),.none,true)|_,_=>none
theorem Zme:EntX prog 54:=Zam (fn:=f54)
theorem Zop:Uad mn prog 54 Zhf:=(ansY (N:=1000) mKn f54 []).of (by
 intro ρ h w args vals r e hA hH hr;unfold Zhf at hr;split at hr
 ·rename_i a0 a1;obtain⟨rfl,rfl,hg2⟩:=BQi hr;exact Ztm a0 a1 (hA.wt 0 rfl) (hA.wt 1 rfl) hg2
 ·cases hr)
theorem Zyu(N:Nat)(a0:Int):ansV prog (mkΓ []) N f55 [] [.i .i64 a0] []=(some (.a (.g #[.int .i64 ((a0).tmod (6:Int)),.int .i64 (i64.wrap ((a0).tdiv (6:Int)))] 95),.none,true)):=by kernel_rfl
theorem Zw4(a0:Int)(h_a0:i64.min<=a0/\a0<=i64.max)(hg:(true)=true):ansV prog (mkΓ []) 1000 f55 [] [.i .i64 a0] []=some (.a (.g #[.int .i64 ((a0).tmod (6:Int)),.int .i64 (i64.wrap ((a0).tdiv (6:Int)))] 95),.none,true):=by refine(Zyu 1000 a0).trans ?_;rfl
def Zia:Con:=λargs h=>match args,h with|[.i .i64 a0],[]=>some (.a (.g #[.int .i64 ((a0).tmod (6:Int)),.int .i64 (i64.wrap ((a0).tdiv (6:Int)))] 95),.none,true)|_,_=>none
theorem Zmr:EntX prog 55:=Zam (fn:=f55)
theorem Zpk:Uad mn prog 55 Zia:=(ansY (N:=1000) mKn f55 []).of (by
 intro ρ h w args vals r e hA hH hr;unfold Zia at hr;split at hr
 ·rename_i a0;obtain⟨rfl,rfl,hg2⟩:=BQi hr;exact Zw4 a0 (hA.rng 0 rfl) hg2
 ·cases hr)
def Zr5:Cons:=(mkΓ [(54,con Zhf),(55,con Zia)])
theorem Zzf(N:Nat)(a0:Array Value)(a1:Int):ansV prog Zr5 N f34 [] [.g a0 35,.i .i64 a1] []=(bif decide (a1>=(0:Int)) then (bif decide (a1<(36:Int)) then (some (.a (.b ((Zat a0 (#[.int .i64 ((a1).tmod (6:Int)),.int .i64 (i64.wrap ((a1).tdiv (6:Int)))]:Array Value)))),.none,true)) else (some (.a (.b false),.none,true))) else (some (.a (.b false),.none,true))):=by kernel_rfl
def Zas(a0:Array Value)(a1:Int):Bool:=(bif decide (a1>=(0:Int)) then (bif decide (a1<(36:Int)) then (Zat a0 (#[.int .i64 ((a1).tmod (6:Int)),.int .i64 (i64.wrap ((a1).tdiv (6:Int)))]:Array Value)) else false) else false)
theorem Zw2(a0:Array Value)(a1:Int)(h_a0:WT prog 35 a0)(h_a1:i64.min<=a1/\a1<=i64.max)(hg:(true)=true):ansV prog Zr5 1000 f34 [] [.g a0 35,.i .i64 a1] []=some (.a (.b ((Zas a0 a1))),.none,true):=by
 refine(Zzf 1000 a0 a1).trans ?_;unfold Zas;revert hg;generalize (decide (a1>=(0:Int)))=b2;intro hg;cases b2
 ·skip
  first|rfl|exact(nomatch (hg:false=true))
 ·skip
  revert hg;generalize (decide (a1<(36:Int)))=b4;intro hg;cases b4
  ·skip
   first|rfl|exact(nomatch (hg:false=true))
  ·skip
   first|rfl|exact(nomatch (hg:false=true))
def Zgh:Con:=λargs h=>match args,h with|[.g a0 35,.i .i64 a1],[]=>some (.a (.b ((Zas a0 a1))),.none,true)|_,_=>none
theorem Zdu:EntX prog 34:=Zam (fn:=f34)
theorem Zfr:Uad mn prog 34 Zgh:=(ansY (N:=1000) (mKc (Zah Zop) Zme (mKc (Zah Zpk) Zmr mKn)) f34 []).of (by
 intro ρ h w args vals r e hA hH hr;unfold Zgh at hr;split at hr
 ·rename_i a0 a1;obtain⟨rfl,rfl,hg2⟩:=BQi hr;exact Zw2 a0 a1 (hA.wt 0 rfl) (hA.rng 1 rfl) hg2
 ·cases hr)
theorem Ycr(N:Nat)(a0:Int):ansV prog (mkΓ []) N f71 [] [.i .i64 a0] []=(bif decide (0<=a0) then (some (.a (.i .u64 (IntKind.u64.wrap ((1:Int)*2^(min (a0).toNat IntKind.u64.bits)))),.none,true)) else (none)):=by kernel_rfl
def Zd5(a0:Int):Int:=(IntKind.u64.wrap ((1:Int)*2^(min (a0).toNat IntKind.u64.bits)))
theorem Ybe(a0:Int)(h_a0:i64.min<=a0/\a0<=i64.max)(hg:(decide (0<=a0))=true):ansV prog (mkΓ []) 1000 f71 [] [.i .i64 a0] []=some (.a (.i .u64 (Zd5 a0)),.none,true):=by
 refine(Ycr 1000 a0).trans ?_;unfold Zd5;revert hg;generalize (decide (0<=a0))=b2;intro hg;cases b2
 ·skip
  first|exact(nomatch (hg:false=true))|rfl
 ·skip
  first|rfl|exact(nomatch (hg:false=true))
def Zh8:Con:=λargs h=>match args,h with|[.i .i64 a0],[]=>some (.a (.i .u64 (Zd5 a0)),.none,decide (0<=a0))|_,_=>none
theorem Zon:EntX prog 71:=Zam (fn:=f71)
theorem Zvf:Uad mn prog 71 Zh8:=(ansY (N:=1000) mKn f71 []).of (by
 intro ρ h w args vals r e hA hH hr;unfold Zh8 at hr;split at hr
 ·rename_i a0;obtain⟨rfl,rfl,hg2⟩:=BQi hr;exact Ybe a0 (hA.rng 0 rfl) hg2
 ·cases hr)
theorem Ybf(N:Nat)(a0:Array Value)(a1:Int):ansV prog (mkΓ [(71,con Zh8)]) N f49 [] [.g a0 35,.i .i64 a1] []=(bif decide (0<=a1) then (some (.a (.b (((IntKind.u64.wrap (BitVec.ofInt IntKind.u64.bits (num a0 2) &&& BitVec.ofInt IntKind.u64.bits (Zd5 a1)).toNat) != (0:Int)))),.none,true)) else (none)):=by kernel_rfl
def Zab(a0:Array Value)(a1:Int):Bool:=((IntKind.u64.wrap (BitVec.ofInt IntKind.u64.bits (num a0 2) &&& BitVec.ofInt IntKind.u64.bits (Zd5 a1)).toNat) != (0:Int))
theorem Zya(a0:Array Value)(a1:Int)(h_a0:WT prog 35 a0)(h_a1:i64.min<=a1/\a1<=i64.max)(hg:(decide (0<=a1))=true):ansV prog (mkΓ [(71,con Zh8)]) 1000 f49 [] [.g a0 35,.i .i64 a1] []=some (.a (.b ((Zab a0 a1))),.none,true):=by
 refine(Ybf 1000 a0 a1).trans ?_;unfold Zab;revert hg;generalize (decide (0<=a1))=b2;intro hg;cases b2
 ·skip
  first|exact(nomatch (hg:false=true))|rfl
 ·skip
  first|rfl|exact(nomatch (hg:false=true))
def Zba:Con:=λargs h=>match args,h with|[.g a0 35,.i .i64 a1],[]=>some (.a (.b ((Zab a0 a1))),.none,decide (0<=a1))|_,_=>none
theorem Zcj:EntX prog 49:=Zam (fn:=f49)
theorem Zd8:Uad mn prog 49 Zba:=(ansY (N:=1000) (mKc (Zah Zvf) Zon mKn) f49 []).of (by
 intro ρ h w args vals r e hA hH hr;unfold Zba at hr;split at hr
 ·rename_i a0 a1;obtain⟨rfl,rfl,hg2⟩:=BQi hr;exact Zya a0 a1 (hA.wt 0 rfl) (hA.rng 1 rfl) hg2
 ·cases hr)
theorem Zyz(N:Nat)(a0:Array Value)(a1:Int):ansV prog (mkΓ [(49,con Zba)]) N f35 [] [.g a0 35,.i .i64 a1] []=(bif decide (0<=a1) then (some (.a (.b ((!((Zab a0 a1))))),.none,true)) else (none)):=by kernel_rfl
def Zae(a0:Array Value)(a1:Int):Bool:=(!((Zab a0 a1)))
theorem Zwx(a0:Array Value)(a1:Int)(h_a0:WT prog 35 a0)(h_a1:i64.min<=a1/\a1<=i64.max)(hg:(decide (0<=a1))=true):ansV prog (mkΓ [(49,con Zba)]) 1000 f35 [] [.g a0 35,.i .i64 a1] []=some (.a (.b ((Zae a0 a1))),.none,true):=by
 refine(Zyz 1000 a0 a1).trans ?_;unfold Zae;revert hg;generalize (decide (0<=a1))=b2;intro hg;cases b2
 ·skip
  first|exact(nomatch (hg:false=true))|rfl
 ·skip
  first|rfl|exact(nomatch (hg:false=true))
def Zev:Con:=λargs h=>match args,h with|[.g a0 35,.i .i64 a1],[]=>some (.a (.b ((Zae a0 a1))),.none,decide (0<=a1))|_,_=>none
theorem Zgy:EntX prog 35:=Zam (fn:=f35)
theorem Zi9:Uad mn prog 35 Zev:=(ansY (N:=1000) (mKc (Zah Zd8) Zcj mKn) f35 []).of (by
 intro ρ h w args vals r e hA hH hr;unfold Zev at hr;split at hr
 ·rename_i a0 a1;obtain⟨rfl,rfl,hg2⟩:=BQi hr;exact Zwx a0 a1 (hA.wt 0 rfl) (hA.rng 1 rfl) hg2
 ·cases hr)
theorem Zza(N:Nat)(a0:Int):ansV prog (mkΓ []) N f53 [] [.i .i64 a0] []=(bif (a0==(0:Int)) then (some (.a (.b true),.none,true)) else (some (.a (.b ((a0==(1:Int)))),.none,true))):=by kernel_rfl
def Zcv(a0:Int):Bool:=(bif (a0==(0:Int)) then true else (a0==(1:Int)))
theorem Zwv(a0:Int)(h_a0:i64.min<=a0/\a0<=i64.max)(hg:(true)=true):ansV prog (mkΓ []) 1000 f53 [] [.i .i64 a0] []=some (.a (.b ((Zcv a0))),.none,true):=by
 refine(Zza 1000 a0).trans ?_;unfold Zcv;revert hg;generalize ((a0==(0:Int)))=b2;intro hg;cases b2
 ·skip
  first|rfl|exact(nomatch (hg:false=true))
 ·skip
  first|rfl|exact(nomatch (hg:false=true))
def Zkt:Con:=λargs h=>match args,h with|[.i .i64 a0],[]=>some (.a (.b ((Zcv a0))),.none,true)|_,_=>none
theorem Zgx:EntX prog 53:=Zam (fn:=f53)
theorem Zjk:Uad mn prog 53 Zkt:=(ansY (N:=1000) mKn f53 []).of (by
 intro ρ h w args vals r e hA hH hr;unfold Zkt at hr;split at hr
 ·rename_i a0;obtain⟨rfl,rfl,hg2⟩:=BQi hr;exact Zwv a0 (hA.rng 0 rfl) hg2
 ·cases hr)
theorem Yal(N:Nat)(a0:Array Value):ansV prog (mkΓ []) N f70 [] [.g a0 95] []=(some (.a (.i .i64 (i64.wrap ((num a0 0)+(i64.wrap ((6:Int)*(num a0 1)))))),.none,true)):=by kernel_rfl
theorem Zyt(a0:Array Value)(h_a0:WT prog 95 a0)(hg:(true)=true):ansV prog (mkΓ []) 1000 f70 [] [.g a0 95] []=some (.a (.i .i64 (i64.wrap ((num a0 0)+(i64.wrap ((6:Int)*(num a0 1)))))),.none,true):=by refine(Yal 1000 a0).trans ?_;rfl
def Ziz:Con:=λargs h=>match args,h with|[.g a0 95],[]=>some (.a (.i .i64 (i64.wrap ((num a0 0)+(i64.wrap ((6:Int)*(num a0 1)))))),.none,true)|_,_=>none
theorem Znl:EntX prog 70:=Zam (fn:=f70)
theorem Zr8:Uad mn prog 70 Ziz:=(ansY (N:=1000) mKn f70 []).of (by
 intro ρ h w args vals r e hA hH hr;unfold Ziz at hr;split at hr
 ·rename_i a0;obtain⟨rfl,rfl,hg2⟩:=BQi hr;exact Zyt a0 (hA.wt 0 rfl) hg2
 ·cases hr)
end
end Go.Proofs.YtefjogahegolbaaDoor
