/- Places, tides, land and water, in company. -/
import Derived.Test.YtgllknjdblkhnaaDoorProg
import Derived.Test.YtgllknjdblkhnaaDoorVcE
set_option linter.unusedVariables false
set_option linter.unusedSimpArgs false
namespace Go.Proofs.YtgllknjdblkhnaaDoor
open Tryd (f32 f33 f35 f46 f56 f57 f62 f79 f80 f94 f95 f96 f97)
open Go.ChangeShapes Go.WideShapes Go.ChangeAt Go.RowKit Ve Vc
open Tryd (prog)
open IntKind (i64)
set_option maxRecDepth 100000
noncomputable section
variable {mn:Md}
theorem Yb5(N:Nat)(a0 a1 a2:Int):ansV prog (mkΓ []) N f33 [] [.i .i64 a0,.i .i64 a1,.i .i64 a2] []=(bif decide (a0>=a1) then (some (.a (.b (decide (a0<=a2))),.none,true)) else (some (.a (.b false),.none,true))):=by kernel_rfl
def Zaa(a0 a1 a2:Int):Bool:=(bif decide (a0>=a1) then decide (a0<=a2) else false)
theorem Yaj(a0 a1 a2:Int)(h_a0:i64.min<=a0/\a0<=i64.max)(h_a1:i64.min<=a1/\a1<=i64.max)(h_a2:i64.min<=a2/\a2<=i64.max)(hg:(true)=true):ansV prog (mkΓ []) 1000 f33 [] [.i .i64 a0,.i .i64 a1,.i .i64 a2] []=some (.a (.b ((Zaa a0 a1 a2))),.none,true):=by
 refine(Yb5 1000 a0 a1 a2).trans ?_;unfold Zaa;revert hg;generalize (decide (a0>=a1))=b2;intro hg;cases b2
 ·skip
  first|rfl|exact(nomatch (hg:false=true))
 ·skip
  first|rfl|exact(nomatch (hg:false=true))
def Zc7:Con:=λargs h=>match args,h with|[.i .i64 a0,.i .i64 a1,.i .i64 a2],[]=>some (.a (.b ((Zaa a0 a1 a2))),.none,true)|_,_=>none
theorem Zgm:EntX prog 33:=Zao (fn:=f33)
theorem Zjh:Uad mn prog 33 Zc7:=(ansY (N:=1000) mKn f33 []).of (by
 intro ρ h w args vals r e hA hH hr;unfold Zc7 at hr;split at hr
 ·rename_i a0 a1 a2;obtain⟨rfl,rfl,hg2⟩:=BQi hr;exact Yaj a0 a1 a2 (hA.rng 0 rfl) (hA.rng 1 rfl) (hA.rng 2 rfl) hg2
 ·cases hr)
theorem Ybw(N:Nat)(a1:Int)(a0:Array Value):ansV prog (mkΓ [(33,con Zc7)]) N f56 [] [.w 0,.i .i64 a1] [.row a0 35]=(bif (Zaa a1 (0:Int) (35:Int)) then (bif decide (((a1).tmod (6:Int))<(i64.wrap (num a0 0))) then (some (.a (.b (decide ((i64.wrap ((a1).tdiv (6:Int)))<(i64.wrap (num a0 1))))),.none,true)) else (some (.a (.b false),.none,true))) else (some (.a (.b false),.none,true))):=by kernel_rfl
def Zaw(a1:Int)(a0:Array Value):Bool:=(bif (Zaa a1 (0:Int) (35:Int)) then (bif decide (((a1).tmod (6:Int))<(i64.wrap (num a0 0))) then decide ((i64.wrap ((a1).tdiv (6:Int)))<(i64.wrap (num a0 1))) else false) else false)
theorem Zz7(a1:Int)(a0:Array Value)(h_a1:i64.min<=a1/\a1<=i64.max)(h_a0:WT prog 35 a0)(hg:(true)=true):ansV prog (mkΓ [(33,con Zc7)]) 1000 f56 [] [.w 0,.i .i64 a1] [.row a0 35]=some (.a (.b ((Zaw a1 a0))),.none,true):=by
 refine(Ybw 1000 a1 a0).trans ?_;unfold Zaw;revert hg;generalize ((Zaa a1 (0:Int) (35:Int)))=b2;intro hg;cases b2
 ·skip
  first|rfl|exact(nomatch (hg:false=true))
 ·skip
  revert hg;generalize (decide (((a1).tmod (6:Int))<(i64.wrap (num a0 0))))=b4;intro hg;cases b4
  ·skip
   first|rfl|exact(nomatch (hg:false=true))
  ·skip
   first|rfl|exact(nomatch (hg:false=true))
def Zcs:Con:=λargs h=>match args,h with|[.w 0,.i .i64 a1],[.row a0 35]=>some (.a (.b ((Zaw a1 a0))),.none,true)|_,_=>none
theorem Zos:EntX prog 56:=Zao (fn:=f56)
theorem Zup:Uad mn prog 56 Zcs:=(ansY (N:=1000) (mKc (Zai Zjh) Zgm mKn) f56 []).of (by
 intro ρ h w args vals r e hA hH hr;unfold Zcs at hr;split at hr
 ·rename_i a1 a0;obtain⟨rfl,rfl,hg2⟩:=BQi hr;exact Zz7 a1 a0 (hA.rng 1 rfl) (hH.wt 0 rfl) hg2
 ·cases hr)
theorem Zyk(N:Nat)(a0:Int):ansV prog (mkΓ [(33,con Zc7)]) N f32 [] [.i .i64 a0] []=(some (.a (.b ((Zaa a0 (0:Int) (1:Int)))),.none,true)):=by kernel_rfl
theorem Zw5(a0:Int)(h_a0:i64.min<=a0/\a0<=i64.max)(hg:(true)=true):ansV prog (mkΓ [(33,con Zc7)]) 1000 f32 [] [.i .i64 a0] []=some (.a (.b ((Zaa a0 (0:Int) (1:Int)))),.none,true):=by refine(Zyk 1000 a0).trans ?_;rfl
def Zkv:Con:=λargs h=>match args,h with|[.i .i64 a0],[]=>some (.a (.b ((Zaa a0 (0:Int) (1:Int)))),.none,true)|_,_=>none
theorem Zum:EntX prog 32:=Zao (fn:=f32)
theorem Yak:Uad mn prog 32 Zkv:=(ansY (N:=1000) (mKc (Zai Zjh) Zgm mKn) f32 []).of (by
 intro ρ h w args vals r e hA hH hr;unfold Zkv at hr;split at hr
 ·rename_i a0;obtain⟨rfl,rfl,hg2⟩:=BQi hr;exact Zw5 a0 (hA.rng 0 rfl) hg2
 ·cases hr)
theorem Yaq(N:Nat)(a1:Int)(a0:Array Value):ansV prog (mkΓ []) N f57 [] [.w 0,.i .i64 a1] [.row a0 35]=(bif decide (0<=(IntKind.u64.wrap a1)) then (some (.a (.b (((((((num a0 2)).fdiv (2^(min ((IntKind.u64.wrap a1)).toNat IntKind.u64.bits)))).tmod (2:Int))==(1:Int)))),.none,true)) else (none)):=by kernel_rfl
def Zc8(a1:Int)(a0:Array Value):Bool:=((((((num a0 2)).fdiv (2^(min ((IntKind.u64.wrap a1)).toNat IntKind.u64.bits)))).tmod (2:Int))==(1:Int))
theorem Zy3(a1:Int)(a0:Array Value)(h_a1:i64.min<=a1/\a1<=i64.max)(h_a0:WT prog 35 a0)(hg:(decide (0<=(IntKind.u64.wrap a1)))=true):ansV prog (mkΓ []) 1000 f57 [] [.w 0,.i .i64 a1] [.row a0 35]=some (.a (.b ((Zc8 a1 a0))),.none,true):=by
 refine(Yaq 1000 a1 a0).trans ?_;unfold Zc8;revert hg;generalize (decide (0<=(IntKind.u64.wrap a1)))=b2;intro hg;cases b2
 ·skip
  first|exact(nomatch (hg:false=true))|rfl
 ·skip
  first|rfl|exact(nomatch (hg:false=true))
def Zlr:Con:=λargs h=>match args,h with|[.w 0,.i .i64 a1],[.row a0 35]=>some (.a (.b ((Zc8 a1 a0))),.none,decide (0<=(IntKind.u64.wrap a1)))|_,_=>none
theorem Zwz:EntX prog 57:=Zao (fn:=f57)
theorem Ybr:Uad mn prog 57 Zlr:=(ansY (N:=1000) mKn f57 []).of (by
 intro ρ h w args vals r e hA hH hr;unfold Zlr at hr;split at hr
 ·rename_i a1 a0;obtain⟨rfl,rfl,hg2⟩:=BQi hr;exact Zy3 a1 a0 (hA.rng 1 rfl) (hH.wt 0 rfl) hg2
 ·cases hr)
def Zvu:Cons:=(mkΓ [(56,con Zcs),(57,con Zlr)])
theorem Yau(N:Nat)(a1:Int)(a0:Array Value):ansV prog Zvu N f35 [] [.w 0,.i .i64 a1] [.row a0 35]=(bif (Zaw a1 a0) then (bif decide (0<=(IntKind.u64.wrap a1)) then (some (.a (.b ((!((Zc8 a1 a0))))),.none,true)) else (none)) else (some (.a (.b false),.none,true))):=by kernel_rfl
def Zae(a1:Int)(a0:Array Value):Bool:=(bif (Zaw a1 a0) then (!((Zc8 a1 a0))) else false)
def Zbd(a1:Int)(a0:Array Value):Bool:=(bif (Zaw a1 a0) then decide (0<=(IntKind.u64.wrap a1)) else true)
theorem Zyw(a1:Int)(a0:Array Value)(h_a1:i64.min<=a1/\a1<=i64.max)(h_a0:WT prog 35 a0)(hg:((Zbd a1 a0))=true):ansV prog Zvu 1000 f35 [] [.w 0,.i .i64 a1] [.row a0 35]=some (.a (.b ((Zae a1 a0))),.none,true):=by
 refine(Yau 1000 a1 a0).trans ?_;unfold Zbd at hg;unfold Zae;revert hg;generalize ((Zaw a1 a0))=b2;intro hg;cases b2
 ·skip
  first|rfl|exact(nomatch (hg:false=true))
 ·skip
  revert hg;generalize (decide (0<=(IntKind.u64.wrap a1)))=b4;intro hg;cases b4
  ·skip
   first|exact(nomatch (hg:false=true))|rfl
  ·skip
   first|rfl|exact(nomatch (hg:false=true))
def Zha:Con:=λargs h=>match args,h with|[.w 0,.i .i64 a1],[.row a0 35]=>some (.a (.b ((Zae a1 a0))),.none,(Zbd a1 a0))|_,_=>none
theorem Zkh:EntX prog 35:=Zao (fn:=f35)
theorem Zm2:Uad mn prog 35 Zha:=(ansY (N:=1000) (mKc (Zai Zup) Zos (mKc (Zai Ybr) Zwz mKn)) f35 []).of (by
 intro ρ h w args vals r e hA hH hr;unfold Zha at hr;split at hr
 ·rename_i a1 a0;obtain⟨rfl,rfl,hg2⟩:=BQi hr;exact Zyw a1 a0 (hA.rng 1 rfl) (hH.wt 0 rfl) hg2
 ·cases hr)
theorem Zwu(N:Nat)(a0 a1:Array Value):ansV prog (mkΓ []) N f95 [] [.g a0 35,.g a1 170] []=(bif decide ((num a1 0)>=(0:Int)) then (bif decide ((num a1 0)<(i64.wrap (num a0 0))) then (bif decide ((num a1 1)>=(0:Int)) then (some (.a (.b (decide ((num a1 1)<(i64.wrap (num a0 1))))),.none,true)) else (some (.a (.b false),.none,true))) else (some (.a (.b false),.none,true))) else (some (.a (.b false),.none,true))):=by kernel_rfl
def Zar(a0 a1:Array Value):Bool:=(bif decide ((num a1 0)>=(0:Int)) then (bif decide ((num a1 0)<(i64.wrap (num a0 0))) then (bif decide ((num a1 1)>=(0:Int)) then decide ((num a1 1)<(i64.wrap (num a0 1))) else false) else false) else false)
theorem Zva(a0 a1:Array Value)(h_a0:WT prog 35 a0)(h_a1:WT prog 170 a1)(hg:(true)=true):ansV prog (mkΓ []) 1000 f95 [] [.g a0 35,.g a1 170] []=some (.a (.b ((Zar a0 a1))),.none,true):=by
 refine(Zwu 1000 a0 a1).trans ?_;unfold Zar;revert hg;generalize (decide ((num a1 0)>=(0:Int)))=b2;intro hg;cases b2
 ·skip
  first|rfl|exact(nomatch (hg:false=true))
 ·skip
  revert hg;generalize (decide ((num a1 0)<(i64.wrap (num a0 0))))=b4;intro hg;cases b4
  ·skip
   first|rfl|exact(nomatch (hg:false=true))
  ·skip
   revert hg;generalize (decide ((num a1 1)>=(0:Int)))=b6;intro hg;cases b6
   ·skip
    first|rfl|exact(nomatch (hg:false=true))
   ·skip
    first|rfl|exact(nomatch (hg:false=true))
def Zhv:Con:=λargs h=>match args,h with|[.g a0 35,.g a1 170],[]=>some (.a (.b ((Zar a0 a1))),.none,true)|_,_=>none
theorem Zlj:EntX prog 95:=Zao (fn:=f95)
theorem Zop:Uad mn prog 95 Zhv:=(ansY (N:=1000) mKn f95 []).of (by
 intro ρ h w args vals r e hA hH hr;unfold Zhv at hr;split at hr
 ·rename_i a0 a1;obtain⟨rfl,rfl,hg2⟩:=BQi hr;exact Zva a0 a1 (hA.wt 0 rfl) (hA.wt 1 rfl) hg2
 ·cases hr)
theorem Zyv(N:Nat)(a0:Int):ansV prog (mkΓ []) N f96 [] [.i .i64 a0] []=(some (.a (.g #[.int .i64 ((a0).tmod (6:Int)),.int .i64 (i64.wrap ((a0).tdiv (6:Int)))] 170),.none,true)):=by kernel_rfl
theorem Zxm(a0:Int)(h_a0:i64.min<=a0/\a0<=i64.max)(hg:(true)=true):ansV prog (mkΓ []) 1000 f96 [] [.i .i64 a0] []=some (.a (.g #[.int .i64 ((a0).tmod (6:Int)),.int .i64 (i64.wrap ((a0).tdiv (6:Int)))] 170),.none,true):=by refine(Zyv 1000 a0).trans ?_;rfl
def Zil:Con:=λargs h=>match args,h with|[.i .i64 a0],[]=>some (.a (.g #[.int .i64 ((a0).tmod (6:Int)),.int .i64 (i64.wrap ((a0).tdiv (6:Int)))] 170),.none,true)|_,_=>none
theorem Zmk:EntX prog 96:=Zao (fn:=f96)
theorem Zpf:Uad mn prog 96 Zil:=(ansY (N:=1000) mKn f96 []).of (by
 intro ρ h w args vals r e hA hH hr;unfold Zil at hr;split at hr
 ·rename_i a0;obtain⟨rfl,rfl,hg2⟩:=BQi hr;exact Zxm a0 (hA.rng 0 rfl) hg2
 ·cases hr)
def Zsh:Cons:=(mkΓ [(95,con Zhv),(96,con Zil)])
theorem Zyp(N:Nat)(a0:Array Value)(a1:Int):ansV prog Zsh N f79 [] [.g a0 35,.i .i64 a1] []=(bif decide (a1>=(0:Int)) then (bif decide (a1<(36:Int)) then (some (.a (.b ((Zar a0 (#[.int .i64 ((a1).tmod (6:Int)),.int .i64 (i64.wrap ((a1).tdiv (6:Int)))]:Array Value)))),.none,true)) else (some (.a (.b false),.none,true))) else (some (.a (.b false),.none,true))):=by kernel_rfl
def Zau(a0:Array Value)(a1:Int):Bool:=(bif decide (a1>=(0:Int)) then (bif decide (a1<(36:Int)) then (Zar a0 (#[.int .i64 ((a1).tmod (6:Int)),.int .i64 (i64.wrap ((a1).tdiv (6:Int)))]:Array Value)) else false) else false)
theorem Zwd(a0:Array Value)(a1:Int)(h_a0:WT prog 35 a0)(h_a1:i64.min<=a1/\a1<=i64.max)(hg:(true)=true):ansV prog Zsh 1000 f79 [] [.g a0 35,.i .i64 a1] []=some (.a (.b ((Zau a0 a1))),.none,true):=by
 refine(Zyp 1000 a0 a1).trans ?_;unfold Zau;revert hg;generalize (decide (a1>=(0:Int)))=b2;intro hg;cases b2
 ·skip
  first|rfl|exact(nomatch (hg:false=true))
 ·skip
  revert hg;generalize (decide (a1<(36:Int)))=b4;intro hg;cases b4
  ·skip
   first|rfl|exact(nomatch (hg:false=true))
  ·skip
   first|rfl|exact(nomatch (hg:false=true))
def Zky:Con:=λargs h=>match args,h with|[.g a0 35,.i .i64 a1],[]=>some (.a (.b ((Zau a0 a1))),.none,true)|_,_=>none
theorem Zvz:EntX prog 79:=Zao (fn:=f79)
theorem Yar:Uad mn prog 79 Zky:=(ansY (N:=1000) (mKc (Zai Zop) Zlj (mKc (Zai Zpf) Zmk mKn)) f79 []).of (by
 intro ρ h w args vals r e hA hH hr;unfold Zky at hr;split at hr
 ·rename_i a0 a1;obtain⟨rfl,rfl,hg2⟩:=BQi hr;exact Zwd a0 a1 (hA.wt 0 rfl) (hA.rng 1 rfl) hg2
 ·cases hr)
theorem Ybz(N:Nat)(a0:Int):ansV prog (mkΓ []) N f46 [] [.i .i64 a0] []=(bif decide (0<=a0) then (some (.a (.i .u64 (IntKind.u64.wrap ((1:Int)*2^(min (a0).toNat IntKind.u64.bits)))),.none,true)) else (none)):=by kernel_rfl
def Za0(a0:Int):Int:=(IntKind.u64.wrap ((1:Int)*2^(min (a0).toNat IntKind.u64.bits)))
theorem Yaa(a0:Int)(h_a0:i64.min<=a0/\a0<=i64.max)(hg:(decide (0<=a0))=true):ansV prog (mkΓ []) 1000 f46 [] [.i .i64 a0] []=some (.a (.i .u64 (Za0 a0)),.none,true):=by
 refine(Ybz 1000 a0).trans ?_;unfold Za0;revert hg;generalize (decide (0<=a0))=b2;intro hg;cases b2
 ·skip
  first|exact(nomatch (hg:false=true))|rfl
 ·skip
  first|rfl|exact(nomatch (hg:false=true))
def Zcd:Con:=λargs h=>match args,h with|[.i .i64 a0],[]=>some (.a (.i .u64 (Za0 a0)),.none,decide (0<=a0))|_,_=>none
theorem Ze9:EntX prog 46:=Zao (fn:=f46)
theorem Zht:Uad mn prog 46 Zcd:=(ansY (N:=1000) mKn f46 []).of (by
 intro ρ h w args vals r e hA hH hr;unfold Zcd at hr;split at hr
 ·rename_i a0;obtain⟨rfl,rfl,hg2⟩:=BQi hr;exact Yaa a0 (hA.rng 0 rfl) hg2
 ·cases hr)
theorem Yaz(N:Nat)(a0:Array Value)(a1:Int):ansV prog (mkΓ [(46,con Zcd)]) N f97 [] [.g a0 35,.i .i64 a1] []=(bif decide (0<=a1) then (some (.a (.b (((IntKind.u64.wrap (BitVec.ofInt IntKind.u64.bits (num a0 2) &&& BitVec.ofInt IntKind.u64.bits (Za0 a1)).toNat) != (0:Int)))),.none,true)) else (none)):=by kernel_rfl
def Zbl(a0:Array Value)(a1:Int):Bool:=((IntKind.u64.wrap (BitVec.ofInt IntKind.u64.bits (num a0 2) &&& BitVec.ofInt IntKind.u64.bits (Za0 a1)).toNat) != (0:Int))
theorem Zyh(a0:Array Value)(a1:Int)(h_a0:WT prog 35 a0)(h_a1:i64.min<=a1/\a1<=i64.max)(hg:(decide (0<=a1))=true):ansV prog (mkΓ [(46,con Zcd)]) 1000 f97 [] [.g a0 35,.i .i64 a1] []=some (.a (.b ((Zbl a0 a1))),.none,true):=by
 refine(Yaz 1000 a0 a1).trans ?_;unfold Zbl;revert hg;generalize (decide (0<=a1))=b2;intro hg;cases b2
 ·skip
  first|exact(nomatch (hg:false=true))|rfl
 ·skip
  first|rfl|exact(nomatch (hg:false=true))
def Zhh:Con:=λargs h=>match args,h with|[.g a0 35,.i .i64 a1],[]=>some (.a (.b ((Zbl a0 a1))),.none,decide (0<=a1))|_,_=>none
theorem Znw:EntX prog 97:=Zao (fn:=f97)
theorem Zsk:Uad mn prog 97 Zhh:=(ansY (N:=1000) (mKc (Zai Zht) Ze9 mKn) f97 []).of (by
 intro ρ h w args vals r e hA hH hr;unfold Zhh at hr;split at hr
 ·rename_i a0 a1;obtain⟨rfl,rfl,hg2⟩:=BQi hr;exact Zyh a0 a1 (hA.wt 0 rfl) (hA.rng 1 rfl) hg2
 ·cases hr)
theorem Zyx(N:Nat)(a0:Array Value)(a1:Int):ansV prog (mkΓ [(97,con Zhh)]) N f80 [] [.g a0 35,.i .i64 a1] []=(bif decide (0<=a1) then (some (.a (.b ((!((Zbl a0 a1))))),.none,true)) else (none)):=by kernel_rfl
def Ze1(a0:Array Value)(a1:Int):Bool:=(!((Zbl a0 a1)))
theorem Zxi(a0:Array Value)(a1:Int)(h_a0:WT prog 35 a0)(h_a1:i64.min<=a1/\a1<=i64.max)(hg:(decide (0<=a1))=true):ansV prog (mkΓ [(97,con Zhh)]) 1000 f80 [] [.g a0 35,.i .i64 a1] []=some (.a (.b ((Ze1 a0 a1))),.none,true):=by
 refine(Zyx 1000 a0 a1).trans ?_;unfold Ze1;revert hg;generalize (decide (0<=a1))=b2;intro hg;cases b2
 ·skip
  first|exact(nomatch (hg:false=true))|rfl
 ·skip
  first|rfl|exact(nomatch (hg:false=true))
def Zk2:Con:=λargs h=>match args,h with|[.g a0 35,.i .i64 a1],[]=>some (.a (.b ((Ze1 a0 a1))),.none,decide (0<=a1))|_,_=>none
theorem Zun:EntX prog 80:=Zao (fn:=f80)
theorem Ybn:Uad mn prog 80 Zk2:=(ansY (N:=1000) (mKc (Zai Zsk) Znw mKn) f80 []).of (by
 intro ρ h w args vals r e hA hH hr;unfold Zk2 at hr;split at hr
 ·rename_i a0 a1;obtain⟨rfl,rfl,hg2⟩:=BQi hr;exact Zxi a0 a1 (hA.wt 0 rfl) (hA.rng 1 rfl) hg2
 ·cases hr)
theorem Zyz(N:Nat)(a0:Int):ansV prog (mkΓ []) N f62 [] [.i .i64 a0] []=(bif (a0==(0:Int)) then (some (.a (.b true),.none,true)) else (some (.a (.b ((a0==(1:Int)))),.none,true))):=by kernel_rfl
def Zdb(a0:Int):Bool:=(bif (a0==(0:Int)) then true else (a0==(1:Int)))
theorem Zxc(a0:Int)(h_a0:i64.min<=a0/\a0<=i64.max)(hg:(true)=true):ansV prog (mkΓ []) 1000 f62 [] [.i .i64 a0] []=some (.a (.b ((Zdb a0))),.none,true):=by
 refine(Zyz 1000 a0).trans ?_;unfold Zdb;revert hg;generalize ((a0==(0:Int)))=b2;intro hg;cases b2
 ·skip
  first|rfl|exact(nomatch (hg:false=true))
 ·skip
  first|rfl|exact(nomatch (hg:false=true))
def Zik:Con:=λargs h=>match args,h with|[.i .i64 a0],[]=>some (.a (.b ((Zdb a0))),.none,true)|_,_=>none
theorem Zt9:EntX prog 62:=Zao (fn:=f62)
theorem Yat:Uad mn prog 62 Zik:=(ansY (N:=1000) mKn f62 []).of (by
 intro ρ h w args vals r e hA hH hr;unfold Zik at hr;split at hr
 ·rename_i a0;obtain⟨rfl,rfl,hg2⟩:=BQi hr;exact Zxc a0 (hA.rng 0 rfl) hg2
 ·cases hr)
theorem Zzu(N:Nat)(a0:Array Value):ansV prog (mkΓ []) N f94 [] [.g a0 170] []=(some (.a (.i .i64 (i64.wrap ((num a0 0)+(i64.wrap ((6:Int)*(num a0 1)))))),.none,true)):=by kernel_rfl
theorem Zx6(a0:Array Value)(h_a0:WT prog 170 a0)(hg:(true)=true):ansV prog (mkΓ []) 1000 f94 [] [.g a0 170] []=some (.a (.i .i64 (i64.wrap ((num a0 0)+(i64.wrap ((6:Int)*(num a0 1)))))),.none,true):=by refine(Zzu 1000 a0).trans ?_;rfl
def Zjl:Con:=λargs h=>match args,h with|[.g a0 170],[]=>some (.a (.i .i64 (i64.wrap ((num a0 0)+(i64.wrap ((6:Int)*(num a0 1)))))),.none,true)|_,_=>none
theorem Zne:EntX prog 94:=Zao (fn:=f94)
theorem Zsf:Uad mn prog 94 Zjl:=(ansY (N:=1000) mKn f94 []).of (by
 intro ρ h w args vals r e hA hH hr;unfold Zjl at hr;split at hr
 ·rename_i a0;obtain⟨rfl,rfl,hg2⟩:=BQi hr;exact Zx6 a0 (hA.wt 0 rfl) hg2
 ·cases hr)
end
end Go.Proofs.YtgllknjdblkhnaaDoor
