/- Places, tides, land and water, in company. -/
import Derived.Test.YtgllknjdblkhnaaGreatDoorProg
import Derived.Test.YtgllknjdblkhnaaGreatDoorVcE
set_option linter.unusedVariables false
set_option linter.unusedSimpArgs false
namespace Go.Proofs.YtgllknjdblkhnaaGreatDoor
open Tryz (f31 f36 f37 f39 f44 f58 f59 f62 f63 f75 f76 f77 f78)
open Go.ChangeShapes Go.WideShapes Go.ChangeAt Go.RowKit Ve Vc
open Tryz renaming prog -> PZ
open IntKind (i64)
set_option maxRecDepth 100000
noncomputable section
abbrev SlT(e n:Nat)(A:Array Value):Prop:=A.size=n*(lay PZ e).length/\(∀k,k<n->WT PZ e (A.extract (k*(lay PZ e).length) (k*(lay PZ e).length+(lay PZ e).length)))/\n<=9223372036854775807
variable {mn:Md}
theorem Yfg(N:Nat)(a0 a1 a2:Int):ansV PZ (mkΓ []) N f37 [] [.i .i64 a0,.i .i64 a1,.i .i64 a2] []=(bif decide (a0>=a1) then (some (.a (.b (decide (a0<=a2))),.none,true)) else (some (.a (.b false),.none,true))):=by kernel_rfl
def Zaa(a0 a1 a2:Int):Bool:=(bif decide (a0>=a1) then decide (a0<=a2) else false)
theorem Yeq(a0 a1 a2:Int)(h_a0:i64.min<=a0/\a0<=i64.max)(h_a1:i64.min<=a1/\a1<=i64.max)(h_a2:i64.min<=a2/\a2<=i64.max)(hg:(true)=true):ansV PZ (mkΓ []) 1000 f37 [] [.i .i64 a0,.i .i64 a1,.i .i64 a2] []=some (.a (.b ((Zaa a0 a1 a2))),.none,true):=by
 refine(Yfg 1000 a0 a1 a2).trans ?_;unfold Zaa;revert hg;generalize (decide (a0>=a1))=b2;intro hg;cases b2
 ·skip
  first|rfl|exact(nomatch (hg:false=true))
 ·skip
  first|rfl|exact(nomatch (hg:false=true))
def Zdh:Con:=λargs h=>match args,h with|[.i .i64 a0,.i .i64 a1,.i .i64 a2],[]=>some (.a (.b ((Zaa a0 a1 a2))),.none,true)|_,_=>none
theorem Zhl:EntX PZ 37:=Zak (fn:=f37)
theorem Zk4:Uac mn PZ 37 Zdh:=(ansY (N:=1000) mKn f37 []).of (by
 intro ρ h w args vals r e hA hH hr;unfold Zdh at hr;split at hr
 ·rename_i a0 a1 a2;obtain⟨rfl,rfl,hg2⟩:=BQi hr;exact Yeq a0 a1 a2 (hA.rng 0 rfl) (hA.rng 1 rfl) (hA.rng 2 rfl) hg2
 ·cases hr)
theorem Ye5(N:Nat)(a1:Int)(a0:Array Value):ansV PZ (mkΓ [(37,con Zdh)]) N f58 [] [.w 0,.i .i64 a1] [.row a0 38]=(bif (Zaa a1 (0:Int) (35:Int)) then (bif decide (((a1).tmod (6:Int))<(i64.wrap (num a0 0))) then (some (.a (.b (decide ((i64.wrap ((a1).tdiv (6:Int)))<(i64.wrap (num a0 1))))),.none,true)) else (some (.a (.b false),.none,true))) else (some (.a (.b false),.none,true))):=by kernel_rfl
def Za1(a1:Int)(a0:Array Value):Bool:=(bif (Zaa a1 (0:Int) (35:Int)) then (bif decide (((a1).tmod (6:Int))<(i64.wrap (num a0 0))) then decide ((i64.wrap ((a1).tdiv (6:Int)))<(i64.wrap (num a0 1))) else false) else false)
theorem Yeo(a1:Int)(a0:Array Value)(h_a1:i64.min<=a1/\a1<=i64.max)(h_a0:WT PZ 38 a0)(hg:(true)=true):ansV PZ (mkΓ [(37,con Zdh)]) 1000 f58 [] [.w 0,.i .i64 a1] [.row a0 38]=some (.a (.b ((Za1 a1 a0))),.none,true):=by
 refine(Ye5 1000 a1 a0).trans ?_;unfold Za1;revert hg;generalize ((Zaa a1 (0:Int) (35:Int)))=b2;intro hg;cases b2
 ·skip
  first|rfl|exact(nomatch (hg:false=true))
 ·skip
  revert hg;generalize (decide (((a1).tmod (6:Int))<(i64.wrap (num a0 0))))=b4;intro hg;cases b4
  ·skip
   first|rfl|exact(nomatch (hg:false=true))
  ·skip
   first|rfl|exact(nomatch (hg:false=true))
def Zec:Con:=λargs h=>match args,h with|[.w 0,.i .i64 a1],[.row a0 38]=>some (.a (.b ((Za1 a1 a0))),.none,true)|_,_=>none
theorem Zq0:EntX PZ 58:=Zak (fn:=f58)
theorem Zw9:Uac mn PZ 58 Zec:=(ansY (N:=1000) (mKc (Zag Zk4) Zhl mKn) f58 []).of (by
 intro ρ h w args vals r e hA hH hr;unfold Zec at hr;split at hr
 ·rename_i a1 a0;obtain⟨rfl,rfl,hg2⟩:=BQi hr;exact Yeo a1 a0 (hA.rng 1 rfl) (hH.wt 0 rfl) hg2
 ·cases hr)
theorem Ybk(N:Nat)(a0:Int):ansV PZ (mkΓ [(37,con Zdh)]) N f36 [] [.i .i64 a0] []=(some (.a (.b ((Zaa a0 (0:Int) (1:Int)))),.none,true)):=by kernel_rfl
theorem Yav(a0:Int)(h_a0:i64.min<=a0/\a0<=i64.max)(hg:(true)=true):ansV PZ (mkΓ [(37,con Zdh)]) 1000 f36 [] [.i .i64 a0] []=some (.a (.b ((Zaa a0 (0:Int) (1:Int)))),.none,true):=by refine(Ybk 1000 a0).trans ?_;rfl
def Zmk:Con:=λargs h=>match args,h with|[.i .i64 a0],[]=>some (.a (.b ((Zaa a0 (0:Int) (1:Int)))),.none,true)|_,_=>none
theorem Zza:EntX PZ 36:=Zak (fn:=f36)
theorem Ydf:Uac mn PZ 36 Zmk:=(ansY (N:=1000) (mKc (Zag Zk4) Zhl mKn) f36 []).of (by
 intro ρ h w args vals r e hA hH hr;unfold Zmk at hr;split at hr
 ·rename_i a0;obtain⟨rfl,rfl,hg2⟩:=BQi hr;exact Yav a0 (hA.rng 0 rfl) hg2
 ·cases hr)
theorem Ydw(N:Nat)(a1:Int)(a0:Array Value):ansV PZ (mkΓ []) N f59 [] [.w 0,.i .i64 a1] [.row a0 38]=(bif decide (0<=(IntKind.u64.wrap a1)) then (some (.a (.b (((((((num a0 2)).fdiv (2^(min ((IntKind.u64.wrap a1)).toNat IntKind.u64.bits)))).tmod (2:Int))==(1:Int)))),.none,true)) else (none)):=by kernel_rfl
def Zdg(a1:Int)(a0:Array Value):Bool:=((((((num a0 2)).fdiv (2^(min ((IntKind.u64.wrap a1)).toNat IntKind.u64.bits)))).tmod (2:Int))==(1:Int))
theorem Yb9(a1:Int)(a0:Array Value)(h_a1:i64.min<=a1/\a1<=i64.max)(h_a0:WT PZ 38 a0)(hg:(decide (0<=(IntKind.u64.wrap a1)))=true):ansV PZ (mkΓ []) 1000 f59 [] [.w 0,.i .i64 a1] [.row a0 38]=some (.a (.b ((Zdg a1 a0))),.none,true):=by
 refine(Ydw 1000 a1 a0).trans ?_;unfold Zdg;revert hg;generalize (decide (0<=(IntKind.u64.wrap a1)))=b2;intro hg;cases b2
 ·skip
  first|exact(nomatch (hg:false=true))|rfl
 ·skip
  first|rfl|exact(nomatch (hg:false=true))
def Zm4:Con:=λargs h=>match args,h with|[.w 0,.i .i64 a1],[.row a0 38]=>some (.a (.b ((Zdg a1 a0))),.none,decide (0<=(IntKind.u64.wrap a1)))|_,_=>none
theorem Yaw:EntX PZ 59:=Zak (fn:=f59)
theorem Ye7:Uac mn PZ 59 Zm4:=(ansY (N:=1000) mKn f59 []).of (by
 intro ρ h w args vals r e hA hH hr;unfold Zm4 at hr;split at hr
 ·rename_i a1 a0;obtain⟨rfl,rfl,hg2⟩:=BQi hr;exact Yb9 a1 a0 (hA.rng 1 rfl) (hH.wt 0 rfl) hg2
 ·cases hr)
def Zww:Cons:=(mkΓ [(58,con Zec),(59,con Zm4)])
theorem Yen(N:Nat)(a1:Int)(a0:Array Value):ansV PZ Zww N f39 [] [.w 0,.i .i64 a1] [.row a0 38]=(bif (Za1 a1 a0) then (bif decide (0<=(IntKind.u64.wrap a1)) then (some (.a (.b ((!((Zdg a1 a0))))),.none,true)) else (none)) else (some (.a (.b false),.none,true))):=by kernel_rfl
def Zae(a1:Int)(a0:Array Value):Bool:=(bif (Za1 a1 a0) then (!((Zdg a1 a0))) else false)
def Zbg(a1:Int)(a0:Array Value):Bool:=(bif (Za1 a1 a0) then decide (0<=(IntKind.u64.wrap a1)) else true)
theorem Ybo(a1:Int)(a0:Array Value)(h_a1:i64.min<=a1/\a1<=i64.max)(h_a0:WT PZ 38 a0)(hg:((Zbg a1 a0))=true):ansV PZ Zww 1000 f39 [] [.w 0,.i .i64 a1] [.row a0 38]=some (.a (.b ((Zae a1 a0))),.none,true):=by
 refine(Yen 1000 a1 a0).trans ?_;unfold Zbg at hg;unfold Zae;revert hg;generalize ((Za1 a1 a0))=b2;intro hg;cases b2
 ·skip
  first|rfl|exact(nomatch (hg:false=true))
 ·skip
  revert hg;generalize (decide (0<=(IntKind.u64.wrap a1)))=b4;intro hg;cases b4
  ·skip
   first|exact(nomatch (hg:false=true))|rfl
  ·skip
   first|rfl|exact(nomatch (hg:false=true))
def Zii:Con:=λargs h=>match args,h with|[.w 0,.i .i64 a1],[.row a0 38]=>some (.a (.b ((Zae a1 a0))),.none,(Zbg a1 a0))|_,_=>none
theorem Zl2:EntX PZ 39:=Zak (fn:=f39)
theorem Zo0:Uac mn PZ 39 Zii:=(ansY (N:=1000) (mKc (Zag Zw9) Zq0 (mKc (Zag Ye7) Yaw mKn)) f39 []).of (by
 intro ρ h w args vals r e hA hH hr;unfold Zii at hr;split at hr
 ·rename_i a1 a0;obtain⟨rfl,rfl,hg2⟩:=BQi hr;exact Ybo a1 a0 (hA.rng 1 rfl) (hH.wt 0 rfl) hg2
 ·cases hr)
theorem Ya0(N:Nat)(a0 a1:Array Value):ansV PZ (mkΓ []) N f76 [] [.g a0 38,.g a1 148] []=(bif decide ((num a1 0)>=(0:Int)) then (bif decide ((num a1 0)<(i64.wrap (num a0 0))) then (bif decide ((num a1 1)>=(0:Int)) then (some (.a (.b (decide ((num a1 1)<(i64.wrap (num a0 1))))),.none,true)) else (some (.a (.b false),.none,true))) else (some (.a (.b false),.none,true))) else (some (.a (.b false),.none,true))):=by kernel_rfl
def Zas(a0 a1:Array Value):Bool:=(bif decide ((num a1 0)>=(0:Int)) then (bif decide ((num a1 0)<(i64.wrap (num a0 0))) then (bif decide ((num a1 1)>=(0:Int)) then decide ((num a1 1)<(i64.wrap (num a0 1))) else false) else false) else false)
theorem Zx5(a0 a1:Array Value)(h_a0:WT PZ 38 a0)(h_a1:WT PZ 148 a1)(hg:(true)=true):ansV PZ (mkΓ []) 1000 f76 [] [.g a0 38,.g a1 148] []=some (.a (.b ((Zas a0 a1))),.none,true):=by
 refine(Ya0 1000 a0 a1).trans ?_;unfold Zas;revert hg;generalize (decide ((num a1 0)>=(0:Int)))=b2;intro hg;cases b2
 ·skip
  first|rfl|exact(nomatch (hg:false=true))
 ·skip
  revert hg;generalize (decide ((num a1 0)<(i64.wrap (num a0 0))))=b4;intro hg;cases b4
  ·skip
   first|rfl|exact(nomatch (hg:false=true))
  ·skip
   revert hg;generalize (decide ((num a1 1)>=(0:Int)))=b6;intro hg;cases b6
   ·skip
    first|rfl|exact(nomatch (hg:false=true))
   ·skip
    first|rfl|exact(nomatch (hg:false=true))
def Ziv:Con:=λargs h=>match args,h with|[.g a0 38,.g a1 148],[]=>some (.a (.b ((Zas a0 a1))),.none,true)|_,_=>none
theorem Znj:EntX PZ 76:=Zak (fn:=f76)
theorem Zqy:Uac mn PZ 76 Ziv:=(ansY (N:=1000) mKn f76 []).of (by
 intro ρ h w args vals r e hA hH hr;unfold Ziv at hr;split at hr
 ·rename_i a0 a1;obtain⟨rfl,rfl,hg2⟩:=BQi hr;exact Zx5 a0 a1 (hA.wt 0 rfl) (hA.wt 1 rfl) hg2
 ·cases hr)
theorem Ybv(N:Nat)(a0:Int):ansV PZ (mkΓ []) N f77 [] [.i .i64 a0] []=(some (.a (.g #[.int .i64 ((a0).tmod (6:Int)),.int .i64 (i64.wrap ((a0).tdiv (6:Int)))] 148),.none,true)):=by kernel_rfl
theorem Zzg(a0:Int)(h_a0:i64.min<=a0/\a0<=i64.max)(hg:(true)=true):ansV PZ (mkΓ []) 1000 f77 [] [.i .i64 a0] []=some (.a (.g #[.int .i64 ((a0).tmod (6:Int)),.int .i64 (i64.wrap ((a0).tdiv (6:Int)))] 148),.none,true):=by refine(Ybv 1000 a0).trans ?_;rfl
def Zjr:Con:=λargs h=>match args,h with|[.i .i64 a0],[]=>some (.a (.g #[.int .i64 ((a0).tmod (6:Int)),.int .i64 (i64.wrap ((a0).tdiv (6:Int)))] 148),.none,true)|_,_=>none
theorem Zog:EntX PZ 77:=Zak (fn:=f77)
theorem Zr9:Uac mn PZ 77 Zjr:=(ansY (N:=1000) mKn f77 []).of (by
 intro ρ h w args vals r e hA hH hr;unfold Zjr at hr;split at hr
 ·rename_i a0;obtain⟨rfl,rfl,hg2⟩:=BQi hr;exact Zzg a0 (hA.rng 0 rfl) hg2
 ·cases hr)
def Zu0:Cons:=(mkΓ [(76,con Ziv),(77,con Zjr)])
theorem Yca(N:Nat)(a0:Array Value)(a1:Int):ansV PZ Zu0 N f62 [] [.g a0 38,.i .i64 a1] []=(bif decide (a1>=(0:Int)) then (bif decide (a1<(36:Int)) then (some (.a (.b ((Zas a0 (#[.int .i64 ((a1).tmod (6:Int)),.int .i64 (i64.wrap ((a1).tdiv (6:Int)))]:Array Value)))),.none,true)) else (some (.a (.b false),.none,true))) else (some (.a (.b false),.none,true))):=by kernel_rfl
def Zav(a0:Array Value)(a1:Int):Bool:=(bif decide (a1>=(0:Int)) then (bif decide (a1<(36:Int)) then (Zas a0 (#[.int .i64 ((a1).tmod (6:Int)),.int .i64 (i64.wrap ((a1).tdiv (6:Int)))]:Array Value)) else false) else false)
theorem Zzy(a0:Array Value)(a1:Int)(h_a0:WT PZ 38 a0)(h_a1:i64.min<=a1/\a1<=i64.max)(hg:(true)=true):ansV PZ Zu0 1000 f62 [] [.g a0 38,.i .i64 a1] []=some (.a (.b ((Zav a0 a1))),.none,true):=by
 refine(Yca 1000 a0 a1).trans ?_;unfold Zav;revert hg;generalize (decide (a1>=(0:Int)))=b2;intro hg;cases b2
 ·skip
  first|rfl|exact(nomatch (hg:false=true))
 ·skip
  revert hg;generalize (decide (a1<(36:Int)))=b4;intro hg;cases b4
  ·skip
   first|rfl|exact(nomatch (hg:false=true))
  ·skip
   first|rfl|exact(nomatch (hg:false=true))
def Zmr:Con:=λargs h=>match args,h with|[.g a0 38,.i .i64 a1],[]=>some (.a (.b ((Zav a0 a1))),.none,true)|_,_=>none
theorem Zxi:EntX PZ 62:=Zak (fn:=f62)
theorem Yeu:Uac mn PZ 62 Zmr:=(ansY (N:=1000) (mKc (Zag Zqy) Znj (mKc (Zag Zr9) Zog mKn)) f62 []).of (by
 intro ρ h w args vals r e hA hH hr;unfold Zmr at hr;split at hr
 ·rename_i a0 a1;obtain⟨rfl,rfl,hg2⟩:=BQi hr;exact Zzy a0 a1 (hA.wt 0 rfl) (hA.rng 1 rfl) hg2
 ·cases hr)
theorem Ye0(N:Nat)(a0:Int):ansV PZ (mkΓ []) N f31 [] [.i .i64 a0] []=(bif decide (0<=a0) then (some (.a (.i .u64 (IntKind.u64.wrap ((1:Int)*2^(min (a0).toNat IntKind.u64.bits)))),.none,true)) else (none)):=by kernel_rfl
def Za6(a0:Int):Int:=(IntKind.u64.wrap ((1:Int)*2^(min (a0).toNat IntKind.u64.bits)))
theorem Ydu(a0:Int)(h_a0:i64.min<=a0/\a0<=i64.max)(hg:(decide (0<=a0))=true):ansV PZ (mkΓ []) 1000 f31 [] [.i .i64 a0] []=some (.a (.i .u64 (Za6 a0)),.none,true):=by
 refine(Ye0 1000 a0).trans ?_;unfold Za6;revert hg;generalize (decide (0<=a0))=b2;intro hg;cases b2
 ·skip
  first|exact(nomatch (hg:false=true))|rfl
 ·skip
  first|rfl|exact(nomatch (hg:false=true))
def Zcl:Con:=λargs h=>match args,h with|[.i .i64 a0],[]=>some (.a (.i .u64 (Za6 a0)),.none,decide (0<=a0))|_,_=>none
theorem Zfr:EntX PZ 31:=Zak (fn:=f31)
theorem Ziu:Uac mn PZ 31 Zcl:=(ansY (N:=1000) mKn f31 []).of (by
 intro ρ h w args vals r e hA hH hr;unfold Zcl at hr;split at hr
 ·rename_i a0;obtain⟨rfl,rfl,hg2⟩:=BQi hr;exact Ydu a0 (hA.rng 0 rfl) hg2
 ·cases hr)
theorem Yda(N:Nat)(a0:Array Value)(a1:Int):ansV PZ (mkΓ [(31,con Zcl)]) N f78 [] [.g a0 38,.i .i64 a1] []=(bif decide (0<=a1) then (some (.a (.b (((IntKind.u64.wrap (BitVec.ofInt IntKind.u64.bits (num a0 2) &&& BitVec.ofInt IntKind.u64.bits (Za6 a1)).toNat) != (0:Int)))),.none,true)) else (none)):=by kernel_rfl
def Zbn(a0:Array Value)(a1:Int):Bool:=((IntKind.u64.wrap (BitVec.ofInt IntKind.u64.bits (num a0 2) &&& BitVec.ofInt IntKind.u64.bits (Za6 a1)).toNat) != (0:Int))
theorem Ybu(a0:Array Value)(a1:Int)(h_a0:WT PZ 38 a0)(h_a1:i64.min<=a1/\a1<=i64.max)(hg:(decide (0<=a1))=true):ansV PZ (mkΓ [(31,con Zcl)]) 1000 f78 [] [.g a0 38,.i .i64 a1] []=some (.a (.b ((Zbn a0 a1))),.none,true):=by
 refine(Yda 1000 a0 a1).trans ?_;unfold Zbn;revert hg;generalize (decide (0<=a1))=b2;intro hg;cases b2
 ·skip
  first|exact(nomatch (hg:false=true))|rfl
 ·skip
  first|rfl|exact(nomatch (hg:false=true))
def Zif:Con:=λargs h=>match args,h with|[.g a0 38,.i .i64 a1],[]=>some (.a (.b ((Zbn a0 a1))),.none,decide (0<=a1))|_,_=>none
theorem Zpg:EntX PZ 78:=Zak (fn:=f78)
theorem Zu4:Uac mn PZ 78 Zif:=(ansY (N:=1000) (mKc (Zag Ziu) Zfr mKn) f78 []).of (by
 intro ρ h w args vals r e hA hH hr;unfold Zif at hr;split at hr
 ·rename_i a0 a1;obtain⟨rfl,rfl,hg2⟩:=BQi hr;exact Ybu a0 a1 (hA.wt 0 rfl) (hA.rng 1 rfl) hg2
 ·cases hr)
theorem Yb4(N:Nat)(a0:Array Value)(a1:Int):ansV PZ (mkΓ [(78,con Zif)]) N f63 [] [.g a0 38,.i .i64 a1] []=(bif decide (0<=a1) then (some (.a (.b ((!((Zbn a0 a1))))),.none,true)) else (none)):=by kernel_rfl
def Zff(a0:Array Value)(a1:Int):Bool:=(!((Zbn a0 a1)))
theorem Yaq(a0:Array Value)(a1:Int)(h_a0:WT PZ 38 a0)(h_a1:i64.min<=a1/\a1<=i64.max)(hg:(decide (0<=a1))=true):ansV PZ (mkΓ [(78,con Zif)]) 1000 f63 [] [.g a0 38,.i .i64 a1] []=some (.a (.b ((Zff a0 a1))),.none,true):=by
 refine(Yb4 1000 a0 a1).trans ?_;unfold Zff;revert hg;generalize (decide (0<=a1))=b2;intro hg;cases b2
 ·skip
  first|exact(nomatch (hg:false=true))|rfl
 ·skip
  first|rfl|exact(nomatch (hg:false=true))
def Zmj:Con:=λargs h=>match args,h with|[.g a0 38,.i .i64 a1],[]=>some (.a (.b ((Zff a0 a1))),.none,decide (0<=a1))|_,_=>none
theorem Zw1:EntX PZ 63:=Zak (fn:=f63)
theorem Ycy:Uac mn PZ 63 Zmj:=(ansY (N:=1000) (mKc (Zag Zu4) Zpg mKn) f63 []).of (by
 intro ρ h w args vals r e hA hH hr;unfold Zmj at hr;split at hr
 ·rename_i a0 a1;obtain⟨rfl,rfl,hg2⟩:=BQi hr;exact Yaq a0 a1 (hA.wt 0 rfl) (hA.rng 1 rfl) hg2
 ·cases hr)
theorem Yb7(N:Nat)(a0:Int):ansV PZ (mkΓ []) N f44 [] [.i .i64 a0] []=(bif (a0==(0:Int)) then (some (.a (.b true),.none,true)) else (some (.a (.b ((a0==(1:Int)))),.none,true))):=by kernel_rfl
def Zdj(a0:Int):Bool:=(bif (a0==(0:Int)) then true else (a0==(1:Int)))
theorem Yab(a0:Int)(h_a0:i64.min<=a0/\a0<=i64.max)(hg:(true)=true):ansV PZ (mkΓ []) 1000 f44 [] [.i .i64 a0] []=some (.a (.b ((Zdj a0))),.none,true):=by
 refine(Yb7 1000 a0).trans ?_;unfold Zdj;revert hg;generalize ((a0==(0:Int)))=b2;intro hg;cases b2
 ·skip
  first|rfl|exact(nomatch (hg:false=true))
 ·skip
  first|rfl|exact(nomatch (hg:false=true))
def Zjp:Con:=λargs h=>match args,h with|[.i .i64 a0],[]=>some (.a (.b ((Zdj a0))),.none,true)|_,_=>none
theorem Zwr:EntX PZ 44:=Zak (fn:=f44)
theorem Yei:Uac mn PZ 44 Zjp:=(ansY (N:=1000) mKn f44 []).of (by
 intro ρ h w args vals r e hA hH hr;unfold Zjp at hr;split at hr
 ·rename_i a0;obtain⟨rfl,rfl,hg2⟩:=BQi hr;exact Yab a0 (hA.rng 0 rfl) hg2
 ·cases hr)
theorem Yc7(N:Nat)(a0:Array Value):ansV PZ (mkΓ []) N f75 [] [.g a0 148] []=(some (.a (.i .i64 (i64.wrap ((num a0 0)+(i64.wrap ((6:Int)*(num a0 1)))))),.none,true)):=by kernel_rfl
theorem Yb0(a0:Array Value)(h_a0:WT PZ 148 a0)(hg:(true)=true):ansV PZ (mkΓ []) 1000 f75 [] [.g a0 148] []=some (.a (.i .i64 (i64.wrap ((num a0 0)+(i64.wrap ((6:Int)*(num a0 1)))))),.none,true):=by refine(Yc7 1000 a0).trans ?_;rfl
def Zkx:Con:=λargs h=>match args,h with|[.g a0 148],[]=>some (.a (.i .i64 (i64.wrap ((num a0 0)+(i64.wrap ((6:Int)*(num a0 1)))))),.none,true)|_,_=>none
theorem Zpi:EntX PZ 75:=Zak (fn:=f75)
theorem Zux:Uac mn PZ 75 Zkx:=(ansY (N:=1000) mKn f75 []).of (by
 intro ρ h w args vals r e hA hH hr;unfold Zkx at hr;split at hr
 ·rename_i a0;obtain⟨rfl,rfl,hg2⟩:=BQi hr;exact Yb0 a0 (hA.wt 0 rfl) hg2
 ·cases hr)
end
end Go.Proofs.YtgllknjdblkhnaaGreatDoor
