/- Places, tides, land and water, in company. -/
import Derived.Test.YtefjogahegolbaaGreatDoorProg
import Derived.Test.YtefjogahegolbaaGreatDoorVcE
import Derived.Test.YtefjogahegolbaaGreatDoorVcF
set_option linter.unusedVariables false
set_option linter.unusedSimpArgs false
open _root_.List renaming range->jB,range'->jC,all_eq_true->jG,mem_singleton->jJ,mem_range->jK,filter_append->jN,getElem?_eq_some_iff->jO,getElem?_set_self->jQ,getD_eq_getElem?_getD->jT
open _root_.Array renaming getElem?_setIfInBounds->jF,getElem?_eq_none->jL,replicate->jM,getElem?_eq_some_iff->jP,getElem?_extract->jR,toList_setIfInBounds->jS
open _root_.Nat renaming le_trans->jE,le_refl->jH
open _root_.Int renaming tdiv_eq_ediv_of_nonneg->jU
open _root_.Bool renaming and_self->jA,not_true->jD,not_false->jI
open _root_.Go renaming World->QB,Program->QD,TypeId->QE,Exit->QP
namespace Go.Proofs.YtefjogahegolbaaGreatDoor
open Tryz (f11 f30 f36 f47 f50 f51 f56 f68 f69 f70 f71 f72 f73 f75 f77 f81 f82 f83 f84 f87 f92 f93 f95 f99 f100 f101 f102 f103 f104 f105 f106 f107 f110 f111 f113 f114 f115 f116 f117 f118 f119 f120 f121 f122 f123 f124 f125 f126 f127 f128 f129)
open Go.ChangeShapes Go.WideShapes Go.ChangeAt Go.RowKit Ve Vc
open Tryz renaming prog -> PZ
open IntKind (i64)
set_option maxRecDepth 100000
noncomputable section
abbrev Lv(e n:Nat)(A:QA):Prop:=A.size=n*(lay PZ e).length/\(∀k,k<n->WT PZ e (A.extract (k*(lay PZ e).length) (k*(lay PZ e).length+(lay PZ e).length)))/\n<=9223372036854775807
variable {mn:Md}
theorem Ymy(N:Nat)(A J L:Int):ansV PZ (mkΓ []) N f47 [] [.i .i64 A,.i .i64 J,.i .i64 L] []=(bif decide (A>=J) then (some (.a (.b (decide (A<=L))),.none,true)) else (some (.a (.b false),.none,true))):=by kernel_rfl
def Zaa(A J L:Int):Bool:=(bif decide (A>=J) then decide (A<=L) else false)
theorem FF(A J L:Int)(U:i64.min<=A/\A<=i64.max)(V:i64.min<=J/\J<=i64.max)(Z:i64.min<=L/\L<=i64.max)(O:(true)=true):ansV PZ (mkΓ []) 1000 f47 [] [.i .i64 A,.i .i64 J,.i .i64 L] []=some (.a (.b ((Zaa A J L))),.none,true):=by
 refine(Ymy 1000 A J L).trans ?_;unfold Zaa;revert O;generalize (decide (A>=J))=b2;intro O;cases b2
 ·skip
  first|rfl|exact(nomatch (O:false=true))
 ·skip
  first|rfl|exact(nomatch (O:false=true))
def db:af:=λargs h=>match args,h with|[.i .i64 a0,.i .i64 a1,.i .i64 a2],[]=>some (.a (.b ((Zaa a0 a1 a2))),.none,true)|_,_=>none
theorem kl:EntX PZ 47:=Zaj (fn:=f47)
theorem km:Uad mn PZ 47 db:=(ansY (N:=1000) mKn f47 []).of (by
 intro ρ h w args vals r e J Z A;unfold db at A;split at A
 ·rename_i O U V;obtain⟨rfl,rfl,L⟩:=ai A;exact FF O U V (J.rng 0 rfl) (J.rng 1 rfl) (J.rng 2 rfl) L
 ·cases A)
theorem Ym6(N:Nat)(A:Int)(J:QA):ansV PZ (mkΓ [(47,con db)]) N f72 [] [.w 0,.i .i64 A] [.row J 38]=(bif (Zaa A (0:Int) (35:Int)) then (bif decide (((A).tmod (6:Int))<(i64.wrap (num J 0))) then (some (.a (.b (decide ((i64.wrap ((A).tdiv (6:Int)))<(i64.wrap (num J 1))))),.none,true)) else (some (.a (.b false),.none,true))) else (some (.a (.b false),.none,true))):=by kernel_rfl
def Zab(A:Int)(J:QA):Bool:=(bif (Zaa A (0:Int) (35:Int)) then (bif decide (((A).tmod (6:Int))<(i64.wrap (num J 0))) then decide ((i64.wrap ((A).tdiv (6:Int)))<(i64.wrap (num J 1))) else false) else false)
theorem FG(A:Int)(L:QA)(O:i64.min<=A/\A<=i64.max)(U:WT PZ 38 L)(J:(true)=true):ansV PZ (mkΓ [(47,con db)]) 1000 f72 [] [.w 0,.i .i64 A] [.row L 38]=some (.a (.b ((Zab A L))),.none,true):=by
 refine(Ym6 1000 A L).trans ?_;unfold Zab;revert J;generalize ((Zaa A (0:Int) (35:Int)))=b2;intro J;cases b2
 ·skip
  first|rfl|exact(nomatch (J:false=true))
 ·skip
  revert J;generalize (decide (((A).tmod (6:Int))<(i64.wrap (num L 0))))=b4;intro J;cases b4
  ·skip
   first|rfl|exact(nomatch (J:false=true))
  ·skip
   first|rfl|exact(nomatch (J:false=true))
def dH:af:=λargs h=>match args,h with|[.w 0,.i .i64 a1],[.row a0 38]=>some (.a (.b ((Zab a1 a0))),.none,true)|_,_=>none
theorem mJ:EntX PZ 72:=Zaj (fn:=f72)
theorem mK:Uad mn PZ 72 dH:=(ansY (N:=1000) (mKc (Zae km) kl mKn) f72 []).of (by
 intro ρ h w args vals r e L O A;unfold dH at A;split at A
 ·rename_i U V;obtain⟨rfl,rfl,J⟩:=ai A;exact FG U V (L.rng 1 rfl) (O.wt 0 rfl) J
 ·cases A)
theorem Yib(N:Nat)(A:Int):ansV PZ (mkΓ [(47,con db)]) N f75 [] [.i .i64 A] []=(some (.a (.b ((Zaa A (0:Int) (1:Int)))),.none,true)):=by kernel_rfl
theorem FH(A:Int)(J:i64.min<=A/\A<=i64.max)(L:(true)=true):ansV PZ (mkΓ [(47,con db)]) 1000 f75 [] [.i .i64 A] []=some (.a (.b ((Zaa A (0:Int) (1:Int)))),.none,true):=by refine(Yib 1000 A).trans ?_;rfl
def sS:af:=λargs h=>match args,h with|[.i .i64 a0],[]=>some (.a (.b ((Zaa a0 (0:Int) (1:Int)))),.none,true)|_,_=>none
theorem FI:EntX PZ 75:=Zaj (fn:=f75)
theorem FJ:Uad mn PZ 75 sS:=(ansY (N:=1000) (mKc (Zae km) kl mKn) f75 []).of (by
 intro ρ h w args vals r e L U A;unfold sS at A;split at A
 ·rename_i O;obtain⟨rfl,rfl,J⟩:=ai A;exact FH O (L.rng 0 rfl) J
 ·cases A)
theorem Yjs(N:Nat)(A:Int)(J:QA):ansV PZ (mkΓ []) N f73 [] [.w 0,.i .i64 A] [.row J 38]=(bif decide (0<=(IntKind.u64.wrap A)) then (some (.a (.b (((((((num J 2)).fdiv (2^(min ((IntKind.u64.wrap A)).toNat IntKind.u64.bits)))).tmod (2:Int))==(1:Int)))),.none,true)) else (none)):=by kernel_rfl
def Zah(A:Int)(J:QA):Bool:=((((((num J 2)).fdiv (2^(min ((IntKind.u64.wrap A)).toNat IntKind.u64.bits)))).tmod (2:Int))==(1:Int))
theorem FK(A:Int)(J:QA)(O:i64.min<=A/\A<=i64.max)(U:WT PZ 38 J)(L:(decide (0<=(IntKind.u64.wrap A)))=true):ansV PZ (mkΓ []) 1000 f73 [] [.w 0,.i .i64 A] [.row J 38]=some (.a (.b ((Zah A J))),.none,true):=by
 refine(Yjs 1000 A J).trans ?_;unfold Zah;revert L;generalize (decide (0<=(IntKind.u64.wrap A)))=b2;intro L;cases b2
 ·skip
  first|exact(nomatch (L:false=true))|rfl
 ·skip
  first|rfl|exact(nomatch (L:false=true))
def lz:af:=λargs h=>match args,h with|[.w 0,.i .i64 a1],[.row a0 38]=>some (.a (.b ((Zah a1 a0))),.none,decide (0<=(IntKind.u64.wrap a1)))|_,_=>none
theorem oR:EntX PZ 73:=Zaj (fn:=f73)
theorem oS:Uad mn PZ 73 lz:=(ansY (N:=1000) mKn f73 []).of (by
 intro ρ h w args vals r e L O A;unfold lz at A;split at A
 ·rename_i U V;obtain⟨rfl,rfl,J⟩:=ai A;exact FK U V (L.rng 1 rfl) (O.wt 0 rfl) J
 ·cases A)
def xw:Cons:=(mkΓ [(72,con dH),(73,con lz)])
theorem Yk3(N:Nat)(A:Int)(J:QA):ansV PZ xw N f70 [] [.w 0,.i .i64 A] [.row J 38]=(bif (Zab A J) then (bif decide (0<=(IntKind.u64.wrap A)) then (some (.a (.b ((!((Zah A J))))),.none,true)) else (none)) else (some (.a (.b false),.none,true))):=by kernel_rfl
def Zaq(A:Int)(J:QA):Bool:=(bif (Zab A J) then (!((Zah A J))) else false)
def Zb3(A:Int)(J:QA):Bool:=(bif (Zab A J) then decide (0<=(IntKind.u64.wrap A)) else true)
theorem FL(A:Int)(L:QA)(O:i64.min<=A/\A<=i64.max)(U:WT PZ 38 L)(J:((Zb3 A L))=true):ansV PZ xw 1000 f70 [] [.w 0,.i .i64 A] [.row L 38]=some (.a (.b ((Zaq A L))),.none,true):=by
 refine(Yk3 1000 A L).trans ?_;unfold Zb3 at J;unfold Zaq;revert J;generalize ((Zab A L))=b2;intro J;cases b2
 ·skip
  first|rfl|exact(nomatch (J:false=true))
 ·skip
  revert J;generalize (decide (0<=(IntKind.u64.wrap A)))=b4;intro J;cases b4
  ·skip
   first|exact(nomatch (J:false=true))|rfl
  ·skip
   first|rfl|exact(nomatch (J:false=true))
def oT:af:=λargs h=>match args,h with|[.w 0,.i .i64 a1],[.row a0 38]=>some (.a (.b ((Zaq a1 a0))),.none,(Zb3 a1 a0))|_,_=>none
theorem xx:EntX PZ 70:=Zaj (fn:=f70)
theorem xz:Uad mn PZ 70 oT:=(ansY (N:=1000) (mKc (Zae mK) mJ (mKc (Zae oS) oR mKn)) f70 []).of (by
 intro ρ h w args vals r e L O A;unfold oT at A;split at A
 ·rename_i U V;obtain⟨rfl,rfl,J⟩:=ai A;exact FL U V (L.rng 1 rfl) (O.wt 0 rfl) J
 ·cases A)
theorem Ye4(N:Nat)(J A:QA):ansV PZ (mkΓ []) N f101 [] [.g J 38,.g A 152] []=(bif decide ((num A 0)>=(0:Int)) then (bif decide ((num A 0)<(i64.wrap (num J 0))) then (bif decide ((num A 1)>=(0:Int)) then (some (.a (.b (decide ((num A 1)<(i64.wrap (num J 1))))),.none,true)) else (some (.a (.b false),.none,true))) else (some (.a (.b false),.none,true))) else (some (.a (.b false),.none,true))):=by kernel_rfl
def Zaz(J A:QA):Bool:=(bif decide ((num A 0)>=(0:Int)) then (bif decide ((num A 0)<(i64.wrap (num J 0))) then (bif decide ((num A 1)>=(0:Int)) then decide ((num A 1)<(i64.wrap (num J 1))) else false) else false) else false)
theorem FM(L J:QA)(O:WT PZ 38 L)(U:WT PZ 152 J)(A:(true)=true):ansV PZ (mkΓ []) 1000 f101 [] [.g L 38,.g J 152] []=some (.a (.b ((Zaz L J))),.none,true):=by
 refine(Ye4 1000 L J).trans ?_;unfold Zaz;revert A;generalize (decide ((num J 0)>=(0:Int)))=b2;intro A;cases b2
 ·skip
  first|rfl|exact(nomatch (A:false=true))
 ·skip
  revert A;generalize (decide ((num J 0)<(i64.wrap (num L 0))))=b4;intro A;cases b4
  ·skip
   first|rfl|exact(nomatch (A:false=true))
  ·skip
   revert A;generalize (decide ((num J 1)>=(0:Int)))=b6;intro A;cases b6
   ·skip
    first|rfl|exact(nomatch (A:false=true))
   ·skip
    first|rfl|exact(nomatch (A:false=true))
def oU:af:=λargs h=>match args,h with|[.g a0 38,.g a1 152],[]=>some (.a (.b ((Zaz a0 a1))),.none,true)|_,_=>none
theorem xA:EntX PZ 101:=Zaj (fn:=f101)
theorem xB:Uad mn PZ 101 oU:=(ansY (N:=1000) mKn f101 []).of (by
 intro ρ h w args vals r e L V A;unfold oU at A;split at A
 ·rename_i O U;obtain⟨rfl,rfl,J⟩:=ai A;exact FM O U (L.wt 0 rfl) (L.wt 1 rfl) J
 ·cases A)
theorem Yhs(N:Nat)(A:Int):ansV PZ (mkΓ []) N f102 [] [.i .i64 A] []=(some (.a (.g #[.int .i64 ((A).tmod (6:Int)),.int .i64 (i64.wrap ((A).tdiv (6:Int)))] 152),.none,true)):=by kernel_rfl
theorem FN(A:Int)(J:i64.min<=A/\A<=i64.max)(L:(true)=true):ansV PZ (mkΓ []) 1000 f102 [] [.i .i64 A] []=some (.a (.g #[.int .i64 ((A).tmod (6:Int)),.int .i64 (i64.wrap ((A).tdiv (6:Int)))] 152),.none,true):=by refine(Yhs 1000 A).trans ?_;rfl
def oV:af:=λargs h=>match args,h with|[.i .i64 a0],[]=>some (.a (.g #[.int .i64 ((a0).tmod (6:Int)),.int .i64 (i64.wrap ((a0).tdiv (6:Int)))] 152),.none,true)|_,_=>none
theorem xC:EntX PZ 102:=Zaj (fn:=f102)
theorem xD:Uad mn PZ 102 oV:=(ansY (N:=1000) mKn f102 []).of (by
 intro ρ h w args vals r e L U A;unfold oV at A;split at A
 ·rename_i O;obtain⟨rfl,rfl,J⟩:=ai A;exact FN O (L.rng 0 rfl) J
 ·cases A)
def xE:Cons:=(mkΓ [(101,con oU),(102,con oV)])
theorem Yis(N:Nat)(J:QA)(A:Int):ansV PZ xE N f82 [] [.g J 38,.i .i64 A] []=(bif decide (A>=(0:Int)) then (bif decide (A<(36:Int)) then (some (.a (.b ((Zaz J (#[.int .i64 ((A).tmod (6:Int)),.int .i64 (i64.wrap ((A).tdiv (6:Int)))]:QA)))),.none,true)) else (some (.a (.b false),.none,true))) else (some (.a (.b false),.none,true))):=by kernel_rfl
def Zaw(J:QA)(A:Int):Bool:=(bif decide (A>=(0:Int)) then (bif decide (A<(36:Int)) then (Zaz J (#[.int .i64 ((A).tmod (6:Int)),.int .i64 (i64.wrap ((A).tdiv (6:Int)))]:QA)) else false) else false)
theorem FO(L:QA)(A:Int)(O:WT PZ 38 L)(U:i64.min<=A/\A<=i64.max)(J:(true)=true):ansV PZ xE 1000 f82 [] [.g L 38,.i .i64 A] []=some (.a (.b ((Zaw L A))),.none,true):=by
 refine(Yis 1000 L A).trans ?_;unfold Zaw;revert J;generalize (decide (A>=(0:Int)))=b2;intro J;cases b2
 ·skip
  first|rfl|exact(nomatch (J:false=true))
 ·skip
  revert J;generalize (decide (A<(36:Int)))=b4;intro J;cases b4
  ·skip
   first|rfl|exact(nomatch (J:false=true))
  ·skip
   first|rfl|exact(nomatch (J:false=true))
def mL:af:=λargs h=>match args,h with|[.g a0 38,.i .i64 a1],[]=>some (.a (.b ((Zaw a0 a1))),.none,true)|_,_=>none
theorem lA:EntX PZ 82:=Zaj (fn:=f82)
theorem lB:Uad mn PZ 82 mL:=(ansY (N:=1000) (mKc (Zae xB) xA (mKc (Zae xD) xC mKn)) f82 []).of (by
 intro ρ h w args vals r e L V A;unfold mL at A;split at A
 ·rename_i O U;obtain⟨rfl,rfl,J⟩:=ai A;exact FO O U (L.wt 0 rfl) (L.rng 1 rfl) J
 ·cases A)
theorem Ym3(N:Nat)(A:Int):ansV PZ (mkΓ []) N f103 [] [.i .i64 A] []=(bif decide (0<=A) then (some (.a (.i .u64 (IntKind.u64.wrap ((1:Int)*2^(min (A).toNat IntKind.u64.bits)))),.none,true)) else (none)):=by kernel_rfl
def Zff(A:Int):Int:=(IntKind.u64.wrap ((1:Int)*2^(min (A).toNat IntKind.u64.bits)))
theorem FP(A:Int)(L:i64.min<=A/\A<=i64.max)(J:(decide (0<=A))=true):ansV PZ (mkΓ []) 1000 f103 [] [.i .i64 A] []=some (.a (.i .u64 (Zff A)),.none,true):=by
 refine(Ym3 1000 A).trans ?_;unfold Zff;revert J;generalize (decide (0<=A))=b2;intro J;cases b2
 ·skip
  first|exact(nomatch (J:false=true))|rfl
 ·skip
  first|rfl|exact(nomatch (J:false=true))
def mM:af:=λargs h=>match args,h with|[.i .i64 a0],[]=>some (.a (.i .u64 (Zff a0)),.none,decide (0<=a0))|_,_=>none
theorem xF:EntX PZ 103:=Zaj (fn:=f103)
theorem xG:Uad mn PZ 103 mM:=(ansY (N:=1000) mKn f103 []).of (by
 intro ρ h w args vals r e L U A;unfold mM at A;split at A
 ·rename_i O;obtain⟨rfl,rfl,J⟩:=ai A;exact FP O (L.rng 0 rfl) J
 ·cases A)
theorem Ykd(N:Nat)(J:QA)(A:Int):ansV PZ (mkΓ [(103,con mM)]) N f84 [] [.g J 38,.i .i64 A] []=(bif decide (0<=A) then (some (.a (.b (((IntKind.u64.wrap (BitVec.ofInt IntKind.u64.bits (num J 2) &&& BitVec.ofInt IntKind.u64.bits (Zff A)).toNat) != (0:Int)))),.none,true)) else (none)):=by kernel_rfl
def Zad(A:QA)(J:Int):Bool:=((IntKind.u64.wrap (BitVec.ofInt IntKind.u64.bits (num A 2) &&& BitVec.ofInt IntKind.u64.bits (Zff J)).toNat) != (0:Int))
theorem FQ(J:QA)(A:Int)(O:WT PZ 38 J)(U:i64.min<=A/\A<=i64.max)(L:(decide (0<=A))=true):ansV PZ (mkΓ [(103,con mM)]) 1000 f84 [] [.g J 38,.i .i64 A] []=some (.a (.b ((Zad J A))),.none,true):=by
 refine(Ykd 1000 J A).trans ?_;unfold Zad;revert L;generalize (decide (0<=A))=b2;intro L;cases b2
 ·skip
  first|exact(nomatch (L:false=true))|rfl
 ·skip
  first|rfl|exact(nomatch (L:false=true))
def dc:af:=λargs h=>match args,h with|[.g a0 38,.i .i64 a1],[]=>some (.a (.b ((Zad a0 a1))),.none,decide (0<=a1))|_,_=>none
theorem iL:EntX PZ 84:=Zaj (fn:=f84)
theorem iM:Uad mn PZ 84 dc:=(ansY (N:=1000) (mKc (Zae xG) xF mKn) f84 []).of (by
 intro ρ h w args vals r e L V A;unfold dc at A;split at A
 ·rename_i O U;obtain⟨rfl,rfl,J⟩:=ai A;exact FQ O U (L.wt 0 rfl) (L.rng 1 rfl) J
 ·cases A)
theorem Yh5(N:Nat)(J:QA)(A:Int):ansV PZ (mkΓ [(84,con dc)]) N f95 [] [.g J 38,.i .i64 A] []=(bif decide (0<=A) then (some (.a (.b ((!((Zad J A))))),.none,true)) else (none)):=by kernel_rfl
def Zac(A:QA)(J:Int):Bool:=(!((Zad A J)))
theorem FR(J:QA)(A:Int)(O:WT PZ 38 J)(U:i64.min<=A/\A<=i64.max)(L:(decide (0<=A))=true):ansV PZ (mkΓ [(84,con dc)]) 1000 f95 [] [.g J 38,.i .i64 A] []=some (.a (.b ((Zac J A))),.none,true):=by
 refine(Yh5 1000 J A).trans ?_;unfold Zac;revert L;generalize (decide (0<=A))=b2;intro L;cases b2
 ·skip
  first|exact(nomatch (L:false=true))|rfl
 ·skip
  first|rfl|exact(nomatch (L:false=true))
def lC:af:=λargs h=>match args,h with|[.g a0 38,.i .i64 a1],[]=>some (.a (.b ((Zac a0 a1))),.none,decide (0<=a1))|_,_=>none
theorem oW:EntX PZ 95:=Zaj (fn:=f95)
theorem oX:Uad mn PZ 95 lC:=(ansY (N:=1000) (mKc (Zae iM) iL mKn) f95 []).of (by
 intro ρ h w args vals r e L V A;unfold lC at A;split at A
 ·rename_i O U;obtain⟨rfl,rfl,J⟩:=ai A;exact FR O U (L.wt 0 rfl) (L.rng 1 rfl) J
 ·cases A)
theorem Yg5(N:Nat)(A:Int):ansV PZ (mkΓ []) N f83 [] [.i .i64 A] []=(bif (A==(0:Int)) then (some (.a (.b true),.none,true)) else (some (.a (.b ((A==(1:Int)))),.none,true))):=by kernel_rfl
def Zds(A:Int):Bool:=(bif (A==(0:Int)) then true else (A==(1:Int)))
theorem FS(A:Int)(L:i64.min<=A/\A<=i64.max)(J:(true)=true):ansV PZ (mkΓ []) 1000 f83 [] [.i .i64 A] []=some (.a (.b ((Zds A))),.none,true):=by
 refine(Yg5 1000 A).trans ?_;unfold Zds;revert J;generalize ((A==(0:Int)))=b2;intro J;cases b2
 ·skip
  first|rfl|exact(nomatch (J:false=true))
 ·skip
  first|rfl|exact(nomatch (J:false=true))
def sT:af:=λargs h=>match args,h with|[.i .i64 a0],[]=>some (.a (.b ((Zds a0))),.none,true)|_,_=>none
theorem oY:EntX PZ 83:=Zaj (fn:=f83)
theorem oZ:Uad mn PZ 83 sT:=(ansY (N:=1000) mKn f83 []).of (by
 intro ρ h w args vals r e L U A;unfold sT at A;split at A
 ·rename_i O;obtain⟨rfl,rfl,J⟩:=ai A;exact FS O (L.rng 0 rfl) J
 ·cases A)
theorem Ymc(N:Nat)(A:QA):ansV PZ (mkΓ []) N f119 [] [.g A 152] []=(some (.a (.i .i64 (i64.wrap ((num A 0)+(i64.wrap ((6:Int)*(num A 1)))))),.none,true)):=by kernel_rfl
theorem FT(A:QA)(J:WT PZ 152 A)(L:(true)=true):ansV PZ (mkΓ []) 1000 f119 [] [.g A 152] []=some (.a (.i .i64 (i64.wrap ((num A 0)+(i64.wrap ((6:Int)*(num A 1)))))),.none,true):=by refine(Ymc 1000 A).trans ?_;rfl
def pa:af:=λargs h=>match args,h with|[.g a0 152],[]=>some (.a (.i .i64 (i64.wrap ((num a0 0)+(i64.wrap ((6:Int)*(num a0 1)))))),.none,true)|_,_=>none
theorem xH:EntX PZ 119:=Zaj (fn:=f119)
theorem xI:Uad mn PZ 119 pa:=(ansY (N:=1000) mKn f119 []).of (by
 intro ρ h w args vals r e L U A;unfold pa at A;split at A
 ·rename_i O;obtain⟨rfl,rfl,J⟩:=ai A;exact FT O (L.wt 0 rfl) J
 ·cases A)
end
section
variable {mn:Md}
theorem Ubs{α:Type}{B:Nat}{J:List α->QB->Prop}(L:OwnFrom B J){p:List α}{v v':QB}(A:Ge v v')(h:J p v):J p v':=
 L p v v' none h ⟨A.os,A.tape,A.output,A.size,λk hk _=>A.block k hk⟩ λr e=>by cases e
theorem geAt{v v':QB}(A:Ge v v'){k:Nat}{o:Obj}(h:v.heap[k]?=some o):v'.heap[k]?=some o:=(A.block k (jP.1 h).1).trans h
theorem wtI64{n:Int}(h: -1000000<=n/\n<=1000000):WT PZ 2 #[.int .i64 n]:=by
 have hl:lay PZ 2=[3]:=by kernel_rfl
 refine iY (by rw[hl];rfl) ?_;have A:i64.min=-9223372036854775808:=rfl;have J:i64.max=9223372036854775807:=rfl;constructor<;>omega
noncomputable section
abbrev slY(l:Nat):SV:=.a (.v (.func (.yield l) #[] #[]))
abbrev slP(b:Nat):SV:=.a (.v (.pointer (some ⟨b,0,none⟩)))
abbrev slI(n:Int):SV:=.a (.i .i64 n)
def ecO(l bh bw:Nat)(hi y:Int):List SV:=slY l::slP bh::slP bw::xs 3 (slI hi::slI y::xs 15 [])
def ecI(l bh bw:Nat)(hi y wd x:Int):List SV:=slY l::slP bh::slP bw::.a .x::slI y::.a .x::slI hi::slI y::xs 2 (slI wd::slI x::xs 11 [])
abbrev FU:Cons:=mkΓ [(119,con pa)]
theorem aR:ConsOkX mn PZ (Ual mn PZ) FU:=mKc (Zae xI) xH mKn
set_option maxHeartbeats 1000000 in
theorem Zt6(bh bw wd hi:Nat)(hw6:wd<=6)(hh6:hi<=6)(v:QB)(hbh:v.heap[bh]?=some (.cells #[.int .i64 hi] 2 (0,0)))(hbw:v.heap[bw]?=some (.cells #[.int .i64 wd] 2 (0,0))):
  gB mn PZ 118 #[.pointer (some ⟨bh,0,none⟩),.pointer (some ⟨bw,0,none⟩)] (λx:Int=>#[.int .i64 x]) (Ub9 [bh,bw]) (Uam wd hi 36) v:=by
 intro l J Jx V hge hJ hJx hY h0;have hbh:=geAt hge hbh;have hbw:=geAt hge hbw;clear hge
 let Inv:List Int->QB->Prop:=λp v=>J p v/\v.heap[bh]?=some (.cells #[.int .i64 hi] 2 (0,0))/\v.heap[bw]?=some (.cells #[.int .i64 wd] 2 (0,0))/\V.heap.size<=v.heap.size
 have invGe:∀{p v v'},Ge v v'->Inv p v->Inv p v':=λhg h=>⟨Ubs hJ hg h.1,geAt hg h.2.1,geAt hg h.2.2.1,jE h.2.2.2 hg.size⟩
 have hI0:Inv [] V:=⟨h0,hbh,hbw,jH _⟩
 show Ua6 mn PZ 118 #[.func (.yield l) #[] #[],.pointer (some ⟨bh,0,none⟩),.pointer (some ⟨bw,0,none⟩)] V _
 refine pA (c:=codeOf f118) Tryz.func118 rfl ?_;have hS:S0 PZ (slY l::slP bh::slP bw::us 20 []) { tmps:=#[.func (.yield l) #[] #[],.pointer (some ⟨bh,0,none⟩),.pointer (some ⟨bw,0,none⟩)]++jM 20 undef,defers:=[] }:=S0.enter [.func (.yield l) #[] #[],.pointer (some ⟨bh,0,none⟩),.pointer (some ⟨bw,0,none⟩)] 20;refine Za1 (Yuq aR hS (j:=1) (b:=bh) rfl hbh (wtI64 (by omega)) rfl (kS:=[0,1,2,6,7]) (nS:=23) (s':=slY l::.a (.w 0)::slP bw::xs 3 (slI hi::slI 0::xs 15 [])) rfl rfl (by kernel_rfl) λa1 v1 hS1 hg1=> ?_);have hS1:S0 PZ (ecO l bh bw hi (0:Nat)) a1:=hS1;have hI1:Inv (Uam wd hi (6*0)) v1:=invGe hg1 hI0;refine Zg6 (Zf4 (hi+1) ?_);refine(?_:∀(d y:Nat) (a:Act) (v:QB),y+d=hi->S0 PZ (ecO l bh bw hi y) a->Inv (Uam wd hi (6*y)) v->Ubp mn none PZ _ _ (d+1) a v) hi 0 a1 v1 (by omega) hS1 hI1;intro d
 induction d with
 |zero=>
  intro y a v hyd hS hI;obtain rfl:y=hi:=by omega
  refine Za1 (Zmb aR hS (kS:=[8]) (nS:=23) (s':=xs 8 (.a (.b (decide ((y:Int)<y)))::xs 14 [])) rfl (by kernel_rfl) λa2 v2 hS2 hg2=> ?_);refine Za1 (Zbt (by rw[hS2.bool (i:=8) rfl,Q4 (by omega)]) (Zw7 ?_));refine⟨.inl rfl,yT rfl hS2.defers λv3 hg3=>.inl ?_⟩;rw[Lr hh6];exact(invGe hg3 (invGe hg2 hI)).1
 | succ d ih=>
  intro y a v hyd hS hI;have hlt:y<hi:=by omega
  refine Za1 (Zmb aR hS (kS:=[0,1,2,6,7,8]) (nS:=23) (s':=slY l::slP bh::slP bw::xs 3 (slI hi::slI y::.a (.b (decide ((y:Int)<hi)))::xs 14 [])) rfl (by kernel_rfl) λa2 v2 hS2 hg2=> ?_);refine Za1 (Zii (by rw[hS2.bool (i:=8) rfl,Q3 (by omega)]) (Zh9 ?_));refine Za1 (Zg6 ?_);refine Za1 (Zmb aR hS2 (kS:=[0,1,2,4,6,7]) (nS:=23) (s':=slY l::slP bh::slP bw::.a .x::slI y::.a .x::slI hi::slI y::xs 15 []) rfl (by kernel_rfl) λa3 v3 hS3 hg3=> ?_);have hI3:=invGe hg3 (invGe hg2 hI);refine Za1 (Yuq aR hS3 (j:=2) (b:=bw) rfl hI3.2.2.1 (wtI64 (by omega)) rfl (kS:=[0,1,2,4,6,7,10,11]) (nS:=23) (s':=slY l::slP bh::.a (.w 0)::.a .x::slI y::.a .x::slI hi::slI y::xs 2 (slI wd::slI 0::xs 11 [])) rfl rfl (by kernel_rfl) λa4 v4 hS4 hg4=> ?_);have hS4:S0 PZ (ecI l bh bw hi y wd (0:Nat)) a4:=hS4;have hI4:Inv (Uam wd hi (6*y+0)) v4:=invGe hg4 hI3;refine Zg6 (Zf4 (wd+1) ?_);refine(?_:∀(e x:Nat) (a:Act) (v:QB),x+e=wd->S0 PZ (ecI l bh bw hi y wd x) a->Inv (Uam wd hi (6*y+x)) v->Ubp mn none PZ _ _ (e+1) a v) wd 0 a4 v4 (by omega) hS4 hI4;clear hS hI hS2 hS3 hI3 hS4 hI4 hg2 hg3 hg4;intro e
  induction e with
  |zero=>
   intro x a v hxe hS hI;obtain rfl:x=wd:=by omega
   refine Za1 (Zmb aR hS (kS:=[0,1,2,6,7,12]) (nS:=23) (s':=slY l::slP bh::slP bw::xs 3 (slI hi::slI y::xs 4 (.a (.b (decide ((x:Int)<x)))::xs 10 []))) rfl (by kernel_rfl) λa2 v2 hS2 hg2=> ?_);refine Za1 (Zbt (by rw[hS2.bool (i:=12) rfl,Q4 (by omega)]) (Zw7 ?_));refine Zmb aR hS2 (kS:=[0,1,2,6,7]) (nS:=23) (s':=ecO l bh bw hi (i64.wrap ((y:Int)+1))) rfl (by kernel_rfl) λa3 v3 hS3 hg3=> ?_
   rw[show i64.wrap ((y:Int)+1)=((y+1:Nat):Int) by rw[IntWalk.i64_in _ (by omega)];omega]at hS3;refine ih (y+1) a3 v3 (by omega) hS3 ?_;rw[Lq hw6];exact invGe hg3 (invGe hg2 hI)
  | succ e ihe=>
   intro x a v hxe hS hI;have hxl:x<wd:=by omega
   have hB:=lq hw6 hh6 hxl hlt;refine Za1 (Zmb aR hS (kS:=[0,1,2,4,6,7,10,11,12]) (nS:=23) (s':=slY l::slP bh::slP bw::.a .x::slI y::.a .x::slI hi::slI y::xs 2 (slI wd::slI x::.a (.b (decide ((x:Int)<wd)))::xs 10 [])) rfl (by kernel_rfl) λa2 v2 hS2 hg2=> ?_);refine Za1 (Zii (by rw[hS2.bool (i:=12) rfl,Q3 (by omega)]) (Zh9 ?_));refine Za1 (Zg6 ?_);refine Za1 (Zmb aR hS2 (kS:=[0,1,2,4,5,6,7,10,11]) (nS:=23) (s':=slY l::slP bh::slP bw::.a .x::slI y::slI x::slI hi::slI y::xs 2 (slI wd::slI x::xs 11 [])) rfl (by kernel_rfl) λa3 v3 hS3 hg3=> ?_);refine Za1 (Za2 ?_)
   show OpsX mn _ _ _ (jC 0 5++[5,6]) _ _
   refine cC aR hS3 0 5 rfl (kS:=[0,1,2,4,6,7,10,11,14,18]) (nS:=23) (s':=slY l::slP bh::slP bw::.a .x::slI y::.a .x::slI hi::slI y::xs 2 (slI wd::slI x::xs 2 (slY l::xs 3 (slI (i64.wrap ((x:Int)+i64.wrap (6*(y:Int))))::xs 4 [])))) rfl (by kernel_rfl) λa4 v4 hS4 hg4=> ?_
   have hv:i64.wrap ((x:Int)+i64.wrap (6*(y:Int)))=((6*y+x:Nat):Int):=by rw[IntWalk.i64_in (6*(y:Int)) (by omega),IntWalk.i64_in _ (by omega)];omega
   rw[hv]at hS4;have hI4:=invGe hg4 (invGe hg3 (invGe hg2 hI));refine lL (i:=5) rfl rfl (Yem rfl rfl (hS4.cst (i:=14) rfl) (args:=#[.int .i64 ((6*y+x:Nat):Int)]) (by rw[<- hS4.int (i:=18) rfl];simp) (hY (Uam wd hi (6*y+x)) ((6*y+x:Nat):Int) v4 hI4.1 (by rw[<- oj hB];exact AN (by omega)) hI4.2.2.2) λr v5 hr=> ?_);rw[<- oj hB]at hr;rcases hr with ⟨rfl,hJ5,hk5,hkf5⟩ | ⟨rfl,hJ5,hkf5⟩
   ·have hS5:=hS4.put 19 (y:=.b true) (vv:=.bool true) rfl;have hI5:Inv (Uam wd hi (6*y+x+1)) v5:=⟨hJ5,hk5 bh (by simp) _ _ _ hI4.2.1,hk5 bw (by simp) _ _ _ hI4.2.2.1,jE hI4.2.2.2 hkf5.size⟩
    show OpsX mn _ _ _ (jC 6 1++[]) _ _
    refine cC aR hS5 6 1 rfl (kS:=[0,1,2,4,6,7,10,11,20]) (nS:=23) (s':=slY l::slP bh::slP bw::.a .x::slI y::.a .x::slI hi::slI y::xs 2 (slI wd::slI x::xs 8 (.a (.b false)::xs 2 []))) rfl (by kernel_rfl) λa6 v6 hS6 hg6=> ?_
    refine Zbt (hS6.bool (i:=20) rfl) (Zh9 ?_);refine Zmb aR hS6 (kS:=[0,1,2,4,6,7,10,11]) (nS:=23) (s':=ecI l bh bw hi y wd (i64.wrap ((x:Int)+1))) rfl (by kernel_rfl) λa7 v7 hS7 hg7=> ?_
    rw[show i64.wrap ((x:Int)+1)=((x+1:Nat):Int) by rw[IntWalk.i64_in _ (by omega)];omega]at hS7;exact ihe (x+1) a7 v7 (by omega) hS7 (invGe hg7 (invGe hg6 hI5))
   ·have hS5:=hS4.put 19 (y:=.b false) (vv:=.bool false) rfl
    show OpsX mn _ _ _ (jC 6 1++[]) _ _
    refine cC aR hS5 6 1 rfl (kS:=[20]) (nS:=23) (s':=xs 20 (.a (.b true)::xs 2 [])) rfl (by kernel_rfl) λa6 v6 hS6 hg6=> ?_
    refine Zii (hS6.bool (i:=20) rfl) (Zmk ?_);exact⟨.inr rfl,yT rfl hS6.defers λv7 hg7=>.inr ⟨_,AN (by omega),Ubs hJx (hg6.trans hg7) hJ5⟩⟩
def mN:ICon:=λbs _=>match bs with|[.row H 2,.row V 2]=>some ⟨Int,λn=>[.i .i64 n],Uam (num V 0) (num H 0) 36,decide (0<=num V 0)&&decide (num V 0<=6)&&(decide (0<=num H 0)&&decide (num H 0<=6))⟩|_=>none
theorem FV:Ual mn PZ 118 mN:=by
 intro ρ h w ns Y hY hok hH hr
 match ns,hY,hr with
 | [n1,n2],hY,hr=>
  simp only[getH]at hY;unfold mN at hY;split at hY
  ·rename_i H V heq;have e0:=(List.cons.inj heq).1;have e1:=(List.cons.inj (List.cons.inj heq).2).1;cases hY;have g:∀{m:Nat} {C:QA} {t:QE},h.getD m .no=.row C t->h[m]?=some (.row C t):=λ{m C t} e=>by
    rw[jT]at e;cases hm:h[m]? with
    |none=>rw[hm]at e;cases e
    |some b=>rw[hm]at e;exact congrArg some e
   obtain⟨h1,w1⟩:=hH.is n1 _ (g e0);obtain⟨h2,w2⟩:=hH.is n2 _ (g e1);have one:∀{C:QA},WT PZ 2 C->C=#[.int .i64 (num C 0)]:=λ{C} hC=>by
    have hl:lay PZ 2=[3]:=by kernel_rfl
    have hz:=hC.layLen;rw[hl]at hz;have:=hC.int (o:=0) (k:=.i64) (by rw[hl];rfl);refine Array.ext_getElem? λi=> ?_
    by_cases hi:i=0
    ·subst hi;rw[this.1];rfl
    ·rw[jL (by simp at hz;omega),jL (by simp;omega)]
   dsimp only at hok;simp only[Q7,decide_eq_true_eq]at hok;obtain⟨⟨a1,a2⟩,a3,a4⟩:=hok;obtain⟨vn,hv⟩:∃vn:Nat,num V 0=vn:=⟨(num V 0).toNat,by omega⟩;obtain⟨hn,hh⟩:∃hn:Nat,num H 0=hn:=⟨(num H 0).toNat,by omega⟩;rw[one w1,hh]at h1;rw[one w2,hv]at h2;rw[hv,hh];refine⟨λpre x hpre y hy=> ?_,(Zt6 (ρ n1) (ρ n2) vn hn (by omega) (by omega) w h1 h2).keep Ub9.sub |>.any h⟩;simp only[jJ]at hy;subst hy;refine⟨rfl,rfl,?_⟩;have:=ol (x:=x) (hpre.subset (by simp));have e1:i64.min=-9223372036854775808:=rfl;have e2:i64.max=9223372036854775807:=rfl;omega
  ·cases hY
 |[],hY,_=>cases hY
 |[_],hY,_=>
  simp only[getH]at hY;unfold mN at hY;split at hY
  ·rename_i heq;simp at heq
  ·cases hY
 |_::_::_::_,hY,_=>
  simp only[getH]at hY;unfold mN at hY;split at hY
  ·rename_i heq;simp at heq
  ·cases hY
theorem sU:EntX PZ 118:=Zaj (fn:=f118)
def ecT (S:QA) (m:Nat):St:=
  ⟨[.a .x,.a (.w 0),.a .x,bif m.testBit 6 then .a (.w 7) else .a .x,bif m.testBit 7 then .a (.w 8) else .a .x,bif m.testBit 0 then .a (.p 0 0 22) else .a .x,bif m.testBit 1 then .a (.i .i8 (num S 0)) else .a .x,bif m.testBit 2 then .a (.i .i64 (i64.wrap (num S 0))) else .a .x,
    bif m.testBit 3 then .a (.p 0 1 22) else .a .x,bif m.testBit 4 then .a (.i .i8 (num S 1)) else .a .x,bif m.testBit 5 then .a (.i .i64 (i64.wrap (num S 1))) else .a .x,.a .x],
   [.row S 38,.no,.no,.no,.no,.no,.no,bif m.testBit 6 then .row #[.int .i64 (bif m.testBit 8 then i64.wrap (num S 0) else 0)] 2 else .no,bif m.testBit 7 then .row #[.int .i64 (bif m.testBit 9 then i64.wrap (num S 1) else 0)] 2 else .no,.no,.no],
   bif m.testBit 9 then [8,7] else bif m.testBit 8 then [7] else []⟩
abbrev mO:Array Oper:=(regs (codeOf f111)).getD 1 #[]
def mP:bB:=λargs=>match args with|[.g S 38]=>some ⟨118,[(#[.int .i64 (num S 1)],2),(#[.int .i64 (num S 0)],2)]⟩|_=>none
theorem sV:Uby mn PZ 111 mP:=by
 intro ρ h w args vals c hr hA hH;unfold mP at hr;split at hr
 ·rename_i S;cases hr
  match vals,hA with
  | [v],hA=>
   obtain⟨rfl,hW⟩:=hA.2 0 _ v rfl rfl;obtain⟨s0,a0,b0⟩:=hW.int (o:=0) (k:=.i8) (by kernel_rfl);obtain⟨s1,a1,b1⟩:=hW.int (o:=1) (k:=.i8) (by kernel_rfl);have e1:IntKind.i8.min=-128:=rfl;have e2:IntKind.i8.max=127:=rfl;rw[e1]at a0 a1;rw[e2]at b0 b1;refine pA (c:=codeOf f111) Tryz.func111 rfl ?_;have hS:S0 PZ (.a (.v (.agg S))::us 11 []) { tmps:=#[.agg S]++jM 11 undef,defers:=[] }:=S0.enter [.agg S] 11;have hS:=hS.set (i:=0) (y:=.a (.g S 38)) ⟨rfl,hW⟩;refine Za1 (Zvc mKn (hS.rr w) 2 (kS:=[1]) (kH:=[0]) (dd:=[]) (nS:=12) (nH:=1) (s':=.a .x::.a (.w 0)::xs 10 []) (h':=[.row S 38]) rfl (by kernel_rfl) λρ1 a1' v1 hR1 hw1=> ?_);refine Za1 (wpX_tab (by kernel_rfl) mKn hR1 (ecT S) (levT mO 10 [0]) 1023 (by kernel_rfl) (by kernel_rfl) (by kernel_rfl) (by kernel_rfl) (by kernel_rfl) (by kernel_rfl) (by kernel_rfl) (by kernel_rfl) (by kernel_rfl) λρ2 a2 v2 hR2 hg2 hρ2=> ?_);refine Za1 (Zvc mKn hR2 0 (kS:=[2]) (kH:=[7,8]) (dd:=[]) (nS:=12) (nH:=9) (s':=xs 2 (.a (.c 118 [8,7])::xs 9 [])) (h':=[.no,.no,.no,.no,.no,.no,.no,.row #[.int .i64 (i64.wrap (num S 0))] 2,.row #[.int .i64 (i64.wrap (num S 1))] 2]) rfl (by kernel_rfl) λρ3 a3 v3 hR3 hw3=>Zmk ?_);refine⟨.inr rfl,JX rfl hR3.defers λv4 hg4=> ?_⟩;have hf:=hR3.slots 2 _ rfl;refine⟨[(ρ3 8).a,(ρ3 7).a],hf.1,rfl,?_,λj g r hj hr=> ?_,?_⟩
   ·simp only[List.nodup_cons,jJ,List.not_mem_nil,not_false_eq_true,List.nodup_nil,and_true];exact hR3.ne (n:=8) (m:=7) rfl rfl (by decide)
   ·match j with
    |0=>cases hj;cases hr;obtain⟨q1,q2,q3⟩:=hR3.row (n:=8) rfl;rw[IntWalk.i64_in _ (by omega)]at q1 q2;exact⟨q3,geAt hg4 q1,q2⟩
    |1=>cases hj;cases hr;obtain⟨q1,q2,q3⟩:=hR3.row (n:=7) rfl;rw[IntWalk.i64_in _ (by omega)]at q1 q2;exact⟨q3,geAt hg4 q1,q2⟩
    |_+2=>simp at hj
   ·exact hR3.kept.trans (.of_below hg4)
 ·cases hr
theorem sW:EntX PZ 111:=Zaj (fn:=f111)
end
end
section
variable {mn:Md}
noncomputable section
theorem FW(S:QA):ansN PZ (mkΓ []) 10 f92 [] [.g S 38]=some ⟨110,[(S,38)]⟩:=by kernel_rfl
def pc:bB:=λargs=>match args with|[.g S 38]=>some ⟨110,[(S,38)]⟩|_=>none
theorem xJ:Uby mn PZ 92 pc:=(Yuo (N:=10) (by kernel_rfl) mKn (fn:=f92) (by kernel_rfl) (by kernel_rfl) []).of (by
 intro ρ h args vals c J A;unfold pc at A;split at A
 ·rename_i S;rw[<- Q5 A];exact FW S
 ·cases A)
theorem xK:EntX PZ 92:=Zaj (fn:=f92)
abbrev cA:Cons:=mkΓx [(95,con lC)] [(111,mP)] []
theorem aj:ConsOkX mn PZ (Ual mn PZ) cA:=mKx (Zae oX) oW (mkΓx_nX sV sW aS)
set_option maxHeartbeats 1000000 in
theorem Ymw(bs:Nat)(S:QA)(hW:WT PZ 38 S)(wd hi:Nat)(hw:num S 0=wd)(hh:num S 1=hi)(hw6:wd<=6)(hh6:hi<=6)(v:QB)(hbs:v.heap[bs]?=some (.cells S 38 (0,0))):
  gB mn PZ 110 #[.pointer (some ⟨bs,0,none⟩)] (λx:Int=>#[.int .i64 x]) (Ub9 [bs]) ((Uam wd hi 36).filter (Zac S)) v:=by
 intro l J Jx V hge hJ hJx hY h0;have hbs:=geAt hge hbs;clear hge
 show Ua6 mn PZ 110 #[.func (.yield l) #[] #[],.pointer (some ⟨bs,0,none⟩)] V _
 refine lN (c:=codeOf f110) Tryz.func110 rfl ?_;have hS:S0 PZ (slY l::slP bs::us 14 []) { tmps:=#[.func (.yield l) #[] #[],.pointer (some ⟨bs,0,none⟩)]++jM 14 undef,defers:=[] }:=S0.enter [.func (.yield l) #[] #[],.pointer (some ⟨bs,0,none⟩)] 14;refine Za1 (Za2 ?_)
 show OpsX mn _ _ _ [0] _ _
 refine lL (i:=0) rfl rfl (Yu8 rfl (hS.cst (i:=0) rfl) λv1 hg1=> ?_);have hS1:=hS.put 2 (y:=.v (.pointer (some ⟨v1.heap.size,0,none⟩))) (vv:=.pointer (some ⟨v1.heap.size,0,none⟩)) rfl;have hq:(v1.alloc (.cells #[.func (.yield l) #[] #[]] 121)).heap[v1.heap.size]?=some (.cells #[.func (.yield l) #[] #[]] 121 (0,0)):=World.alloc_heap_new v1 _;have hgV:=hg1.trans (Ypi v1 (.cells #[.func (.yield l) #[] #[]] 121));have hbs:=geAt hgV hbs;have hqV:V.heap.size<=v1.heap.size:=hg1.size;have hJ1:=Ubs hJ hgV h0;generalize v1.alloc (.cells #[.func (.yield l) #[] #[]] 121)=v2 at hq hgV hbs hJ1;generalize v1.heap.size=bq at hq hS1 hqV;have hz2:V.heap.size<=v2.heap.size:=hgV.size;clear hg1 hgV h0 hS;refine Za1 (Za2 ?_)
 show OpsX mn _ _ _ (jC 0 1++(jC 1 1++[])) _ _
 refine pH aj hS1 (j:=1) (b:=bs) rfl hbs hW rfl 0 1 rfl (kS:=[0,1,2,4]) (nS:=16) (s':=slY l::.a (.w 0)::slP bq::.a .x::.a (.g S 38)::xs 11 []) rfl rfl (by kernel_rfl) λa2 v3 hS2 hg2=> ?_
 have hbs:=geAt hg2 hbs;have hq:=geAt hg2 hq;have hJ2:=Ubs hJ hg2 hJ1;have hz3:=jE hz2 hg2.size;clear hJ1 hg2 hS1 hz2;refine yW aj (hS2.rr v3) 1 1 rfl (kS:=[0,1,2,5]) (kH:=[3,5]) (dd:=[]) (nS:=16) (nH:=6) 8 (s':=slY l::slP bs::slP bq::xs 2 (.a (.c 118 [3,5])::xs 10 [])) (h':=[.no,.no,.no,.row #[.int .i64 (num S 1)] 2,.no,.row #[.int .i64 (num S 0)] 2]) rfl (by kernel_rfl) λρ4 a4 v4 hR4 hw4=> ?_
 have hg4:=Zol hw4;have hbs:=geAt hg4 hbs;have hq:=geAt hg4 hq;have hJ4:=Ubs hJ hg4 hJ2;have hz4:=jE hz3 hg4.size;obtain⟨hbh,-,hfh⟩:=hR4.row (n:=3) rfl;obtain⟨hbw,-,hfw⟩:=hR4.row (n:=5) rfl;have hf:=(hR4.slots 5 _ rfl:Is PZ ρ4 _ (.c 118 [3,5]) _).1;have hS4:S0 PZ (slY l::slP bs::slP bq::xs 2 (.a (.v (.func (.func 118) #[] #[.pointer (some ⟨(ρ4 3).a,0,none⟩),.pointer (some ⟨(ρ4 5).a,0,none⟩)]))::xs 10 [])) a4:=hR4.bare.set (i:=5) hf;rw[hh]at hbh;rw[hw]at hbw;clear hf hR4 hw4 hg4 hJ2 hS2;generalize (ρ4 3).a=bh at hbh hfh hS4;generalize (ρ4 5).a=bw at hbw hfw hS4;refine Zg6 ?_;refine pz (α:=Int) (v0:=v4) (gf:=118) (lb:=#[.pointer (some ⟨bh,0,none⟩),.pointer (some ⟨bw,0,none⟩)]) (hS4.cst (i:=5) rfl) sU (Zt6 bh bw wd hi hw6 hh6 v4 hbh hbw)
  (λ{A B C} h k q hq Ce t fr e=>k q hq Ce t fr (h q hq Ce t fr e))
  (fun W l' o o' hl ho hc _ k hk C t fr e=>by
   have:l'≠k:=λe'=>by subst e';rw[ho]at e;cases e;cases hc
   rw[World.putObj_heap_other (Ne.symm this)];exact e)
  (λ{A B} hAB k _ C t fr e=>geAt hAB e)
  (Ge.refl v4)
  (λpre W=>J (pre.filter (Zac S)) W/\W.heap[bs]?=some (.cells S 38 (0,0))/\W.heap[bq]?=some (.cells #[.func (.yield l) #[] #[]] 121 (0,0))/\v4.heap.size<=W.heap.size/\W.heap[bh]?=some (.cells #[.int .i64 hi] 2 (0,0))/\W.heap[bw]?=some (.cells #[.int .i64 wd] 2 (0,0)))
  (λc pre W=>c=.ret/\Jx (pre.filter (Zac S)) W)
  ?hps ?hI ?hIx ?h0 (λx=>Ubm [(3,6)] { tmps:=(#[6].zip #[.int .i64 x]).foldl (λt (p,v)=>t.setIfInBounds p v) a4.tmps,defers:=[] }) ?hassign ?hbody ?hdone ?hstop
 case hps=>exact λpre x W _ _=>rfl
 case hI=>
  intro pre A B row ⟨h1,h2,h3,h4,h5,h6⟩ hg hr;have cellk:∀{k:Nat} {C:QA} {t:QE},A.heap[k]?=some (.cells C t (0,0))->B.heap[k]?=some (.cells C t (0,0)):=λ{k C t} hk=>by
   refine(hg.block k (jP.1 hk).1 λe=> ?_).trans hk;obtain⟨_,o,ho,hc⟩:=hr k e.symm;rw[hk]at ho;cases ho;cases hc
  exact⟨hJ _ _ _ row h1 hg λr e=>⟨by have:=(hr r e).1;omega,(hr r e).2⟩,cellk h2,cellk h3,jE h4 hg.size,cellk h5,cellk h6⟩
 case hIx=>exact λc pre A B row ⟨h1,h2⟩ hg hr=>⟨h1,hJx _ _ _ row h2 hg λr e=>⟨by have:=(hr r e).1;omega,(hr r e).2⟩⟩
 case h0=>exact⟨hJ4,hbs,hq,jH _,hbh,hbw⟩
 case hassign=>exact λl' x W=>gC rfl
 case hbody=>
  rintro l' pre x W hl' - ⟨hJ0,hb0,hq0,hz0,hbh0,hbw0⟩ hpre;have hx:=ol (x:=x) (hpre.subset (by simp));have hpf:=hpre.filter (Zac S);rw[jN]at hpf;have hxi:i64.min<=x/\x<=i64.max:=by have e1:i64.min=-9223372036854775808:=rfl;have e2:i64.max=9223372036854775807:=rfl;omega
  have hS5:S0 PZ (slY l::slP bs::slP bq::slI x::xs 1 (.a (.v (.func (.func 118) #[] #[.pointer (some ⟨bh,0,none⟩),.pointer (some ⟨bw,0,none⟩)]))::slI x::xs 9 []))
    (Ubm [(3,6)] { tmps:=(#[6].zip #[.int .i64 x]).foldl (λt (p,v)=>t.setIfInBounds p v) a4.tmps,defers:=[] }):=by
   have h1:S0 PZ _ (({ tmps:=a4.tmps,defers:=[] }:Act).put (some 6) (.int .i64 x)):=S0.put (a:={ tmps:=a4.tmps,defers:=[] }) ⟨hS4.len,hS4.slots,rfl⟩ 6 (y:=.i .i64 x) ⟨rfl,hxi⟩;have h2:=h1.put 3 (y:=.i .i64 x) (vv:=.int .i64 x) ⟨rfl,hxi⟩;have e:∀a:Act,a.eval (.tmp 6)=.int .i64 x->Ubm [(3,6)] a=a.put (some 3) (.int .i64 x):=λa ha=>by simp only[Ubm,ha]
   have e0:({ tmps:=(#[6].zip #[.int .i64 x]).foldl (λt (p,v)=>t.setIfInBounds p v) a4.tmps,defers:=[] }:Act)=({ tmps:=a4.tmps,defers:=[] }:Act).put (some 6) (.int .i64 x):=by simp[Act.put]
   rw[e0,e _ (h1.int (i:=6) (by
    rw[jQ];exact(by decide:6<16)))]
   exact h2
  generalize Ubm [(3,6)] { tmps:=(#[6].zip #[.int .i64 x]).foldl (λt (p,v)=>t.setIfInBounds p v) a4.tmps,defers:=[] }=a5 at hS5|-
  have keep:∀{W'},Ge W W'->Ubg PZ v4.heap.size W W'/\Ub9 [bh,bw] W W':=λhg=>⟨Ubg.of_ge hg,λk _ C t fr h=>geAt hg h⟩
  refine Zg6 (Za1 (Za2 ?_))
  show OpsX mn _ _ _ (jC 0 1++(jC 1 1++(2::(jC 3 1++[4,5,6,7,8])))) _ _
  refine pH aj hS5 (j:=1) (b:=bs) rfl hb0 hW rfl 0 1 rfl (kS:=[0,1,2,3,7]) (nS:=16) (s':=slY l::.a (.w 0)::slP bq::slI x::xs 3 (.a (.g S 38)::xs 8 [])) rfl rfl (by kernel_rfl) λa6 v6 hS6 hg6=> ?_
  refine cC aj hS6 1 1 rfl (kS:=[0,1,2,3,7,8]) (nS:=16) (s':=slY l::slP bs::slP bq::slI x::xs 3 (.a (.g S 38)::slI x::xs 7 [])) rfl (by kernel_rfl) λa7 v7 hS7 hg7=> ?_
  have hcq:lC [.g S 38,.i .i64 x] []=some (.a (.b (Zac S x)),.none,true):=by
   show some (SV.a (SA.b (Zac S x)),Eff.none,decide (0<=x))=_
   rw[Q3 hx.1]
  refine lL (i:=2) rfl rfl (Yji rfl rfl rfl oW (args:=#[.agg S,.int .i64 x]) (by rw[<- hS7.int (i:=8) rfl,<- (hS7.val (i:=7) rfl:Is _ _ _ (.g S _) _).1];simp[Act.eval]) (R:=λe v'=>e=.bool (Zac S x)/\Ge v7 v') (λv₁ h₁=>(Ynp oX hcq (vals:=[.agg S,.int .i64 x]) (Uet ⟨rfl,hW⟩ (Uet ⟨rfl,hxi⟩ fp)) v₁).mono λe v' h=>⟨h.1,h₁.trans h.2⟩) λr v8 h8=> ?_);obtain⟨rfl,hg8⟩:=h8;have hS8:=hS7.put 9 (y:=.b (Zac S x)) (vv:=.bool (Zac S x)) rfl;refine cC aj hS8 3 1 rfl (kS:=[0,1,2,3,10]) (nS:=16) (s':=slY l::slP bs::slP bq::slI x::xs 6 (.a (.b (Zac S x))::xs 5 [])) rfl (by kernel_rfl) λa9 v9 hS9 hg9=> ?_
  have hg:=hg6.trans (hg7.trans (hg8.trans hg9));have hJ9:=Ubs hJ (hg) hJ0;have hb9:=geAt hg hb0;have hq9:=geAt hg hq0;have hbh9:=geAt hg hbh0;have hbw9:=geAt hg hbw0;have hz9:=jE hz0 hg.size;obtain⟨hk9,hl9⟩:=keep hg;clear hS8 hg9 hS7 hg8 hS6 hg7 hS5 hg6 hcq hb0 hq0 hJ0 hz0 hg;cases hqx:Zac S x with
  |false=>
   have Hf:(pre++[x]).filter (Zac S)=pre.filter (Zac S):=by rw[jN];simp[hqx]
   rw[hqx]at hS9
   show OpsX mn _ _ _ (jC 4 5++[]) _ _
   refine cC aj hS9 4 5 rfl (kS:=[15]) (nS:=16) (s':=xs 15 [.a (.b false)]) rfl (by kernel_rfl) λa10 v10 hS10 hg10=> ?_
   refine Zbt (hS10.bool (i:=15) rfl) (Zh9 ?_);exact⟨hk9.trans (Ubg.of_ge hg10),λk hk C t fr h=>geAt hg10 (hl9 k hk C t fr h),by rw[Hf];exact Ubs hJ hg10 hJ9,geAt hg10 hb9,geAt hg10 hq9,jE hz9 hg10.size,geAt hg10 hbh9,geAt hg10 hbw9⟩
  | true=>
   have Hf:(pre++[x]).filter (Zac S)=pre.filter (Zac S)++[x]:=by rw[jN];simp[hqx]
   rw[show List.filter (Zac S) [x]=[x] by simp[hqx]]at hpf;rw[hqx]at hS9;refine pG hS9 (i:=4) rfl (j:=3) (d:=10) rfl rfl rfl (Yub rfl (vv:=.func (.yield l) #[] #[]) (λv₁ h₁=>by
    rw[hS9.cst (i:=2) rfl];exact yV (by kernel_rfl) (by rw[cell_of_row v₁ bq 0 _ _ _ (geAt h₁ hq9)];rfl)) λv10 hg10=> ?_)
   have hS10:=hS9.put 11 (y:=.v (.func (.yield l) #[] #[])) (vv:=.func (.yield l) #[] #[]) rfl
   show OpsX mn _ _ _ (jC 5 1++(6::(jC 7 2++[]))) _ _
   refine cC aj hS10 5 1 rfl (kS:=[0,1,2,3,10,11,12]) (nS:=16) (s':=slY l::slP bs::slP bq::slI x::xs 6 (.a (.b true)::slY l::slI x::xs 3 [])) rfl (by kernel_rfl) λa11 v11 hS11 hg11=> ?_
   have hg':=hg10.trans hg11;refine pG hS11 (i:=6) rfl (j:=3) (d:=10) rfl rfl rfl (Yem rfl rfl (hS11.cst (i:=11) rfl) (args:=#[.int .i64 x]) (by rw[<- hS11.int (i:=12) rfl];simp) (hY (pre.filter (Zac S)) x v11 (Ubs hJ hg' hJ9) hpf (by have:=hg'.size;omega)) λr v12 hr=> ?_);have kA:Ubg PZ v4.heap.size W v11/\Ub9 [bh,bw] W v11:=⟨hk9.trans (Ubg.of_ge hg'),λk hk C t fr h=>geAt hg' (hl9 k hk C t fr h)⟩;rcases hr with ⟨rfl,hJ2,hk,hkf⟩ | ⟨rfl,hJx2,hkf⟩
   ·have hS12:=hS11.put 13 (y:=.b true) (vv:=.bool true) rfl;refine cC aj hS12 7 2 rfl (kS:=[15]) (nS:=16) (s':=xs 15 [.a (.b false)]) rfl (by kernel_rfl) λa13 v13 hS13 hg13=> ?_
    refine Zbt (hS13.bool (i:=15) rfl) (Zh9 ?_);have hk12:Ubg PZ v4.heap.size W v13:=(kA.1.trans (hkf.later (by omega))).trans (Ubg.of_ge hg13);have sf:Udl PZ 121=false:=by kernel_rfl
    have si:Udl PZ 2=false:=by kernel_rfl
    have hbh13:=geAt hg13 (hkf.at (by omega) (geAt hg' hbh9) λC t fr h=>by cases h;exact si);have hbw13:=geAt hg13 (hkf.at (by omega) (geAt hg' hbw9) λC t fr h=>by cases h;exact si);refine⟨hk12,λk hk' C t fr h=> ?_,by rw[Hf];exact Ubs hJ hg13 hJ2,geAt hg13 (hk bs (by simp) _ _ _ (geAt hg' hb9)),geAt hg13 (hkf.at (by omega) (geAt hg' hq9) λC t fr h=>by cases h;exact sf),jE (jE hz9 hg'.size) (jE hkf.size hg13.size),hbh13,hbw13⟩;rcases List.mem_cons.1 hk' with rfl|hk''
    ·rw[hbh0]at h;cases h;exact hbh13
    ·obtain rfl:=jJ.1 hk'';rw[hbw0]at h;cases h;exact hbw13
   ·have hS12:=hS11.put 13 (y:=.b false) (vv:=.bool false) rfl;refine cC aj hS12 7 2 rfl (kS:=[15]) (nS:=16) (s':=xs 15 [.a (.b true)]) rfl (by kernel_rfl) λa13 v13 hS13 hg13=> ?_
    refine Zii (hS13.bool (i:=15) rfl) (Zmk ?_);exact⟨(kA.1.trans (hkf.later (by omega))).trans (Ubg.of_ge hg13),rfl,by rw[Hf];exact Ubs hJx hg13 hJx2⟩
 case hdone=>
  rintro D W hD ⟨hJ0,_⟩ hm;exact⟨.inl rfl,.inr ⟨D,by rw[hS4.defers],hm,λv1 hg1=>⟨_,results_none rfl _ _ _,.inl (Ubs hJ hg1 (hJ.putObj (.deferred none) hJ0 (by omega) hm rfl))⟩⟩⟩
 case hstop=>
  rintro D c pre W hD hpre ⟨rfl,hJx0⟩ hm;exact Zmk ⟨.inr rfl,.inr ⟨D,by rw[hS4.defers],hm,λv1 hg1=>⟨_,results_none rfl _ _ _,.inr ⟨_,hpre.filter _,Ubs hJx hg1 (hJx.putObj (.deferred none) hJx0 (by omega) hm rfl)⟩⟩⟩⟩
def mQ:ICon:=λbs _=>match bs with|[.row S 38]=>some ⟨Int,λn=>[.i .i64 n],(Uam (num S 0) (num S 1) 36).filter (Zac S),decide (0<=num S 0)&&decide (num S 0<=6)&&(decide (0<=num S 1)&&decide (num S 1<=6))⟩|_=>none
theorem xL:Ual mn PZ 110 mQ:=by
 intro ρ h w ns Y hY hok hH hr
 match ns,hY,hr with
 | [n1],hY,hr=>
  simp only[getH]at hY;unfold mQ at hY;split at hY
  ·rename_i S heq;have e0:=(List.cons.inj heq).1;cases hY;have g:∀{m:Nat} {C:QA} {t:QE},h.getD m .no=.row C t->h[m]?=some (.row C t):=λ{m C t} e=>by
    rw[jT]at e;cases hm:h[m]? with
    |none=>rw[hm]at e;cases e
    |some b=>rw[hm]at e;exact congrArg some e
   obtain⟨h1,w1⟩:=hH.is n1 _ (g e0);dsimp only at hok;simp only[Q7,decide_eq_true_eq]at hok;obtain⟨⟨a1,a2⟩,a3,a4⟩:=hok;obtain⟨vn,hv⟩:∃vn:Nat,num S 0=vn:=⟨(num S 0).toNat,by omega⟩;obtain⟨hn,hh⟩:∃hn:Nat,num S 1=hn:=⟨(num S 1).toNat,by omega⟩;rw[hv,hh];refine⟨λpre x hpre y hy=> ?_,(Ymw (ρ n1) S w1 vn hn hv hh (by omega) (by omega) w h1).keep Ub9.sub |>.any h⟩;simp only[jJ]at hy;subst hy;refine⟨rfl,rfl,?_⟩;have:=ol (x:=x) (List.mem_filter.1 (hpre.subset (by simp))).1;have e1:i64.min=-9223372036854775808:=rfl;have e2:i64.max=9223372036854775807:=rfl;omega
  ·cases hY
 |[],hY,_=>cases hY
 |_::_::_,hY,_=>
  simp only[getH]at hY;unfold mQ at hY;split at hY
  ·rename_i heq;simp at heq
  ·cases hY
theorem xM:EntX PZ 110:=Zaj (fn:=f110)
end
end
section
variable {mn:Md}
noncomputable section
theorem FX(S:QA):ansN PZ (mkΓ []) 10 f104 [] [.g S 38]=some ⟨114,[(S,38)]⟩:=by kernel_rfl
def sX:bB:=λargs=>match args with|[.g S 38]=>some ⟨114,[(S,38)]⟩|_=>none
theorem FY:Uby mn PZ 104 sX:=(Yuo (N:=10) (by kernel_rfl) mKn (fn:=f104) (by kernel_rfl) (by kernel_rfl) []).of (by
 intro ρ h args vals c J A;unfold sX at A;split at A
 ·rename_i S;rw[<- Q5 A];exact FX S
 ·cases A)
theorem FZ:EntX PZ 104:=Zaj (fn:=f104)
abbrev cS:Cons:=mkΓx [(84,con dc)] [(111,mP)] []
theorem ap:ConsOkX mn PZ (Ual mn PZ) cS:=mKx (Zae iM) iL (mkΓx_nX sV sW aS)
set_option maxHeartbeats 1000000 in
theorem Yp2(bs:Nat)(S:QA)(hW:WT PZ 38 S)(wd hi:Nat)(hw:num S 0=wd)(hh:num S 1=hi)(hw6:wd<=6)(hh6:hi<=6)(v:QB)(hbs:v.heap[bs]?=some (.cells S 38 (0,0))):
  gB mn PZ 114 #[.pointer (some ⟨bs,0,none⟩)] (λx:Int=>#[.int .i64 x]) (Ub9 [bs]) ((Uam wd hi 36).filter (Zad S)) v:=by
 intro l J Jx V hge hJ hJx hY h0;have hbs:=geAt hge hbs;clear hge
 show Ua6 mn PZ 114 #[.func (.yield l) #[] #[],.pointer (some ⟨bs,0,none⟩)] V _
 refine lN (c:=codeOf f114) Tryz.func114 rfl ?_;have hS:S0 PZ (slY l::slP bs::us 14 []) { tmps:=#[.func (.yield l) #[] #[],.pointer (some ⟨bs,0,none⟩)]++jM 14 undef,defers:=[] }:=S0.enter [.func (.yield l) #[] #[],.pointer (some ⟨bs,0,none⟩)] 14;refine Za1 (Za2 ?_)
 show OpsX mn _ _ _ [0] _ _
 refine lL (i:=0) rfl rfl (Yu8 rfl (hS.cst (i:=0) rfl) λv1 hg1=> ?_);have hS1:=hS.put 2 (y:=.v (.pointer (some ⟨v1.heap.size,0,none⟩))) (vv:=.pointer (some ⟨v1.heap.size,0,none⟩)) rfl;have hq:(v1.alloc (.cells #[.func (.yield l) #[] #[]] 121)).heap[v1.heap.size]?=some (.cells #[.func (.yield l) #[] #[]] 121 (0,0)):=World.alloc_heap_new v1 _;have hgV:=hg1.trans (Ypi v1 (.cells #[.func (.yield l) #[] #[]] 121));have hbs:=geAt hgV hbs;have hqV:V.heap.size<=v1.heap.size:=hg1.size;have hJ1:=Ubs hJ hgV h0;generalize v1.alloc (.cells #[.func (.yield l) #[] #[]] 121)=v2 at hq hgV hbs hJ1;generalize v1.heap.size=bq at hq hS1 hqV;have hz2:V.heap.size<=v2.heap.size:=hgV.size;clear hg1 hgV h0 hS;refine Za1 (Za2 ?_)
 show OpsX mn _ _ _ (jC 0 1++(jC 1 1++[])) _ _
 refine pH ap hS1 (j:=1) (b:=bs) rfl hbs hW rfl 0 1 rfl (kS:=[0,1,2,4]) (nS:=16) (s':=slY l::.a (.w 0)::slP bq::.a .x::.a (.g S 38)::xs 11 []) rfl rfl (by kernel_rfl) λa2 v3 hS2 hg2=> ?_
 have hbs:=geAt hg2 hbs;have hq:=geAt hg2 hq;have hJ2:=Ubs hJ hg2 hJ1;have hz3:=jE hz2 hg2.size;clear hJ1 hg2 hS1 hz2;refine yW ap (hS2.rr v3) 1 1 rfl (kS:=[0,1,2,5]) (kH:=[3,5]) (dd:=[]) (nS:=16) (nH:=6) 8 (s':=slY l::slP bs::slP bq::xs 2 (.a (.c 118 [3,5])::xs 10 [])) (h':=[.no,.no,.no,.row #[.int .i64 (num S 1)] 2,.no,.row #[.int .i64 (num S 0)] 2]) rfl (by kernel_rfl) λρ4 a4 v4 hR4 hw4=> ?_
 have hg4:=Zol hw4;have hbs:=geAt hg4 hbs;have hq:=geAt hg4 hq;have hJ4:=Ubs hJ hg4 hJ2;have hz4:=jE hz3 hg4.size;obtain⟨hbh,-,hfh⟩:=hR4.row (n:=3) rfl;obtain⟨hbw,-,hfw⟩:=hR4.row (n:=5) rfl;have hf:=(hR4.slots 5 _ rfl:Is PZ ρ4 _ (.c 118 [3,5]) _).1;have hS4:S0 PZ (slY l::slP bs::slP bq::xs 2 (.a (.v (.func (.func 118) #[] #[.pointer (some ⟨(ρ4 3).a,0,none⟩),.pointer (some ⟨(ρ4 5).a,0,none⟩)]))::xs 10 [])) a4:=hR4.bare.set (i:=5) hf;rw[hh]at hbh;rw[hw]at hbw;clear hf hR4 hw4 hg4 hJ2 hS2;generalize (ρ4 3).a=bh at hbh hfh hS4;generalize (ρ4 5).a=bw at hbw hfw hS4;refine Zg6 ?_;refine pz (α:=Int) (v0:=v4) (gf:=118) (lb:=#[.pointer (some ⟨bh,0,none⟩),.pointer (some ⟨bw,0,none⟩)]) (hS4.cst (i:=5) rfl) sU (Zt6 bh bw wd hi hw6 hh6 v4 hbh hbw)
  (λ{A B C} h k q hq Ce t fr e=>k q hq Ce t fr (h q hq Ce t fr e))
  (fun W l' o o' hl ho hc _ k hk C t fr e=>by
   have:l'≠k:=λe'=>by subst e';rw[ho]at e;cases e;cases hc
   rw[World.putObj_heap_other (Ne.symm this)];exact e)
  (λ{A B} hAB k _ C t fr e=>geAt hAB e)
  (Ge.refl v4)
  (λpre W=>J (pre.filter (Zad S)) W/\W.heap[bs]?=some (.cells S 38 (0,0))/\W.heap[bq]?=some (.cells #[.func (.yield l) #[] #[]] 121 (0,0))/\v4.heap.size<=W.heap.size/\W.heap[bh]?=some (.cells #[.int .i64 hi] 2 (0,0))/\W.heap[bw]?=some (.cells #[.int .i64 wd] 2 (0,0)))
  (λc pre W=>c=.ret/\Jx (pre.filter (Zad S)) W)
  ?hps ?hI ?hIx ?h0 (λx=>Ubm [(3,6)] { tmps:=(#[6].zip #[.int .i64 x]).foldl (λt (p,v)=>t.setIfInBounds p v) a4.tmps,defers:=[] }) ?hassign ?hbody ?hdone ?hstop
 case hps=>exact λpre x W _ _=>rfl
 case hI=>
  intro pre A B row ⟨h1,h2,h3,h4,h5,h6⟩ hg hr;have cellk:∀{k:Nat} {C:QA} {t:QE},A.heap[k]?=some (.cells C t (0,0))->B.heap[k]?=some (.cells C t (0,0)):=λ{k C t} hk=>by
   refine(hg.block k (jP.1 hk).1 λe=> ?_).trans hk;obtain⟨_,o,ho,hc⟩:=hr k e.symm;rw[hk]at ho;cases ho;cases hc
  exact⟨hJ _ _ _ row h1 hg λr e=>⟨by have:=(hr r e).1;omega,(hr r e).2⟩,cellk h2,cellk h3,jE h4 hg.size,cellk h5,cellk h6⟩
 case hIx=>exact λc pre A B row ⟨h1,h2⟩ hg hr=>⟨h1,hJx _ _ _ row h2 hg λr e=>⟨by have:=(hr r e).1;omega,(hr r e).2⟩⟩
 case h0=>exact⟨hJ4,hbs,hq,jH _,hbh,hbw⟩
 case hassign=>exact λl' x W=>gC rfl
 case hbody=>
  rintro l' pre x W hl' - ⟨hJ0,hb0,hq0,hz0,hbh0,hbw0⟩ hpre;have hx:=ol (x:=x) (hpre.subset (by simp));have hpf:=hpre.filter (Zad S);rw[jN]at hpf;have hxi:i64.min<=x/\x<=i64.max:=by have e1:i64.min=-9223372036854775808:=rfl;have e2:i64.max=9223372036854775807:=rfl;omega
  have hS5:S0 PZ (slY l::slP bs::slP bq::slI x::xs 1 (.a (.v (.func (.func 118) #[] #[.pointer (some ⟨bh,0,none⟩),.pointer (some ⟨bw,0,none⟩)]))::slI x::xs 9 []))
    (Ubm [(3,6)] { tmps:=(#[6].zip #[.int .i64 x]).foldl (λt (p,v)=>t.setIfInBounds p v) a4.tmps,defers:=[] }):=by
   have h1:S0 PZ _ (({ tmps:=a4.tmps,defers:=[] }:Act).put (some 6) (.int .i64 x)):=S0.put (a:={ tmps:=a4.tmps,defers:=[] }) ⟨hS4.len,hS4.slots,rfl⟩ 6 (y:=.i .i64 x) ⟨rfl,hxi⟩;have h2:=h1.put 3 (y:=.i .i64 x) (vv:=.int .i64 x) ⟨rfl,hxi⟩;have e:∀a:Act,a.eval (.tmp 6)=.int .i64 x->Ubm [(3,6)] a=a.put (some 3) (.int .i64 x):=λa ha=>by simp only[Ubm,ha]
   have e0:({ tmps:=(#[6].zip #[.int .i64 x]).foldl (λt (p,v)=>t.setIfInBounds p v) a4.tmps,defers:=[] }:Act)=({ tmps:=a4.tmps,defers:=[] }:Act).put (some 6) (.int .i64 x):=by simp[Act.put]
   rw[e0,e _ (h1.int (i:=6) (by
    rw[jQ];exact(by decide:6<16)))]
   exact h2
  generalize Ubm [(3,6)] { tmps:=(#[6].zip #[.int .i64 x]).foldl (λt (p,v)=>t.setIfInBounds p v) a4.tmps,defers:=[] }=a5 at hS5|-
  have keep:∀{W'},Ge W W'->Ubg PZ v4.heap.size W W'/\Ub9 [bh,bw] W W':=λhg=>⟨Ubg.of_ge hg,λk _ C t fr h=>geAt hg h⟩
  refine Zg6 (Za1 (Za2 ?_))
  show OpsX mn _ _ _ (jC 0 1++(jC 1 1++(2::(jC 3 1++[4,5,6,7,8])))) _ _
  refine pH ap hS5 (j:=1) (b:=bs) rfl hb0 hW rfl 0 1 rfl (kS:=[0,1,2,3,7]) (nS:=16) (s':=slY l::.a (.w 0)::slP bq::slI x::xs 3 (.a (.g S 38)::xs 8 [])) rfl rfl (by kernel_rfl) λa6 v6 hS6 hg6=> ?_
  refine cC ap hS6 1 1 rfl (kS:=[0,1,2,3,7,8]) (nS:=16) (s':=slY l::slP bs::slP bq::slI x::xs 3 (.a (.g S 38)::slI x::xs 7 [])) rfl (by kernel_rfl) λa7 v7 hS7 hg7=> ?_
  have hcq:dc [.g S 38,.i .i64 x] []=some (.a (.b (Zad S x)),.none,true):=by
   show some (SV.a (SA.b (Zad S x)),Eff.none,decide (0<=x))=_
   rw[Q3 hx.1]
  refine lL (i:=2) rfl rfl (Yji rfl rfl rfl iL (args:=#[.agg S,.int .i64 x]) (by rw[<- hS7.int (i:=8) rfl,<- (hS7.val (i:=7) rfl:Is _ _ _ (.g S _) _).1];simp[Act.eval]) (R:=λe v'=>e=.bool (Zad S x)/\Ge v7 v') (λv₁ h₁=>(Ynp iM hcq (vals:=[.agg S,.int .i64 x]) (Uet ⟨rfl,hW⟩ (Uet ⟨rfl,hxi⟩ fp)) v₁).mono λe v' h=>⟨h.1,h₁.trans h.2⟩) λr v8 h8=> ?_);obtain⟨rfl,hg8⟩:=h8;have hS8:=hS7.put 9 (y:=.b (Zad S x)) (vv:=.bool (Zad S x)) rfl;refine cC ap hS8 3 1 rfl (kS:=[0,1,2,3,10]) (nS:=16) (s':=slY l::slP bs::slP bq::slI x::xs 6 (.a (.b (Zad S x))::xs 5 [])) rfl (by kernel_rfl) λa9 v9 hS9 hg9=> ?_
  have hg:=hg6.trans (hg7.trans (hg8.trans hg9));have hJ9:=Ubs hJ (hg) hJ0;have hb9:=geAt hg hb0;have hq9:=geAt hg hq0;have hbh9:=geAt hg hbh0;have hbw9:=geAt hg hbw0;have hz9:=jE hz0 hg.size;obtain⟨hk9,hl9⟩:=keep hg;clear hS8 hg9 hS7 hg8 hS6 hg7 hS5 hg6 hcq hb0 hq0 hJ0 hz0 hg;cases hqx:Zad S x with
  |false=>
   have Hf:(pre++[x]).filter (Zad S)=pre.filter (Zad S):=by rw[jN];simp[hqx]
   rw[hqx]at hS9
   show OpsX mn _ _ _ (jC 4 5++[]) _ _
   refine cC ap hS9 4 5 rfl (kS:=[15]) (nS:=16) (s':=xs 15 [.a (.b false)]) rfl (by kernel_rfl) λa10 v10 hS10 hg10=> ?_
   refine Zbt (hS10.bool (i:=15) rfl) (Zh9 ?_);exact⟨hk9.trans (Ubg.of_ge hg10),λk hk C t fr h=>geAt hg10 (hl9 k hk C t fr h),by rw[Hf];exact Ubs hJ hg10 hJ9,geAt hg10 hb9,geAt hg10 hq9,jE hz9 hg10.size,geAt hg10 hbh9,geAt hg10 hbw9⟩
  | true=>
   have Hf:(pre++[x]).filter (Zad S)=pre.filter (Zad S)++[x]:=by rw[jN];simp[hqx]
   rw[show List.filter (Zad S) [x]=[x] by simp[hqx]]at hpf;rw[hqx]at hS9;refine pG hS9 (i:=4) rfl (j:=3) (d:=10) rfl rfl rfl (Yub rfl (vv:=.func (.yield l) #[] #[]) (λv₁ h₁=>by
    rw[hS9.cst (i:=2) rfl];exact yV (by kernel_rfl) (by rw[cell_of_row v₁ bq 0 _ _ _ (geAt h₁ hq9)];rfl)) λv10 hg10=> ?_)
   have hS10:=hS9.put 11 (y:=.v (.func (.yield l) #[] #[])) (vv:=.func (.yield l) #[] #[]) rfl
   show OpsX mn _ _ _ (jC 5 1++(6::(jC 7 2++[]))) _ _
   refine cC ap hS10 5 1 rfl (kS:=[0,1,2,3,10,11,12]) (nS:=16) (s':=slY l::slP bs::slP bq::slI x::xs 6 (.a (.b true)::slY l::slI x::xs 3 [])) rfl (by kernel_rfl) λa11 v11 hS11 hg11=> ?_
   have hg':=hg10.trans hg11;refine pG hS11 (i:=6) rfl (j:=3) (d:=10) rfl rfl rfl (Yem rfl rfl (hS11.cst (i:=11) rfl) (args:=#[.int .i64 x]) (by rw[<- hS11.int (i:=12) rfl];simp) (hY (pre.filter (Zad S)) x v11 (Ubs hJ hg' hJ9) hpf (by have:=hg'.size;omega)) λr v12 hr=> ?_);have kA:Ubg PZ v4.heap.size W v11/\Ub9 [bh,bw] W v11:=⟨hk9.trans (Ubg.of_ge hg'),λk hk C t fr h=>geAt hg' (hl9 k hk C t fr h)⟩;rcases hr with ⟨rfl,hJ2,hk,hkf⟩ | ⟨rfl,hJx2,hkf⟩
   ·have hS12:=hS11.put 13 (y:=.b true) (vv:=.bool true) rfl;refine cC ap hS12 7 2 rfl (kS:=[15]) (nS:=16) (s':=xs 15 [.a (.b false)]) rfl (by kernel_rfl) λa13 v13 hS13 hg13=> ?_
    refine Zbt (hS13.bool (i:=15) rfl) (Zh9 ?_);have hk12:Ubg PZ v4.heap.size W v13:=(kA.1.trans (hkf.later (by omega))).trans (Ubg.of_ge hg13);have sf:Udl PZ 121=false:=by kernel_rfl
    have si:Udl PZ 2=false:=by kernel_rfl
    have hbh13:=geAt hg13 (hkf.at (by omega) (geAt hg' hbh9) λC t fr h=>by cases h;exact si);have hbw13:=geAt hg13 (hkf.at (by omega) (geAt hg' hbw9) λC t fr h=>by cases h;exact si);refine⟨hk12,λk hk' C t fr h=> ?_,by rw[Hf];exact Ubs hJ hg13 hJ2,geAt hg13 (hk bs (by simp) _ _ _ (geAt hg' hb9)),geAt hg13 (hkf.at (by omega) (geAt hg' hq9) λC t fr h=>by cases h;exact sf),jE (jE hz9 hg'.size) (jE hkf.size hg13.size),hbh13,hbw13⟩;rcases List.mem_cons.1 hk' with rfl|hk''
    ·rw[hbh0]at h;cases h;exact hbh13
    ·obtain rfl:=jJ.1 hk'';rw[hbw0]at h;cases h;exact hbw13
   ·have hS12:=hS11.put 13 (y:=.b false) (vv:=.bool false) rfl;refine cC ap hS12 7 2 rfl (kS:=[15]) (nS:=16) (s':=xs 15 [.a (.b true)]) rfl (by kernel_rfl) λa13 v13 hS13 hg13=> ?_
    refine Zii (hS13.bool (i:=15) rfl) (Zmk ?_);exact⟨(kA.1.trans (hkf.later (by omega))).trans (Ubg.of_ge hg13),rfl,by rw[Hf];exact Ubs hJx hg13 hJx2⟩
 case hdone=>
  rintro D W hD ⟨hJ0,_⟩ hm;exact⟨.inl rfl,.inr ⟨D,by rw[hS4.defers],hm,λv1 hg1=>⟨_,results_none rfl _ _ _,.inl (Ubs hJ hg1 (hJ.putObj (.deferred none) hJ0 (by omega) hm rfl))⟩⟩⟩
 case hstop=>
  rintro D c pre W hD hpre ⟨rfl,hJx0⟩ hm;exact Zmk ⟨.inr rfl,.inr ⟨D,by rw[hS4.defers],hm,λv1 hg1=>⟨_,results_none rfl _ _ _,.inr ⟨_,hpre.filter _,Ubs hJx hg1 (hJx.putObj (.deferred none) hJx0 (by omega) hm rfl)⟩⟩⟩⟩
def pd:ICon:=λbs _=>match bs with|[.row S 38]=>some ⟨Int,λn=>[.i .i64 n],(Uam (num S 0) (num S 1) 36).filter (Zad S),decide (0<=num S 0)&&decide (num S 0<=6)&&(decide (0<=num S 1)&&decide (num S 1<=6))⟩|_=>none
theorem Ga:Ual mn PZ 114 pd:=by
 intro ρ h w ns Y hY hok hH hr
 match ns,hY,hr with
 | [n1],hY,hr=>
  simp only[getH]at hY;unfold pd at hY;split at hY
  ·rename_i S heq;have e0:=(List.cons.inj heq).1;cases hY;have g:∀{m:Nat} {C:QA} {t:QE},h.getD m .no=.row C t->h[m]?=some (.row C t):=λ{m C t} e=>by
    rw[jT]at e;cases hm:h[m]? with
    |none=>rw[hm]at e;cases e
    |some b=>rw[hm]at e;exact congrArg some e
   obtain⟨h1,w1⟩:=hH.is n1 _ (g e0);dsimp only at hok;simp only[Q7,decide_eq_true_eq]at hok;obtain⟨⟨a1,a2⟩,a3,a4⟩:=hok;obtain⟨vn,hv⟩:∃vn:Nat,num S 0=vn:=⟨(num S 0).toNat,by omega⟩;obtain⟨hn,hh⟩:∃hn:Nat,num S 1=hn:=⟨(num S 1).toNat,by omega⟩;rw[hv,hh];refine⟨λpre x hpre y hy=> ?_,(Yp2 (ρ n1) S w1 vn hn hv hh (by omega) (by omega) w h1).keep Ub9.sub |>.any h⟩;simp only[jJ]at hy;subst hy;refine⟨rfl,rfl,?_⟩;have:=ol (x:=x) (List.mem_filter.1 (hpre.subset (by simp))).1;have e1:i64.min=-9223372036854775808:=rfl;have e2:i64.max=9223372036854775807:=rfl;omega
  ·cases hY
 |[],hY,_=>cases hY
 |_::_::_,hY,_=>
  simp only[getH]at hY;unfold pd at hY;split at hY
  ·rename_i heq;simp at heq
  ·cases hY
theorem Gb:EntX PZ 114:=Zaj (fn:=f114)
end
end
noncomputable section
variable {mn:Md}
theorem iN(S:QA)(c:Int):Zaw S c=Zab c S:=by
 unfold Zaw Zab Zaa
 by_cases h0:0<=c
 ·have O:∀x y:Int,0<=x->0<=y->Zaz S #[.int .i64 x,.int .i64 y]=(bif decide (x<i64.wrap (num S 0)) then decide (y<i64.wrap (num S 1)) else false):=λx y A J=>by
   show (bif decide (x>=0) then (bif decide (x<i64.wrap (num S 0)) then (bif decide (y>=0) then decide (y<i64.wrap (num S 1)) else false) else false) else false)=_
   rw[Q3 (show x>=0 from A),Q3 (show y>=0 from J)];cases decide (x<i64.wrap (num S 0))<;>rfl
  by_cases L:c<=35
  ·have A:0<=c.tmod 6:=Int.tmod_nonneg 6 h0;have J:0<=i64.wrap (c.tdiv 6):=by
    have:c.tdiv 6=c / 6:=jU h0;rw[this,IntWalk.i64_in _ (by omega)];omega
   rw[O _ _ A J,Q3 (show c>=0 from h0),Q3 (show c<36 by omega),Q3 L];rfl
  ·rw[Q4 (show ¬c<36 by omega),Q4 L];cases decide (c>=0)<;>rfl
 ·rw[Q4 (show ¬c>=0 from h0)];rfl
theorem Zkk{S:QA}{c:Int}(h:Zab c S=true):0<=c/\c<=35:=by unfold Zab Zaa at h;cases h0:decide (c>=0) with|false=>rw[h0]at h;exact nomatch h|true=>cases A:decide (c<=35) with|false=>rw[h0,A]at h;exact nomatch h|true=>exact⟨of_decide_eq_true h0,of_decide_eq_true A⟩
theorem mR{c:Int}(A:0<=c/\c<=35):IntKind.u64.wrap c=c:=by rw[IntKind.wrap_u64];omega
theorem fU{T:QE}(A:lay PZ T=0::0::7::List.replicate 360 4){S:QA}(h:WT PZ T S):0<=num S 2/\num S 2<=18446744073709551615:=(h.int (o:=2) (k:=.u64) (by rw[A];rfl)).2
theorem sY:lay PZ 38=0::0::7::List.replicate 360 4:=by kernel_rfl
theorem Ywq{S:QA}(h:WT PZ 38 S):0<=num S 2/\num S 2<=18446744073709551615:=fU sY h
theorem mS{S:QA}(h:WT PZ 38 S){k:Nat}(hk:k<36):Zab (k:Int) S=inC (num S 0) (num S 1) k:=by
 obtain⟨s0,J,L⟩:=h.int (o:=0) (k:=.i8) (by kernel_rfl);obtain⟨O,U,V⟩:=h.int (o:=1) (k:=.i8) (by kernel_rfl);have Z:IntKind.i8.min=-128:=rfl;have e2:IntKind.i8.max=127:=rfl;unfold Zab Zaa inC;rw[Q3 (show (k:Int)>=0 by omega),Q3 (show (k:Int)<=35 by omega),IntWalk.i64_in (num S 0) (by omega),IntWalk.i64_in (num S 1) (by omega)];have A:((k:Int)).tmod 6=((k % 6:Nat):Int):=by rw[Int.tmod_eq_emod_of_nonneg (by omega)];omega
 have h2:((k:Int)).tdiv 6=((k / 6:Nat):Int):=by rw[jU (by omega)];omega
 rw[A,h2,IntWalk.i64_in _ (by omega)];simp only[Q1,Q2];cases decide (((k % 6:Nat):Int)<num S 0)<;>rfl
theorem xN(k:Nat):Zff (k:Int)=oneI k:=by unfold Zff oneI;rw[Q9]
theorem mT{k:Nat}(hk:k<36):IntKind.u64.wrap (k:Int)=(k:Int):=mR (by omega)
def Zgs(A:QA):St:=(⟨.a (.w 0)::.a (.u)::.a (.i .u64 0)::.a (.i .u64 0)::.a (.i .i64 0)::us 13 ([]),[.row A 38],[]⟩:St)
def Ziz:Int×Int->LS
 |(A,J)=>([.a (.i .u64 A),.a (.i .i64 J)],[])
def sZ:Int×Int->QP×LS
 |t=>((.exit 0),Ziz t)
def Zd7(P:QD)(L:QA):Int×Int->Option (Stp (Int×Int) (Int×Int))
 |(J,A)=>bif decide (A<(36:Int)) then (bif (Zab A L) then (bif decide (0<=(IntKind.u64.wrap A)) then (some (.more ((IntKind.u64.wrap (BitVec.ofInt IntKind.u64.bits J ||| BitVec.ofInt IntKind.u64.bits (IntKind.u64.wrap ((1:Int)*2^(min ((IntKind.u64.wrap A)).toNat IntKind.u64.bits)))).toNat),(i64.wrap (A+(1:Int)))))) else (none)) else (some (.more (J,(i64.wrap (A+(1:Int))))))) else (some (.done (J,A)))
noncomputable abbrev bE:=codeOf f69
def tc:=(Uaa bE [([3,4],[])]).1
theorem Yg2(N:Nat)(A:QA):∀t:Int×Int,Uaf PZ (mkΓ [(72,con dH)]) N (cAt bE [1,1,0,1,0,0]) (pAt tc [1,1,0,1,0]) [3,4] [] (Zgs A) (Ziz t)=aa Ziz sZ (Zd7 PZ A t):=by
 rintro⟨J,L⟩
 conv=>rhs;simp only[Zd7,aM,aJ,aK,aL,Ziz,sZ]
 kernel_rfl
def td(P:QD)(N:Nat)(L:QA)(A:Int)(J:Int):Option (SV×Eff×Bool):=some (.a (.i .u64 A),.none,true)
def Ufr(N:Nat)(A:QA):=(Uac 0 (kSeq (veC PZ (mkΓ [(72,con dH)]) N (cAt bE [1,1,1]) (pAt tc [1,1,1]) (SV×Eff×Bool)) (finK PZ [.row A 38] [.tmp 2])))
theorem Gc(N:Nat)(L:QA)(A:Int)(J:Int):(Ufr N L) (.exit 0) (left (writes (cAt bE [1,1,0,1,0,0])) [3,4] [] (Zgs L) ([.a (.i .u64 A),.a (.i .i64 J)],[]))=td PZ N L A J:=by kernel_rfl
theorem Gd(N:Nat)(A:QA):au (Uab (Uaf PZ (mkΓ [(72,con dH)]) N (cAt bE [1,1,0,1,0,0]) (pAt tc [1,1,0,1,0]) [3,4] [] (Zgs A)) N ([.a (.i .u64 0),.a (.i .i64 0)],[])) (λe s=>(Ufr N A) e (left (writes (cAt bE [1,1,0,1,0,0])) [3,4] [] (Zgs A) s))=Uah (Uab (Zd7 PZ A) N ((0:Int),(0:Int))) (λx=>td PZ N A x.1 x.2):=by refine aP Ziz sZ _ _ (Yg2 N A) N ((0:Int),(0:Int)) _ _ ?_;intro x;exact Gc N A x.1 x.2
theorem Yf2(N:Nat)(A:QA):ansV PZ (mkΓ [(72,con dH)]) N f69 [([3,4],[])] [.w 0] [.row A 38]=(Uah (Uab (Zd7 PZ A) N ((0:Int),(0:Int))) (λx=>td PZ N A x.1 x.2)):=by
 conv=>rhs;simp only[<- Gd N A]
 kernel_rfl
theorem Gf(A:QA)(J:WT PZ 38 A)(U:(true)=true):ansV PZ (mkΓ [(72,con dH)]) 1000 f69 [([3,4],[])] [.w 0] [.row A 38]=some (.a (.i .u64 (Ua7 (num A 0) (num A 1) 36)),.none,true):=by
 refine(Yf2 1000 A).trans ?_;have h:=iB (g:=Zd7 PZ A) (λs k=>(s,(k:Int))) (λb k=>if inC (num A 0) (num A 1) k then orI b (oneI k) else b) (m:=36) (t:=(0:Int)) (x:=(Ua7 (num A 0) (num A 1) 36,36)) (N:=1000) (λk s hk _=>by
  have L:decide ((k:Int)<36)=true:=Q3 (by omega);have h0:decide (0<=(k:Int))=true:=Q3 (by omega);have O:i64.wrap ((k:Int)+1)=((k+1:Nat):Int):=by rw[IntWalk.i64_in _ (by omega)];omega
  simp only[Zd7,L,Q1,mS J hk,mT hk,h0,O,Q9];cases inC (num A 0) (num A 1) k<;>rfl) (by
  have L:decide (((36:Nat):Int)<36)=false:=by decide
  simp only[Zd7,L,Q2];rfl) (by omega)
 have h':Uab (Zd7 PZ A) 1000 ((0:Int),(0:Int))=some (Ua7 (num A 0) (num A 1) 36,(36:Int)):=h;rw[h'];rfl
def tj:af:=λargs h=>match args,h with|[.w 0],[.row a0 38]=>some (.a (.i .u64 (Ua7 (num a0 0) (num a0 1) 36)),.none,true)|_,_=>none
theorem Gg:EntX PZ 69:=Zaj (fn:=f69)
theorem Gk:Uad mn PZ 69 tj:=(ansY (N:=1000) (mKc (Zae mK) mJ mKn) f69 [([3,4],[])]).of (by
 intro ρ h w args vals r e U L A;unfold tj at A;split at A
 ·rename_i O;obtain⟨rfl,rfl,J⟩:=ai A;exact Gf O (L.wt 0 rfl) J
 ·cases A)
def mU:Cons:=(mkΓx [(103,con mM)] [(111,mP)] [(118,mN)])
def Zd6(A:QA):St:=(⟨.a (.g A 38)::.a (.w 0)::.a (.i .u64 0)::.a (.w 2)::.a (.u)::.a (.g A 38)::.a (.c 118 [6,8])::us 6 ([]),[.row A 38,.no,.row #[.int .u64 0] 23,.no,.no,.no,.row #[.int .i64 (num A 1)] 2,.no,.row #[.int .i64 (num A 0)] 2,.no,.no],[]⟩:St)
def Zln:Int->BS
 |A=>([.row #[.int .u64 A] 23]:BS)
def tk:Empty->QP×BS:=λx=>nomatch x
def Zgn(P:QD)(L:QA)(J:Int):Int->Option (Stp (Int) Empty)
 |A=>bif decide (0<=J) then (some (.more (IntKind.u64.wrap (BitVec.ofInt IntKind.u64.bits A ||| BitVec.ofInt IntKind.u64.bits (Zff J)).toNat))) else (none)
noncomputable abbrev bX:=codeOf f99
def tn:=(Uaa bX [([],[2])]).1
theorem Gl(N:Nat)(A:QA)(J:Int):∀t:Int,mm PZ mU N (cAt bX [1,1,0,1,0,0]) (pAt tn [1,1,0,1,0]) 11 [2] [7] [(4,7)] (Zd6 A) [.i .i64 J] (Zln t)=aa Zln tk (Zgn PZ A J t):=by
 rintro L
 conv=>rhs;simp only[Zgn,aM,aJ,aK,aL,Zln,tk]
 kernel_rfl
def tq(P:QD)(N:Nat)(J:QA)(A:Int):Option (SV×Eff×Bool):=some (.a (.i .u64 A),.none,true)
def Udt(N:Nat):=(Uac 0 (kSeq (veC PZ mU N (cAt bX [1,1,1]) (pAt tn [1,1,1]) (SV×Eff×Bool)) (finK PZ [] [.tmp 2])))
theorem Gm(N:Nat)(J:QA)(A:Int):(Udt N) .normal (Ua2 [2] (Zd6 J) ([.row #[.int .u64 A] 23]:BS))=tq PZ N J A:=by kernel_rfl
theorem Gn(N:Nat)(A:QA):fb (Uat (λ(L:Int) (J:BS)=>mm PZ mU N (cAt bX [1,1,0,1,0,0]) (pAt tn [1,1,0,1,0]) 11 [2] [7] [(4,7)] (Zd6 A) [.i .i64 L] J) (Uam (num A 0) (num A 1) 36) ([.row #[.int .u64 0] 23]:BS)) (λJ=>(Udt N) .normal (Ua2 [2] (Zd6 A) J)) (λe J=>(Udt N) e (Ua2 [2] (Zd6 A) J))=Ude (Uat (Zgn PZ A) (Uam (num A 0) (num A 1) 36) (0:Int)) (λx=>tq PZ N A x) (λx:Empty=>nomatch x):=by
 refine Ybl Zln tk _ _ (λy t=>Gl N A y t) _ (0:Int) _ _ _ _ ?_ ?_
 ·intro x;exact Gm N A x
 ·intro x;exact nomatch x
theorem Yd9(N:Nat)(A:QA):ansV PZ mU N f99 [([],[2])] [.g A 38] []=(bif (decide (0<=(num A 0))&&decide ((num A 0)<=6)&&(decide (0<=(num A 1))&&decide ((num A 1)<=6))) then (Ude (Uat (Zgn PZ A) (Uam (num A 0) (num A 1) 36) (0:Int)) (λx=>tq PZ N A x) (λx:Empty=>nomatch x)) else (none)):=by
 conv=>rhs;simp only[<- Gn N A]
 kernel_rfl
theorem Gp(A:QA)(J:WT PZ 38 A)(L:((decide (0<=num A 0)&&decide (num A 0<=6)&&(decide (0<=num A 1)&&decide (num A 1<=6))))=true):ansV PZ mU 1000 f99 [([],[2])] [.g A 38] []=some (.a (.i .u64 (Ua7 (num A 0) (num A 1) 36)),.none,true):=by
 refine(Yd9 1000 A).trans ?_;have h:=Lt (X:=Empty) (g:=Zgn PZ A) (λb k=>orI b (oneI k)) (wd:=num A 0) (hi:=num A 1) (λs k hk _=>by
  have h0:decide (0<=(k:Int))=true:=Q3 (by omega);simp only[Zgn,h0,Q1,xN];rfl) (0:Int)
 simp only[L,Q1,h];rfl
def tt:af:=λargs h=>match args,h with|[.g a0 38],[]=>some (.a (.i .u64 (Ua7 (num a0 0) (num a0 1) 36)),.none,(decide (0<=num a0 0)&&decide (num a0 0<=6)&&(decide (0<=num a0 1)&&decide (num a0 1<=6))))|_,_=>none
theorem Gq:EntX PZ 99:=Zaj (fn:=f99)
theorem Gr:Uad mn PZ 99 tt:=(ansY (N:=1000) (mKx (Zae xG) xF (mkΓx_nX sV sW (mkΓx_iX FV sU aS))) f99 [([],[2])]).of (by
 intro ρ h w args vals r e L U A;unfold tt at A;split at A
 ·rename_i O;obtain⟨rfl,rfl,J⟩:=ai A;exact Gp O (L.wt 0 rfl) J
 ·cases A)
theorem mV{S:QA}{k:Nat}(hk:k<36):Zad S (k:Int)=bitI (num S 2) k:=by have h:=ft (c:=num S 2) (j:=k) (by omega);rw[<- h,<- xN];rfl
theorem xO{S:QA}(A:WT PZ 38 S){k:Nat}(hk:k<36):Zah (k:Int) S=bitI (num S 2) k:=by have h:=iD (c:=num S 2) (Ywq A) (k:=k) (by omega);rw[<- h];unfold Zah;rw[mT hk,Q9]
theorem xP{S:QA}(A:WT PZ 38 S){k:Nat}(hk:k<36):Zad S (k:Int)=Zah (k:Int) S:=by rw[mV hk,xO A hk]
end
noncomputable section
variable {mn:Md}
def sumW(a:QA):Nat->Int
 |0=>0
 |k+1=>i64.wrap (sumW a k+i64.wrap (num a (k*1)))
theorem tu(t:Int):Zds t=Zaa t 0 1:=by
 unfold Zds Zaa
 by_cases h0:t=0
 ·subst h0;rfl
 ·by_cases A:t=1
  ·subst A;rfl
  ·rw[show (t==0)=false from beq_eq_false_iff_ne.2 h0,show (t==1)=false from beq_eq_false_iff_ne.2 A]
   by_cases h2:t>=0
   ·rw[Q3 h2,Q4 (show ¬t<=1 by omega)];rfl
   ·rw[Q4 h2];rfl
def Zdy(A:QA):St:=(⟨.a (.g A 34)::.a (.w 0)::.a (.b false)::.a (.i .i64 0)::.a (.u)::.a (.u)::.a (.g A 34)::.a (.i .i64 0)::us 9 ([]),[.row A 34,.no],[]⟩:St)
def Ze7:Int×Int->LS
 |(A,J)=>([.a (.i .i64 A),.a (.i .i64 J)],[])
def tv:Int×Int->QP×LS
 |t=>((.exit 0),Ze7 t)
def Zb5(P:QD)(L:QA):Int×Int->Option (Stp (Int×Int) (Int×Int))
 |(J,A)=>bif decide (A<(5:Int)) then (bif (decide (0<=A)&&decide (A<5)) then (some (.more ((i64.wrap (J+(i64.wrap (num L ((A).toNat*1))))),(i64.wrap (A+(1:Int)))))) else (none)) else (some (.done (J,A)))
noncomputable abbrev bo:=codeOf f113
def tw:=(Uaa bo [([3,7],[])]).1
theorem Zyw(N:Nat)(A:QA):∀t:Int×Int,Uaf PZ (mkΓ []) N (cAt bo [1,1,0,1,0,0]) (pAt tw [1,1,0,1,0]) [3,7] [] (Zdy A) (Ze7 t)=aa Ze7 tv (Zb5 PZ A t):=by
 rintro⟨J,L⟩
 conv=>rhs;simp only[Zb5,aM,aJ,aK,aL,Ze7,tv]
 kernel_rfl
def tx(P:QD)(N:Nat)(L:QA)(A:Int)(J:Int):Option (SV×Eff×Bool):=some (.a (.b ((A==(12:Int)))),.none,true)
def Ufz(N:Nat):=(Uac 0 (kSeq (veC PZ (mkΓ []) N (cAt bo [1,1,1]) (pAt tw [1,1,1]) (SV×Eff×Bool)) (finK PZ [] [.tmp 2])))
theorem Gs(N:Nat)(L:QA)(A:Int)(J:Int):(Ufz N) (.exit 0) (left (writes (cAt bo [1,1,0,1,0,0])) [3,7] [] (Zdy L) ([.a (.i .i64 A),.a (.i .i64 J)],[]))=tx PZ N L A J:=by kernel_rfl
theorem Gt(N:Nat)(A:QA):au (Uab (Uaf PZ (mkΓ []) N (cAt bo [1,1,0,1,0,0]) (pAt tw [1,1,0,1,0]) [3,7] [] (Zdy A)) N ([.a (.i .i64 0),.a (.i .i64 0)],[])) (λe s=>(Ufz N) e (left (writes (cAt bo [1,1,0,1,0,0])) [3,7] [] (Zdy A) s))=Uah (Uab (Zb5 PZ A) N ((0:Int),(0:Int))) (λx=>tx PZ N A x.1 x.2):=by refine aP Ze7 tv _ _ (Zyw N A) N ((0:Int),(0:Int)) _ _ ?_;intro x;exact Gs N A x.1 x.2
theorem Zv4(N:Nat)(A:QA):ansV PZ (mkΓ []) N f113 [([3,7],[])] [.g A 34] []=(Uah (Uab (Zb5 PZ A) N ((0:Int),(0:Int))) (λx=>tx PZ N A x.1 x.2)):=by
 conv=>rhs;simp only[<- Gt N A]
 kernel_rfl
theorem Gu(A:QA)(L:WT PZ 34 A)(V:(true)=true):ansV PZ (mkΓ []) 1000 f113 [([3,7],[])] [.g A 34] []=some (.a (.b ((sumW A 5==(12:Int)))),.none,true):=by
 have h:=bP (g:=Zb5 PZ A) (λk=>(sumW A k,(k:Int))) (m:=5) (x:=(sumW A 5,((5:Nat):Int))) (N:=1000) (λk hk=>by
  have J:decide ((k:Int)<5)=true:=Q3 (by omega);have h0:decide (0<=(k:Int))=true:=Q3 (by omega);have O:i64.wrap ((k:Int)+1)=((k+1:Nat):Int):=by rw[IntWalk.i64_in _ (by omega)];omega
  have U:((k:Int)).toNat=k:=Q9 k;simp only[Zb5,J,h0,jA,U,Q1,O,sumW]) (by
  have J:decide (((5:Nat):Int)<5)=false:=by decide
  simp only[Zb5,J,Q2]) (by omega)
 refine(Zv4 1000 A).trans ?_;have h':Uab (Zb5 PZ A) 1000 ((0:Int),(0:Int))=some (sumW A 5,((5:Nat):Int)):=h;rw[h'];rfl
def tz:af:=λargs h=>match args,h with|[.g a0 34],[]=>some (.a (.b ((sumW a0 5==(12:Int)))),.none,true)|_,_=>none
theorem Gv:EntX PZ 113:=Zaj (fn:=f113)
theorem Gw:Uad mn PZ 113 tz:=(ansY (N:=1000) mKn f113 [([3,7],[])]).of (by
 intro ρ h w args vals r e L U A;unfold tz at A;split at A
 ·rename_i O;obtain⟨rfl,rfl,J⟩:=ai A;exact Gu O (L.wt 0 rfl) J
 ·cases A)
def Zeu(A:QA):St:=(⟨.a (.g A 34)::.a (.w 0)::.a (.b false)::.a (.i .i64 0)::.a (.i .i64 0)::us 12 ([]),[.row A 34,.no],[]⟩:St)
def Zgu:Int×Int->LS
 |(A,J)=>([.a (.i .i64 A),.a (.i .i64 J)],[])
def tA:Int×Int->QP×LS
 |t=>((.exit 0),Zgu t)
def Zcs(P:QD)(L:QA):Int×Int->Option (Stp (Int×Int) (Int×Int))
 |(J,A)=>bif decide (A<(5:Int)) then (bif (decide (0<=A)&&decide (A<5)) then (some (.more ((i64.wrap (J+(i64.wrap (num L ((A).toNat*1))))),(i64.wrap (A+(1:Int)))))) else (none)) else (some (.done (J,A)))
noncomputable abbrev bF:=codeOf f71
def tB:=(Uaa bF [([3,4],[])]).1
theorem Yb8(N:Nat)(A:QA):∀t:Int×Int,Uaf PZ (mkΓ []) N (cAt bF [1,1,0,1,0,0]) (pAt tB [1,1,0,1,0]) [3,4] [] (Zeu A) (Zgu t)=aa Zgu tA (Zcs PZ A t):=by
 rintro⟨J,L⟩
 conv=>rhs;simp only[Zcs,aM,aJ,aK,aL,Zgu,tA]
 kernel_rfl
def tC(P:QD)(N:Nat)(L:QA)(A:Int)(J:Int):Option (SV×Eff×Bool):=some (.a (.b ((A==(12:Int)))),.none,true)
def Ufn(N:Nat):=(Uac 0 (kSeq (veC PZ (mkΓ []) N (cAt bF [1,1,1]) (pAt tB [1,1,1]) (SV×Eff×Bool)) (finK PZ [] [.tmp 2])))
theorem Gx(N:Nat)(L:QA)(A:Int)(J:Int):(Ufn N) (.exit 0) (left (writes (cAt bF [1,1,0,1,0,0])) [3,4] [] (Zeu L) ([.a (.i .i64 A),.a (.i .i64 J)],[]))=tC PZ N L A J:=by kernel_rfl
theorem Gy(N:Nat)(A:QA):au (Uab (Uaf PZ (mkΓ []) N (cAt bF [1,1,0,1,0,0]) (pAt tB [1,1,0,1,0]) [3,4] [] (Zeu A)) N ([.a (.i .i64 0),.a (.i .i64 0)],[])) (λe s=>(Ufn N) e (left (writes (cAt bF [1,1,0,1,0,0])) [3,4] [] (Zeu A) s))=Uah (Uab (Zcs PZ A) N ((0:Int),(0:Int))) (λx=>tC PZ N A x.1 x.2):=by refine aP Zgu tA _ _ (Yb8 N A) N ((0:Int),(0:Int)) _ _ ?_;intro x;exact Gx N A x.1 x.2
theorem Zz5(N:Nat)(A:QA):ansV PZ (mkΓ []) N f71 [([3,4],[])] [.g A 34] []=(Uah (Uab (Zcs PZ A) N ((0:Int),(0:Int))) (λx=>tC PZ N A x.1 x.2)):=by
 conv=>rhs;simp only[<- Gy N A]
 kernel_rfl
theorem Gz(A:QA)(L:WT PZ 34 A)(V:(true)=true):ansV PZ (mkΓ []) 1000 f71 [([3,4],[])] [.g A 34] []=some (.a (.b ((sumW A 5==(12:Int)))),.none,true):=by
 have h:=bP (g:=Zcs PZ A) (λk=>(sumW A k,(k:Int))) (m:=5) (x:=(sumW A 5,((5:Nat):Int))) (N:=1000) (λk hk=>by
  have J:decide ((k:Int)<5)=true:=Q3 (by omega);have h0:decide (0<=(k:Int))=true:=Q3 (by omega);have O:i64.wrap ((k:Int)+1)=((k+1:Nat):Int):=by rw[IntWalk.i64_in _ (by omega)];omega
  have U:((k:Int)).toNat=k:=Q9 k;simp only[Zcs,J,h0,jA,U,Q1,O,sumW]) (by
  have J:decide (((5:Nat):Int)<5)=false:=by decide
  simp only[Zcs,J,Q2]) (by omega)
 refine(Zz5 1000 A).trans ?_;have h':Uab (Zcs PZ A) 1000 ((0:Int),(0:Int))=some (sumW A 5,((5:Nat):Int)):=h;rw[h'];rfl
def tD:af:=λargs h=>match args,h with|[.g a0 34],[]=>some (.a (.b ((sumW a0 5==(12:Int)))),.none,true)|_,_=>none
theorem GA:EntX PZ 71:=Zaj (fn:=f71)
theorem GB:Uad mn PZ 71 tD:=(ansY (N:=1000) mKn f71 [([3,4],[])]).of (by
 intro ρ h w args vals r e L U A;unfold tD at A;split at A
 ·rename_i O;obtain⟨rfl,rfl,J⟩:=ai A;exact Gz O (L.wt 0 rfl) J
 ·cases A)
def xQ:Cons:=(mkΓ [(82,con mL),(95,con lC),(113,con tz)])
theorem Yai(N:Nat)(L:QA)(A:Int)(J:QA):ansV PZ xQ N f100 [] [.g L 38,.i .i64 A,.g J 34] []=(bif (Zaw L A) then (bif decide (0<=A) then (bif (Zac L A) then (some (.a (.b ((sumW J 5==(12:Int)))),.none,true)) else (some (.a (.b ((Uag J (#[.int .u8 0,.int .u8 0,.int .u8 0,.int .u8 0,.int .u8 0]:QA)))),.none,true))) else (none)) else (some (.a (.b ((Uag J (#[.int .u8 0,.int .u8 0,.int .u8 0,.int .u8 0,.int .u8 0]:QA)))),.none,true))):=by kernel_rfl
def Zb8(J:QA)(L:Int)(A:QA):Bool:=(bif (Zaw J L) then (bif (Zac J L) then (sumW A 5==(12:Int)) else (Uag A (#[.int .u8 0,.int .u8 0,.int .u8 0,.int .u8 0,.int .u8 0]:QA))) else (Uag A (#[.int .u8 0,.int .u8 0,.int .u8 0,.int .u8 0,.int .u8 0]:QA)))
theorem GC(L:QA)(A:Int)(O:QA)(U:WT PZ 38 L)(V:i64.min<=A/\A<=i64.max)(Z:WT PZ 34 O)(J:((bif (Zaw L A) then decide (0<=A) else true))=true):ansV PZ xQ 1000 f100 [] [.g L 38,.i .i64 A,.g O 34] []=some (.a (.b ((Zb8 L A O))),.none,true):=by
 refine(Yai 1000 L A O).trans ?_;unfold Zb8;revert J;generalize ((Zaw L A))=b2;intro J;cases b2
 ·skip
  first|rfl|exact(nomatch (J:false=true))
 ·skip
  revert J;generalize (decide (0<=A))=b4;intro J;cases b4
  ·skip
   first|exact(nomatch (J:false=true))|rfl
  ·skip
   revert J;generalize ((Zac L A))=b6;intro J;cases b6
   ·skip
    first|rfl|exact(nomatch (J:false=true))
   ·skip
    first|rfl|exact(nomatch (J:false=true))
def tE:af:=λargs h=>match args,h with|[.g a0 38,.i .i64 a1,.g a2 34],[]=>some (.a (.b ((Zb8 a0 a1 a2))),.none,(bif (Zaw a0 a1) then decide (0<=a1) else true))|_,_=>none
theorem GD:EntX PZ 100:=Zaj (fn:=f100)
theorem GE:Uad mn PZ 100 tE:=(ansY (N:=1000) (mKc (Zae lB) lA (mKc (Zae oX) oW (mKc (Zae Gw) Gv mKn))) f100 []).of (by
 intro ρ h w args vals r e J Z A;unfold tE at A;split at A
 ·rename_i O U V;obtain⟨rfl,rfl,L⟩:=ai A;exact GC O U V (J.wt 0 rfl) (J.rng 1 rfl) (J.wt 2 rfl) L
 ·cases A)
def chR(S:QA)(t k:Nat):QA:=S.extract (3+t*180+k*5) (3+t*180+k*5+5)
def fitS(S:QA)(t k:Nat):Bool:=bif inC (num S 0) (num S 1) k && !(bitI (num S 2) k) then (sumW (chR S t k) 5==(12:Int)) else Uag (chR S t k) (#[.int .u8 0,.int .u8 0,.int .u8 0,.int .u8 0,.int .u8 0]:QA)
def mW(S:QA):Bool:=decide (1<=num S 0)&&decide (num S 0<=6)&&(decide (1<=num S 1)&&decide (num S 1<=6))
def okS(S:QA):Bool:=mW S&&((Ubh (num S 2) (Ua7 (num S 0) (num S 1) 36)==0)&&(jB 36).all λk=>fitS S 0 k&&fitS S 1 k)
theorem tF(n:Nat)(p:Nat->Bool):((jB n).find? (λk=> !(p k))).isNone=(jB n).all p:=by rw[Bool.eq_iff_iff,Option.isNone_iff_eq_none,List.find?_eq_none,jG];simp
theorem fV(n:Nat)(p q:Nat->Bool):(jB n).all (λk=>p k&&q k)=((jB n).all p&&(jB n).all q):=by rw[Bool.eq_iff_iff,Q7,jG,jG,jG];simp only[Q7];exact⟨λh=>⟨λx A=>(h x A).1,λx A=>(h x A).2⟩,λh x A=>⟨h.1 x A,h.2 x A⟩⟩
theorem GF{S:QA}(h:WT PZ 38 S){k:Nat}(hk:k<36):Zaw S (k:Int)=inC (num S 0) (num S 1) k:=by rw[iN,mS h hk]
theorem pf{S:QA}(h:WT PZ 38 S){k:Nat}(hk:k<36)(t:Nat):Zb8 S (k:Int) (chR S t k)=fitS S t k:=by unfold Zb8 fitS;rw[GF h hk];unfold Zac;rw[mV hk];cases inC (num S 0) (num S 1) k<;>cases bitI (num S 2) k<;>rfl
theorem Ylq{S:QA}(h:WT PZ 38 S){k:Nat}(hk:k<36):Zb3 (k:Int) S=true/\Zaq (k:Int) S=(inC (num S 0) (num S 1) k && !(bitI (num S 2) k)):=by
 have A:decide (0<=IntKind.u64.wrap (k:Int))=true:=Q3 (Zhx .u64 _).1;unfold Zb3 Zaq;rw[mS h hk,xO h hk];constructor
 ·cases inC (num S 0) (num S 1) k<;>simp[A]
 ·cases inC (num S 0) (num S 1) k<;>simp
def mX:Cons:=(mkΓ [(99,con tt),(100,con tE)])
def Zez(A:QA):St:=(⟨.a (.g A 38)::.a (.w 0)::.a (.b false)::.a (.u)::.a (.p 0 (0) 22)::.a (.i .i8 (num A 0))::.a (.b (decide ((num A 0)<(1:Int))))::.a (.b false)::.a (.p 0 (0) 22)::.a (.i .i8 (num A 0))::.a (.b (decide ((num A 0) > (6:Int))))::.a (.b (decide ((num A 0) > (6:Int))))::.a (.b false)::.a (.p 0 (1) 22)::.a (.i .i8 (num A 1))::.a (.b (decide ((num A 1)<(1:Int))))::.a (.b (decide ((num A 1)<(1:Int))))::.a (.b false)::.a (.p 0 (1) 22)::.a (.i .i8 (num A 1))::.a (.b (decide ((num A 1) > (6:Int))))::.a (.b (decide ((num A 1) > (6:Int))))::.a (.p 0 (2) 23)::.a (.i .u64 (num A 2))::.a (.g A 38)::.a (.i .u64 (Ua7 (num A 0) (num A 1) 36))::.a (.i .u64 (IntKind.u64.wrap (BitVec.ofInt IntKind.u64.bits (num A 2) &&& ~~~(BitVec.ofInt IntKind.u64.bits (Ua7 (num A 0) (num A 1) 36))).toNat))::.a (.b (((IntKind.u64.wrap (BitVec.ofInt IntKind.u64.bits (num A 2) &&& ~~~(BitVec.ofInt IntKind.u64.bits (Ua7 (num A 0) (num A 1) 36))).toNat) != (0:Int))))::.a (.i .i64 0)::us 23 ([]),[.row A 38,.no,.no,.no,.no,.no,.no,.no],[]⟩:St)
def Zge:Bool×Int->LS
 |(J,A)=>([.a (.b J),.a (.i .i64 A)],[])
def tG:(Stp (Bool×Int) (Bool×Int))->QP×LS
 |.more t=>(.ret,Zge t)
 |.done t=>((.exit 0),Zge t)
def Zci(P:QD)(L:QA):Bool×Int->Option (Stp (Bool×Int) (Stp (Bool×Int) (Bool×Int)))
  |(J,A)=>bif decide (A<(36:Int)) then (bif (decide (0<=A)&&decide (A<36)) then (bif (bif (Zaw L A) then decide (0<=A) else true) then (bif (!((Zb8 L A (L.extract (3+((A).toNat*5)) ((3+((A).toNat*5))+5))))) then (some (.done (.more (false,A)))) else (bif (decide (0<=A)&&decide (A<36)) then (bif (bif (Zaw L A) then decide (0<=A) else true) then (bif (!((Zb8 L A (L.extract (183+((A).toNat*5)) ((183+((A).toNat*5))+5))))) then (some (.done (.more (false,A)))) else (some (.more (J,(i64.wrap (A+(1:Int))))))) else (none)) else (none))) else (none)) else (none)) else (some (.done (.done (J,A))))
noncomputable abbrev bu:=codeOf f81
def tH:=(Uaa bu [([2,28],[])]).1
theorem Yhb(N:Nat)(J:QA):∀t:Bool×Int,Uaf PZ mX N (cAt bu [1,1,1,0,1,0,0]) (pAt tH [1,1,1,0,1,0]) [2,28] [] (Zez J) (Zge t)=aa Zge tG (Zci PZ J t):=by
  rintro⟨L,A⟩
  conv=>rhs;simp only[Zci,aM,aJ,aK,aL,Zge,tG]
  kernel_rfl
def tI(P:QD)(N:Nat)(L:QA)(A:Bool)(J:Int):Option (SV×Eff×Bool):=some (.a (.b A),.none,true)
def Uek(N:Nat):=(Uac 0 (kSeq (veC PZ mX N (cAt bu [1,1,1,1]) (pAt tH [1,1,1,1]) (SV×Eff×Bool)) (finK PZ [] [.tmp 2])))
theorem GG(N:Nat)(L:QA)(J:Bool)(A:Int):(Uek N) .ret (left (writes (cAt bu [1,1,1,0,1,0,0])) [2,28] [] (Zez L) ([.a (.b J),.a (.i .i64 A)],[]))=tI PZ N L J A:=by kernel_rfl
def tJ(P:QD)(N:Nat)(L:QA)(J:Bool)(A:Int):Option (SV×Eff×Bool):=some (.a (.b true),.none,true)
theorem GH(N:Nat)(L:QA)(J:Bool)(A:Int):(Uek N) (.exit 0) (left (writes (cAt bu [1,1,1,0,1,0,0])) [2,28] [] (Zez L) ([.a (.b J),.a (.i .i64 A)],[]))=tJ PZ N L J A:=by kernel_rfl
theorem GI(N:Nat)(A:QA):au (Uab (Uaf PZ mX N (cAt bu [1,1,1,0,1,0,0]) (pAt tH [1,1,1,0,1,0]) [2,28] [] (Zez A)) N ([.a (.b false),.a (.i .i64 0)],[])) (λe s=>(Uek N) e (left (writes (cAt bu [1,1,1,0,1,0,0])) [2,28] [] (Zez A) s))=Uah (Uab (Zci PZ A) N (false,(0:Int))) (st2 (λx=>tI PZ N A x.1 x.2) (λx=>tJ PZ N A x.1 x.2)):=by refine aP Zge tG _ _ (Yhb N A) N (false,(0:Int)) _ _ ?_;intro x;cases x with|more x=>exact GG N A x.1 x.2|done x=>exact GH N A x.1 x.2
theorem Yfw(N:Nat)(A:QA):ansV PZ mX N f81 [([2,28],[])] [.g A 38] []=(bif decide ((num A 0)<(1:Int)) then (some (.a (.b false),.none,true)) else (bif decide ((num A 0) > (6:Int)) then (some (.a (.b false),.none,true)) else (bif decide ((num A 1)<(1:Int)) then (some (.a (.b false),.none,true)) else (bif decide ((num A 1) > (6:Int)) then (some (.a (.b false),.none,true)) else (bif (decide (0<=num A 0)&&decide (num A 0<=6)&&(decide (0<=num A 1)&&decide (num A 1<=6))) then (bif ((IntKind.u64.wrap (BitVec.ofInt IntKind.u64.bits (num A 2) &&& ~~~(BitVec.ofInt IntKind.u64.bits (Ua7 (num A 0) (num A 1) 36))).toNat) != (0:Int)) then (some (.a (.b false),.none,true)) else (Uah (Uab (Zci PZ A) N (false,(0:Int))) (st2 (λx=>tI PZ N A x.1 x.2) (λx=>tJ PZ N A x.1 x.2)))) else (none)))))):=by
  conv=>rhs;simp only[<- GI N A]
  kernel_rfl
theorem GJ(A:QA)(J:WT PZ 38 A)(Z:(true)=true):ansV PZ mX 1000 f81 [([2,28],[])] [.g A 38] []=some (.a (.b ((okS A))),.none,true):=by
 refine(Yfw 1000 A).trans ?_;have h:=iC (g:=Zci PZ A) (λk=>(false,(k:Int))) (λk=> !(fitS A 0 k&&fitS A 1 k)) 36 (N:=1000) (by omega) (xd:=.done (false,((36:Nat):Int))) (λk=>.more (false,(k:Int))) (λk hk U=>by
  have V:decide ((k:Int)<36)=true:=Q3 (by omega);have h0:decide (0<=(k:Int))=true:=Q3 (by omega);have h3:i64.wrap ((k:Int)+1)=((k+1:Nat):Int):=by rw[IntWalk.i64_in _ (by omega)];omega
  have L:=pf J hk 0;have O:=pf J hk 1;unfold chR at L O;rw[show 3+0*180+k*5=3+k*5 by omega]at L;rw[show 3+1*180+k*5=183+k*5 by omega]at O;have Z:(bif Zaw A (k:Int) then true else true)=true:=by cases Zaw A (k:Int)<;>rfl
  simp only[Bool.not_eq_false',Q7]at U;simp only[Zci,V,h0,h3,jA,Q1,Q9,Z,L,O,U.1,U.2,jD,Q2]) (λk hk U=>by
  have V:decide ((k:Int)<36)=true:=Q3 (by omega);have h0:decide (0<=(k:Int))=true:=Q3 (by omega);have L:=pf J hk 0;have O:=pf J hk 1;unfold chR at L O;rw[show 3+0*180+k*5=3+k*5 by omega]at L;rw[show 3+1*180+k*5=183+k*5 by omega]at O;have Z:(bif Zaw A (k:Int) then true else true)=true:=by cases Zaw A (k:Int)<;>rfl
  cases e0:fitS A 0 k with
  |false=>simp only[Zci,V,h0,jA,Q1,Q9,Z,L,e0,jI]
  |true=>
   rw[e0]at U;have e1:fitS A 1 k=false:=by simpa using U
   simp only[Zci,V,h0,jA,Q1,Q9,Z,L,O,e0,e1,jI,jD,Q2]) (by
  have V:decide (((36:Nat):Int)<36)=false:=by decide
  simp only[Zci,V,Q2])
 have h':Uab (Zci PZ A) 1000 (false,(0:Int))=some (match (jB 36).find? (λk=> !(fitS A 0 k&&fitS A 1 k)) with|some k=>.more (false,(k:Int))|none=>.done (false,((36:Nat):Int))):=h;have hf:=tF 36 (λk=>fitS A 0 k&&fitS A 1 k);unfold okS mW
 by_cases d1:1<=num A 0
 ·rw [Q3 d1,Q4 (show ¬ num A 0<1 by omega)]
  by_cases d2:num A 0<=6
  ·rw [Q3 d2,Q4 (show ¬ num A 0 > 6 by omega)]
   by_cases d3:1<=num A 1
   ·rw[Q3 d3,Q4 (show ¬num A 1<1 by omega)]
    by_cases d4:num A 1<=6
    ·rw[Q3 d4,Q4 (show ¬num A 1 > 6 by omega),Q3 (show 0<=num A 0 by omega),Q3 (show 0<=num A 1 by omega)];simp only[jA,Q1,Q2,Bool.true_and,h'];rw[show IntKind.u64.wrap (BitVec.ofInt IntKind.u64.bits (num A 2) &&& ~~~(BitVec.ofInt IntKind.u64.bits (Ua7 (num A 0) (num A 1) 36))).toNat=Ubh (num A 2) (Ua7 (num A 0) (num A 1) 36) from rfl];cases hb:(Ubh (num A 2) (Ua7 (num A 0) (num A 1) 36)==0) with|false=>rw[show (Ubh (num A 2) (Ua7 (num A 0) (num A 1) 36) != 0)=true by simp[bne,hb]];rfl|true=>rw[show (Ubh (num A 2) (Ua7 (num A 0) (num A 1) 36) != 0)=false by simp[bne,hb],<- hf];cases (jB 36).find? (λk=> !(fitS A 0 k&&fitS A 1 k))<;>rfl
    ·rw[Q4 d4,Q3 (show num A 1 > 6 by omega)];rfl
   ·rw[Q4 d3,Q3 (show num A 1<1 by omega)];rfl
  ·rw[Q4 d2,Q3 (show num A 0 > 6 by omega)];rfl
 ·rw[Q4 d1,Q3 (show num A 0<1 by omega)];rfl
def pg:af:=λargs h=>match args,h with|[.g a0 38],[]=>some (.a (.b ((okS a0))),.none,true)|_,_=>none
theorem mY:EntX PZ 81:=Zaj (fn:=f81)
theorem mZ:Uad mn PZ 81 pg:=(ansY (N:=1000) (mKc (Zae Gr) Gq (mKc (Zae GE) GD mKn)) f81 [([2,28],[])]).of (by
 intro ρ h w args vals r e L U A;unfold pg at A;split at A
 ·rename_i O;obtain⟨rfl,rfl,J⟩:=ai A;exact GJ O (L.wt 0 rfl) J
 ·cases A)
def iO:Cons:=(mkΓ [(47,con db),(69,con tj),(70,con oT),(71,con tD)])
def Zif(A:QA)(L:Bool)(J:Int):St:=(⟨.a (.w 0)::.a (.u)::.a (.b L)::.a (.i .i64 J)::.a (.i .i64 0)::.a (.x)::.a (.w 0)::.a (.w 0)::.a (.p 0 (0) 22)::.a (.i .i8 (num A 0))::.a (.i .i64 (i64.wrap (num A 0)))::.a (.b ((Zaa (i64.wrap (num A 0)) (1:Int) (6:Int))))::.a (.b ((!((Zaa (i64.wrap (num A 0)) (1:Int) (6:Int))))))::.a (.b false)::.a (.w 0)::.a (.w 0)::.a (.p 0 (1) 22)::.a (.i .i8 (num A 1))::.a (.i .i64 (i64.wrap (num A 1)))::.a (.b ((Zaa (i64.wrap (num A 1)) (1:Int) (6:Int))))::.a (.b ((!((Zaa (i64.wrap (num A 1)) (1:Int) (6:Int))))))::.a (.b ((!((Zaa (i64.wrap (num A 1)) (1:Int) (6:Int))))))::.a (.b false)::.a (.w 0)::.a (.w 0)::.a (.p 0 (2) 23)::.a (.i .u64 (num A 2))::.a (.w 0)::.a (.i .u64 (Ua7 (num A 0) (num A 1) 36))::.a (.i .u64 (IntKind.u64.wrap (BitVec.ofInt IntKind.u64.bits (num A 2) &&& ~~~(BitVec.ofInt IntKind.u64.bits (Ua7 (num A 0) (num A 1) 36))).toNat))::.a (.b (((IntKind.u64.wrap (BitVec.ofInt IntKind.u64.bits (num A 2) &&& ~~~(BitVec.ofInt IntKind.u64.bits (Ua7 (num A 0) (num A 1) 36))).toNat) != (0:Int))))::.a (.b (((IntKind.u64.wrap (BitVec.ofInt IntKind.u64.bits (num A 2) &&& ~~~(BitVec.ofInt IntKind.u64.bits (Ua7 (num A 0) (num A 1) 36))).toNat) != (0:Int))))::.a (.i .i64 J)::.a (.b (decide (J<(2:Int))))::xs 33 ([]),[.row A 38,.no,.no,.no,.no,.no,.no,.no,.no,.no,.no,.no,.no,.no,.no,.no,.no,.no,.no,.no,.no,.no,.no,.no,.no,.no,.no],[]⟩:St)
def Zgy:Bool×Int->LS
 |(A,J)=>([.a (.b A),.a (.i .i64 J)],[])
def na:(Stp (Bool×Int) (Bool×Int))->QP×LS
 |.more t=>(.ret,Zgy t)
 |.done t=>((.exit 2),Zgy t)
def Zdt(P:QD)(O:QA)(U:Bool)(J:Int):Bool×Int->Option (Stp (Bool×Int) (Stp (Bool×Int) (Bool×Int)))
  |(L,A)=>bif decide (A<(36:Int)) then (bif (decide (0<=J)&&decide (J<2)) then (bif (decide (0<=A)&&decide (A<36)) then (bif (Zb3 A O) then (bif (Zaq A O) then (bif (!((sumW (O.extract ((3+((J).toNat*180))+((A).toNat*5)) (((3+((J).toNat*180))+((A).toNat*5))+5)) 5==(12:Int)))) then (some (.done (.more (false,A)))) else (bif (Zb3 A O) then (bif (!((Zaq A O))) then (bif (!(Uag (O.extract ((3+((J).toNat*180))+((A).toNat*5)) (((3+((J).toNat*180))+((A).toNat*5))+5)) (#[.int .u8 0,.int .u8 0,.int .u8 0,.int .u8 0,.int .u8 0]:QA))) then (some (.done (.more (false,A)))) else (some (.more (L,(i64.wrap (A+(1:Int))))))) else (some (.more (L,(i64.wrap (A+(1:Int))))))) else (none))) else (bif (Zb3 A O) then (bif (!((Zaq A O))) then (bif (!(Uag (O.extract ((3+((J).toNat*180))+((A).toNat*5)) (((3+((J).toNat*180))+((A).toNat*5))+5)) (#[.int .u8 0,.int .u8 0,.int .u8 0,.int .u8 0,.int .u8 0]:QA))) then (some (.done (.more (false,A)))) else (some (.more (L,(i64.wrap (A+(1:Int))))))) else (some (.more (L,(i64.wrap (A+(1:Int))))))) else (none))) else (none)) else (none)) else (none)) else (some (.done (.done (L,A))))
noncomputable abbrev aC:=codeOf f51
def lD:=(Uaa aC [([2,3],[]),([2,4],[])]).1
theorem Ztx(N:Nat)(L:QA)(A:Bool)(J:Int):∀t:Bool×Int,Uaf PZ iO N (cAt aC [1,1,0,1,0,0,1,0,0,1,0,0]) (pAt lD [1,1,0,1,0,1,0,1,0]) [2,4] [] (Zif L A J) (Zgy t)=aa Zgy na (Zdt PZ L A J t):=by
  rintro⟨O,U⟩
  conv=>rhs;simp only[Zdt,aM,aJ,aK,aL,Zgy,na]
  kernel_rfl
def Zin(A:QA):St:=(⟨.a (.w 0)::.a (.u)::.a (.b false)::.a (.i .i64 0)::.a (.u)::.a (.u)::.a (.w 0)::.a (.w 0)::.a (.p 0 (0) 22)::.a (.i .i8 (num A 0))::.a (.i .i64 (i64.wrap (num A 0)))::.a (.b ((Zaa (i64.wrap (num A 0)) (1:Int) (6:Int))))::.a (.b ((!((Zaa (i64.wrap (num A 0)) (1:Int) (6:Int))))))::.a (.b false)::.a (.w 0)::.a (.w 0)::.a (.p 0 (1) 22)::.a (.i .i8 (num A 1))::.a (.i .i64 (i64.wrap (num A 1)))::.a (.b ((Zaa (i64.wrap (num A 1)) (1:Int) (6:Int))))::.a (.b ((!((Zaa (i64.wrap (num A 1)) (1:Int) (6:Int))))))::.a (.b ((!((Zaa (i64.wrap (num A 1)) (1:Int) (6:Int))))))::.a (.b false)::.a (.w 0)::.a (.w 0)::.a (.p 0 (2) 23)::.a (.i .u64 (num A 2))::.a (.w 0)::.a (.i .u64 (Ua7 (num A 0) (num A 1) 36))::.a (.i .u64 (IntKind.u64.wrap (BitVec.ofInt IntKind.u64.bits (num A 2) &&& ~~~(BitVec.ofInt IntKind.u64.bits (Ua7 (num A 0) (num A 1) 36))).toNat))::.a (.b (((IntKind.u64.wrap (BitVec.ofInt IntKind.u64.bits (num A 2) &&& ~~~(BitVec.ofInt IntKind.u64.bits (Ua7 (num A 0) (num A 1) 36))).toNat) != (0:Int))))::.a (.b (((IntKind.u64.wrap (BitVec.ofInt IntKind.u64.bits (num A 2) &&& ~~~(BitVec.ofInt IntKind.u64.bits (Ua7 (num A 0) (num A 1) 36))).toNat) != (0:Int))))::us 35 ([]),[.row A 38,.no,.no,.no,.no,.no,.no,.no,.no,.no,.no,.no,.no,.no,.no,.no,.no,.no,.no,.no,.no,.no,.no,.no,.no,.no,.no],[]⟩:St)
def Zc0:Bool×Int->LS
 |(A,J)=>([.a (.b A),.a (.i .i64 J)],[])
def fW:(Stp (Bool×Int) (Bool×Int))->QP×LS
 |.more t=>(.ret,Zc0 t)
 |.done t=>((.exit 0),Zc0 t)
def Zjx(P:QD)(N:Nat)(U:QA)(L:Bool)(A:Int)(J:Bool)(O:Int):Option (Stp (Bool×Int) (Stp (Bool×Int) (Bool×Int))):=some (.done (.more (J,A)))
def Uem(N:Nat):=(Uac 2 (Uac 1 (kSeq (veC PZ iO N (cAt aC [1,1,0,1,0,0,1,1]) (pAt lD [1,1,0,1,0,1,1]) (Stp LS (QP×LS))) (Ufb 27 [2,3] []))))
theorem GK(N:Nat)(U:QA)(A:Bool)(J:Int)(L:Bool)(O:Int):(Uem N) .ret (left (writes (cAt aC [1,1,0,1,0,0,1,0,0,1,0,0])) [2,4] [] (Zif U A J) ([.a (.b L),.a (.i .i64 O)],[]))=aa Zc0 fW (Zjx PZ N U A J L O):=by
 conv=>rhs;simp only[Zjx,aM,aJ,aK,aL,Zc0,fW]
 kernel_rfl
def Zjy(P:QD)(N:Nat)(U:QA)(L:Bool)(A:Int)(J:Bool)(O:Int):Option (Stp (Bool×Int) (Stp (Bool×Int) (Bool×Int))):=some (.more (J,(i64.wrap (A+(1:Int)))))
theorem GL(N:Nat)(U:QA)(A:Bool)(J:Int)(L:Bool)(O:Int):(Uem N) (.exit 2) (left (writes (cAt aC [1,1,0,1,0,0,1,0,0,1,0,0])) [2,4] [] (Zif U A J) ([.a (.b L),.a (.i .i64 O)],[]))=aa Zc0 fW (Zjy PZ N U A J L O):=by
 conv=>rhs;simp only[Zjy,aM,aJ,aK,aL,Zc0,fW]
 kernel_rfl
theorem GM(N:Nat)(L:QA)(A:Bool)(J:Int):au (Uab (Uaf PZ iO N (cAt aC [1,1,0,1,0,0,1,0,0,1,0,0]) (pAt lD [1,1,0,1,0,1,0,1,0]) [2,4] [] (Zif L A J)) N ([.a (.b A),.a (.i .i64 0)],[])) (λe s=>(Uem N) e (left (writes (cAt aC [1,1,0,1,0,0,1,0,0,1,0,0])) [2,4] [] (Zif L A J) s))=aa Zc0 fW (Uah (Uab (Zdt PZ L A J) N (A,(0:Int))) (st2 (λx=>Zjx PZ N L A J x.1 x.2) (λx=>Zjy PZ N L A J x.1 x.2))):=by
 rw[qc Zc0 fW]
 first
 |(have h:=aP (α:=Stp LS (QP×LS)) Zgy na _ _ (Ztx N L A J) N (A,(0:Int));refine h _ _ ?_)
 |(have h:=aP (α:=Stp BS (QP×BS)) Zgy na _ _ (Ztx N L A J) N (A,(0:Int));refine h _ _ ?_)
 |(have h:=aP (α:=Stp LS ((QP×LS)⊕(SV×Eff×Bool))) Zgy na _ _ (Ztx N L A J) N (A,(0:Int));refine h _ _ ?_)
 intro x;cases x with|more x=>exact GK N L A J x.1 x.2|done x=>exact GL N L A J x.1 x.2
def Ze9(P:QD)(N:Nat)(L:QA):Bool×Int->Option (Stp (Bool×Int) (Stp (Bool×Int) (Bool×Int)))
 |(A,J)=>bif decide (J<(2:Int)) then (Uah (Uab (Zdt P L A J) N (A,(0:Int))) (st2 (λx=>Zjx P N L A J x.1 x.2) (λx=>Zjy P N L A J x.1 x.2))) else (some (.done (.done (A,J))))
theorem Ypu(N:Nat)(L:QA):∀t:Bool×Int,Uaf PZ iO N (cAt aC [1,1,0,1,0,0]) (pAt lD [1,1,0,1,0]) [2,3] [] (Zin L) (Zc0 t)=aa Zc0 fW (Ze9 PZ N L t):=by
 rintro⟨A,J⟩
 conv=>rhs;simp only[<- GM N L A J,Ze9,aM,aJ,aK,aL,Zc0,fW]
 kernel_rfl
def tK(P:QD)(N:Nat)(L:QA)(A:Bool)(J:Int):Option (SV×Eff×Bool):=some (.a (.b A),.none,true)
def Ued(N:Nat)(A:QA):=(Uac 0 (kSeq (veC PZ iO N (cAt aC [1,1,1]) (pAt lD [1,1,1]) (SV×Eff×Bool)) (finK PZ [.row A 38] [.tmp 2])))
theorem GN(N:Nat)(L:QA)(A:Bool)(J:Int):(Ued N L) .ret (left (writes (cAt aC [1,1,0,1,0,0])) [2,3] [] (Zin L) ([.a (.b A),.a (.i .i64 J)],[]))=tK PZ N L A J:=by kernel_rfl
def tL(P:QD)(N:Nat)(L:QA)(A:Bool)(J:Int):Option (SV×Eff×Bool):=some (.a (.b true),.none,true)
theorem GO(N:Nat)(L:QA)(A:Bool)(J:Int):(Ued N L) (.exit 0) (left (writes (cAt aC [1,1,0,1,0,0])) [2,3] [] (Zin L) ([.a (.b A),.a (.i .i64 J)],[]))=tL PZ N L A J:=by kernel_rfl
theorem GP(N:Nat)(A:QA):au (Uab (Uaf PZ iO N (cAt aC [1,1,0,1,0,0]) (pAt lD [1,1,0,1,0]) [2,3] [] (Zin A)) N ([.a (.b false),.a (.i .i64 0)],[])) (λe s=>(Ued N A) e (left (writes (cAt aC [1,1,0,1,0,0])) [2,3] [] (Zin A) s))=Uah (Uab (Ze9 PZ N A) N (false,(0:Int))) (st2 (λx=>tK PZ N A x.1 x.2) (λx=>tL PZ N A x.1 x.2)):=by refine aP Zc0 fW _ _ (Ypu N A) N (false,(0:Int)) _ _ ?_;intro x;cases x with|more x=>exact GN N A x.1 x.2|done x=>exact GO N A x.1 x.2
theorem Ym8(N:Nat)(A:QA):ansV PZ iO N f51 [([2,3],[]),([2,4],[])] [.w 0] [.row A 38]=(bif (!((Zaa (i64.wrap (num A 0)) (1:Int) (6:Int)))) then (some (.a (.b false),.none,true)) else (bif (!((Zaa (i64.wrap (num A 1)) (1:Int) (6:Int)))) then (some (.a (.b false),.none,true)) else (bif ((IntKind.u64.wrap (BitVec.ofInt IntKind.u64.bits (num A 2) &&& ~~~(BitVec.ofInt IntKind.u64.bits (Ua7 (num A 0) (num A 1) 36))).toNat) != (0:Int)) then (some (.a (.b false),.none,true)) else (Uah (Uab (Ze9 PZ N A) N (false,(0:Int))) (st2 (λx=>tK PZ N A x.1 x.2) (λx=>tL PZ N A x.1 x.2)))))):=by
 conv=>rhs;simp only[<- GP N A]
 kernel_rfl
theorem xR{S:QA}(h:WT PZ 38 S){t:Nat}(ht:t<2)(b:Bool):Uab (Zdt PZ S b (t:Int)) 1000 (b,(0:Int))=some (match (jB 36).find? (λk=> !(fitS S t k)) with|some k=>.more (false,(k:Int))|none=>.done (b,((36:Nat):Int))):=by
 have J:decide (0<=(t:Int))=true:=Q3 (by omega);have L:decide ((t:Int)<2)=true:=Q3 (by omega);exact iC (g:=Zdt PZ S b (t:Int)) (λk=>(b,(k:Int))) (λk=> !(fitS S t k)) 36 (N:=1000) (by omega) (xd:=.done (b,((36:Nat):Int))) (λk=>.more (false,(k:Int))) (λk hk A=>by
  have U:decide ((k:Int)<36)=true:=Q3 (by omega);have h0:decide (0<=(k:Int))=true:=Q3 (by omega);have h3:i64.wrap ((k:Int)+1)=((k+1:Nat):Int):=by rw[IntWalk.i64_in _ (by omega)];omega
  obtain⟨V,Z⟩:=Ylq h hk;rw[Bool.not_eq_false']at A;unfold fitS chR at A;rw[<- Z]at A;cases O:Zaq (k:Int) S with
  |false=>rw[O]at A;simp only[Q2]at A;simp only[Zdt,U,h0,h3,J,L,V,O,jA,jI,Q1,Q2,Q9,A,jD]
  |true=>rw[O]at A;simp only[Q1]at A;simp only[Zdt,U,h0,h3,J,L,V,O,jA,jD,Q1,Q2,Q9,A]) (λk hk A=>by
  have U:decide ((k:Int)<36)=true:=Q3 (by omega);have h0:decide (0<=(k:Int))=true:=Q3 (by omega);obtain⟨V,Z⟩:=Ylq h hk;rw[Bool.not_eq_true']at A;unfold fitS chR at A;rw[<- Z]at A;cases O:Zaq (k:Int) S with
  |false=>rw[O]at A;simp only[Q2]at A;simp only[Zdt,U,h0,J,L,V,O,jA,jI,Q1,Q2,Q9,A]
  |true=>rw[O]at A;simp only[Q1]at A;simp only[Zdt,U,h0,J,L,V,O,jA,jD,jI,Q1,Q2,Q9,A]) (by
  have U:decide (((36:Nat):Int)<36)=false:=by decide
  simp only[Zdt,U,Q2])
theorem GQ(A:QA)(J:WT PZ 38 A)(hg:(true)=true):ansV PZ iO 1000 f51 [([2,3],[]),([2,4],[])] [.w 0] [.row A 38]=some (.a (.b ((okS A))),.none,true):=by
 refine(Ym8 1000 A).trans ?_;obtain⟨s0,b0,b1⟩:=J.int (o:=0) (k:=.i8) (by kernel_rfl);obtain⟨s1,b2,b3⟩:=J.int (o:=1) (k:=.i8) (by kernel_rfl);have e1:IntKind.i8.min=-128:=rfl;have e2:IntKind.i8.max=127:=rfl;have h:=iC (g:=Ze9 PZ 1000 A) (λt=>(false,(t:Int))) (λt=>((jB 36).find? (λk=> !(fitS A t k))).isSome) 2 (N:=1000) (by omega) (xd:=.done (false,((2:Nat):Int))) (λt=>.more (false,(t:Int))) (λt O U=>by
  have L:decide ((t:Int)<2)=true:=Q3 (by omega);have h3:i64.wrap ((t:Int)+1)=((t+1:Nat):Int):=by rw[IntWalk.i64_in _ (by omega)];omega
  have V:(jB 36).find? (λk=> !(fitS A t k))=none:=by simpa using U
  have hi:=xR J O false;rw[V]at hi;simp only[Ze9,L,Q1,hi,Uah,st2,Zjy,h3]) (λt O U=>by
  have L:decide ((t:Int)<2)=true:=Q3 (by omega);obtain⟨k,V⟩:=Option.isSome_iff_exists.1 U;have hi:=xR J O false;rw[V]at hi;simp only[Ze9,L,Q1,hi,Uah,st2,Zjx]) (by
  have L:decide (((2:Nat):Int)<2)=false:=by decide
  simp only[Ze9,L,Q2])
 have h':Uab (Ze9 PZ 1000 A) 1000 (false,(0:Int))=some (match (jB 2).find? (λt=>((jB 36).find? (λk=> !(fitS A t k))).isSome) with|some t=>.more (false,(t:Int))|none=>.done (false,((2:Nat):Int))):=h;have i0:Zaa (i64.wrap (num A 0)) 1 6=(decide (1<=num A 0)&&decide (num A 0<=6)):=by rw[IntWalk.i64_in _ (by omega)];unfold Zaa;cases L:decide (num A 0>=1)<;>simp_all
 have i1:Zaa (i64.wrap (num A 1)) 1 6=(decide (1<=num A 1)&&decide (num A 1<=6)):=by rw[IntWalk.i64_in _ (by omega)];unfold Zaa;cases L:decide (num A 1>=1)<;>simp_all
 unfold okS mW;rw[i0,i1,h',fV,<- tF,<- tF,show IntKind.u64.wrap (BitVec.ofInt IntKind.u64.bits (num A 2) &&& ~~~(BitVec.ofInt IntKind.u64.bits (Ua7 (num A 0) (num A 1) 36))).toNat=Ubh (num A 2) (Ua7 (num A 0) (num A 1) 36) from rfl,show (jB 2)=[0,1] from rfl];cases decide (1<=num A 0)&&decide (num A 0<=6)
 ·rfl
 cases decide (1<=num A 1)&&decide (num A 1<=6)
 ·rfl
 cases Z:(Ubh (num A 2) (Ua7 (num A 0) (num A 1) 36)==0) with|false=>rw[show (Ubh (num A 2) (Ua7 (num A 0) (num A 1) 36) != 0)=true by simp[bne,Z]];rfl|true=>rw[show (Ubh (num A 2) (Ua7 (num A 0) (num A 1) 36) != 0)=false by simp[bne,Z]];simp only[List.find?];generalize (jB 36).find? (λk=> !(fitS A 0 k))=f0;generalize (jB 36).find? (λk=> !(fitS A 1 k))=f1;cases f0<;>cases f1<;>rfl
def nb:af:=λargs h=>match args,h with|[.w 0],[.row a0 38]=>some (.a (.b ((okS a0))),.none,true)|_,_=>none
theorem tM:EntX PZ 51:=Zaj (fn:=f51)
theorem tN:Uad mn PZ 51 nb:=(ansY (N:=1000) (mKc (Zae km) kl (mKc (Zae Gk) Gg (mKc (Zae xz) xx (mKc (Zae GB) GA mKn)))) f51 [([2,3],[]),([2,4],[])]).of (by
 intro ρ h w args vals r e U L A;unfold nb at A;split at A
 ·rename_i O;obtain⟨rfl,rfl,J⟩:=ai A;exact GQ O (L.wt 0 rfl) J
 ·cases A)
theorem Zxg{S:QA}(h:okS S=true):1<=num S 0/\num S 0<=6/\1<=num S 1/\num S 1<=6:=by unfold okS mW at h;simp only[Q7,decide_eq_true_eq]at h;exact⟨h.1.1.1,h.1.1.2,h.1.2.1,h.1.2.2⟩
theorem tO{S:QA}(h:okS S=true):(decide (0<=num S 0)&&decide (num S 0<=6)&&(decide (0<=num S 1)&&decide (num S 1<=6)))=true:=by obtain⟨J,h2,L,A⟩:=Zxg h;rw[Q3 (show 0<=num S 0 by omega),Q3 h2,Q3 (show 0<=num S 1 by omega),Q3 A];rfl
theorem fX{S:QA}(h:okS S=true){t k:Nat}(A:t<2)(hk:k<36):fitS S t k=true:=by
 unfold okS at h;simp only[Q7]at h;have:=jG.1 h.2.2 k (jK.2 hk);rw[Q7]at this
 match t,A with|0,_=>exact this.1|1,_=>exact this.2
theorem okS_land{S:QA}(h:okS S=true){k:Nat}(hk:k<64)(A:bitI (num S 2) k=true):k<36/\inC (num S 0) (num S 1) k=true:=by
 unfold okS at h;simp only[Q7]at h;have:=Lu.1 h.2.1 k hk A;rw[AS _ _ 36 (jH _)]at this
 simpa using this
theorem xS{S:QA}(h:WT PZ 38 S):S.size=363:=by rw[h.layLen,sY];simp
theorem fY{S:QA}{o n j:Nat}(A:j<n):num (S.extract o (o+n)) j=num S (o+j):=by
 unfold num;rw[jR]
 by_cases h:o+j<S.size
 ·rw[if_pos (by omega)]
 ·rw[if_neg (by omega),jL (by omega)]
theorem sea_u8{S:QA}(h:WT PZ 38 S){i:Nat}(hi:i<360):S[3+i]?=some (.int .u8 (num S (3+i)))/\0<=num S (3+i)/\num S (3+i)<=255:=h.int (k:=.u8) (by rw[sY,show 3+i=i+3 by omega];show (List.replicate 360 4)[i]?=some 4;rw[List.getElem?_replicate,if_pos hi])
end
noncomputable section
variable {mn:Md}
def Zfq(A:QA):St:=(⟨.a (.g A 24)::.a (.w 0)::.a (.w 1)::.a (.w 2)::.a (.i .i64 0)::us 10 ([]),[.row A 24,.row #[.int .u8 0,.int .u8 0,.int .u8 0,.int .u8 0,.int .u8 0] 34,.row #[.int .u8 0,.int .u8 0,.int .u8 0,.int .u8 0,.int .u8 0] 34],[]⟩:St)
def Zhq:Int×QA->LS
 |(A,J)=>([.a (.i .i64 A)],[.row J 34])
def tP:Int×QA->QP×LS
 |t=>((.exit 0),Zhq t)
def Zc9(P:QD)(L:QA):Int×QA->Option (Stp (Int×QA) (Int×QA))
 |(A,J)=>bif decide (A<(5:Int)) then (bif (decide (0<=A)&&decide (A<5)) then (bif (decide (0<=A)&&decide (A<5)) then (some (.more ((i64.wrap (A+(1:Int))),(J.setIfInBounds ((A).toNat*1) (.int .u8 (num L ((A).toNat*1))))))) else (none)) else (none)) else (some (.done (A,J)))
noncomputable abbrev bG:=codeOf f77
def tQ:=(Uaa bG [([4],[2])]).1
theorem Yfn(N:Nat)(A:QA):∀t:Int×QA,Uaf PZ (mkΓ []) N (cAt bG [1,1,0,1,0,0]) (pAt tQ [1,1,0,1,0]) [4] [2] (Zfq A) (Zhq t)=aa Zhq tP (Zc9 PZ A t):=by
 rintro⟨J,L⟩
 conv=>rhs;simp only[Zc9,aM,aJ,aK,aL,Zhq,tP]
 kernel_rfl
def tR(P:QD)(N:Nat)(L:QA)(J:Int)(A:QA):Option (SV×Eff×Bool):=some (.a (.g A 34),.none,true)
def Uf3(N:Nat):=(Uac 0 (kSeq (veC PZ (mkΓ []) N (cAt bG [1,1,1]) (pAt tQ [1,1,1]) (SV×Eff×Bool)) (finK PZ [] [.cell 2 34])))
theorem GR(N:Nat)(L:QA)(A:Int)(J:QA):(Uf3 N) (.exit 0) (left (writes (cAt bG [1,1,0,1,0,0])) [4] [2] (Zfq L) ([.a (.i .i64 A)],[.row J 34]))=tR PZ N L A J:=by kernel_rfl
theorem GS(N:Nat)(A:QA):au (Uab (Uaf PZ (mkΓ []) N (cAt bG [1,1,0,1,0,0]) (pAt tQ [1,1,0,1,0]) [4] [2] (Zfq A)) N ([.a (.i .i64 0)],[.row (#[.int .u8 0,.int .u8 0,.int .u8 0,.int .u8 0,.int .u8 0]:QA) 34])) (λe s=>(Uf3 N) e (left (writes (cAt bG [1,1,0,1,0,0])) [4] [2] (Zfq A) s))=Uah (Uab (Zc9 PZ A) N ((0:Int),(#[.int .u8 0,.int .u8 0,.int .u8 0,.int .u8 0,.int .u8 0]:QA))) (λx=>tR PZ N A x.1 x.2):=by refine aP Zhq tP _ _ (Yfn N A) N ((0:Int),(#[.int .u8 0,.int .u8 0,.int .u8 0,.int .u8 0,.int .u8 0]:QA)) _ _ ?_;intro x;exact GR N A x.1 x.2
theorem Ydn(N:Nat)(A:QA):ansV PZ (mkΓ []) N f77 [([4],[2])] [.g A 24] []=(Uah (Uab (Zc9 PZ A) N ((0:Int),(#[.int .u8 0,.int .u8 0,.int .u8 0,.int .u8 0,.int .u8 0]:QA))) (λx=>tR PZ N A x.1 x.2)):=by
 conv=>rhs;simp only[<- GS N A]
 kernel_rfl
theorem GT(A:QA)(J:WT PZ 24 A)(hg:(true)=true):ansV PZ (mkΓ []) 1000 f77 [([4],[2])] [.g A 24] []=some (.a (.g A 34),.none,true):=by
 have L:A.size=(#[.int .u8 0,.int .u8 0,.int .u8 0,.int .u8 0,.int .u8 0]:QA).size:=by rw[J.layLen];kernel_rfl
 have U:A.size=5:=by rw[J.layLen];kernel_rfl
 have V:∀k,k<5->(lay PZ 24)[k*1]?=some 4:=by
  intro k hk;have h:(jB 5).all (λk=>(lay PZ 24)[k*1]?==some 4)=true:=by kernel_rfl
  exact eq_of_beq (jG.1 h k (jK.2 hk))
 have h:=bP (g:=Zc9 PZ A) (λk=>((k:Int),upto A (#[.int .u8 0,.int .u8 0,.int .u8 0,.int .u8 0,.int .u8 0]:QA) (k*1))) (m:=5) (x:=(((5:Nat):Int),upto A (#[.int .u8 0,.int .u8 0,.int .u8 0,.int .u8 0,.int .u8 0]:QA) (5*1))) (N:=1000) (λk hk=>by
  have O:decide ((k:Int)<5)=true:=Q3 (by omega);have h0:decide (0<=(k:Int))=true:=Q3 (by omega);have Z:i64.wrap ((k:Int)+1)=((k+1:Nat):Int):=by rw[IntWalk.i64_in _ (by omega)];omega
  have h4:((k:Int)).toNat=k:=Q9 k;have h5:(upto A (#[.int .u8 0,.int .u8 0,.int .u8 0,.int .u8 0,.int .u8 0]:QA) (k*1)).setIfInBounds (k*1) (.int .u8 (num A (k*1)))=upto A (#[.int .u8 0,.int .u8 0,.int .u8 0,.int .u8 0,.int .u8 0]:QA) ((k+1)*1):=by rw[Nat.add_mul];exact iz L (J.int (k:=.u8) (V k hk)).1
  simp only[Zc9,O,h0,jA,h4,Q1,Z,h5]) (by
  have O:decide (((5:Nat):Int)<5)=false:=by decide
  simp only[Zc9,O,Q2]) (by omega)
 simp only[Nat.zero_mul,jq L,jr L U]at h;refine(Ydn 1000 A).trans ?_;have h':Uab (Zc9 PZ A) 1000 ((0:Int),(#[.int .u8 0,.int .u8 0,.int .u8 0,.int .u8 0,.int .u8 0]:QA))=some (((5:Nat):Int),A):=h;rw[h'];rfl
def ko:af:=λargs h=>match args,h with|[.g a0 24],[]=>some (.a (.g a0 34),.none,true)|_,_=>none
theorem GU:EntX PZ 77:=Zaj (fn:=f77)
theorem GV:Uad mn PZ 77 ko:=(ansY (N:=1000) mKn f77 [([4],[2])]).of (by
 intro ρ h w args vals r e L U A;unfold ko at A;split at A
 ·rename_i O;obtain⟨rfl,rfl,J⟩:=ai A;exact GT O (L.wt 0 rfl) J
 ·cases A)
def Zd0(A:QA):St:=(⟨.a (.g A 25)::.a (.w 0)::.a (.w 1)::.a (.w 2)::.a (.i .i64 0)::us 11 ([]),[.row A 25,.row (zc PZ 35) 35,.row (zc PZ 35) 35],[]⟩:St)
def Ze6:Int×QA->LS
 |(A,J)=>([.a (.i .i64 A)],[.row J 35])
def tT:Int×QA->QP×LS
 |t=>((.exit 0),Ze6 t)
def Zb4(P:QD)(L:QA):Int×QA->Option (Stp (Int×QA) (Int×QA))
 |(A,J)=>bif decide (A<(36:Int)) then (bif (decide (0<=A)&&decide (A<36)) then (bif (decide (0<=A)&&decide (A<36)) then (some (.more ((i64.wrap (A+(1:Int))),(spl J ((A).toNat*5) (L.extract ((A).toNat*5) (((A).toNat*5)+5)).toList)))) else (none)) else (none)) else (some (.done (A,J)))
noncomputable abbrev bH:=codeOf f56
def tU:=(Uaa bH [([4],[2])]).1
theorem Zy0(N:Nat)(A:QA):∀t:Int×QA,Uaf PZ (mkΓ [(77,con ko)]) N (cAt bH [1,1,0,1,0,0]) (pAt tU [1,1,0,1,0]) [4] [2] (Zd0 A) (Ze6 t)=aa Ze6 tT (Zb4 PZ A t):=by
 rintro⟨J,L⟩
 conv=>rhs;simp only[Zb4,aM,aJ,aK,aL,Ze6,tT]
 kernel_rfl
def tV(P:QD)(N:Nat)(L:QA)(J:Int)(A:QA):Option (SV×Eff×Bool):=some (.a (.g A 35),.none,true)
def Uf0(N:Nat):=(Uac 0 (kSeq (veC PZ (mkΓ [(77,con ko)]) N (cAt bH [1,1,1]) (pAt tU [1,1,1]) (SV×Eff×Bool)) (finK PZ [] [.cell 2 35])))
theorem GW(N:Nat)(L:QA)(A:Int)(J:QA):(Uf0 N) (.exit 0) (left (writes (cAt bH [1,1,0,1,0,0])) [4] [2] (Zd0 L) ([.a (.i .i64 A)],[.row J 35]))=tV PZ N L A J:=by kernel_rfl
theorem GX(N:Nat)(A:QA):au (Uab (Uaf PZ (mkΓ [(77,con ko)]) N (cAt bH [1,1,0,1,0,0]) (pAt tU [1,1,0,1,0]) [4] [2] (Zd0 A)) N ([.a (.i .i64 0)],[.row (zc PZ 35) 35])) (λe s=>(Uf0 N) e (left (writes (cAt bH [1,1,0,1,0,0])) [4] [2] (Zd0 A) s))=Uah (Uab (Zb4 PZ A) N ((0:Int),(zc PZ 35))) (λx=>tV PZ N A x.1 x.2):=by refine aP Ze6 tT _ _ (Zy0 N A) N ((0:Int),(zc PZ 35)) _ _ ?_;intro x;exact GW N A x.1 x.2
theorem Zwj(N:Nat)(A:QA):ansV PZ (mkΓ [(77,con ko)]) N f56 [([4],[2])] [.g A 25] []=(Uah (Uab (Zb4 PZ A) N ((0:Int),(zc PZ 35))) (λx=>tV PZ N A x.1 x.2)):=by
 conv=>rhs;simp only[<- GX N A]
 kernel_rfl
theorem GY(A:QA)(J:WT PZ 25 A)(hg:(true)=true):ansV PZ (mkΓ [(77,con ko)]) 1000 f56 [([4],[2])] [.g A 25] []=some (.a (.g A 35),.none,true):=by
 have L:A.size=(zc PZ 35).size:=by rw[J.layLen];kernel_rfl
 have U:A.size=180:=by rw[J.layLen];kernel_rfl
 have hL:∀k,k<36->(lay PZ 25)[k*5]?=some 4:=by
  intro k hk;have h:(jB 36).all (λk=>(lay PZ 25)[k*5]?==some 4)=true:=by kernel_rfl
  exact eq_of_beq (jG.1 h k (jK.2 hk))
 have h:=bP (g:=Zb4 PZ A) (λk=>((k:Int),upto A (zc PZ 35) (k*5))) (m:=36) (x:=(((36:Nat):Int),upto A (zc PZ 35) (36*5))) (N:=1000) (λk hk=>by
  have O:decide ((k:Int)<36)=true:=Q3 (by omega);have h0:decide (0<=(k:Int))=true:=Q3 (by omega);have V:i64.wrap ((k:Int)+1)=((k+1:Nat):Int):=by rw[IntWalk.i64_in _ (by omega)];omega
  have Z:((k:Int)).toNat=k:=Q9 k;have h5:spl (upto A (zc PZ 35) (k*5)) (k*5) (A.extract (k*5) (k*5+5)).toList=upto A (zc PZ 35) ((k+1)*5):=by rw[Nat.add_mul];exact qh L (by omega) rfl
  simp only[Zb4,O,h0,jA,Z,Q1,V,h5]) (by
  have O:decide (((36:Nat):Int)<36)=false:=by decide
  simp only[Zb4,O,Q2]) (by omega)
 simp only[Nat.zero_mul,jq L,jr L U]at h;refine(Zwj 1000 A).trans ?_;have h':Uab (Zb4 PZ A) 1000 ((0:Int),(zc PZ 35))=some (((36:Nat):Int),A):=h;rw[h'];rfl
def kq:af:=λargs h=>match args,h with|[.g a0 25],[]=>some (.a (.g a0 35),.none,true)|_,_=>none
theorem GZ:EntX PZ 56:=Zaj (fn:=f56)
theorem Ha:Uad mn PZ 56 kq:=(ansY (N:=1000) (mKc (Zae GV) GU mKn) f56 [([4],[2])]).of (by
 intro ρ h w args vals r e L U A;unfold kq at A;split at A
 ·rename_i O;obtain⟨rfl,rfl,J⟩:=ai A;exact GY O (L.wt 0 rfl) J
 ·cases A)
def Zcw(A:QA):St:=(⟨.a (.g A 26)::.a (.w 0)::.a (.w 1)::.a (.w 2)::.a (.i .i64 0)::us 11 ([]),[.row A 26,.row (zc PZ 36) 36,.row (zc PZ 36) 36],[]⟩:St)
def Zea:Int×QA->LS
 |(A,J)=>([.a (.i .i64 A)],[.row J 36])
def tW:Int×QA->QP×LS
 |t=>((.exit 0),Zea t)
def Zbl(P:QD)(L:QA):Int×QA->Option (Stp (Int×QA) (Int×QA))
 |(A,J)=>bif decide (A<(2:Int)) then (bif (decide (0<=A)&&decide (A<2)) then (bif (decide (0<=A)&&decide (A<2)) then (some (.more ((i64.wrap (A+(1:Int))),(spl J ((A).toNat*180) (L.extract ((A).toNat*180) (((A).toNat*180)+180)).toList)))) else (none)) else (none)) else (some (.done (A,J)))
noncomputable abbrev bI:=codeOf f36
def tY:=(Uaa bI [([4],[2])]).1
theorem Zuh(N:Nat)(A:QA):∀t:Int×QA,Uaf PZ (mkΓ [(56,con kq)]) N (cAt bI [1,1,0,1,0,0]) (pAt tY [1,1,0,1,0]) [4] [2] (Zcw A) (Zea t)=aa Zea tW (Zbl PZ A t):=by
 rintro⟨J,L⟩
 conv=>rhs;simp only[Zbl,aM,aJ,aK,aL,Zea,tW]
 kernel_rfl
def tZ(P:QD)(N:Nat)(L:QA)(J:Int)(A:QA):Option (SV×Eff×Bool):=some (.a (.g A 36),.none,true)
def Ufi(N:Nat):=(Uac 0 (kSeq (veC PZ (mkΓ [(56,con kq)]) N (cAt bI [1,1,1]) (pAt tY [1,1,1]) (SV×Eff×Bool)) (finK PZ [] [.cell 2 36])))
theorem Hb(N:Nat)(L:QA)(A:Int)(J:QA):(Ufi N) (.exit 0) (left (writes (cAt bI [1,1,0,1,0,0])) [4] [2] (Zcw L) ([.a (.i .i64 A)],[.row J 36]))=tZ PZ N L A J:=by kernel_rfl
theorem Hc(N:Nat)(A:QA):au (Uab (Uaf PZ (mkΓ [(56,con kq)]) N (cAt bI [1,1,0,1,0,0]) (pAt tY [1,1,0,1,0]) [4] [2] (Zcw A)) N ([.a (.i .i64 0)],[.row (zc PZ 36) 36])) (λe s=>(Ufi N) e (left (writes (cAt bI [1,1,0,1,0,0])) [4] [2] (Zcw A) s))=Uah (Uab (Zbl PZ A) N ((0:Int),(zc PZ 36))) (λx=>tZ PZ N A x.1 x.2):=by refine aP Zea tW _ _ (Zuh N A) N ((0:Int),(zc PZ 36)) _ _ ?_;intro x;exact Hb N A x.1 x.2
theorem Zt5(N:Nat)(A:QA):ansV PZ (mkΓ [(56,con kq)]) N f36 [([4],[2])] [.g A 26] []=(Uah (Uab (Zbl PZ A) N ((0:Int),(zc PZ 36))) (λx=>tZ PZ N A x.1 x.2)):=by
 conv=>rhs;simp only[<- Hc N A]
 kernel_rfl
theorem Hd(A:QA)(J:WT PZ 26 A)(hg:(true)=true):ansV PZ (mkΓ [(56,con kq)]) 1000 f36 [([4],[2])] [.g A 26] []=some (.a (.g A 36),.none,true):=by
 have L:A.size=(zc PZ 36).size:=by rw[J.layLen];kernel_rfl
 have U:A.size=360:=by rw[J.layLen];kernel_rfl
 have hL:∀k,k<2->(lay PZ 26)[k*180]?=some 4:=by
  intro k hk;have h:(jB 2).all (λk=>(lay PZ 26)[k*180]?==some 4)=true:=by kernel_rfl
  exact eq_of_beq (jG.1 h k (jK.2 hk))
 have h:=bP (g:=Zbl PZ A) (λk=>((k:Int),upto A (zc PZ 36) (k*180))) (m:=2) (x:=(((2:Nat):Int),upto A (zc PZ 36) (2*180))) (N:=1000) (λk hk=>by
  have O:decide ((k:Int)<2)=true:=Q3 (by omega);have h0:decide (0<=(k:Int))=true:=Q3 (by omega);have V:i64.wrap ((k:Int)+1)=((k+1:Nat):Int):=by rw[IntWalk.i64_in _ (by omega)];omega
  have Z:((k:Int)).toNat=k:=Q9 k;have h5:spl (upto A (zc PZ 36) (k*180)) (k*180) (A.extract (k*180) (k*180+180)).toList=upto A (zc PZ 36) ((k+1)*180):=by rw[Nat.add_mul];exact qh L (by omega) rfl
  simp only[Zbl,O,h0,jA,Z,Q1,V,h5]) (by
  have O:decide (((2:Nat):Int)<2)=false:=by decide
  simp only[Zbl,O,Q2]) (by omega)
 simp only[Nat.zero_mul,jq L,jr L U]at h;refine(Zt5 1000 A).trans ?_;have h':Uab (Zbl PZ A) 1000 ((0:Int),(zc PZ 36))=some (((2:Nat):Int),A):=h;rw[h'];rfl
def ua:af:=λargs h=>match args,h with|[.g a0 26],[]=>some (.a (.g a0 36),.none,true)|_,_=>none
theorem He:EntX PZ 36:=Zaj (fn:=f36)
theorem Hg:Uad mn PZ 36 ua:=(ansY (N:=1000) (mKc (Zae Ha) GZ mKn) f36 [([4],[2])]).of (by
 intro ρ h w args vals r e L U A;unfold ua at A;split at A
 ·rename_i O;obtain⟨rfl,rfl,J⟩:=ai A;exact Hd O (L.wt 0 rfl) J
 ·cases A)
def xU:Cons:=(mkΓ [(36,con ua)])
theorem Ymx(N:Nat)(A:QA):ansV PZ xU N f11 [] [.g A 28] []=(some (.a (.g (spl ((((zc PZ 38).setIfInBounds 0 (.int .i8 (num A 0))).setIfInBounds 1 (.int .i8 (num A 1))).setIfInBounds 2 (.int .u64 (num A 2))) 3 (A.extract 3 (3+360)).toList) 38),.none,true)):=by kernel_rfl
theorem Hh(A:QA)(J:WT PZ 28 A)(hg:(true)=true):ansV PZ xU 1000 f11 [] [.g A 28] []=some (.a (.g A 38),.none,true):=by
 have L:A.size=(zc PZ 38).size:=by rw[J.layLen];kernel_rfl
 have U:A.size=363:=by rw[J.layLen];kernel_rfl
 have O:(upto A (zc PZ 38) 0).setIfInBounds 0 (.int .i8 (num A 0))=upto A (zc PZ 38) 1:=iz L (J.int (k:=.i8) (by kernel_rfl)).1;rw[jq L]at O;have V:(upto A (zc PZ 38) 1).setIfInBounds 1 (.int .i8 (num A 1))=upto A (zc PZ 38) 2:=iz L (J.int (k:=.i8) (by kernel_rfl)).1;have Z:(upto A (zc PZ 38) 2).setIfInBounds 2 (.int .u64 (num A 2))=upto A (zc PZ 38) 3:=iz L (J.int (k:=.u64) (by kernel_rfl)).1;have e3:spl (upto A (zc PZ 38) 3) 3 (A.extract 3 (3+360)).toList=upto A (zc PZ 38) 363:=qh L (by omega) rfl;refine(Ymx 1000 A).trans ?_;rw[O,V,Z,e3,jr L U]
def ub:af:=λargs h=>match args,h with|[.g a0 28],[]=>some (.a (.g a0 38),.none,true)|_,_=>none
theorem Hi:EntX PZ 11:=Zaj (fn:=f11)
theorem Hj:Uad mn PZ 11 ub:=(ansY (N:=1000) (mKc (Zae Hg) He mKn) f11 []).of (by
 intro ρ h w args vals r e L U A;unfold ub at A;split at A
 ·rename_i O;obtain⟨rfl,rfl,J⟩:=ai A;exact Hh O (L.wt 0 rfl) J
 ·cases A)
def Zee(A J:QA):St:=(⟨.a (.g A 34)::.a (.g J 34)::.a (.w 0)::.a (.w 1)::.a (.b false)::.a (.i .i64 0)::us 11 ([]),[.row A 34,.row J 34,.no],[]⟩:St)
def Zfw:Bool×Int->LS
 |(A,J)=>([.a (.b A),.a (.i .i64 J)],[])
def uc:(Stp (Bool×Int) (Bool×Int))->QP×LS
 |.more t=>(.ret,Zfw t)
 |.done t=>((.exit 0),Zfw t)
def Zdb(P:QD)(L O:QA):Bool×Int->Option (Stp (Bool×Int) (Stp (Bool×Int) (Bool×Int)))
 |(J,A)=>bif decide (A<(5:Int)) then (bif (decide (0<=A)&&decide (A<5)) then (bif (decide (0<=A)&&decide (A<5)) then (bif ((num L ((A).toNat*1)) != (num O ((A).toNat*1))) then (some (.done (.more (false,A)))) else (some (.more (J,(i64.wrap (A+(1:Int))))))) else (none)) else (none)) else (some (.done (.done (J,A))))
noncomputable abbrev bv:=codeOf f93
def ud:=(Uaa bv [([4,5],[])]).1
theorem Ygk(N:Nat)(A J:QA):∀t:Bool×Int,Uaf PZ (mkΓ []) N (cAt bv [1,0,1,0,0]) (pAt ud [1,0,1,0]) [4,5] [] (Zee A J) (Zfw t)=aa Zfw uc (Zdb PZ A J t):=by
 rintro⟨L,O⟩
 conv=>rhs;simp only[Zdb,aM,aJ,aK,aL,Zfw,uc]
 kernel_rfl
def ue(P:QD)(N:Nat)(L O:QA)(A:Bool)(J:Int):Option (SV×Eff×Bool):=some (.a (.b A),.none,true)
def Ueo(N:Nat):=(Uac 0 (kSeq (veC PZ (mkΓ []) N (cAt bv [1,1]) (pAt ud [1,1]) (SV×Eff×Bool)) (finK PZ [] [.tmp 4])))
theorem Hk(N:Nat)(L O:QA)(A:Bool)(J:Int):(Ueo N) .ret (left (writes (cAt bv [1,0,1,0,0])) [4,5] [] (Zee L O) ([.a (.b A),.a (.i .i64 J)],[]))=ue PZ N L O A J:=by kernel_rfl
def uf(P:QD)(N:Nat)(L O:QA)(A:Bool)(J:Int):Option (SV×Eff×Bool):=some (.a (.b true),.none,true)
theorem Hl(N:Nat)(L O:QA)(A:Bool)(J:Int):(Ueo N) (.exit 0) (left (writes (cAt bv [1,0,1,0,0])) [4,5] [] (Zee L O) ([.a (.b A),.a (.i .i64 J)],[]))=uf PZ N L O A J:=by kernel_rfl
theorem Hm(N:Nat)(A J:QA):au (Uab (Uaf PZ (mkΓ []) N (cAt bv [1,0,1,0,0]) (pAt ud [1,0,1,0]) [4,5] [] (Zee A J)) N ([.a (.b false),.a (.i .i64 0)],[])) (λe s=>(Ueo N) e (left (writes (cAt bv [1,0,1,0,0])) [4,5] [] (Zee A J) s))=Uah (Uab (Zdb PZ A J) N (false,(0:Int))) (st2 (λx=>ue PZ N A J x.1 x.2) (λx=>uf PZ N A J x.1 x.2)):=by refine aP Zfw uc _ _ (Ygk N A J) N (false,(0:Int)) _ _ ?_;intro x;cases x with|more x=>exact Hk N A J x.1 x.2|done x=>exact Hl N A J x.1 x.2
theorem Ydi(N:Nat)(A J:QA):ansV PZ (mkΓ []) N f93 [([4,5],[])] [.g A 34,.g J 34] []=(Uah (Uab (Zdb PZ A J) N (false,(0:Int))) (st2 (λx=>ue PZ N A J x.1 x.2) (λx=>uf PZ N A J x.1 x.2))):=by
 conv=>rhs;simp only[<- Hm N A J]
 kernel_rfl
theorem Hn(A J:QA)(L:WT PZ 34 A)(O:WT PZ 34 J)(hg:(true)=true):ansV PZ (mkΓ []) 1000 f93 [([4,5],[])] [.g A 34,.g J 34] []=some (.a (.b (Uag A J)),.none,true):=by
 have hz:A.size=5*1:=by rw[L.layLen];kernel_rfl
 have hy:J.size=5*1:=by rw[O.layLen];kernel_rfl
 have hL:∀k,k<5->(lay PZ 34)[k*1]?=some 4:=by
  intro k hk;have h:(jB 5).all (λk=>(lay PZ 34)[k*1]?==some 4)=true:=by kernel_rfl
  exact eq_of_beq (jG.1 h k (jK.2 hk))
 have hb:Uag A J=true ↔ ∀k,k<5->(λk=>(num A (k*1)==num J (k*1))) k=true:=by
  constructor
  ·intro h k hk;rw[bT.1 h];exact beq_self_eq_true _
  ·intro h;refine bT.2 ?_;refine lS (n:=5) (m:=1) (by omega) hz hy (λk hk=> ?_);have e0:=(L.int (k:=.u8) (hL k hk)).1;have e1:=(O.int (k:=.u8) (hL k hk)).1;rw[eq_of_beq (h k hk)]at e0;refine Zie λi=> ?_
   rw[jR,jR,hz,hy]
   by_cases hi:i=0
   ·subst hi;simp only[Nat.add_zero];rw[e0,e1]
   ·rw[if_neg (by omega),if_neg (by omega)]
 refine(Ydi 1000 A J).trans ?_;refine(Zn9 (g:=Zdb PZ A J) (λk=>(false,(k:Int))) (λk=>(num A (k*1)==num J (k*1))) 5 (N:=1000) (xd:=.done (false,((5:Nat):Int))) (by omega) (λk hk Z=>by
  have V:decide ((k:Int)<5)=true:=Q3 (by omega);have h0:decide (0<=(k:Int))=true:=Q3 (by omega);have h3:i64.wrap ((k:Int)+1)=((k+1:Nat):Int):=by rw[IntWalk.i64_in _ (by omega)];omega
  have h4:((k:Int)).toNat=k:=Q9 k;have U:(num A (k*1)==num J (k*1))=true:=Z;simp only[Zdb,V,h0,jA,h4,Q1,h3,bne,U,jD,Q2]) (by
  have V:decide (((5:Nat):Int)<5)=false:=by decide
  simp only[Zdb,V,Q2]) (Uag A J) hb (some (.a (.b true),.none,true)) (some (.a (.b false),.none,true)) rfl (λk hk Z=>by
  refine⟨.more (false,(k:Int)),?_,rfl⟩;have V:decide ((k:Int)<5)=true:=Q3 (by omega);have h0:decide (0<=(k:Int))=true:=Q3 (by omega);have h4:((k:Int)).toNat=k:=Q9 k;have U:(num A (k*1)==num J (k*1))=false:=Z;simp only[Zdb,V,h0,jA,h4,Q1,bne,U,jI])).trans ?_
 cases Uag A J<;>rfl
def kr:af:=λargs h=>match args,h with|[.g a0 34,.g a1 34],[]=>some (.a (.b (Uag a0 a1)),.none,true)|_,_=>none
theorem Ho:EntX PZ 93:=Zaj (fn:=f93)
theorem Hp:Uad mn PZ 93 kr:=(ansY (N:=1000) mKn f93 [([4,5],[])]).of (by
 intro ρ h w args vals r e L V A;unfold kr at A;split at A
 ·rename_i O U;obtain⟨rfl,rfl,J⟩:=ai A;exact Hn O U (L.wt 0 rfl) (L.wt 1 rfl) J
 ·cases A)
def Zco(A J:QA):St:=(⟨.a (.g A 35)::.a (.g J 35)::.a (.w 0)::.a (.w 1)::.a (.b false)::.a (.i .i64 0)::us 12 ([]),[.row A 35,.row J 35,.no],[]⟩:St)
def Zdw:Bool×Int->LS
 |(A,J)=>([.a (.b A),.a (.i .i64 J)],[])
def ug:(Stp (Bool×Int) (Bool×Int))->QP×LS
 |.more t=>(.ret,Zdw t)
 |.done t=>((.exit 0),Zdw t)
def Zb6(P:QD)(L O:QA):Bool×Int->Option (Stp (Bool×Int) (Stp (Bool×Int) (Bool×Int)))
 |(J,A)=>bif decide (A<(36:Int)) then (bif (decide (0<=A)&&decide (A<36)) then (bif (decide (0<=A)&&decide (A<36)) then (bif (!(Uag (L.extract ((A).toNat*5) (((A).toNat*5)+5)) (O.extract ((A).toNat*5) (((A).toNat*5)+5)))) then (some (.done (.more (false,A)))) else (some (.more (J,(i64.wrap (A+(1:Int))))))) else (none)) else (none)) else (some (.done (.done (J,A))))
noncomputable abbrev bz:=codeOf f68
def uh:=(Uaa bz [([4,5],[])]).1
theorem Zx9(N:Nat)(A J:QA):∀t:Bool×Int,Uaf PZ (mkΓ [(93,con kr)]) N (cAt bz [1,0,1,0,0]) (pAt uh [1,0,1,0]) [4,5] [] (Zco A J) (Zdw t)=aa Zdw ug (Zb6 PZ A J t):=by
 rintro⟨L,O⟩
 conv=>rhs;simp only[Zb6,aM,aJ,aK,aL,Zdw,ug]
 kernel_rfl
def ui(P:QD)(N:Nat)(L O:QA)(A:Bool)(J:Int):Option (SV×Eff×Bool):=some (.a (.b A),.none,true)
def Uee(N:Nat):=(Uac 0 (kSeq (veC PZ (mkΓ [(93,con kr)]) N (cAt bz [1,1]) (pAt uh [1,1]) (SV×Eff×Bool)) (finK PZ [] [.tmp 4])))
theorem Hq(N:Nat)(L O:QA)(A:Bool)(J:Int):(Uee N) .ret (left (writes (cAt bz [1,0,1,0,0])) [4,5] [] (Zco L O) ([.a (.b A),.a (.i .i64 J)],[]))=ui PZ N L O A J:=by kernel_rfl
def uj(P:QD)(N:Nat)(L O:QA)(A:Bool)(J:Int):Option (SV×Eff×Bool):=some (.a (.b true),.none,true)
theorem Hs(N:Nat)(L O:QA)(A:Bool)(J:Int):(Uee N) (.exit 0) (left (writes (cAt bz [1,0,1,0,0])) [4,5] [] (Zco L O) ([.a (.b A),.a (.i .i64 J)],[]))=uj PZ N L O A J:=by kernel_rfl
theorem Ht(N:Nat)(A J:QA):au (Uab (Uaf PZ (mkΓ [(93,con kr)]) N (cAt bz [1,0,1,0,0]) (pAt uh [1,0,1,0]) [4,5] [] (Zco A J)) N ([.a (.b false),.a (.i .i64 0)],[])) (λe s=>(Uee N) e (left (writes (cAt bz [1,0,1,0,0])) [4,5] [] (Zco A J) s))=Uah (Uab (Zb6 PZ A J) N (false,(0:Int))) (st2 (λx=>ui PZ N A J x.1 x.2) (λx=>uj PZ N A J x.1 x.2)):=by refine aP Zdw ug _ _ (Zx9 N A J) N (false,(0:Int)) _ _ ?_;intro x;cases x with|more x=>exact Hq N A J x.1 x.2|done x=>exact Hs N A J x.1 x.2
theorem Zve(N:Nat)(A J:QA):ansV PZ (mkΓ [(93,con kr)]) N f68 [([4,5],[])] [.g A 35,.g J 35] []=(Uah (Uab (Zb6 PZ A J) N (false,(0:Int))) (st2 (λx=>ui PZ N A J x.1 x.2) (λx=>uj PZ N A J x.1 x.2))):=by
 conv=>rhs;simp only[<- Ht N A J]
 kernel_rfl
theorem Hu(A J:QA)(O:WT PZ 35 A)(U:WT PZ 35 J)(hg:(true)=true):ansV PZ (mkΓ [(93,con kr)]) 1000 f68 [([4,5],[])] [.g A 35,.g J 35] []=some (.a (.b (Uag A J)),.none,true):=by
 have hz:A.size=36*5:=by rw[O.layLen];kernel_rfl
 have hy:J.size=36*5:=by rw[U.layLen];kernel_rfl
 have hL:∀k,k<36->(lay PZ 35)[k*5]?=some 4:=by
  intro k hk;have h:(jB 36).all (λk=>(lay PZ 35)[k*5]?==some 4)=true:=by kernel_rfl
  exact eq_of_beq (jG.1 h k (jK.2 hk))
 have hb:Uag A J=true ↔ ∀k,k<36->(λk=>Uag (A.extract (k*5) (k*5+5)) (J.extract (k*5) (k*5+5))) k=true:=by
  constructor
  ·intro h k hk;rw[bT.1 h];exact fq _
  ·intro h;refine bT.2 ?_;exact lS (n:=36) (m:=5) (by omega) hz hy (λk hk=>bT.1 (h k hk))
 refine(Zve 1000 A J).trans ?_;refine(Zn9 (g:=Zb6 PZ A J) (λk=>(false,(k:Int))) (λk=>Uag (A.extract (k*5) (k*5+5)) (J.extract (k*5) (k*5+5))) 36 (N:=1000) (xd:=.done (false,((36:Nat):Int))) (by omega) (λk hk Z=>by
  have V:decide ((k:Int)<36)=true:=Q3 (by omega);have h0:decide (0<=(k:Int))=true:=Q3 (by omega);have h3:i64.wrap ((k:Int)+1)=((k+1:Nat):Int):=by rw[IntWalk.i64_in _ (by omega)];omega
  have h4:((k:Int)).toNat=k:=Q9 k;have L:Uag (A.extract (k*5) (k*5+5)) (J.extract (k*5) (k*5+5))=true:=Z;simp only[Zb6,V,h0,jA,h4,Q1,h3,L,jD,Q2]) (by
  have V:decide (((36:Nat):Int)<36)=false:=by decide
  simp only[Zb6,V,Q2]) (Uag A J) hb (some (.a (.b true),.none,true)) (some (.a (.b false),.none,true)) rfl (λk hk Z=>by
  refine⟨.more (false,(k:Int)),?_,rfl⟩;have V:decide ((k:Int)<36)=true:=Q3 (by omega);have h0:decide (0<=(k:Int))=true:=Q3 (by omega);have h4:((k:Int)).toNat=k:=Q9 k;have L:Uag (A.extract (k*5) (k*5+5)) (J.extract (k*5) (k*5+5))=false:=Z;simp only[Zb6,V,h0,jA,h4,Q1,L,jI])).trans ?_
 cases Uag A J<;>rfl
def kt:af:=λargs h=>match args,h with|[.g a0 35,.g a1 35],[]=>some (.a (.b (Uag a0 a1)),.none,true)|_,_=>none
theorem Hv:EntX PZ 68:=Zaj (fn:=f68)
theorem Hw:Uad mn PZ 68 kt:=(ansY (N:=1000) (mKc (Zae Hp) Ho mKn) f68 [([4,5],[])]).of (by
 intro ρ h w args vals r e L V A;unfold kt at A;split at A
 ·rename_i O U;obtain⟨rfl,rfl,J⟩:=ai A;exact Hu O U (L.wt 0 rfl) (L.wt 1 rfl) J
 ·cases A)
def Zb7(A J:QA):St:=(⟨.a (.g A 36)::.a (.g J 36)::.a (.w 0)::.a (.w 1)::.a (.b false)::.a (.i .i64 0)::us 12 ([]),[.row A 36,.row J 36,.no],[]⟩:St)
def Zcv:Bool×Int->LS
 |(A,J)=>([.a (.b A),.a (.i .i64 J)],[])
def uk:(Stp (Bool×Int) (Bool×Int))->QP×LS
 |.more t=>(.ret,Zcv t)
 |.done t=>((.exit 0),Zcv t)
def Zbm(P:QD)(L O:QA):Bool×Int->Option (Stp (Bool×Int) (Stp (Bool×Int) (Bool×Int)))
 |(J,A)=>bif decide (A<(2:Int)) then (bif (decide (0<=A)&&decide (A<2)) then (bif (decide (0<=A)&&decide (A<2)) then (bif (!(Uag (L.extract ((A).toNat*180) (((A).toNat*180)+180)) (O.extract ((A).toNat*180) (((A).toNat*180)+180)))) then (some (.done (.more (false,A)))) else (some (.more (J,(i64.wrap (A+(1:Int))))))) else (none)) else (none)) else (some (.done (.done (J,A))))
noncomputable abbrev bA:=codeOf f50
def ul:=(Uaa bA [([4,5],[])]).1
theorem Zun(N:Nat)(A J:QA):∀t:Bool×Int,Uaf PZ (mkΓ [(68,con kt)]) N (cAt bA [1,0,1,0,0]) (pAt ul [1,0,1,0]) [4,5] [] (Zb7 A J) (Zcv t)=aa Zcv uk (Zbm PZ A J t):=by
 rintro⟨L,O⟩
 conv=>rhs;simp only[Zbm,aM,aJ,aK,aL,Zcv,uk]
 kernel_rfl
def um(P:QD)(N:Nat)(L O:QA)(A:Bool)(J:Int):Option (SV×Eff×Bool):=some (.a (.b A),.none,true)
def Uef(N:Nat):=(Uac 0 (kSeq (veC PZ (mkΓ [(68,con kt)]) N (cAt bA [1,1]) (pAt ul [1,1]) (SV×Eff×Bool)) (finK PZ [] [.tmp 4])))
theorem Hx(N:Nat)(L O:QA)(A:Bool)(J:Int):(Uef N) .ret (left (writes (cAt bA [1,0,1,0,0])) [4,5] [] (Zb7 L O) ([.a (.b A),.a (.i .i64 J)],[]))=um PZ N L O A J:=by kernel_rfl
def un(P:QD)(N:Nat)(L O:QA)(A:Bool)(J:Int):Option (SV×Eff×Bool):=some (.a (.b true),.none,true)
theorem Hy(N:Nat)(L O:QA)(A:Bool)(J:Int):(Uef N) (.exit 0) (left (writes (cAt bA [1,0,1,0,0])) [4,5] [] (Zb7 L O) ([.a (.b A),.a (.i .i64 J)],[]))=un PZ N L O A J:=by kernel_rfl
theorem Hz(N:Nat)(A J:QA):au (Uab (Uaf PZ (mkΓ [(68,con kt)]) N (cAt bA [1,0,1,0,0]) (pAt ul [1,0,1,0]) [4,5] [] (Zb7 A J)) N ([.a (.b false),.a (.i .i64 0)],[])) (λe s=>(Uef N) e (left (writes (cAt bA [1,0,1,0,0])) [4,5] [] (Zb7 A J) s))=Uah (Uab (Zbm PZ A J) N (false,(0:Int))) (st2 (λx=>um PZ N A J x.1 x.2) (λx=>un PZ N A J x.1 x.2)):=by refine aP Zcv uk _ _ (Zun N A J) N (false,(0:Int)) _ _ ?_;intro x;cases x with|more x=>exact Hx N A J x.1 x.2|done x=>exact Hy N A J x.1 x.2
theorem Zty(N:Nat)(A J:QA):ansV PZ (mkΓ [(68,con kt)]) N f50 [([4,5],[])] [.g A 36,.g J 36] []=(Uah (Uab (Zbm PZ A J) N (false,(0:Int))) (st2 (λx=>um PZ N A J x.1 x.2) (λx=>un PZ N A J x.1 x.2))):=by
 conv=>rhs;simp only[<- Hz N A J]
 kernel_rfl
theorem HA(A J:QA)(O:WT PZ 36 A)(U:WT PZ 36 J)(hg:(true)=true):ansV PZ (mkΓ [(68,con kt)]) 1000 f50 [([4,5],[])] [.g A 36,.g J 36] []=some (.a (.b (Uag A J)),.none,true):=by
 have hz:A.size=2*180:=by rw[O.layLen];kernel_rfl
 have hy:J.size=2*180:=by rw[U.layLen];kernel_rfl
 have hL:∀k,k<2->(lay PZ 36)[k*180]?=some 4:=by
  intro k hk;have h:(jB 2).all (λk=>(lay PZ 36)[k*180]?==some 4)=true:=by kernel_rfl
  exact eq_of_beq (jG.1 h k (jK.2 hk))
 have hb:Uag A J=true ↔ ∀k,k<2->(λk=>Uag (A.extract (k*180) (k*180+180)) (J.extract (k*180) (k*180+180))) k=true:=by
  constructor
  ·intro h k hk;rw[bT.1 h];exact fq _
  ·intro h;refine bT.2 ?_;exact lS (n:=2) (m:=180) (by omega) hz hy (λk hk=>bT.1 (h k hk))
 refine(Zty 1000 A J).trans ?_;refine(Zn9 (g:=Zbm PZ A J) (λk=>(false,(k:Int))) (λk=>Uag (A.extract (k*180) (k*180+180)) (J.extract (k*180) (k*180+180))) 2 (N:=1000) (xd:=.done (false,((2:Nat):Int))) (by omega) (λk hk Z=>by
  have V:decide ((k:Int)<2)=true:=Q3 (by omega);have h0:decide (0<=(k:Int))=true:=Q3 (by omega);have h3:i64.wrap ((k:Int)+1)=((k+1:Nat):Int):=by rw[IntWalk.i64_in _ (by omega)];omega
  have h4:((k:Int)).toNat=k:=Q9 k;have L:Uag (A.extract (k*180) (k*180+180)) (J.extract (k*180) (k*180+180))=true:=Z;simp only[Zbm,V,h0,jA,h4,Q1,h3,L,jD,Q2]) (by
  have V:decide (((2:Nat):Int)<2)=false:=by decide
  simp only[Zbm,V,Q2]) (Uag A J) hb (some (.a (.b true),.none,true)) (some (.a (.b false),.none,true)) rfl (λk hk Z=>by
  refine⟨.more (false,(k:Int)),?_,rfl⟩;have V:decide ((k:Int)<2)=true:=Q3 (by omega);have h0:decide (0<=(k:Int))=true:=Q3 (by omega);have h4:((k:Int)).toNat=k:=Q9 k;have L:Uag (A.extract (k*180) (k*180+180)) (J.extract (k*180) (k*180+180))=false:=Z;simp only[Zbm,V,h0,jA,h4,Q1,L,jI])).trans ?_
 cases Uag A J<;>rfl
def uo:af:=λargs h=>match args,h with|[.g a0 36,.g a1 36],[]=>some (.a (.b (Uag a0 a1)),.none,true)|_,_=>none
theorem HB:EntX PZ 50:=Zaj (fn:=f50)
theorem HC:Uad mn PZ 50 uo:=(ansY (N:=1000) (mKc (Zae Hw) Hv mKn) f50 [([4,5],[])]).of (by
 intro ρ h w args vals r e L V A;unfold uo at A;split at A
 ·rename_i O U;obtain⟨rfl,rfl,J⟩:=ai A;exact HA O U (L.wt 0 rfl) (L.wt 1 rfl) J
 ·cases A)
def xV:Cons:=(mkΓ [(50,con uo)])
theorem Ym7(N:Nat)(A J:QA):ansV PZ xV N f30 [] [.g A 38,.g J 38] []=(bif ((num A 0) != (num J 0)) then (some (.a (.b false),.none,true)) else (bif ((num A 1) != (num J 1)) then (some (.a (.b false),.none,true)) else (bif ((num A 2) != (num J 2)) then (some (.a (.b false),.none,true)) else (bif (!(Uag (A.extract 3 (3+360)) (J.extract 3 (3+360)))) then (some (.a (.b false),.none,true)) else (some (.a (.b true),.none,true)))))):=by kernel_rfl
theorem HD(L O:QA)(A:WT PZ 38 L)(J:WT PZ 38 O)(hg:(true)=true):ansV PZ xV 1000 f30 [] [.g L 38,.g O 38] []=some (.a (.b (Uag L O)),.none,true):=by
 have hz:L.size=363:=by rw[A.layLen];kernel_rfl
 have hy:O.size=363:=by rw[J.layLen];kernel_rfl
 refine(Ym7 1000 L O).trans ?_;cases V:Uag L O
 ·have U:=wn.1 V;cases h0:(num L 0 != num O 0)
  ·skip
   cases h1:(num L 1 != num O 1)
   ·skip
    cases h2:(num L 2 != num O 2)
    ·skip
     cases h3:Uag (L.extract 3 (3+360)) (O.extract 3 (3+360))
     ·rfl
     ·skip
      exfalso;refine U (Zie λi=> ?_)
      by_cases c0:i=0
      ·subst c0;rw[(A.int (k:=.i8) (o:=0) (by kernel_rfl)).1,(J.int (k:=.i8) (o:=0) (by kernel_rfl)).1,lp h0]
      by_cases c1:i=1
      ·subst c1;rw[(A.int (k:=.i8) (o:=1) (by kernel_rfl)).1,(J.int (k:=.i8) (o:=1) (by kernel_rfl)).1,lp h1]
      by_cases c2:i=2
      ·subst c2;rw[(A.int (k:=.u64) (o:=2) (by kernel_rfl)).1,(J.int (k:=.u64) (o:=2) (by kernel_rfl)).1,lp h2]
      by_cases Z:3<=i/\i<3+360
      ·exact Lp (o:=3) (n:=360) (by omega) (by omega) (bT.1 h3) Z.1 Z.2
      rw[jL (by omega),jL (by omega)]
    ·rfl
   ·rfl
  ·rfl
 ·rw[bT.1 V];simp only[bne_self_eq_false,Q2,fq,jD]
def uq:af:=λargs h=>match args,h with|[.g a0 38,.g a1 38],[]=>some (.a (.b (Uag a0 a1)),.none,true)|_,_=>none
theorem HE:EntX PZ 30:=Zaj (fn:=f30)
theorem HF:Uad mn PZ 30 uq:=(ansY (N:=1000) (mKc (Zae HC) HB mKn) f30 []).of (by
 intro ρ h w args vals r e L V A;unfold uq at A;split at A
 ·rename_i O U;obtain⟨rfl,rfl,J⟩:=ai A;exact HD O U (L.wt 0 rfl) (L.wt 1 rfl) J
 ·cases A)
theorem ku:∀k,k<14->i64.wrap ((12:Int)^k*12)=12^(k+1):=by decide
def Zet(A:Int):St:=(⟨.a (.i .i64 A)::.a (.u)::.a (.i .i64 0)::.a (.i .i64 1)::.a (.i .i64 A)::.a (.i .i64 0)::us 5 ([]),[],[]⟩:St)
def Zg3:Int×Int->LS
 |(A,J)=>([.a (.i .i64 A),.a (.i .i64 J)],[])
def ur:Int×Int->QP×LS
 |t=>((.exit 0),Zg3 t)
def Zcu(P:QD)(L:Int):Int×Int->Option (Stp (Int×Int) (Int×Int))
 |(J,A)=>bif decide (A<L) then (some (.more ((i64.wrap (J*(12:Int))),(i64.wrap (A+(1:Int)))))) else (some (.done (J,A)))
noncomputable abbrev bp:=codeOf f117
def ut:=(Uaa bp [([3,5],[])]).1
theorem Ydh(N:Nat)(A:Int):∀t:Int×Int,Uaf PZ (mkΓ []) N (cAt bp [1,1,0,1,0,0]) (pAt ut [1,1,0,1,0]) [3,5] [] (Zet A) (Zg3 t)=aa Zg3 ur (Zcu PZ A t):=by
 rintro⟨J,L⟩
 conv=>rhs;simp only[Zcu,aM,aJ,aK,aL,Zg3,ur]
 kernel_rfl
def uu(P:QD)(N:Nat)(L:Int)(A:Int)(J:Int):Option (SV×Eff×Bool):=some (.a (.i .i64 A),.none,true)
def Ufx(N:Nat):=(Uac 0 (kSeq (veC PZ (mkΓ []) N (cAt bp [1,1,1]) (pAt ut [1,1,1]) (SV×Eff×Bool)) (finK PZ [] [.tmp 2])))
theorem HG(N:Nat)(L:Int)(A:Int)(J:Int):(Ufx N) (.exit 0) (left (writes (cAt bp [1,1,0,1,0,0])) [3,5] [] (Zet L) ([.a (.i .i64 A),.a (.i .i64 J)],[]))=uu PZ N L A J:=by kernel_rfl
theorem HI(N:Nat)(A:Int):au (Uab (Uaf PZ (mkΓ []) N (cAt bp [1,1,0,1,0,0]) (pAt ut [1,1,0,1,0]) [3,5] [] (Zet A)) N ([.a (.i .i64 1),.a (.i .i64 0)],[])) (λe s=>(Ufx N) e (left (writes (cAt bp [1,1,0,1,0,0])) [3,5] [] (Zet A) s))=Uah (Uab (Zcu PZ A) N ((1:Int),(0:Int))) (λx=>uu PZ N A x.1 x.2):=by refine aP Zg3 ur _ _ (Ydh N A) N ((1:Int),(0:Int)) _ _ ?_;intro x;exact HG N A x.1 x.2
theorem Yag(N:Nat)(A:Int):ansV PZ (mkΓ []) N f117 [([3,5],[])] [.i .i64 A] []=(Uah (Uab (Zcu PZ A) N ((1:Int),(0:Int))) (λx=>uu PZ N A x.1 x.2)):=by
 conv=>rhs;simp only[<- HI N A]
 kernel_rfl
theorem HJ(A:Int)(L:i64.min<=A/\A<=i64.max)(O:((decide (0<=A)&&decide (A<=14)))=true):ansV PZ (mkΓ []) 1000 f117 [([3,5],[])] [.i .i64 A] []=some (.a (.i .i64 (12^A.toNat)),.none,true):=by
 simp only[Q7,decide_eq_true_eq]at O;obtain⟨h0,U⟩:=O;obtain⟨m,rfl⟩:=Int.eq_ofNat_of_zero_le h0;refine(Yag 1000 _).trans ?_;have h:=bP (g:=Zcu PZ (m:Int)) (λk=>((12:Int)^k,(k:Int))) (m:=m) (x:=((12:Int)^m,(m:Int))) (N:=1000) (λk hk=>by
  have J:decide ((k:Int)<(m:Int))=true:=Q3 (by omega);have h2:i64.wrap ((k:Int)+1)=((k+1:Nat):Int):=by rw[IntWalk.i64_in _ (by omega)];omega
  simp only[Zcu,J,Q1,ku k (by omega),h2]) (by
  have J:decide ((m:Int)<(m:Int))=false:=Q4 (by omega);simp only[Zcu,J,Q2]) (by omega)
 have h':Uab (Zcu PZ (m:Int)) 1000 ((1:Int),(0:Int))=some ((12:Int)^m,(m:Int)):=h;rw[h'];rfl
def iP:af:=λargs h=>match args,h with|[.i .i64 a0],[]=>some (.a (.i .i64 (12^a0.toNat)),.none,(decide (0<=a0)&&decide (a0<=14)))|_,_=>none
theorem HK:EntX PZ 117:=Zaj (fn:=f117)
theorem HL:Uad mn PZ 117 iP:=(ansY (N:=1000) mKn f117 [([3,5],[])]).of (by
 intro ρ h w args vals r e L U A;unfold iP at A;split at A
 ·rename_i O;obtain⟨rfl,rfl,J⟩:=ai A;exact HJ O (L.rng 0 rfl) J
 ·cases A)
theorem Zik{x a b:Int}(h:Zaa x a b=true):a<=x/\x<=b:=by unfold Zaa at h;cases h0:decide (x>=a) with|false=>rw[h0]at h;exact nomatch h|true=>rw[h0]at h;exact⟨of_decide_eq_true h0,of_decide_eq_true h⟩
theorem dI{D:QA}{T:QE}(A:D.size=40)(k:Nat)(hk:k<36):num (D.extract 3 (3+36)) (k*1)=num D (3+k*1):=by unfold num;rw[jR,if_pos (by omega)]
end
noncomputable section
variable {mn:Md}
end
noncomputable section
variable {mn:Md}
theorem Yh6(N:Nat)(A L:Int)(J:QA):ansV PZ (mkΓ [(47,con db)]) N f123 [] [.w 0,.i .i64 A,.i .i64 L] [.row J 38]=(bif (L==(1:Int)) then (bif (!((Zaa ((A).tmod (6:Int)) (0:Int) (i64.wrap ((i64.wrap (num J 0)) - (1:Int)))))) then (some (.a (.i .i64 (-1:Int)),.none,true)) else (bif (!((Zaa (i64.wrap ((i64.wrap ((A).tdiv (6:Int))) - (1:Int))) (0:Int) (i64.wrap ((i64.wrap (num J 1)) - (1:Int)))))) then (some (.a (.i .i64 (-1:Int)),.none,true)) else (some (.a (.i .i64 (i64.wrap (((A).tmod (6:Int))+(i64.wrap ((6:Int)*(i64.wrap ((i64.wrap ((A).tdiv (6:Int))) - (1:Int)))))))),.none,true)))) else (bif (L==(2:Int)) then (bif (!((Zaa (i64.wrap (((A).tmod (6:Int))+(1:Int))) (0:Int) (i64.wrap ((i64.wrap (num J 0)) - (1:Int)))))) then (some (.a (.i .i64 (-1:Int)),.none,true)) else (bif (!((Zaa (i64.wrap ((A).tdiv (6:Int))) (0:Int) (i64.wrap ((i64.wrap (num J 1)) - (1:Int)))))) then (some (.a (.i .i64 (-1:Int)),.none,true)) else (some (.a (.i .i64 (i64.wrap ((i64.wrap (((A).tmod (6:Int))+(1:Int)))+(i64.wrap ((6:Int)*(i64.wrap ((A).tdiv (6:Int)))))))),.none,true)))) else (bif (L==(3:Int)) then (bif (!((Zaa ((A).tmod (6:Int)) (0:Int) (i64.wrap ((i64.wrap (num J 0)) - (1:Int)))))) then (some (.a (.i .i64 (-1:Int)),.none,true)) else (bif (!((Zaa (i64.wrap ((i64.wrap ((A).tdiv (6:Int)))+(1:Int))) (0:Int) (i64.wrap ((i64.wrap (num J 1)) - (1:Int)))))) then (some (.a (.i .i64 (-1:Int)),.none,true)) else (some (.a (.i .i64 (i64.wrap (((A).tmod (6:Int))+(i64.wrap ((6:Int)*(i64.wrap ((i64.wrap ((A).tdiv (6:Int)))+(1:Int)))))))),.none,true)))) else (bif (L==(4:Int)) then (bif (!((Zaa (i64.wrap (((A).tmod (6:Int)) - (1:Int))) (0:Int) (i64.wrap ((i64.wrap (num J 0)) - (1:Int)))))) then (some (.a (.i .i64 (-1:Int)),.none,true)) else (bif (!((Zaa (i64.wrap ((A).tdiv (6:Int))) (0:Int) (i64.wrap ((i64.wrap (num J 1)) - (1:Int)))))) then (some (.a (.i .i64 (-1:Int)),.none,true)) else (some (.a (.i .i64 (i64.wrap ((i64.wrap (((A).tmod (6:Int)) - (1:Int)))+(i64.wrap ((6:Int)*(i64.wrap ((A).tdiv (6:Int)))))))),.none,true)))) else (bif (!((Zaa ((A).tmod (6:Int)) (0:Int) (i64.wrap ((i64.wrap (num J 0)) - (1:Int)))))) then (some (.a (.i .i64 (-1:Int)),.none,true)) else (bif (!((Zaa (i64.wrap ((A).tdiv (6:Int))) (0:Int) (i64.wrap ((i64.wrap (num J 1)) - (1:Int)))))) then (some (.a (.i .i64 (-1:Int)),.none,true)) else (some (.a (.i .i64 (i64.wrap (((A).tmod (6:Int))+(i64.wrap ((6:Int)*(i64.wrap ((A).tdiv (6:Int)))))))),.none,true)))))))):=by kernel_rfl
def Zai(A L:Int)(J:QA):Int:=(bif (L==(1:Int)) then (bif (!((Zaa ((A).tmod (6:Int)) (0:Int) (i64.wrap ((i64.wrap (num J 0)) - (1:Int)))))) then (-1:Int) else (bif (!((Zaa (i64.wrap ((i64.wrap ((A).tdiv (6:Int))) - (1:Int))) (0:Int) (i64.wrap ((i64.wrap (num J 1)) - (1:Int)))))) then (-1:Int) else (i64.wrap (((A).tmod (6:Int))+(i64.wrap ((6:Int)*(i64.wrap ((i64.wrap ((A).tdiv (6:Int))) - (1:Int))))))))) else (bif (L==(2:Int)) then (bif (!((Zaa (i64.wrap (((A).tmod (6:Int))+(1:Int))) (0:Int) (i64.wrap ((i64.wrap (num J 0)) - (1:Int)))))) then (-1:Int) else (bif (!((Zaa (i64.wrap ((A).tdiv (6:Int))) (0:Int) (i64.wrap ((i64.wrap (num J 1)) - (1:Int)))))) then (-1:Int) else (i64.wrap ((i64.wrap (((A).tmod (6:Int))+(1:Int)))+(i64.wrap ((6:Int)*(i64.wrap ((A).tdiv (6:Int))))))))) else (bif (L==(3:Int)) then (bif (!((Zaa ((A).tmod (6:Int)) (0:Int) (i64.wrap ((i64.wrap (num J 0)) - (1:Int)))))) then (-1:Int) else (bif (!((Zaa (i64.wrap ((i64.wrap ((A).tdiv (6:Int)))+(1:Int))) (0:Int) (i64.wrap ((i64.wrap (num J 1)) - (1:Int)))))) then (-1:Int) else (i64.wrap (((A).tmod (6:Int))+(i64.wrap ((6:Int)*(i64.wrap ((i64.wrap ((A).tdiv (6:Int)))+(1:Int))))))))) else (bif (L==(4:Int)) then (bif (!((Zaa (i64.wrap (((A).tmod (6:Int)) - (1:Int))) (0:Int) (i64.wrap ((i64.wrap (num J 0)) - (1:Int)))))) then (-1:Int) else (bif (!((Zaa (i64.wrap ((A).tdiv (6:Int))) (0:Int) (i64.wrap ((i64.wrap (num J 1)) - (1:Int)))))) then (-1:Int) else (i64.wrap ((i64.wrap (((A).tmod (6:Int)) - (1:Int)))+(i64.wrap ((6:Int)*(i64.wrap ((A).tdiv (6:Int))))))))) else (bif (!((Zaa ((A).tmod (6:Int)) (0:Int) (i64.wrap ((i64.wrap (num J 0)) - (1:Int)))))) then (-1:Int) else (bif (!((Zaa (i64.wrap ((A).tdiv (6:Int))) (0:Int) (i64.wrap ((i64.wrap (num J 1)) - (1:Int)))))) then (-1:Int) else (i64.wrap (((A).tmod (6:Int))+(i64.wrap ((6:Int)*(i64.wrap ((A).tdiv (6:Int)))))))))))))
theorem HM(J O:Int)(L:QA)(U:i64.min<=J/\J<=i64.max)(V:i64.min<=O/\O<=i64.max)(Z:WT PZ 38 L)(A:(true)=true):ansV PZ (mkΓ [(47,con db)]) 1000 f123 [] [.w 0,.i .i64 J,.i .i64 O] [.row L 38]=some (.a (.i .i64 (Zai J O L)),.none,true):=by
 refine(Yh6 1000 J O L).trans ?_;unfold Zai;revert A;generalize ((O==(1:Int)))=b2;intro A;cases b2
 ·skip
  revert A;generalize ((O==(2:Int)))=b4;intro A;cases b4
  ·skip
   revert A;generalize ((O==(3:Int)))=b6;intro A;cases b6
   ·skip
    revert A;generalize ((O==(4:Int)))=b8;intro A;cases b8
    ·skip
     revert A;generalize ((!((Zaa ((J).tmod (6:Int)) (0:Int) (i64.wrap ((i64.wrap (num L 0)) - (1:Int)))))))=b10;intro A;cases b10
     ·skip
      revert A;generalize ((!((Zaa (i64.wrap ((J).tdiv (6:Int))) (0:Int) (i64.wrap ((i64.wrap (num L 1)) - (1:Int)))))))=b12;intro A;cases b12
      ·skip
       first|rfl|exact(nomatch (A:false=true))
      ·skip
       first|rfl|exact(nomatch (A:false=true))
     ·skip
      first|rfl|exact(nomatch (A:false=true))
    ·skip
     revert A;generalize ((!((Zaa (i64.wrap (((J).tmod (6:Int)) - (1:Int))) (0:Int) (i64.wrap ((i64.wrap (num L 0)) - (1:Int)))))))=b10;intro A;cases b10
     ·skip
      revert A;generalize ((!((Zaa (i64.wrap ((J).tdiv (6:Int))) (0:Int) (i64.wrap ((i64.wrap (num L 1)) - (1:Int)))))))=b12;intro A;cases b12
      ·skip
       first|rfl|exact(nomatch (A:false=true))
      ·skip
       first|rfl|exact(nomatch (A:false=true))
     ·skip
      first|rfl|exact(nomatch (A:false=true))
   ·skip
    revert A;generalize ((!((Zaa ((J).tmod (6:Int)) (0:Int) (i64.wrap ((i64.wrap (num L 0)) - (1:Int)))))))=b8;intro A;cases b8
    ·skip
     revert A;generalize ((!((Zaa (i64.wrap ((i64.wrap ((J).tdiv (6:Int)))+(1:Int))) (0:Int) (i64.wrap ((i64.wrap (num L 1)) - (1:Int)))))))=b10;intro A;cases b10
     ·skip
      first|rfl|exact(nomatch (A:false=true))
     ·skip
      first|rfl|exact(nomatch (A:false=true))
    ·skip
     first|rfl|exact(nomatch (A:false=true))
  ·skip
   revert A;generalize ((!((Zaa (i64.wrap (((J).tmod (6:Int))+(1:Int))) (0:Int) (i64.wrap ((i64.wrap (num L 0)) - (1:Int)))))))=b6;intro A;cases b6
   ·skip
    revert A;generalize ((!((Zaa (i64.wrap ((J).tdiv (6:Int))) (0:Int) (i64.wrap ((i64.wrap (num L 1)) - (1:Int)))))))=b8;intro A;cases b8
    ·skip
     first|rfl|exact(nomatch (A:false=true))
    ·skip
     first|rfl|exact(nomatch (A:false=true))
   ·skip
    first|rfl|exact(nomatch (A:false=true))
 ·skip
  revert A;generalize ((!((Zaa ((J).tmod (6:Int)) (0:Int) (i64.wrap ((i64.wrap (num L 0)) - (1:Int)))))))=b4;intro A;cases b4
  ·skip
   revert A;generalize ((!((Zaa (i64.wrap ((i64.wrap ((J).tdiv (6:Int))) - (1:Int))) (0:Int) (i64.wrap ((i64.wrap (num L 1)) - (1:Int)))))))=b6;intro A;cases b6
   ·skip
    first|rfl|exact(nomatch (A:false=true))
   ·skip
    first|rfl|exact(nomatch (A:false=true))
  ·skip
   first|rfl|exact(nomatch (A:false=true))
def uv:af:=λargs h=>match args,h with|[.w 0,.i .i64 a1,.i .i64 a2],[.row a0 38]=>some (.a (.i .i64 (Zai a1 a2 a0)),.none,true)|_,_=>none
theorem HN:EntX PZ 123:=Zaj (fn:=f123)
theorem HO:Uad mn PZ 123 uv:=(ansY (N:=1000) (mKc (Zae km) kl mKn) f123 []).of (by
 intro ρ h w args vals r e L O A;unfold uv at A;split at A
 ·rename_i U V Z;obtain⟨rfl,rfl,J⟩:=ai A;exact HM U V Z (L.rng 1 rfl) (L.rng 2 rfl) (O.wt 0 rfl) J
 ·cases A)
theorem Yh9(N:Nat):ansV PZ (mkΓ []) N f124 [] [] []=(some (.a (.g #[.func (.func 125) #[] #[],.func (.func 126) #[] #[],.func (.func 127) #[] #[],.func (.func 128) #[] #[],.func (.func 129) #[] #[]] 182),.none,true)):=by kernel_rfl
theorem HP  (A:(true)=true):ansV PZ (mkΓ []) 1000 f124 [] [] []=some (.a (.g #[.func (.func 125) #[] #[],.func (.func 126) #[] #[],.func (.func 127) #[] #[],.func (.func 128) #[] #[],.func (.func 129) #[] #[]] 182),.none,true):=by refine(Yh9 1000 ).trans ?_;rfl
def uw:af:=λargs h=>match args,h with|[],[]=>some (.a (.g #[.func (.func 125) #[] #[],.func (.func 126) #[] #[],.func (.func 127) #[] #[],.func (.func 128) #[] #[],.func (.func 129) #[] #[]] 182),.none,true)|_,_=>none
theorem HQ:EntX PZ 124:=Zaj (fn:=f124)
theorem HR:Uad mn PZ 124 uw:=(ansY (N:=1000) mKn f124 []).of (by
 intro ρ h w args vals r e L O A;unfold uw at A;split at A
 ·obtain⟨rfl,rfl,J⟩:=ai A;exact HP J
 ·cases A)
theorem Zzs(N:Nat)(A:QA):ansV PZ (mkΓ []) N f125 [] [.g A 152] []=(some (.a (.g A 152),.none,true)):=by kernel_rfl
theorem HS(A:QA)(J:WT PZ 152 A)(L:(true)=true):ansV PZ (mkΓ []) 1000 f125 [] [.g A 152] []=some (.a (.g A 152),.none,true):=by refine(Zzs 1000 A).trans ?_;rfl
def ux:af:=λargs h=>match args,h with|[.g a0 152],[]=>some (.a (.g a0 152),.none,true)|_,_=>none
theorem HT:EntX PZ 125:=Zaj (fn:=f125)
theorem HU:Uad mn PZ 125 ux:=(ansY (N:=1000) mKn f125 []).of (by
 intro ρ h w args vals r e L U A;unfold ux at A;split at A
 ·rename_i O;obtain⟨rfl,rfl,J⟩:=ai A;exact HS O (L.wt 0 rfl) J
 ·cases A)
theorem Zyo(N:Nat)(A:QA):ansV PZ (mkΓ []) N f126 [] [.g A 152] []=(some (.a (.g #[.int .i64 (num A 0),.int .i64 (i64.wrap ((num A 1) - (1:Int)))] 152),.none,true)):=by kernel_rfl
theorem HV(A:QA)(J:WT PZ 152 A)(L:(true)=true):ansV PZ (mkΓ []) 1000 f126 [] [.g A 152] []=some (.a (.g #[.int .i64 (num A 0),.int .i64 (i64.wrap ((num A 1) - (1:Int)))] 152),.none,true):=by refine(Zyo 1000 A).trans ?_;rfl
def uy:af:=λargs h=>match args,h with|[.g a0 152],[]=>some (.a (.g #[.int .i64 (num a0 0),.int .i64 (i64.wrap ((num a0 1) - (1:Int)))] 152),.none,true)|_,_=>none
theorem HW:EntX PZ 126:=Zaj (fn:=f126)
theorem HX:Uad mn PZ 126 uy:=(ansY (N:=1000) mKn f126 []).of (by
 intro ρ h w args vals r e L U A;unfold uy at A;split at A
 ·rename_i O;obtain⟨rfl,rfl,J⟩:=ai A;exact HV O (L.wt 0 rfl) J
 ·cases A)
theorem Zzx(N:Nat)(A:QA):ansV PZ (mkΓ []) N f127 [] [.g A 152] []=(some (.a (.g #[.int .i64 (i64.wrap ((num A 0)+(1:Int))),.int .i64 (num A 1)] 152),.none,true)):=by kernel_rfl
theorem HY(A:QA)(J:WT PZ 152 A)(L:(true)=true):ansV PZ (mkΓ []) 1000 f127 [] [.g A 152] []=some (.a (.g #[.int .i64 (i64.wrap ((num A 0)+(1:Int))),.int .i64 (num A 1)] 152),.none,true):=by refine(Zzx 1000 A).trans ?_;rfl
def uz:af:=λargs h=>match args,h with|[.g a0 152],[]=>some (.a (.g #[.int .i64 (i64.wrap ((num a0 0)+(1:Int))),.int .i64 (num a0 1)] 152),.none,true)|_,_=>none
theorem HZ:EntX PZ 127:=Zaj (fn:=f127)
theorem Ia:Uad mn PZ 127 uz:=(ansY (N:=1000) mKn f127 []).of (by
 intro ρ h w args vals r e L U A;unfold uz at A;split at A
 ·rename_i O;obtain⟨rfl,rfl,J⟩:=ai A;exact HY O (L.wt 0 rfl) J
 ·cases A)
theorem Zx1(N:Nat)(A:QA):ansV PZ (mkΓ []) N f128 [] [.g A 152] []=(some (.a (.g #[.int .i64 (num A 0),.int .i64 (i64.wrap ((num A 1)+(1:Int)))] 152),.none,true)):=by kernel_rfl
theorem Ib(A:QA)(J:WT PZ 152 A)(L:(true)=true):ansV PZ (mkΓ []) 1000 f128 [] [.g A 152] []=some (.a (.g #[.int .i64 (num A 0),.int .i64 (i64.wrap ((num A 1)+(1:Int)))] 152),.none,true):=by refine(Zx1 1000 A).trans ?_;rfl
def uA:af:=λargs h=>match args,h with|[.g a0 152],[]=>some (.a (.g #[.int .i64 (num a0 0),.int .i64 (i64.wrap ((num a0 1)+(1:Int)))] 152),.none,true)|_,_=>none
theorem Ic:EntX PZ 128:=Zaj (fn:=f128)
theorem Id:Uad mn PZ 128 uA:=(ansY (N:=1000) mKn f128 []).of (by
 intro ρ h w args vals r e L U A;unfold uA at A;split at A
 ·rename_i O;obtain⟨rfl,rfl,J⟩:=ai A;exact Ib O (L.wt 0 rfl) J
 ·cases A)
theorem Zz6(N:Nat)(A:QA):ansV PZ (mkΓ []) N f129 [] [.g A 152] []=(some (.a (.g #[.int .i64 (i64.wrap ((num A 0) - (1:Int))),.int .i64 (num A 1)] 152),.none,true)):=by kernel_rfl
theorem Ie(A:QA)(J:WT PZ 152 A)(L:(true)=true):ansV PZ (mkΓ []) 1000 f129 [] [.g A 152] []=some (.a (.g #[.int .i64 (i64.wrap ((num A 0) - (1:Int))),.int .i64 (num A 1)] 152),.none,true):=by refine(Zz6 1000 A).trans ?_;rfl
def uB:af:=λargs h=>match args,h with|[.g a0 152],[]=>some (.a (.g #[.int .i64 (i64.wrap ((num a0 0) - (1:Int))),.int .i64 (num a0 1)] 152),.none,true)|_,_=>none
theorem If:EntX PZ 129:=Zaj (fn:=f129)
theorem Ig:Uad mn PZ 129 uB:=(ansY (N:=1000) mKn f129 []).of (by
 intro ρ h w args vals r e L U A;unfold uB at A;split at A
 ·rename_i O;obtain⟨rfl,rfl,J⟩:=ai A;exact Ie O (L.wt 0 rfl) J
 ·cases A)
theorem Ykb(N:Nat)(A J:Int):ansV PZ (mkΓ []) N f121 [] [.i .i64 A,.i .i64 J] []=(some (.a (.i .i64 (((i64.wrap (A+J))).tmod (2:Int))),.none,true)):=by kernel_rfl
theorem Ih(A J:Int)(L:i64.min<=A/\A<=i64.max)(O:i64.min<=J/\J<=i64.max)(U:(true)=true):ansV PZ (mkΓ []) 1000 f121 [] [.i .i64 A,.i .i64 J] []=some (.a (.i .i64 (((i64.wrap (A+J))).tmod (2:Int))),.none,true):=by refine(Ykb 1000 A J).trans ?_;rfl
def uC:af:=λargs h=>match args,h with|[.i .i64 a0,.i .i64 a1],[]=>some (.a (.i .i64 (((i64.wrap (a0+a1))).tmod (2:Int))),.none,true)|_,_=>none
theorem Ii:EntX PZ 121:=Zaj (fn:=f121)
theorem Ij:Uad mn PZ 121 uC:=(ansY (N:=1000) mKn f121 []).of (by
 intro ρ h w args vals r e L V A;unfold uC at A;split at A
 ·rename_i O U;obtain⟨rfl,rfl,J⟩:=ai A;exact Ih O U (L.rng 0 rfl) (L.rng 1 rfl) J
 ·cases A)
def pi(S:QA)(t c:Int)(w:Nat):Int:=i64.wrap (num S (((3+(t.toNat*180))+(c.toNat*5))+w))
def gw(S:QA)(k:Nat):Nat->Int
 |0=>(k:Int)
 |1=>bif decide (6<=k) then (k:Int) - 6 else -1
 |2=>bif decide (((k % 6:Nat):Int)+1<num S 0) then (k:Int)+1 else -1
 |3=>bif decide (((k / 6:Nat):Int)+1<num S 1) then (k:Int)+6 else -1
 |_=>bif decide (1<=k % 6) then (k:Int) - 1 else -1
theorem aI{n:Int}(h: -1000<=n/\n<=1000):i64.wrap n=n:=IntWalk.i64_in n (by omega)
theorem cH(n lo hi:Int):Zaa n lo hi=decide (lo<=n/\n<=hi):=by
 unfold Zaa
 by_cases A:lo<=n
 ·rw[Q3 (show n>=lo from A)]
  by_cases h2:n<=hi
  ·rw[Q3 h2,Q3 (And.intro A h2)];rfl
  ·rw[Q4 h2,Q4 (show ¬(lo<=n/\n<=hi) from λh=>h2 h.2)];rfl
 ·rw[Q4 (show ¬n>=lo from A),Q4 (show ¬(lo<=n/\n<=hi) from λh=>A h.1)];rfl
theorem pj{w h:Int}{k:Nat}(hi:inC w h k=true):((k % 6:Nat):Int)<w/\((k / 6:Nat):Int)<h:=by unfold inC at hi;simp only[Q7,decide_eq_true_eq]at hi;exact hi
theorem xy{k:Nat}(hk:k<36):((k:Int)).tmod 6=((k % 6:Nat):Int)/\((k:Int)).tdiv 6=((k / 6:Nat):Int):=by
 constructor
 ·rw[Int.tmod_eq_emod_of_nonneg (by omega)];omega
 ·rw[jU (by omega)];omega
theorem uD{S:QA}(h0:1<=num S 0/\num S 0<=6/\1<=num S 1/\num S 1<=6){k:Nat}(hk:k<36)(hi:inC (num S 0) (num S 1) k=true)(w:Nat)(O:w<5):Zai (k:Int) (w:Int) S=gw S k w:=by
 obtain⟨a1,a2,a3,a4⟩:=h0;obtain⟨hx,hy⟩:=pj hi;obtain⟨ex,ey⟩:=xy hk;have U:k % 6<6:=Nat.mod_lt _ (by omega);have V:k / 6<6:=by omega
 have Z:k=6*(k / 6)+k % 6:=by omega
 unfold Zai;simp only[cH,ex,ey];rw[aI (n:=num S 0) (by omega),aI (n:=num S 1) (by omega),aI (n:=num S 0 - 1) (by omega),aI (n:=num S 1 - 1) (by omega),aI (n:=((k / 6:Nat):Int)) (by omega),aI (n:=((k / 6:Nat):Int) - 1) (by omega),aI (n:=((k / 6:Nat):Int)+1) (by omega),aI (n:=((k % 6:Nat):Int) - 1) (by omega),aI (n:=((k % 6:Nat):Int)+1) (by omega),aI (n:=6*((k / 6:Nat):Int)) (by omega),aI (n:=6*(((k / 6:Nat):Int) - 1)) (by omega),aI (n:=6*(((k / 6:Nat):Int)+1)) (by omega)];have A:decide (0<=((k % 6:Nat):Int)/\((k % 6:Nat):Int)<=num S 0 - 1)=true:=Q3 (by omega);have J:decide (0<=((k / 6:Nat):Int)/\((k / 6:Nat):Int)<=num S 1 - 1)=true:=Q3 (by omega);generalize L:k % 6=X at *;generalize hY:k / 6=Y at *
 match w,O with
 |0,_=>
  show (bif ((0:Int)==1) then _ else (bif ((0:Int)==2) then _ else (bif ((0:Int)==3) then _ else (bif ((0:Int)==4) then _ else _))))=_
  simp only[show ((0:Int)==1)=false from rfl,show ((0:Int)==2)=false from rfl,show ((0:Int)==3)=false from rfl,show ((0:Int)==4)=false from rfl,Q2,A,J,jD];rw[aI (by omega)];show _=(k:Int);omega
 | 1,_=>
  simp only[show (((1:Nat):Int)==1)=true from rfl,Q1,A,jD,Q2];unfold gw
  by_cases c:1<=Y
  ·rw[Q3 (show 0<=((Y:Nat):Int) - 1/\((Y:Nat):Int) - 1<=num S 1 - 1 by omega),Q3 (show 6<=k by omega)];simp only[jD,Q2,Q1];rw[aI (by omega)];omega
  ·rw[Q4 (show ¬(0<=((Y:Nat):Int) - 1/\((Y:Nat):Int) - 1<=num S 1 - 1) by omega),Q4 (show ¬6<=k by omega)];rfl
 | 2,_=>
  simp only[show (((2:Nat):Int)==1)=false from rfl,show (((2:Nat):Int)==2)=true from rfl,Q1,J,jD,Q2];unfold gw;rw[L]
  by_cases c:((X:Nat):Int)+1<num S 0
  ·rw[Q3 (show 0<=((X:Nat):Int)+1/\((X:Nat):Int)+1<=num S 0 - 1 by omega),Q3 c];simp only[jD,Q2,Q1];rw[aI (by omega)];omega
  ·rw[Q4 (show ¬(0<=((X:Nat):Int)+1/\((X:Nat):Int)+1<=num S 0 - 1) by omega),Q4 c];rfl
 | 3,_=>
  simp only[show (((3:Nat):Int)==1)=false from rfl,show (((3:Nat):Int)==2)=false from rfl,show (((3:Nat):Int)==3)=true from rfl,Q1,A,jD,Q2];unfold gw;rw[hY]
  by_cases c:((Y:Nat):Int)+1<num S 1
  ·rw[Q3 (show 0<=((Y:Nat):Int)+1/\((Y:Nat):Int)+1<=num S 1 - 1 by omega),Q3 c];simp only[jD,Q2,Q1];rw[aI (by omega)];omega
  ·rw[Q4 (show ¬(0<=((Y:Nat):Int)+1/\((Y:Nat):Int)+1<=num S 1 - 1) by omega),Q4 c];rfl
 | 4,_=>
  simp only[show (((4:Nat):Int)==1)=false from rfl,show (((4:Nat):Int)==2)=false from rfl,show (((4:Nat):Int)==3)=false from rfl,show (((4:Nat):Int)==4)=true from rfl,Q1,J,jD,Q2];unfold gw;rw[L]
  by_cases c:1<=X
  ·rw[Q3 (show 0<=((X:Nat):Int) - 1/\((X:Nat):Int) - 1<=num S 0 - 1 by omega),Q3 c];simp only[jD,Q2,Q1];rw[aI (by omega)];omega
  ·rw[Q4 (show ¬(0<=((X:Nat):Int) - 1/\((X:Nat):Int) - 1<=num S 0 - 1) by omega),Q4 c];rfl
theorem pk{S:QA}(h0:1<=num S 0/\num S 0<=6/\1<=num S 1/\num S 1<=6){k:Nat}(hk:k<36)(hi:inC (num S 0) (num S 1) k=true)(w:Nat)(J:w<5)(A:gw S k w ≠ -1):0<=gw S k w/\gw S k w<36:=by
 obtain⟨O,U⟩:=pj hi;obtain⟨V,Z,a3,a4⟩:=h0;have L:k=6*(k / 6)+k % 6:=by omega
 match w,J with
 |0,_=>exact⟨by show 0<=(k:Int);omega,by show (k:Int)<36;omega⟩
 |1,_=>
  unfold gw at A|-
  by_cases c:6<=k
  ·simp only[c,decide_true,Q1];omega
  ·simp[c]at A
 |2,_=>
  unfold gw at A|-
  by_cases c:((k % 6:Nat):Int)+1<num S 0
  ·simp only[Q3 c,Q1];omega
  ·simp only[Q4 c,Q2]at A;exact absurd rfl A
 |3,_=>
  unfold gw at A|-
  by_cases c:((k / 6:Nat):Int)+1<num S 1
  ·simp only[Q3 c,Q1];omega
  ·simp only[Q4 c,Q2]at A;exact absurd rfl A
 |4,_=>
  unfold gw at A|-
  by_cases c:1<=k % 6
  ·simp only[c,decide_true,Q1];omega
  ·simp[c]at A
def lE:Cons:=(mkΓ [(101,con oU),(102,con oV),(119,con pa),(124,con uw),(125,con ux),(126,con uy),(127,con uz),(128,con uA),(129,con uB)])
def toP(c:Int):Nat->QA
 |0=>#[.int .i64 (c.tmod 6),.int .i64 (i64.wrap (c.tdiv 6))]
 |1=>#[.int .i64 (c.tmod 6),.int .i64 (i64.wrap (i64.wrap (c.tdiv 6) - 1))]
 |2=>#[.int .i64 (i64.wrap (c.tmod 6+1)),.int .i64 (i64.wrap (c.tdiv 6))]
 |3=>#[.int .i64 (c.tmod 6),.int .i64 (i64.wrap (i64.wrap (c.tdiv 6)+1))]
 |_=>#[.int .i64 (i64.wrap (c.tmod 6 - 1)),.int .i64 (i64.wrap (c.tdiv 6))]
def Ua1(S:QA)(c:Int)(w:Nat):Int:=bif Zaz S (toP c w) then i64.wrap (num (toP c w) 0+i64.wrap (6*num (toP c w) 1)) else -1
theorem Ik(J:QA)(A L:Int)(O:WT PZ 38 J)(U:i64.min<=A/\A<=i64.max)(V:i64.min<=L/\L<=i64.max)(Z:((decide (0<=L)&&decide (L<5)))=true):ansV PZ lE 1000 f122 [] [.g J 38,.i .i64 A,.i .i64 L] []=some (.a (.i .i64 (Ua1 J A L.toNat)),.none,true):=by
 simp only[Q7,decide_eq_true_eq]at Z;obtain⟨h0,h5⟩:=Z;obtain⟨w,rfl⟩:=Int.eq_ofNat_of_zero_le h0
 match w,h5 with
 |0,_=>
  have h:ansV PZ lE 1000 f122 [] [.g J 38,.i .i64 A,.i .i64 ((0:Nat):Int)] []=(bif (!(Zaz J (toP A 0))) then (some (.a (.i .i64 (-1:Int)),.none,true)) else (some (.a (.i .i64 (i64.wrap (num (toP A 0) 0+i64.wrap (6*num (toP A 0) 1)))),.none,true))):=by kernel_rfl
  refine h.trans ?_;rw[Q9];unfold Ua1;cases Zaz J (toP A 0)<;>rfl
 |1,_=>
  have h:ansV PZ lE 1000 f122 [] [.g J 38,.i .i64 A,.i .i64 ((1:Nat):Int)] []=(bif (!(Zaz J (toP A 1))) then (some (.a (.i .i64 (-1:Int)),.none,true)) else (some (.a (.i .i64 (i64.wrap (num (toP A 1) 0+i64.wrap (6*num (toP A 1) 1)))),.none,true))):=by kernel_rfl
  refine h.trans ?_;rw[Q9];unfold Ua1;cases Zaz J (toP A 1)<;>rfl
 |2,_=>
  have h:ansV PZ lE 1000 f122 [] [.g J 38,.i .i64 A,.i .i64 ((2:Nat):Int)] []=(bif (!(Zaz J (toP A 2))) then (some (.a (.i .i64 (-1:Int)),.none,true)) else (some (.a (.i .i64 (i64.wrap (num (toP A 2) 0+i64.wrap (6*num (toP A 2) 1)))),.none,true))):=by kernel_rfl
  refine h.trans ?_;rw[Q9];unfold Ua1;cases Zaz J (toP A 2)<;>rfl
 |3,_=>
  have h:ansV PZ lE 1000 f122 [] [.g J 38,.i .i64 A,.i .i64 ((3:Nat):Int)] []=(bif (!(Zaz J (toP A 3))) then (some (.a (.i .i64 (-1:Int)),.none,true)) else (some (.a (.i .i64 (i64.wrap (num (toP A 3) 0+i64.wrap (6*num (toP A 3) 1)))),.none,true))):=by kernel_rfl
  refine h.trans ?_;rw[Q9];unfold Ua1;cases Zaz J (toP A 3)<;>rfl
 |4,_=>
  have h:ansV PZ lE 1000 f122 [] [.g J 38,.i .i64 A,.i .i64 ((4:Nat):Int)] []=(bif (!(Zaz J (toP A 4))) then (some (.a (.i .i64 (-1:Int)),.none,true)) else (some (.a (.i .i64 (i64.wrap (num (toP A 4) 0+i64.wrap (6*num (toP A 4) 1)))),.none,true))):=by kernel_rfl
  refine h.trans ?_;rw[Q9];unfold Ua1;cases Zaz J (toP A 4)<;>rfl
 |_+5,h=>omega
def uE:af:=λargs h=>match args,h with|[.g a0 38,.i .i64 a1,.i .i64 a2],[]=>some (.a (.i .i64 (Ua1 a0 a1 a2.toNat)),.none,(decide (0<=a2)&&decide (a2<5)))|_,_=>none
theorem Il:EntX PZ 122:=Zaj (fn:=f122)
theorem Im:Uad mn PZ 122 uE:=(ansY (N:=1000) (mKc (Zae xB) xA (mKc (Zae xD) xC (mKc (Zae xI) xH (mKc (Zae HR) HQ (mKc (Zae HU) HT (mKc (Zae HX) HW (mKc (Zae Ia) HZ (mKc (Zae Id) Ic (mKc (Zae Ig) If mKn))))))))) f122 []).of (by
 intro ρ h w args vals r e J Z A;unfold uE at A;split at A
 ·rename_i O U V;obtain⟨rfl,rfl,L⟩:=ai A;exact Ik O U V (J.wt 0 rfl) (J.rng 1 rfl) (J.rng 2 rfl) L
 ·cases A)
theorem nc{S:QA}(h0:1<=num S 0/\num S 0<=6/\1<=num S 1/\num S 1<=6)(x y:Int)(L: -10<=x/\x<=10)(O: -10<=y/\y<=10):Zaz S #[.int .i64 x,.int .i64 y]=decide (0<=x/\x<num S 0/\0<=y/\y<num S 1):=by
 show (bif decide (x>=0) then (bif decide (x<i64.wrap (num S 0)) then (bif decide (y>=0) then decide (y<i64.wrap (num S 1)) else false) else false) else false)=_
 rw[aI (n:=num S 0) (by omega),aI (n:=num S 1) (by omega)]
 by_cases A:0<=x
 ·rw[Q3 (show x>=0 from A)]
  by_cases h2:x<num S 0
  ·rw[Q3 h2]
   by_cases J:0<=y
   ·rw[Q3 (show y>=0 from J),Q1,Q1,Q1];exact decide_eq_decide.2 ⟨λh=>⟨A,h2,J,h⟩,λh=>h.2.2.2⟩
   ·rw[Q4 (show ¬y>=0 from J),Q4 (show ¬(0<=x/\x<num S 0/\0<=y/\y<num S 1) by omega)];rfl
  ·rw[Q4 h2,Q4 (show ¬(0<=x/\x<num S 0/\0<=y/\y<num S 1) by omega)];rfl
 ·rw[Q4 (show ¬x>=0 from A),Q4 (show ¬(0<=x/\x<num S 0/\0<=y/\y<num S 1) by omega)];rfl
theorem xW{S:QA}(h0:1<=num S 0/\num S 0<=6/\1<=num S 1/\num S 1<=6){k:Nat}(hk:k<36)(hi:inC (num S 0) (num S 1) k=true)(w:Nat)(hw:w<5):Ua1 S (k:Int) w=gw S k w:=by
 obtain⟨hx,hy⟩:=pj hi;obtain⟨ex,ey⟩:=xy hk;have hxl:k % 6<6:=Nat.mod_lt _ (by omega);have hyl:k / 6<6:=by omega
 have hk6:k=6*(k / 6)+k % 6:=by omega
 unfold Ua1
 match w,hw with
 |0,_=>
  simp only[toP];rw[ex,ey,aI (n:=((k / 6:Nat):Int)) (by omega),nc h0 _ _ (by omega) (by omega),Q3 (by omega)]
  show i64.wrap (((k % 6:Nat):Int)+i64.wrap (6*((k / 6:Nat):Int)))=(k:Int)
  rw[aI (n:=6*((k / 6:Nat):Int)) (by omega),aI (by omega)];omega
 | 1,_=>
  simp only[toP,gw];rw[ex,ey,aI (n:=((k / 6:Nat):Int)) (by omega),aI (n:=((k / 6:Nat):Int) - 1) (by omega),nc h0 _ _ (by omega) (by omega)]
  by_cases c:6<=k
  ·rw[Q3 (show 0<=((k % 6:Nat):Int)/\((k % 6:Nat):Int)<num S 0/\0<=((k / 6:Nat):Int) - 1/\((k / 6:Nat):Int) - 1<num S 1 by omega),Q3 c]
   show i64.wrap (((k % 6:Nat):Int)+i64.wrap (6*(((k / 6:Nat):Int) - 1)))=(k:Int) - 6
   rw[aI (n:=6*(((k / 6:Nat):Int) - 1)) (by omega),aI (by omega)];omega
  ·rw[Q4 (show ¬(0<=((k % 6:Nat):Int)/\((k % 6:Nat):Int)<num S 0/\0<=((k / 6:Nat):Int) - 1/\((k / 6:Nat):Int) - 1<num S 1) by omega),Q4 c];rfl
 | 2,_=>
  simp only[toP,gw];rw[ex,ey,aI (n:=((k / 6:Nat):Int)) (by omega),aI (n:=((k % 6:Nat):Int)+1) (by omega),nc h0 _ _ (by omega) (by omega)]
  by_cases c:((k % 6:Nat):Int)+1<num S 0
  ·rw[Q3 (show 0<=((k % 6:Nat):Int)+1/\((k % 6:Nat):Int)+1<num S 0/\0<=((k / 6:Nat):Int)/\((k / 6:Nat):Int)<num S 1 by omega),Q3 c]
   show i64.wrap (((k % 6:Nat):Int)+1+i64.wrap (6*((k / 6:Nat):Int)))=(k:Int)+1
   rw[aI (n:=6*((k / 6:Nat):Int)) (by omega),aI (by omega)];omega
  ·rw[Q4 (show ¬(0<=((k % 6:Nat):Int)+1/\((k % 6:Nat):Int)+1<num S 0/\0<=((k / 6:Nat):Int)/\((k / 6:Nat):Int)<num S 1) by omega),Q4 c];rfl
 | 3,_=>
  simp only[toP,gw];rw[ex,ey,aI (n:=((k / 6:Nat):Int)) (by omega),aI (n:=((k / 6:Nat):Int)+1) (by omega),nc h0 _ _ (by omega) (by omega)]
  by_cases c:((k / 6:Nat):Int)+1<num S 1
  ·rw[Q3 (show 0<=((k % 6:Nat):Int)/\((k % 6:Nat):Int)<num S 0/\0<=((k / 6:Nat):Int)+1/\((k / 6:Nat):Int)+1<num S 1 by omega),Q3 c]
   show i64.wrap (((k % 6:Nat):Int)+i64.wrap (6*(((k / 6:Nat):Int)+1)))=(k:Int)+6
   rw[aI (n:=6*(((k / 6:Nat):Int)+1)) (by omega),aI (by omega)];omega
  ·rw[Q4 (show ¬(0<=((k % 6:Nat):Int)/\((k % 6:Nat):Int)<num S 0/\0<=((k / 6:Nat):Int)+1/\((k / 6:Nat):Int)+1<num S 1) by omega),Q4 c];rfl
 | 4,_=>
  simp only[toP,gw];rw[ex,ey,aI (n:=((k / 6:Nat):Int)) (by omega),aI (n:=((k % 6:Nat):Int) - 1) (by omega),nc h0 _ _ (by omega) (by omega)]
  by_cases c:1<=k % 6
  ·rw[Q3 (show 0<=((k % 6:Nat):Int) - 1/\((k % 6:Nat):Int) - 1<num S 0/\0<=((k / 6:Nat):Int)/\((k / 6:Nat):Int)<num S 1 by omega),Q3 c]
   show i64.wrap (((k % 6:Nat):Int) - 1+i64.wrap (6*((k / 6:Nat):Int)))=(k:Int) - 1
   rw[aI (n:=6*((k / 6:Nat):Int)) (by omega),aI (by omega)];omega
  ·rw[Q4 (show ¬(0<=((k % 6:Nat):Int) - 1/\((k % 6:Nat):Int) - 1<num S 0/\0<=((k / 6:Nat):Int)/\((k / 6:Nat):Int)<num S 1) by omega),Q4 c];rfl
end
noncomputable section
variable {mn:Md}
def iQ:Cons:=(mkΓ [(70,con oT),(123,con uv)])
def Zhv(O J:QA)(A:Int)(L:QA):St:=(⟨.a (.w 0)::.a (.w 1)::.a (.u)::.a (.u)::.a (.w 2)::.a (.w 22)::.a (.i .i8 (((IntKind.i8.wrap ((num J 0)+(num J 1)))).tmod (2:Int)))::.a (.i .i64 A)::.a (.i .i64 0)::.a (.x)::.a (.x)::.a (.w 1)::.a (.w 1)::.a (.p 1 (0) 22)::.a (.i .i8 (num J 0))::.a (.w 1)::.a (.w 1)::.a (.p 1 (1) 22)::.a (.i .i8 (num J 1))::.a (.i .i8 (IntKind.i8.wrap ((num J 1)+(1:Int))))::.a (.w 1)::.a (.w 1)::.a (.p 1 (2) 2)::.a (.i .i64 (num J 2))::.a (.w 1)::.a (.w 1)::.a (.p 1 (39) 2)::.a (.i .i64 (num J 39))::.a (.i .i64 (i64.wrap ((num J 39)*(12:Int))))::.a (.g (((((zc PZ 129).setIfInBounds 0 (.int .i8 (num J 0))).setIfInBounds 1 (.int .i8 (IntKind.i8.wrap ((num J 1)+(1:Int))))).setIfInBounds 2 (.int .i64 (num J 2))).setIfInBounds 39 (.int .i64 (i64.wrap ((num J 39)*(12:Int))))) 129)::.a (.w 1)::.a (.w 1)::.a (.p 1 (0) 22)::.a (.i .i8 (num J 0))::.a (.w 1)::.a (.w 1)::.a (.p 1 (1) 22)::.a (.i .i8 (num J 1))::.a (.i .i8 (IntKind.i8.wrap ((num J 0)+(num J 1))))::.a (.i .i8 (((IntKind.i8.wrap ((num J 0)+(num J 1)))).tmod (2:Int)))::.a (.i .i64 A)::.a (.b (decide (A<(36:Int))))::.a (.x)::.a (.x)::.a (.w 0)::.a (.i .i64 A)::.a (.b ((Zaq A O)))::.a (.b ((!((Zaq A O)))))::xs 55 (.a (.u)::[]),[.row O 38,.row J 129,.row (zc PZ 129) 129,.no,.no,.no,.no,.no,.no,.no,.no,.no,.no,.no,.no,.no,.no,.no,.no,.no,.no,.no,.row L 129,.no,.no,.no,.no,.no,.no,.no,.no,.no,.no,.no,.no],[22]⟩:St)
def Zf2:Int×QA->LS
 |(J,A)=>([.a (.i .i64 J)],[.row A 129])
def nf:Int×QA->QP×LS
 |t=>((.exit 2),Zf2 t)
def Zdj(P:QD)(U O:QA)(A:Int)(V:QA):Int×QA->Option (Stp (Int×QA) (Int×QA))
 |(J,L)=>bif decide (J<(5:Int)) then (bif (decide (0<=A)&&decide (A<36)) then (bif (decide (0<=(((IntKind.i8.wrap ((num O 0)+(num O 1)))).tmod (2:Int)))&&decide ((((IntKind.i8.wrap ((num O 0)+(num O 1)))).tmod (2:Int))<2)) then (bif (decide (0<=A)&&decide (A<36)) then (bif (decide (0<=J)&&decide (J<5)) then (bif decide ((Zai A J U)<(0:Int)) then (some (.more ((i64.wrap (J+(1:Int))),(L.setIfInBounds 39 (.int .i64 (i64.wrap ((num L 39)+(i64.wrap ((num O (3+((A).toNat*1)))*(i64.wrap (num U (((3+((((IntKind.i8.wrap ((num O 0)+(num O 1)))).tmod (2:Int)).toNat*180))+((A).toNat*5))+((J).toNat*1))))))))))))) else (bif (decide (0<=(Zai A J U))&&decide ((Zai A J U)<36)) then (bif (decide (0<=(Zai A J U))&&decide ((Zai A J U)<36)) then (some (.more ((i64.wrap (J+(1:Int))),(L.setIfInBounds (3+((Zai A J U).toNat*1)) (.int .i64 (i64.wrap ((num L (3+((Zai A J U).toNat*1)))+(i64.wrap ((num O (3+((A).toNat*1)))*(i64.wrap (num U (((3+((((IntKind.i8.wrap ((num O 0)+(num O 1)))).tmod (2:Int)).toNat*180))+((A).toNat*5))+((J).toNat*1))))))))))))) else (none)) else (none))) else (none)) else (none)) else (none)) else (none)) else (some (.done (J,L)))
noncomputable abbrev ar:=codeOf f120
def lF:=(Uaa ar [([7],[22]),([8],[22])]).1
theorem Zqp(N:Nat)(O U:QA)(J:Int)(A:QA):∀t:Int×QA,Uaf PZ iQ N (cAt ar [1,1,1,0,1,0,0,1,0,0,1,1,0,0]) (pAt lF [1,1,1,0,1,0,1,0,1,1,0]) [8] [22] (Zhv O U J A) (Zf2 t)=aa Zf2 nf (Zdj PZ O U J A t):=by
 rintro⟨V,L⟩
 conv=>rhs;simp only[Zdj,aM,aJ,aK,aL,Zf2,nf]
 kernel_rfl
def Zhm(J A:QA):St:=(⟨.a (.w 0)::.a (.w 1)::.a (.u)::.a (.u)::.a (.w 2)::.a (.w 22)::.a (.i .i8 (((IntKind.i8.wrap ((num A 0)+(num A 1)))).tmod (2:Int)))::.a (.i .i64 0)::us 3 (.a (.w 1)::.a (.w 1)::.a (.p 1 (0) 22)::.a (.i .i8 (num A 0))::.a (.w 1)::.a (.w 1)::.a (.p 1 (1) 22)::.a (.i .i8 (num A 1))::.a (.i .i8 (IntKind.i8.wrap ((num A 1)+(1:Int))))::.a (.w 1)::.a (.w 1)::.a (.p 1 (2) 2)::.a (.i .i64 (num A 2))::.a (.w 1)::.a (.w 1)::.a (.p 1 (39) 2)::.a (.i .i64 (num A 39))::.a (.i .i64 (i64.wrap ((num A 39)*(12:Int))))::.a (.g (((((zc PZ 129).setIfInBounds 0 (.int .i8 (num A 0))).setIfInBounds 1 (.int .i8 (IntKind.i8.wrap ((num A 1)+(1:Int))))).setIfInBounds 2 (.int .i64 (num A 2))).setIfInBounds 39 (.int .i64 (i64.wrap ((num A 39)*(12:Int))))) 129)::.a (.w 1)::.a (.w 1)::.a (.p 1 (0) 22)::.a (.i .i8 (num A 0))::.a (.w 1)::.a (.w 1)::.a (.p 1 (1) 22)::.a (.i .i8 (num A 1))::.a (.i .i8 (IntKind.i8.wrap ((num A 0)+(num A 1))))::.a (.i .i8 (((IntKind.i8.wrap ((num A 0)+(num A 1)))).tmod (2:Int)))::us 64 ([])),[.row J 38,.row A 129,.row (zc PZ 129) 129,.no,.no,.no,.no,.no,.no,.no,.no,.no,.no,.no,.no,.no,.no,.no,.no,.no,.no,.no,.row (((((zc PZ 129).setIfInBounds 0 (.int .i8 (num A 0))).setIfInBounds 1 (.int .i8 (IntKind.i8.wrap ((num A 1)+(1:Int))))).setIfInBounds 2 (.int .i64 (num A 2))).setIfInBounds 39 (.int .i64 (i64.wrap ((num A 39)*(12:Int))))) 129,.no,.no,.no,.no,.no,.no,.no,.no,.no,.no,.no,.no],[22]⟩:St)
def Zdm:Int×QA->LS
 |(J,A)=>([.a (.i .i64 J)],[.row A 129])
def kv:Int×QA->QP×LS
 |t=>((.exit 0),Zdm t)
def Zhy(P:QD)(N:Nat)(U V:QA)(J:Int)(L:QA)(O:Int)(A:QA):Option (Stp (Int×QA) (Int×QA)):=some (.more ((i64.wrap (J+(1:Int))),A))
def Ufl(N:Nat):=(Uac 2 (Uac 1 (kSeq (veC PZ iQ N (cAt ar [1,1,1,0,1,0,0,1,1]) (pAt lF [1,1,1,0,1,0,1,1]) (Stp LS (QP×LS))) (Ufb 35 [7] [22]))))
theorem In(N:Nat)(U V:QA)(L:Int)(A:QA)(O:Int)(J:QA):(Ufl N) (.exit 2) (left (writes (cAt ar [1,1,1,0,1,0,0,1,0,0,1,1,0,0])) [8] [22] (Zhv U V L A) ([.a (.i .i64 O)],[.row J 129]))=aa Zdm kv (Zhy PZ N U V L A O J):=by
 conv=>rhs;simp only[Zhy,aM,aJ,aK,aL,Zdm,kv]
 kernel_rfl
theorem Io(N:Nat)(L O:QA)(J:Int)(A:QA):au (Uab (Uaf PZ iQ N (cAt ar [1,1,1,0,1,0,0,1,0,0,1,1,0,0]) (pAt lF [1,1,1,0,1,0,1,0,1,1,0]) [8] [22] (Zhv L O J A)) N ([.a (.i .i64 0)],[.row A 129])) (λe s=>(Ufl N) e (left (writes (cAt ar [1,1,1,0,1,0,0,1,0,0,1,1,0,0])) [8] [22] (Zhv L O J A) s))=aa Zdm kv (Uah (Uab (Zdj PZ L O J A) N ((0:Int),A)) (λx=>Zhy PZ N L O J A x.1 x.2)):=by
 rw[qc Zdm kv]
 first
 |(have h:=aP (α:=Stp LS (QP×LS)) Zf2 nf _ _ (Zqp N L O J A) N ((0:Int),A);refine h _ _ ?_)
 |(have h:=aP (α:=Stp BS (QP×BS)) Zf2 nf _ _ (Zqp N L O J A) N ((0:Int),A);refine h _ _ ?_)
 |(have h:=aP (α:=Stp LS ((QP×LS)⊕(SV×Eff×Bool))) Zf2 nf _ _ (Zqp N L O J A) N ((0:Int),A);refine h _ _ ?_)
 intro x;exact In N L O J A x.1 x.2
def Zdq(P:QD)(N:Nat)(L O:QA):Int×QA->Option (Stp (Int×QA) (Int×QA))
 |(A,J)=>bif decide (A<(36:Int)) then (bif (Zb3 A L) then (bif (!((Zaq A L))) then (bif (decide (0<=A)&&decide (A<36)) then (bif (decide (0<=A)&&decide (A<36)) then (bif (decide (0<=A)&&decide (A<36)) then (some (.more ((i64.wrap (A+(1:Int))),(J.setIfInBounds (3+((A).toNat*1)) (.int .i64 (i64.wrap ((num J (3+((A).toNat*1)))+(i64.wrap ((num O (3+((A).toNat*1)))*(12:Int)))))))))) else (none)) else (none)) else (none)) else (Uah (Uab (Zdj P L O A J) N ((0:Int),J)) (λx=>Zhy P N L O A J x.1 x.2))) else (none)) else (some (.done (A,J)))
theorem Yls(N:Nat)(L O:QA):∀t:Int×QA,Uaf PZ iQ N (cAt ar [1,1,1,0,1,0,0]) (pAt lF [1,1,1,0,1,0]) [7] [22] (Zhm L O) (Zdm t)=aa Zdm kv (Zdq PZ N L O t):=by
 rintro⟨J,A⟩
 conv=>rhs;simp only[<- Io N L O J A,Zdq,aM,aJ,aK,aL,Zdm,kv]
 kernel_rfl
def uF(P:QD)(N:Nat)(L O:QA)(J:Int)(A:QA):Option (SV×Eff×Bool):=some (.a (.g A 129),.none,true)
def Ufo(N:Nat)(A J:QA):=(Uac 0 (kSeq (veC PZ iQ N (cAt ar [1,1,1,1]) (pAt lF [1,1,1,1]) (SV×Eff×Bool)) (finK PZ [.row A 38,.row J 129] [.cell 4 129])))
theorem Ip(N:Nat)(L O:QA)(J:Int)(A:QA):(Ufo N L O) (.exit 0) (left (writes (cAt ar [1,1,1,0,1,0,0])) [7] [22] (Zhm L O) ([.a (.i .i64 J)],[.row A 129]))=uF PZ N L O J A:=by kernel_rfl
theorem Iq(N:Nat)(J A:QA):au (Uab (Uaf PZ iQ N (cAt ar [1,1,1,0,1,0,0]) (pAt lF [1,1,1,0,1,0]) [7] [22] (Zhm J A)) N ([.a (.i .i64 0)],[.row (((((zc PZ 129).setIfInBounds 0 (.int .i8 (num A 0))).setIfInBounds 1 (.int .i8 (IntKind.i8.wrap ((num A 1)+(1:Int))))).setIfInBounds 2 (.int .i64 (num A 2))).setIfInBounds 39 (.int .i64 (i64.wrap ((num A 39)*(12:Int))))) 129])) (λe s=>(Ufo N J A) e (left (writes (cAt ar [1,1,1,0,1,0,0])) [7] [22] (Zhm J A) s))=Uah (Uab (Zdq PZ N J A) N ((0:Int),(((((zc PZ 129).setIfInBounds 0 (.int .i8 (num A 0))).setIfInBounds 1 (.int .i8 (IntKind.i8.wrap ((num A 1)+(1:Int))))).setIfInBounds 2 (.int .i64 (num A 2))).setIfInBounds 39 (.int .i64 (i64.wrap ((num A 39)*(12:Int))))))) (λx=>uF PZ N J A x.1 x.2):=by refine aP Zdm kv _ _ (Yls N J A) N ((0:Int),(((((zc PZ 129).setIfInBounds 0 (.int .i8 (num A 0))).setIfInBounds 1 (.int .i8 (IntKind.i8.wrap ((num A 1)+(1:Int))))).setIfInBounds 2 (.int .i64 (num A 2))).setIfInBounds 39 (.int .i64 (i64.wrap ((num A 39)*(12:Int)))))) _ _ ?_;intro x;exact Ip N J A x.1 x.2
theorem Ygx(N:Nat)(J A:QA):ansV PZ iQ N f120 [([7],[22]),([8],[22])] [.w 0,.w 1] [.row J 38,.row A 129]=(Uah (Uab (Zdq PZ N J A) N ((0:Int),(((((zc PZ 129).setIfInBounds 0 (.int .i8 (num A 0))).setIfInBounds 1 (.int .i8 (IntKind.i8.wrap ((num A 1)+(1:Int))))).setIfInBounds 2 (.int .i64 (num A 2))).setIfInBounds 39 (.int .i64 (i64.wrap ((num A 39)*(12:Int))))))) (λx=>uF PZ N J A x.1 x.2)):=by
 conv=>rhs;simp only[<- Iq N J A]
 kernel_rfl
theorem cl{a b:Int}(A:0<=a)(h2:a<b):(decide (0<=a)&&decide (a<b))=true:=by rw[Q3 A,Q3 h2];rfl
def adN(r:QA)(i:Nat)(m:Int):QA:=r.setIfInBounds i (.int .i64 (i64.wrap (num r i+m)))
def tdS(X:QA):Int:=(IntKind.i8.wrap (num X 0+num X 1)).tmod 2
def muF(S X:QA)(t:Int)(k w:Nat):Int:=i64.wrap (num X (3+k*1)*pi S t (k:Int) w)
def wayF(S X:QA)(t:Int)(k:Nat)(r:QA)(w:Nat):QA:=bif decide (Zai (k:Int) (w:Int) S<0) then adN r 39 (muF S X t k w) else adN r (3+(Zai (k:Int) (w:Int) S).toNat*1) (muF S X t k w)
def Ue5(S X:QA)(t:Int)(r:QA)(k:Nat):QA:=bif Zaq (k:Int) S then folds (wayF S X t k) r 5 else adN r (3+k*1) (i64.wrap (num X (3+k*1)*12))
def Ub5(P:QD)(X:QA):QA:=((((zc P 129).setIfInBounds 0 (.int .i8 (num X 0))).setIfInBounds 1 (.int .i8 (IntKind.i8.wrap (num X 1+1)))).setIfInBounds 2 (.int .i64 (num X 2))).setIfInBounds 39 (.int .i64 (i64.wrap (num X 39*12)))
def Ubn(P:QD)(S X:QA):QA:=folds (Ue5 S X (tdS X)) (Ub5 P X) 36
theorem xX{S:QA}(h0:1<=num S 0/\num S 0<=6/\1<=num S 1/\num S 1<=6){k:Nat}(hk:k<36)(hi:inC (num S 0) (num S 1) k=true){w:Nat}(A:w<5)(J:¬Zai (k:Int) (w:Int) S<0):0<=Zai (k:Int) (w:Int) S/\Zai (k:Int) (w:Int) S<36:=by
 rw[uD h0 hk hi w A]at J|-
 exact pk h0 hk hi w A (by omega)
theorem Ir(a0 a1:QA)(h_a0:WT PZ 38 a0)(h_a1:WT PZ 129 a1)(hg:((okS a0&&(decide (0<=tdS a1)&&decide (tdS a1<2))))=true):ansV PZ iQ 1000 f120 [([7],[22]),([8],[22])] [.w 0,.w 1] [.row a0 38,.row a1 129]=some (.a (.g (Ubn PZ a0 a1) 129),.none,true):=by
 rw[Q7]at hg;obtain⟨hok,ht⟩:=hg;have hdm:=Zxg hok;refine(Ygx 1000 a0 a1).trans ?_;have hT:(IntKind.i8.wrap (num a1 0+num a1 1)).tmod 2=tdS a1:=rfl;have h:=iB (g:=Zdq PZ 1000 a0 a1) (λr k=>((k:Int),r)) (Ue5 a0 a1 (tdS a1)) (m:=36) (t:=Ub5 PZ a1) (x:=((36:Int),Ubn PZ a0 a1)) (N:=1000) (λk s hk _=>by
  have h1:decide ((k:Int)<36)=true:=Q3 (by omega);have h0:decide (0<=(k:Int))=true:=Q3 (by omega);have h3:i64.wrap ((k:Int)+1)=((k+1:Nat):Int):=by rw[aI (by omega)];omega
  obtain⟨w1,w2⟩:=Ylq h_a0 hk;unfold Ue5;cases hw:Zaq (k:Int) a0 with
  |false=>simp only[Zdq,h1,h0,h3,w1,hw,Q9,jA,jI,Q1,Q2];rfl
  | true=>
   rw[hw]at w2;have hi:inC (num a0 0) (num a0 1) k=true:=(Bool.and_eq_true_iff.1 w2.symm).1;have hin:=iB (g:=Zdj PZ a0 a1 (k:Int) s) (λr w=>((w:Int),r)) (wayF a0 a1 (tdS a1) k) (m:=5) (t:=s) (x:=((5:Int),folds (wayF a0 a1 (tdS a1) k) s 5)) (N:=1000) (λw r hw5 _=>by
    have e1:decide ((w:Int)<5)=true:=Q3 (by omega);have e0:decide (0<=(w:Int))=true:=Q3 (by omega);have e3:i64.wrap ((w:Int)+1)=((w+1:Nat):Int):=by rw[aI (by omega)];omega
    have e4:i64.wrap (num a1 (3+k*1)*i64.wrap (num a0 (3+(tdS a1).toNat*180+k*5+w*1)))=muF a0 a1 (tdS a1) k w:=by unfold muF pi;rw[Q9,Nat.mul_one w]
    unfold wayF
    by_cases hg:Zai (k:Int) (w:Int) a0<0
    ·simp only[Zdj,e1,e0,e3,h1,h0,hT,ht,Q9,jA,Q1,Q3 hg,e4];rfl
    ·obtain⟨r1,r2⟩:=xX hdm hk hi hw5 hg;simp only[Zdj,e1,e0,e3,h1,h0,hT,ht,Q9,jA,Q1,Q2,Q4 hg,cl r1 r2,e4];rfl) (by
    have e1:decide (((5:Nat):Int)<5)=false:=by decide
    simp only[Zdj,e1,Q2];rfl) (by omega)
   have hin':Uab (Zdj PZ a0 a1 (k:Int) s) 1000 ((0:Int),s)=some ((5:Int),folds (wayF a0 a1 (tdS a1) k) s 5):=hin;simp only[Zdq,h1,w1,hw,jD,Q1,Q2,hin',Uah,Zhy,h3]) (by
  have h1:decide (((36:Nat):Int)<36)=false:=by decide
  simp only[Zdq,h1,Q2];rfl) (by omega)
 have h':Uab (Zdq PZ 1000 a0 a1) 1000 ((0:Int),Ub5 PZ a1)=some ((36:Int),Ubn PZ a0 a1):=h;unfold Ub5 at h';rw[h'];rfl
def iR:af:=λargs h=>match args,h with|[.w 0,.w 1],[.row a0 38,.row a1 129]=>some (.a (.g (Ubn PZ a0 a1) 129),.none,(okS a0&&(decide (0<=tdS a1)&&decide (tdS a1<2))))|_,_=>none
theorem It:EntX PZ 120:=Zaj (fn:=f120)
theorem Iu:Uad mn PZ 120 iR:=(ansY (N:=1000) (mKc (Zae xz) xx (mKc (Zae HO) HN mKn)) f120 [([7],[22]),([8],[22])]).of (by
 intro ρ h w args vals r e V L A;unfold iR at A;split at A
 ·rename_i O U;obtain⟨rfl,rfl,J⟩:=ai A;exact Ir O U (L.wt 0 rfl) (L.wt 1 rfl) J
 ·cases A)
def tdI(X:QA):Int:=(i64.wrap (i64.wrap (num X 0)+i64.wrap (num X 1))).tmod 2
def Ue9(S X:QA)(t:Int)(w:Nat)(r:QA)(k:Nat):QA:=bif Ua1 S (k:Int) w != -1 then adN r (3+(Ua1 S (k:Int) w).toNat*1) (muF S X t k w) else adN r 39 (muF S X t k w)
def Ube(P:QD)(S X:QA)(w:Nat):QA:=folds (λr k=>if inC (num S 0) (num S 1) k&&Zac S (k:Int) then Ue9 S X (tdI X) w r k else r) (zc P 129) 36
def togF(Y:QA)(r:QA)(k:Nat):QA:=adN r (3+k*1) (num Y (3+k*1))
def togV(X Y:QA):QA:=adN (folds (togF Y) (adN X 2 (num Y 2)) 36) 39 (num Y 39)
def Uc9(S:QA)(r:QA)(k:Nat):QA:=bif Zad S (k:Int) then r.setIfInBounds (3+k*1) (.int .i64 (i64.wrap (num r (3+k*1)*12))) else r.setIfInBounds (3+k*1) (.int .i64 0)
def Ucj(r:QA):QA:=r.setIfInBounds 39 (.int .i64 (i64.wrap (num r 39*12)))
def Uce(S X:QA):QA:=(Ucj (folds (Uc9 S) X 36)).setIfInBounds 1 (.int .i8 (IntKind.i8.wrap (num (Ucj (folds (Uc9 S) X 36)) 1+1)))
def ng:Cons:=(mkΓx [(121,con uC),(122,con uE)] [(92,pc)] [(110,mQ)])
def Zfk(J A:QA)(L:Int):St:=(⟨.a (.g J 38)::.a (.g A 129)::.a (.i .i64 L)::.a (.w 0)::.a (.w 1)::.a (.w 2)::.a (.w 3)::.a (.w 4)::.a (.w 12)::us 3 (.a (.p 1 (0) 22)::.a (.i .i8 (num A 0))::.a (.i .i64 (i64.wrap (num A 0)))::.a (.p 1 (1) 22)::.a (.i .i8 (num A 1))::.a (.i .i64 (i64.wrap (num A 1)))::.a (.i .i64 (((i64.wrap ((i64.wrap (num A 0))+(i64.wrap (num A 1))))).tmod (2:Int)))::.a (.g J 38)::.a (.c 110 [17])::us 35 ([])),[.row J 38,.row A 129,.row #[.int .i64 L] 2,.row (zc PZ 129) 129,.row (zc PZ 129) 129,.no,.no,.no,.no,.no,.no,.no,.row #[.int .i64 (((i64.wrap ((i64.wrap (num A 0))+(i64.wrap (num A 1))))).tmod (2:Int))] 2,.no,.no,.no,.no,.row J 38,.no,.no,.no,.no],[12]⟩:St)
def Zom:QA->BS
 |A=>([.row A 129]:BS)
def uG:Empty->QP×BS:=λx=>nomatch x
def Zi9(P:QD)(U O:QA)(L:Int)(A:Int):QA->Option (Stp (QA) Empty)
  |J=>bif (decide (0<=A)&&decide (A<36)) then (bif (decide (0<=(((i64.wrap ((i64.wrap (num O 0))+(i64.wrap (num O 1))))).tmod (2:Int)))&&decide ((((i64.wrap ((i64.wrap (num O 0))+(i64.wrap (num O 1))))).tmod (2:Int))<2)) then (bif (decide (0<=A)&&decide (A<36)) then (bif (decide (0<=L)&&decide (L<5)) then (bif (decide (0<=L)&&decide (L<5)) then (bif ((Ua1 U A L.toNat) != (-1:Int)) then (bif (decide (0<=(Ua1 U A L.toNat))&&decide ((Ua1 U A L.toNat)<36)) then (bif (decide (0<=(Ua1 U A L.toNat))&&decide ((Ua1 U A L.toNat)<36)) then (some (.more (J.setIfInBounds (3+((Ua1 U A L.toNat).toNat*1)) (.int .i64 (i64.wrap ((num J (3+((Ua1 U A L.toNat).toNat*1)))+(i64.wrap ((num O (3+((A).toNat*1)))*(i64.wrap (num U (((3+((((i64.wrap ((i64.wrap (num O 0))+(i64.wrap (num O 1))))).tmod (2:Int)).toNat*180))+((A).toNat*5))+((L).toNat*1)))))))))))) else (none)) else (none)) else (some (.more (J.setIfInBounds 39 (.int .i64 (i64.wrap ((num J 39)+(i64.wrap ((num O (3+((A).toNat*1)))*(i64.wrap (num U (((3+((((i64.wrap ((i64.wrap (num O 0))+(i64.wrap (num O 1))))).tmod (2:Int)).toNat*180))+((A).toNat*5))+((L).toNat*1))))))))))))) else (none)) else (none)) else (none)) else (none)) else (none)
noncomputable abbrev bO:=codeOf f116
def uH:=(Uaa bO [([],[4])]).1
theorem Iv(N:Nat)(A J:QA)(L:Int)(O:Int):∀t:QA,mm PZ ng N (cAt bO [1,1,1,0,1,0,0]) (pAt uH [1,1,1,0,1,0]) 22 [4] [21] [(9,21)] (Zfk A J L) [.i .i64 O] (Zom t)=aa Zom uG (Zi9 PZ A J L O t):=by
 rintro U
 conv=>rhs;simp only[Zi9,aM,aJ,aK,aL,Zom,uG]
 kernel_rfl
def uI(P:QD)(N:Nat)(J L:QA)(O:Int)(A:QA):Option (SV×Eff×Bool):=some (.a (.g A 129),.none,true)
def Udm(N:Nat):=(Uac 0 (kSeq (veC PZ ng N (cAt bO [1,1,1,1]) (pAt uH [1,1,1,1]) (SV×Eff×Bool)) (finK PZ [] [.cell 6 129])))
theorem Iw(N:Nat)(J L:QA)(O:Int)(A:QA):(Udm N) .normal (Ua2 [4] (Zfk J L O) ([.row A 129]:BS))=uI PZ N J L O A:=by kernel_rfl
theorem Iy(N:Nat)(A J:QA)(L:Int):fb (Uat (λ(U:Int) (O:BS)=>mm PZ ng N (cAt bO [1,1,1,0,1,0,0]) (pAt uH [1,1,1,0,1,0]) 22 [4] [21] [(9,21)] (Zfk A J L) [.i .i64 U] O) ((Uam (num A 0) (num A 1) 36).filter (Zac A)) ([.row (zc PZ 129) 129]:BS)) (λO=>(Udm N) .normal (Ua2 [4] (Zfk A J L) O)) (λe O=>(Udm N) e (Ua2 [4] (Zfk A J L) O))=Ude (Uat (Zi9 PZ A J L) ((Uam (num A 0) (num A 1) 36).filter (Zac A)) (zc PZ 129)) (λx=>uI PZ N A J L x) (λx:Empty=>nomatch x):=by
 refine Ybl Zom uG _ _ (λy t=>Iv N A J L y t) _ (zc PZ 129) _ _ _ _ ?_ ?_
 ·intro x;exact Iw N A J L x
 ·intro x;exact nomatch x
theorem Yk9(N:Nat)(A J:QA)(L:Int):ansV PZ ng N f116 [([],[4])] [.g A 38,.g J 129,.i .i64 L] []=(bif (decide (0<=num A 0)&&decide (num A 0<=6)&&(decide (0<=num A 1)&&decide (num A 1<=6))) then (Ude (Uat (Zi9 PZ A J L) ((Uam (num A 0) (num A 1) 36).filter (Zac A)) (zc PZ 129)) (λx=>uI PZ N A J L x) (λx:Empty=>nomatch x)) else (none)):=by
 conv=>rhs;simp only[<- Iy N A J L]
 kernel_rfl
theorem Iz(a0 a1:QA)(a2:Int)(h_a0:WT PZ 38 a0)(h_a1:WT PZ 129 a1)(h_a2:i64.min<=a2/\a2<=i64.max)(hg:((okS a0&&((decide (0<=tdI a1)&&decide (tdI a1<2))&&(decide (0<=a2)&&decide (a2<5)))))=true):ansV PZ ng 1000 f116 [([],[4])] [.g a0 38,.g a1 129,.i .i64 a2] []=some (.a (.g (Ube PZ a0 a1 a2.toNat) 129),.none,true):=by
 rw[Q7,Q7]at hg;obtain⟨hok,ht,hw5⟩:=hg;simp only[Q7,decide_eq_true_eq]at hw5;obtain⟨w0,w5⟩:=hw5;obtain⟨w,rfl⟩:=Int.eq_ofNat_of_zero_le w0;have hw:w<5:=by omega
 have hdm:=Zxg hok;refine(Yk9 1000 a0 a1 (w:Int)).trans ?_;rw[tO hok,Q1,Q9];have d1:decide (0<=(w:Int))=true:=Q3 (by omega);have d2:decide ((w:Int)<5)=true:=Q3 (by omega);have hT:(i64.wrap (i64.wrap (num a1 0)+i64.wrap (num a1 1))).tmod 2=tdI a1:=rfl;have h:=wp (X:=Empty) (g:=Zi9 PZ a0 a1 (w:Int)) (q:=Zac a0) (Ue9 a0 a1 (tdI a1) w) (wd:=num a0 0) (hi:=num a0 1) (λr k hk hi hq=>by
  have h1:decide ((k:Int)<36)=true:=Q3 (by omega);have h0:decide (0<=(k:Int))=true:=Q3 (by omega);have hmu:i64.wrap (num a1 (3+k*1)*i64.wrap (num a0 (3+(tdI a1).toNat*180+k*5+w*1)))=muF a0 a1 (tdI a1) k w:=by unfold muF pi;rw[Q9,Nat.mul_one w]
  simp only[Zi9,h0,h1,d1,d2,hT,ht,Q9,jA,Q1,hmu];unfold Ue9;cases hl:(Ua1 a0 (k:Int) w != -1) with
  |false=>simp only[Q2];rfl
  | true=>
   have hr:0<=Ua1 a0 (k:Int) w/\Ua1 a0 (k:Int) w<36:=by
    rw[xW hdm hk hi w hw]at hl|-
    exact pk hdm hk hi w hw (by simpa using hl)
   simp only[Q1,cl hr.1 hr.2];rfl) (zc PZ 129)
 rw[h];rfl
def uJ:af:=λargs h=>match args,h with|[.g a0 38,.g a1 129,.i .i64 a2],[]=>some (.a (.g (Ube PZ a0 a1 a2.toNat) 129),.none,(okS a0&&((decide (0<=tdI a1)&&decide (tdI a1<2))&&(decide (0<=a2)&&decide (a2<5)))))|_,_=>none
theorem IA:EntX PZ 116:=Zaj (fn:=f116)
theorem IB:Uad mn PZ 116 uJ:=(ansY (N:=1000) (mKx (Zae Ij) Ii (mKx (Zae Im) Il (mkΓx_nX xJ xK (mkΓx_iX xL xM aS)))) f116 [([],[4])]).of (by
 intro ρ h w args vals r e J Z A;unfold uJ at A;split at A
 ·rename_i O U V;obtain⟨rfl,rfl,L⟩:=ai A;exact Iz O U V (J.wt 0 rfl) (J.wt 1 rfl) (J.rng 2 rfl) L
 ·cases A)
def Zhp(A J:QA):St:=(⟨.a (.g A 38)::.a (.g J 129)::.a (.w 0)::.a (.w 1)::.a (.w 2)::.a (.u)::.a (.i .i64 0)::us 25 ([]),[.row A 38,.row J 129,.row (zc PZ 129) 129],[]⟩:St)
def Zkc:Int×QA->LS
 |(A,J)=>([.a (.i .i64 A)],[.row J 129])
def uK:Int×QA->QP×LS
 |t=>((.exit 0),Zkc t)
def Zdk(P:QD)(L O:QA):Int×QA->Option (Stp (Int×QA) (Int×QA))
 |(A,J)=>bif decide (A<(36:Int)) then (bif decide (0<=A) then (bif (Zad L A) then (bif (decide (0<=A)&&decide (A<36)) then (bif (decide (0<=A)&&decide (A<36)) then (some (.more ((i64.wrap (A+(1:Int))),(J.setIfInBounds (3+((A).toNat*1)) (.int .i64 (i64.wrap ((num J (3+((A).toNat*1)))*(12:Int)))))))) else (none)) else (none)) else (bif (decide (0<=A)&&decide (A<36)) then (some (.more ((i64.wrap (A+(1:Int))),(J.setIfInBounds (3+((A).toNat*1)) (.int .i64 0))))) else (none))) else (none)) else (some (.done (A,J)))
noncomputable abbrev br:=codeOf f106
def uL:=(Uaa br [([6],[1])]).1
theorem Yj1(N:Nat)(A J:QA):∀t:Int×QA,Uaf PZ (mkΓ [(84,con dc)]) N (cAt br [1,0,1,0,0]) (pAt uL [1,0,1,0]) [6] [1] (Zhp A J) (Zkc t)=aa Zkc uK (Zdk PZ A J t):=by
 rintro⟨L,O⟩
 conv=>rhs;simp only[Zdk,aM,aJ,aK,aL,Zkc,uK]
 kernel_rfl
def uM(P:QD)(N:Nat)(L O:QA)(J:Int)(A:QA):Option (SV×Eff×Bool):=some (.a (.g ((A.setIfInBounds 39 (.int .i64 (i64.wrap ((num A 39)*(12:Int))))).setIfInBounds 1 (.int .i8 (IntKind.i8.wrap ((num (A.setIfInBounds 39 (.int .i64 (i64.wrap ((num A 39)*(12:Int))))) 1)+(1:Int))))) 129),.none,true)
def Uf2(N:Nat):=(Uac 0 (kSeq (veC PZ (mkΓ [(84,con dc)]) N (cAt br [1,1]) (pAt uL [1,1]) (SV×Eff×Bool)) (finK PZ [] [.cell 4 129])))
theorem ID(N:Nat)(L O:QA)(A:Int)(J:QA):(Uf2 N) (.exit 0) (left (writes (cAt br [1,0,1,0,0])) [6] [1] (Zhp L O) ([.a (.i .i64 A)],[.row J 129]))=uM PZ N L O A J:=by kernel_rfl
theorem IE(N:Nat)(J A:QA):au (Uab (Uaf PZ (mkΓ [(84,con dc)]) N (cAt br [1,0,1,0,0]) (pAt uL [1,0,1,0]) [6] [1] (Zhp J A)) N ([.a (.i .i64 0)],[.row A 129])) (λe s=>(Uf2 N) e (left (writes (cAt br [1,0,1,0,0])) [6] [1] (Zhp J A) s))=Uah (Uab (Zdk PZ J A) N ((0:Int),A)) (λx=>uM PZ N J A x.1 x.2):=by refine aP Zkc uK _ _ (Yj1 N J A) N ((0:Int),A) _ _ ?_;intro x;exact ID N J A x.1 x.2
theorem Yhm(N:Nat)(J A:QA):ansV PZ (mkΓ [(84,con dc)]) N f106 [([6],[1])] [.g J 38,.g A 129] []=(Uah (Uab (Zdk PZ J A) N ((0:Int),A)) (λx=>uM PZ N J A x.1 x.2)):=by
 conv=>rhs;simp only[<- IE N J A]
 kernel_rfl
theorem IF(A J:QA)(O:WT PZ 38 A)(U:WT PZ 129 J)(Z:(true)=true):ansV PZ (mkΓ [(84,con dc)]) 1000 f106 [([6],[1])] [.g A 38,.g J 129] []=some (.a (.g (Uce A J) 129),.none,true):=by
 refine(Yhm 1000 A J).trans ?_;have h:=iB (g:=Zdk PZ A J) (λr k=>((k:Int),r)) (Uc9 A) (m:=36) (t:=J) (x:=((36:Int),folds (Uc9 A) J 36)) (N:=1000) (λk s hk _=>by
  have L:decide ((k:Int)<36)=true:=Q3 (by omega);have h0:decide (0<=(k:Int))=true:=Q3 (by omega);have V:i64.wrap ((k:Int)+1)=((k+1:Nat):Int):=by rw[aI (by omega)];omega
  unfold Uc9;cases hl:Zad A (k:Int) with
  |false=>simp only[Zdk,L,h0,V,hl,Q9,jA,Q1,Q2]
  |true=>simp only[Zdk,L,h0,V,hl,Q9,jA,Q1,Q2]) (by
  have L:decide (((36:Nat):Int)<36)=false:=by decide
  simp only[Zdk,L,Q2];rfl) (by omega)
 have h':Uab (Zdk PZ A J) 1000 ((0:Int),J)=some ((36:Int),folds (Uc9 A) J 36):=h;rw[h'];rfl
def uN:af:=λargs h=>match args,h with|[.g a0 38,.g a1 129],[]=>some (.a (.g (Uce a0 a1) 129),.none,true)|_,_=>none
theorem IG:EntX PZ 106:=Zaj (fn:=f106)
theorem IH:Uad mn PZ 106 uN:=(ansY (N:=1000) (mKc (Zae iM) iL mKn) f106 [([6],[1])]).of (by
 intro ρ h w args vals r e L V A;unfold uN at A;split at A
 ·rename_i O U;obtain⟨rfl,rfl,J⟩:=ai A;exact IF O U (L.wt 0 rfl) (L.wt 1 rfl) J
 ·cases A)
def Zgj(J A:QA):St:=(⟨.a (.g J 129)::.a (.g A 129)::.a (.w 0)::.a (.w 1)::.a (.w 2)::.a (.u)::.a (.u)::.a (.p 0 (2) 2)::.a (.i .i64 (num J 2))::.a (.p 1 (2) 2)::.a (.i .i64 (num A 2))::.a (.i .i64 (i64.wrap ((num J 2)+(num A 2))))::.a (.p 0 (2) 2)::.a (.p 1 (3) 97)::.a (.g (A.extract 3 (3+36)) 97)::.a (.i .i64 0)::us 19 ([]),[.row (J.setIfInBounds 2 (.int .i64 (i64.wrap ((num J 2)+(num A 2))))) 129,.row A 129,.row (zc PZ 129) 129],[0]⟩:St)
def Zi0:Int×QA->LS
 |(A,J)=>([.a (.i .i64 A)],[.row J 129])
def uO:Int×QA->QP×LS
 |t=>((.exit 0),Zi0 t)
def Zc6(P:QD)(O L:QA):Int×QA->Option (Stp (Int×QA) (Int×QA))
 |(A,J)=>bif decide (A<(36:Int)) then (bif (decide (0<=A)&&decide (A<36)) then (bif (decide (0<=A)&&decide (A<36)) then (bif (decide (0<=A)&&decide (A<36)) then (some (.more ((i64.wrap (A+(1:Int))),(J.setIfInBounds (3+((A).toNat*1)) (.int .i64 (i64.wrap ((num J (3+((A).toNat*1)))+(num (L.extract 3 (3+36)) ((A).toNat*1))))))))) else (none)) else (none)) else (none)) else (some (.done (A,J)))
noncomputable abbrev bt:=codeOf f107
def uP:=(Uaa bt [([15],[0])]).1
theorem Yg3(N:Nat)(J L:QA):∀t:Int×QA,Uaf PZ (mkΓ []) N (cAt bt [1,1,0,1,0,0]) (pAt uP [1,1,0,1,0]) [15] [0] (Zgj J L) (Zi0 t)=aa Zi0 uO (Zc6 PZ J L t):=by
 rintro⟨A,O⟩
 conv=>rhs;simp only[Zc6,aM,aJ,aK,aL,Zi0,uO]
 kernel_rfl
def uQ(P:QD)(N:Nat)(O L:QA)(J:Int)(A:QA):Option (SV×Eff×Bool):=some (.a (.g (A.setIfInBounds 39 (.int .i64 (i64.wrap ((num A 39)+(num L 39))))) 129),.none,true)
def Ufw(N:Nat):=(Uac 0 (kSeq (veC PZ (mkΓ []) N (cAt bt [1,1,1]) (pAt uP [1,1,1]) (SV×Eff×Bool)) (finK PZ [] [.cell 4 129])))
theorem II(N:Nat)(L O:QA)(A:Int)(J:QA):(Ufw N) (.exit 0) (left (writes (cAt bt [1,1,0,1,0,0])) [15] [0] (Zgj L O) ([.a (.i .i64 A)],[.row J 129]))=uQ PZ N L O A J:=by kernel_rfl
theorem IJ(N:Nat)(A J:QA):au (Uab (Uaf PZ (mkΓ []) N (cAt bt [1,1,0,1,0,0]) (pAt uP [1,1,0,1,0]) [15] [0] (Zgj A J)) N ([.a (.i .i64 0)],[.row (A.setIfInBounds 2 (.int .i64 (i64.wrap ((num A 2)+(num J 2))))) 129])) (λe s=>(Ufw N) e (left (writes (cAt bt [1,1,0,1,0,0])) [15] [0] (Zgj A J) s))=Uah (Uab (Zc6 PZ A J) N ((0:Int),(A.setIfInBounds 2 (.int .i64 (i64.wrap ((num A 2)+(num J 2))))))) (λx=>uQ PZ N A J x.1 x.2):=by refine aP Zi0 uO _ _ (Yg3 N A J) N ((0:Int),(A.setIfInBounds 2 (.int .i64 (i64.wrap ((num A 2)+(num J 2)))))) _ _ ?_;intro x;exact II N A J x.1 x.2
theorem Yfp(N:Nat)(A J:QA):ansV PZ (mkΓ []) N f107 [([15],[0])] [.g A 129,.g J 129] []=(Uah (Uab (Zc6 PZ A J) N ((0:Int),(A.setIfInBounds 2 (.int .i64 (i64.wrap ((num A 2)+(num J 2))))))) (λx=>uQ PZ N A J x.1 x.2)):=by
 conv=>rhs;simp only[<- IJ N A J]
 kernel_rfl
theorem IK(J A:QA)(U:WT PZ 129 J)(L:WT PZ 129 A)(hg:(true)=true):ansV PZ (mkΓ []) 1000 f107 [([15],[0])] [.g J 129,.g A 129] []=some (.a (.g (togV J A) 129),.none,true):=by
 have V:A.size=40:=by rw[L.layLen];kernel_rfl
 refine(Yfp 1000 J A).trans ?_;have h:=iB (g:=Zc6 PZ J A) (λr k=>((k:Int),r)) (togF A) (m:=36) (t:=adN J 2 (num A 2)) (x:=((36:Int),folds (togF A) (adN J 2 (num A 2)) 36)) (N:=1000) (λk s hk _=>by
  have O:decide ((k:Int)<36)=true:=Q3 (by omega);have h0:decide (0<=(k:Int))=true:=Q3 (by omega);have Z:i64.wrap ((k:Int)+1)=((k+1:Nat):Int):=by rw[aI (by omega)];omega
  have h5:=dI (T:=0) V k hk;simp only[Zc6,O,h0,Z,Q9,jA,Q1,h5];rfl) (by
  have O:decide (((36:Nat):Int)<36)=false:=by decide
  simp only[Zc6,O,Q2];rfl) (by omega)
 have h':Uab (Zc6 PZ J A) 1000 ((0:Int),adN J 2 (num A 2))=some ((36:Int),folds (togF A) (adN J 2 (num A 2)) 36):=h
 show Uah (Uab (Zc6 PZ J A) 1000 ((0:Int),adN J 2 (num A 2))) _=_
 rw[h'];unfold togV;generalize folds (togF A) (adN J 2 (num A 2)) 36=q;rfl
def uR:af:=λargs h=>match args,h with|[.g a0 129,.g a1 129],[]=>some (.a (.g (togV a0 a1) 129),.none,true)|_,_=>none
theorem IL:EntX PZ 107:=Zaj (fn:=f107)
theorem IM:Uad mn PZ 107 uR:=(ansY (N:=1000) mKn f107 [([15],[0])]).of (by
 intro ρ h w args vals r e L V A;unfold uR at A;split at A
 ·rename_i O U;obtain⟨rfl,rfl,J⟩:=ai A;exact IK O U (L.wt 0 rfl) (L.wt 1 rfl) J
 ·cases A)
end
noncomputable section
variable {mn:Md}
theorem wt_adN{r:QA}{i:Nat}{m:Int}(h:WT PZ 129 r)(hi:(lay PZ 129)[i]?=some 3):WT PZ 129 (adN r i m):=by
 have O:=h.layLen;unfold adN;constructor
 ·rw[jS,List.map_set,h.1];refine List.ext_getElem? λj=> ?_
  by_cases A:i=j
  ·subst A;rw[jQ (jO.1 hi).1,hi];rfl
  ·rw[List.getElem?_set_ne A]
 ·intro v J;rw[jS]at J;rcases List.mem_or_eq_of_mem_set J with L|rfl
  ·exact h.2 v L
  ·exact Zhx .i64 _
abbrev nh:Cons:=mkΓ [(116,con uJ)]
theorem fZ:ConsOkX mn PZ (Ual mn PZ) nh:=mKc (Zae IB) IA mKn
abbrev Ue4:Array Oper:=(regs (codeOf f115)).getD 0 #[]
def lG(S X:QA):Bool:=okS S&&(decide (0<=tdI X)&&decide (tdI X<2))
theorem kw{S X:QA}(hS:WT PZ 38 S)(hX:WT PZ 129 X)(hG:lG S X=true){w:Nat}(hw:w<5){bc bs bx bw c:Nat}{G₁:Gh}{w₁:QB}(hfit:Fit G₁ w₁)(hF:G₁.F=λ_=>none)
  (h0:∃fr,(view G₁ w₁).heap[bc]?=some (.cells #[.chan (some c)] 155 fr)) (h1:∃fr,(view G₁ w₁).heap[bs]?=some (.cells S 38 fr)) (h2:∃fr,(view G₁ w₁).heap[bx]?=some (.cells X 129 fr))
  (h3:∃fr,(view G₁ w₁).heap[bw]?=some (.cells #[.int .i64 w] 3 fr)) {d:Deferred} (hd:d={ target:=.fn (.func 115) #[.pointer (some ⟨bc,0,none⟩),.pointer (some ⟨bs,0,none⟩),.pointer (some ⟨bx,0,none⟩),.pointer (some ⟨bw,0,none⟩)],args:=#[] }) :
  GoW PZ c (.agg (Ube PZ S X w)) G₁ w₁ (Udn PZ d):=by
 subst hd;have hi:∀W,(invoke (.fn (.func 115) #[.pointer (some ⟨bc,0,none⟩),.pointer (some ⟨bs,0,none⟩),.pointer (some ⟨bx,0,none⟩),.pointer (some ⟨bw,0,none⟩)]) #[]).runT PZ W #[]=(.ok (.enter 115 #[.pointer (some ⟨bc,0,none⟩),.pointer (some ⟨bs,0,none⟩),.pointer (some ⟨bx,0,none⟩),.pointer (some ⟨bw,0,none⟩)]) W,#[]):=λW=>by
  have:=Yvb (P:=PZ) (f:=115) (fn:=f115) (by kernel_rfl) (by kernel_rfl) (by kernel_rfl) #[] #[.pointer (some ⟨bc,0,none⟩),.pointer (some ⟨bs,0,none⟩),.pointer (some ⟨bx,0,none⟩),.pointer (some ⟨bw,0,none⟩)] W
  rwa [Array.empty_append]at this
 refine JN (s:=5) (z:=.tuple #[]) (ops:=Ue4) (o:=Ue4.getD 5 default) Tryz.func115 rfl rfl (by kernel_rfl) rfl (λo ho=> ?_) (by kernel_rfl) ⟨_,_,rfl⟩ hi hfit hF rfl (λc hc=>by cases hc) ?_
 ·have:Ue4.all (λo=>o.guard.isNone)=true:=by kernel_rfl
  simpa using Array.all_eq_true'.1 this o ho
 have hw0:decide (0<=((w:Nat):Int))=true:=Q3 (by omega);have hw1:decide (((w:Nat):Int)<5)=true:=Q3 (by omega);have hr:mc PZ nh Ue4.pop true ⟨[.a (.q 0 0 155),.a (.q 1 0 38),.a (.q 2 0 129),.a (.q 3 0 3)]++us 5 [],Uec [(bc,#[.chan (some c)],155),(bs,S,38),(bx,X,129),(bw,#[.int .i64 w],3)],[]⟩ (λst=>some (st.s.getD 4 (.a .x),st.s.getD 8 (.a .x))) =
   (bif okS (S.extract 0 (0+363))&&((decide (0<=tdI (X.extract 0 (0+40)))&&decide (tdI (X.extract 0 (0+40))<2))&&(decide (0<=((w:Nat):Int))&&decide (((w:Nat):Int)<5))) then some (.a (.v (.chan (some c))),.a (.g (Ube PZ (S.extract 0 (0+363)) (X.extract 0 (0+40)) w) 129)) else none):=by kernel_rfl
 have eS:S.extract 0 (0+363)=S:=by have:=xS hS;rw[Nat.zero_add,<- this];simp
 have eX:X.extract 0 (0+40)=X:=by
  have:X.size=40:=by rw[hX.layLen];kernel_rfl
  rw[Nat.zero_add,<- this];simp
 have hG':=hG;unfold lG at hG';rw[Q7]at hG';rw[eS,eX,hG'.1,hG'.2,hw0,hw1]at hr;simp only[jA,Q1]at hr;have hl:∀x∈[(bc,#[.chan (some c)],155),(bs,S,38),(bx,X,129),(bw,#[.int .i64 w],3)],(∃fr,(view G₁ w₁).heap[x.1]?=some (.cells x.2.1 x.2.2 fr))/\WT PZ x.2.2 x.2.1:=by
  intro x hx;simp only[List.mem_cons,List.not_mem_nil,or_false]at hx;rcases hx with rfl|rfl|rfl|rfl
  ·exact⟨h0,iY (by kernel_rfl) trivial⟩
  ·exact⟨h1,hS⟩
  ·exact⟨h2,hX⟩
  ·exact⟨h3,iY (by kernel_rfl) (by
    have e1:i64.min=-9223372036854775808:=rfl;have e2:i64.max=9223372036854775807:=rfl;constructor<;>omega)⟩
 have hR:=kL (P:=PZ) (v:=view G₁ w₁) (l:=[(bc,#[.chan (some c)],155),(bs,S,38),(bx,X,129),(bw,#[.int .i64 w],3)]) (λx hx=>(hl x hx).1) (λx hx=>(hl x hx).2)
  (s:=[.a (.q 0 0 155),.a (.q 1 0 38),.a (.q 2 0 129),.a (.q 3 0 3)]++us 5 []) (a:={ tmps:=#[.pointer (some ⟨bc,0,none⟩),.pointer (some ⟨bs,0,none⟩),.pointer (some ⟨bx,0,none⟩),.pointer (some ⟨bw,0,none⟩)]++jM 5 undef,defers:=[] }) rfl (fun i y hy=>by
   match i,hy with
   |0,hy=>cases hy;exact pI rfl (of_decide_eq_true (by kernel_rfl))
   |1,hy=>cases hy;exact pI rfl (of_decide_eq_true (by kernel_rfl))
   |2,hy=>cases hy;exact pI rfl (of_decide_eq_true (by kernel_rfl))
   |3,hy=>cases hy;exact pI rfl (of_decide_eq_true (by kernel_rfl))
   |4,hy=>cases hy;rfl
   |5,hy=>cases hy;rfl
   |6,hy=>cases hy;rfl
   |7,hy=>cases hy;rfl
   |8,hy=>cases hy;rfl
   |_+9,hy=>simp[us]at hy) rfl
 have hA:=JZ (mn:=Uf1) (P:=PZ) fZ hR hr (K':=λa v=>a.tmps.getD 4 undef=.chan (some c)/\a.tmps.getD 8 undef=.agg (Ube PZ S X w)) λρ' st' a' w' hk hR'=>by
  have hk:=Q5 hk;have k4:=getD_some (congrArg Prod.fst hk) (by intro h;cases h);have k8:=getD_some (congrArg Prod.snd hk) (by intro h;cases h);exact⟨hR'.slots 4 _ k4,(hR'.slots 8 _ k8:Is _ _ _ (.g _ _) _).1⟩
 refine yX ?_ _ _ _ _ (Yj7 _ _ _ _ hA);rintro a' v' ⟨⟨k4,k8⟩,hd⟩;refine⟨hd,λW=> ?_⟩;have e:execOp a'.eval (Ue4.getD 5 default)=Pure.pure (.comm #[{ chan:=a'.tmps.getD 4 undef,send:=some (a'.tmps.getD 8 undef),zero:=.tuple #[] }] true .send):=rfl;rw[e,k4,k8];rfl
def flA(cs:List Nat):QA:=((cs.map λc=>Value.chan (some c))++List.replicate (5 - cs.length) (Value.chan none)).toArray
theorem ga{cs:List Nat}(h:cs.length<5)(c:Nat):(flA cs).setIfInBounds (cs.length*1) (.chan (some c))=flA (cs++[c]):=by
 unfold flA;obtain⟨n,A⟩:∃n,5 - cs.length=n+1:=⟨5 - cs.length - 1,by omega⟩;have h2:5 - (cs++[c]).length=n:=by simp;omega
 rw[h2,A,List.setIfInBounds_toArray,Nat.mul_one,List.replicate_succ,List.map_append,List.set_append_right _ _ (by simp)];simp
structure Prom (S X:QA) (v:QB) (F:Vc.Fd) (cs:List Nat) (F':Vc.Fd):Prop where
 nd:cs.Nodup
 new:∀c∈cs,v.heap.size<=c
 was:∀c∈cs,F c=none
 yes:∀i c,cs[i]?=some c->F' c=some (.agg (Ube PZ S X i))
 no:∀k,k ∉ cs->F' k=F k
def sfS(bs bx:Nat)(i:Int):List SV:=xs 2 (slP bs::slP bx::.a (.w 2)::.a (.w 3)::xs 2 (.a (.i .i64 i)::xs 9 []))
def sfH(cs:List Nat):List VB:=[.no,.no,.row (zc PZ 156) 156,.row (flA cs) 156]
structure SfI (S X:QA) (v:QB) (F:Vc.Fd) (bs bx:Nat) (cs:List Nat) (ρ:Nat->Ad) (a:Act) (w:QB) (F':Vc.Fd):Prop where
 rr:RR PZ v ρ (sfS bs bx cs.length) (sfH cs) a w
 s:∃fr,w.heap[bs]?=some (.cells S 38 fr)
 x:∃fr,w.heap[bx]?=some (.cells X 129 fr)
 ns:v.heap.size<=bs
 nx:v.heap.size<=bx
 lt:∀c∈cs,c<w.heap.size
 pr:Prom S X v F cs F'
variable {F0:Vc.Fd}
theorem bi:ConsOkX mn PZ (Ual mn PZ) (mkΓ []):=mKn
set_option maxHeartbeats 2000000 in
theorem Yp7{S X:QA}(hS:WT PZ 38 S)(hX:WT PZ 129 X)(hG:lG S X=true)(v:QB)(F:Vc.Fd):
  Udr PZ 105 #[.agg S,.agg X] v F λr v' F'=>∃cs:List Nat,cs.length=5/\r=.agg (flA cs)/\Prom S X v F cs F'/\Kept (λ_=>False) v v':=by
 refine Yr1 (c:=codeOf f105) Tryz.func105 rfl ?_;have h0:S0 PZ (.a (.v (.agg S))::.a (.v (.agg X))::us 16 []) { tmps:=#[.agg S,.agg X]++jM 16 undef,defers:=[] }:=S0.enter [.agg S,.agg X] 16;have h0:=(h0.set (i:=0) (y:=.a (.g S 38)) ⟨h0.val (i:=0) rfl,hS⟩).set (i:=1) (y:=.a (.g X 129)) ⟨h0.val (i:=1) rfl,hX⟩;refine Zeb (Zdo bi (h0.rr v) 3 (kS:=[2,3,4]) (kH:=[0,1,2]) (dd:=[]) (nS:=18) (nH:=3) (s':=xs 2 (.a (.w 0)::.a (.w 1)::.a (.w 2)::xs 13 [])) (h':=[.row S 38,.row X 129,.row (zc PZ 156) 156]) rfl (by kernel_rfl) λρ1 a1 v1 hR1 hw1=> ?_);refine Zeb (Zdo bi hR1 1 (kS:=[2,3,4,5]) (kH:=[0,1,2,3]) (dd:=[]) (nS:=18) (nH:=4) (s':=xs 2 (.a (.w 0)::.a (.w 1)::.a (.w 2)::.a (.w 3)::xs 12 [])) (h':=[.row S 38,.row X 129,.row (zc PZ 156) 156,.row (flA []) 156]) rfl (by kernel_rfl) λρ2 a2 v2 hR2 hw2=> ?_);refine Zeb (Zeb (Zdo bi hR2 0 (kS:=[2,3,4,5,8]) (kH:=[0,1,2,3]) (dd:=[]) (nS:=18) (nH:=4) (s':=xs 2 (.a (.w 0)::.a (.w 1)::.a (.w 2)::.a (.w 3)::xs 2 (.a (.i .i64 0)::xs 9 []))) (h':=[.row S 38,.row X 129,.row (zc PZ 156) 156,.row (flA []) 156]) rfl (by kernel_rfl) λρ3 a3 v3 hR3 hw3=> ?_));clear hR1 hR2 hw1 hw2 hw3 h0;obtain⟨hbs,-,hns⟩:=hR3.row (n:=0) rfl;obtain⟨hbx,-,hnx⟩:=hR3.row (n:=1) rfl;have e2:=(hR3.val (i:=2) rfl:Is _ _ _ (.w 0) _).1;have e3:=(hR3.val (i:=3) rfl:Is _ _ _ (.w 1) _).1
 have hR4:=((hR3.lose (E:=λ_=>False) (Kept.refl _ _) (λ_ h=>h.elim) [4,5,8] [2,3] 4 rfl (by kernel_rfl) (λ_ _ _ _ _ h=>h)).set (i:=2) (y:=slP (ρ3 0).a) e2).set (i:=3) (y:=slP (ρ3 1).a) e3;have hI:SfI S X v F (ρ3 0).a (ρ3 1).a [] ρ3 a3 v3 F:=⟨hR4,⟨_,hbs⟩,⟨_,hbx⟩,hns,hnx,λ_ h=>(by cases h),⟨List.nodup_nil,λ_ h=>(by cases h),λ_ h=>(by cases h),λi c h=>(by simp at h),λ_ _=>rfl⟩⟩;clear hR4 hR3 hbs hbx hns hnx e2 e3;generalize (ρ3 0).a=bs at hI;generalize (ρ3 1).a=bx at hI;refine Yda (Zw0 6 ?_);refine(?_:∀(d:Nat) (cs:List Nat) (ρ:Nat->Ad) (a:Act) (w:QB) (F':Vc.Fd),cs.length+d=5->SfI S X v F bs bx cs ρ a w F'->Udk none PZ _ _ (d+1) a w F') 5 [] ρ3 a3 v3 F rfl hI;clear hI;intro d
 induction d with
 |zero=>
  intro cs ρ a w F' hd hI;have h5:cs.length=5:=by omega
  have hR:=hI.rr;refine Zeb (Zdo bi hR 0 (kS:=[4,5,9]) (kH:=[2,3]) (dd:=[]) (nS:=18) (nH:=4) (s':=xs 4 (.a (.w 2)::.a (.w 3)::xs 3 (.a (.b (decide ((cs.length:Int)<5)))::xs 8 []))) (h':=sfH cs) rfl (by kernel_rfl) λρ1 a1 w1 hR1 hw1=> ?_);refine Zeb (Zw3 (t:=false) (by rw[show a1.eval (.tmp 9)=.bool (decide ((cs.length:Int)<5)) from hR1.val (i:=9) rfl,Q4 (by omega)]) (Yux ?_));refine Zeb (Zdo bi hR1 0 (kS:=[4]) (kH:=[2]) (dd:=[2]) (nS:=18) (nH:=3) (s':=xs 4 (.a (.w 2)::xs 13 [])) (h':=[.no,.no,.row (flA cs) 156]) rfl (by kernel_rfl) λρ2 a2 w2 hR2 hw2=>yL ?_);refine⟨.inr rfl,hR2.defers,λv₁ hg=> ?_⟩;obtain⟨r,q1,q2⟩:=hR2.result (fn:=f105) (y:=.g (flA cs) 156) (by kernel_rfl) v₁ hg;exact⟨r,q1,cs,h5,q2.1,hI.pr,hR2.kept.trans (.of_below hg)⟩
 | succ d ih=>
  intro cs ρ a w F' hd hI;have hlt:cs.length<5:=by omega
  have hR:=hI.rr;have i0:decide (0<=((cs.length:Nat):Int))=true:=Q3 (by omega);have i5:decide (((cs.length:Nat):Int)<5)=true:=Q3 (by omega);obtain⟨frs,hs⟩:=hI.s;obtain⟨frx,hx⟩:=hI.x;have tS:∀(C:QA) (t:QE),t=156->Obj.cells S 38 frs ≠ .cells C t (0,0):=λC t ht e=>by
   have:=(Obj.cells.inj e).2.1;rw[ht]at this;exact absurd this (by decide)
  have tX:∀(C:QA) (t:QE),t=156->Obj.cells X 129 frx ≠ .cells C t (0,0):=λC t ht e=>by
   have:=(Obj.cells.inj e).2.1;rw[ht]at this;exact absurd this (by decide)
  refine Zeb (Zdo bi hR 0 (kS:=[2,3,4,5,8,9]) (kH:=[2,3]) (dd:=[]) (nS:=18) (nH:=4) (s':=xs 2 (slP bs::slP bx::.a (.w 2)::.a (.w 3)::xs 2 (.a (.i .i64 cs.length)::.a (.b (decide ((cs.length:Int)<5)))::xs 8 []))) (h':=sfH cs) rfl (by kernel_rfl) λρ1 a1 w1 hR1 hw1=> ?_);have hg1:=Zol hw1;refine Zeb (Zw3 (t:=true) (by rw[show a1.eval (.tmp 9)=.bool (decide ((cs.length:Int)<5)) from hR1.val (i:=9) rfl,i5]) (Ypw ?_));refine Zeb (Yda ?_);refine Zeb (Zdo bi hR1 3 (kS:=[2,3,4,5,6,8]) (kH:=[2,3,5]) (dd:=[]) (nS:=18) (nH:=6) (s':=xs 2 (slP bs::slP bx::.a (.w 2)::.a (.w 3)::.a (.w 5)::.a .x::.a (.i .i64 cs.length)::xs 9 [])) (h':=[.no,.no,.row (zc PZ 156) 156,.row (flA cs) 156,.no,.row #[.int .i64 cs.length] 3]) rfl (by kernel_rfl) λρ2 a2 w2 hR2 hw2=> ?_);have hg2:=hg1.trans (Zol hw2);refine Zeb (Zxb ?_)
  show OpsF _ _ _ (0::(jC 1 2++[])) _ _ _
  refine nz (i:=0) rfl rfl (Yxj (Yqf (k:=.i64) (e:=129) (dir:=.both) rfl rfl (by kernel_rfl) (by kernel_rfl) λw3 hg3=> ?_));have hcc:=World.alloc_heap_new w3 (.chan 0 #[] false 0 0 false);have hgc:=Ypi w3 (.chan 0 #[] false 0 0 false);have hR3:=((hR2.ge hg3).ge hgc).put 11 (y:=.a (.v (.chan (some w3.heap.size)))) (vv:=.chan (some w3.heap.size)) rfl;have hs3:=geAt (hg2.trans (hg3.trans hgc)) hs;have hx3:=geAt (hg2.trans (hg3.trans hgc)) hx;have hlc:∀c∈cs,c<w3.heap.size:=λc hc=>Nat.lt_of_lt_of_le (hI.lt c hc) (hg2.trans hg3).size
  have hvc:v.heap.size<=w3.heap.size:=(hR2.ge hg3).kept.size;have hsz:w3.heap.size<(w3.alloc (.chan 0 #[] false 0 0 false)).heap.size:=(jP.1 hcc).1;generalize w3.alloc (.chan 0 #[] false 0 0 false)=w4 at hcc hgc hR3 hs3 hx3 hsz;generalize w3.heap.size=cc at hcc hR3 hlc hvc hsz;refine nC bi hR3 1 2 rfl (kS:=[2,3,4,5,6,7,8]) (kH:=[2,3,5,7]) (dd:=[]) (nS:=18) (nH:=8) 3 (s':=xs 2 (slP bs::slP bx::.a (.w 2)::.a (.w 3)::.a (.w 5)::.a (.w 7)::.a (.i .i64 cs.length)::xs 9 [])) (h':=[.no,.no,.row (zc PZ 156) 156,.row (flA cs) 156,.no,.row #[.int .i64 cs.length] 3,.no,.row #[.chan (some cc)] 155]) rfl (by kernel_rfl) λρ5 a5 w5 hR5 hw5=> ?_
  have hg5:=Zol hw5;have hs5:=geAt hg5 hs3;have hx5:=geAt hg5 hx3;have hc5:=geAt hg5 hcc;refine Zeb (Zdo bi hR5 0 (kS:=[2,3,4,5,6,7,8]) (kH:=[2,3,5,7]) (dd:=[3]) (nS:=18) (nH:=8) (s':=xs 2 (slP bs::slP bx::.a (.w 2)::.a (.w 3)::.a (.w 5)::.a (.w 7)::.a (.i .i64 cs.length)::xs 9 [])) (h':=[.no,.no,.row (zc PZ 156) 156,.row (flA (cs++[cc])) 156,.no,.row #[.int .i64 cs.length] 3,.no,.row #[.chan (some cc)] 155]) rfl (by
   refine Eq.trans (b:=bif (decide (0<=((cs.length:Nat):Int))&&decide (((cs.length:Nat):Int)<5)) then some (xs 2 (slP bs::slP bx::.a (.w 2)::.a (.w 3)::.a (.w 5)::.a (.w 7)::.a (.i .i64 cs.length)::xs 9 []),[.no,.no,.row (zc PZ 156) 156,.row ((flA cs).setIfInBounds (cs.length*1) (.chan (some cc))) 156,.no,.row #[.int .i64 cs.length] 3,.no,.row #[.chan (some cc)] 155]) else none) (by kernel_rfl) ?_;rw[i0,i5,ga hlt];rfl) λρ6 a6 w6 hR6 hw6=> ?_)
  have only3:∀(n:Nat) (C:QA) (t:QE),n∈[3]->([.no,.no,.row (zc PZ 156) 156,.row (flA cs) 156,.no,.row #[.int .i64 cs.length] 3,.no,.row #[.chan (some cc)] 155]:List VB)[n]?=some (.row C t)->t=156:=λn C t hn e=>by
   obtain rfl:=jJ.1 hn;cases e;rfl
  have hs6:=hw6.keep hR5 hs5 λn C t hn e=>tS C t (only3 n C t hn e)
  have hx6:=hw6.keep hR5 hx5 λn C t hn e=>tX C t (only3 n C t hn e)
  have hc6:=hw6.keep hR5 hc5 λn C t hn e=>by intro h;cases h
  obtain⟨hb7,-,hn7⟩:=hR6.row (n:=7) rfl;obtain⟨hb5,-,hn5⟩:=hR6.row (n:=5) rfl;have f7:=(hR6.val (i:=7) rfl:Is _ _ _ (.w 7) _).1;have f6:=(hR6.val (i:=6) rfl:Is _ _ _ (.w 5) _).1;have f2:a6.eval (.tmp 2)=.pointer (some ⟨bs,0,none⟩):=hR6.val (i:=2) rfl;have f3:a6.eval (.tmp 3)=.pointer (some ⟨bx,0,none⟩):=hR6.val (i:=3) rfl;have sep:∀(n:Nat) (C:QA),([.no,.no,.row (zc PZ 156) 156,.row (flA (cs++[cc])) 156,.no,.row #[.int .i64 cs.length] 3,.no,.row #[.chan (some cc)] 155]:List VB)[n]?=some (.row C 156)->(ρ6 n).a≠cc/\(ρ6 n).a≠(ρ6 7).a/\(ρ6 n).a≠bs/\(ρ6 n).a≠bx/\(ρ6 n).a≠(ρ6 5).a:=λn C e=>by
   have h1:=(hR6.row (n:=n) e).1;refine⟨λe'=> ?_,λe'=> ?_,λe'=> ?_,λe'=> ?_,λe'=> ?_⟩
   ·rw[e',hc6]at h1;cases h1
   ·rw[e',hb7]at h1;exact absurd (Obj.cells.inj (Q5 h1)).2.1 (by decide)
   ·rw[e',hs6]at h1;exact absurd (Obj.cells.inj (Q5 h1)).2.1 (by decide)
   ·rw[e',hx6]at h1;exact absurd (Obj.cells.inj (Q5 h1)).2.1 (by decide)
   ·rw[e',hb5]at h1;exact absurd (Obj.cells.inj (Q5 h1)).2.1 (by decide)
  refine Zxb ?_
  show OpsF _ _ _ [0,1] _ _ _
  refine nz (i:=0) rfl rfl (Yxj (Yrk rfl (A:=#[]) (by simp) (B:=#[.pointer (some ⟨(ρ6 7).a,0,none⟩),.pointer (some ⟨bs,0,none⟩),.pointer (some ⟨bx,0,none⟩),.pointer (some ⟨(ρ6 5).a,0,none⟩)]) (by simp[f7,f2,f3,f6]) λw7 hg7=> ?_));have hR7:=(hR6.ge hg7).put 15 (y:=.a (.v (.func (.func 115) #[] #[.pointer (some ⟨(ρ6 7).a,0,none⟩),.pointer (some ⟨bs,0,none⟩),.pointer (some ⟨bx,0,none⟩),.pointer (some ⟨(ρ6 5).a,0,none⟩)]))) (vv:=.func (.func 115) #[] #[.pointer (some ⟨(ρ6 7).a,0,none⟩),.pointer (some ⟨bs,0,none⟩),.pointer (some ⟨bx,0,none⟩),.pointer (some ⟨(ρ6 5).a,0,none⟩)]) rfl;have hs7:=geAt hg7 hs6;have hx7:=geAt hg7 hx6;have hb7:=geAt hg7 hb7;have hb5:=geAt hg7 hb5;have nS:S≠#[]:=λe=>by have:=xS hS;rw[e]at this;simp at this
  have nX:X≠#[]:=λe=>by
   have:X.size=40:=by rw[hX.layLen];kernel_rfl
   rw[e]at this;simp at this
  refine nz (i:=1) rfl rfl (opF_go (c:=cc) (val:=.agg (Ube PZ S X cs.length)) (L:=λk=>k=(ρ6 7).a\/k=bs\/k=bx\/k=(ρ6 5).a) (λc hc=>by cases hc) (by intro h;cases h) (run_go rfl rfl (hR7.val (i:=15) rfl)) ⟨0,false,geAt hg7 hc6⟩ (λk hk=> ?_) (λG₁ w₁ hfit hF hsee=> ?_) λw8 hFc hk8 hsee8=> ?_)
  ·rcases hk with rfl|rfl|rfl|rfl
   ·exact⟨_,_,_,by simp,hb7⟩
   ·exact⟨_,_,_,nS,hs7⟩
   ·exact⟨_,_,_,nX,hx7⟩
   ·exact⟨_,_,_,by simp,hb5⟩
  ·exact kw hS hX hG hlt hfit hF (hsee _ _ _ _ (.inl rfl) hb7) (hsee _ _ _ _ (.inr (.inl rfl)) hs7) (hsee _ _ _ _ (.inr (.inr (.inl rfl))) hx7) (hsee _ _ _ _ (.inr (.inr (.inr rfl))) hb5) (by simp)
  have hR8:=hR7.lose hk8 (λk hk=>by
   rcases hk with rfl|rfl|rfl|rfl|rfl
   ·exact hvc
   ·exact hn7
   ·exact hI.ns
   ·exact hI.nx
   ·exact hn5) [2,3,4,5,8] [2,3] 4 rfl (by kernel_rfl) (λn C t hn e he=>by
   have ht:t=156:=by simp only[List.mem_cons,List.not_mem_nil,or_false]at hn;rcases hn with rfl|rfl<;>(cases e;rfl)
   subst ht;obtain⟨q1,q2,q3,q4,q5⟩:=sep n C e;rcases he with he|he|he|he|he
   ·exact q1 he
   ·exact q2 he
   ·exact q3 he
   ·exact q4 he
   ·exact q5 he)
  obtain⟨frs8,hs8⟩:=hsee8 _ _ _ _ (.inr (.inl rfl)) hs7;obtain⟨frx8,hx8⟩:=hsee8 _ _ _ _ (.inr (.inr (.inl rfl))) hx7;have hz8:cc<w8.heap.size:=Nat.lt_of_lt_of_le (Nat.lt_of_lt_of_le hsz (jE hg5.size hw6.1.size)) (jE hg7.size hk8.size);refine Zdo bi hR8 0 (kS:=[2,3,4,5,8]) (kH:=[2,3]) (dd:=[]) (nS:=18) (nH:=4) (s':=sfS bs bx (i64.wrap ((cs.length:Int)+1))) (h':=sfH (cs++[cc])) rfl (by kernel_rfl) λρ9 a9 w9 hR9 hw9=> ?_
  have hg9:=Zol hw9;rw[show i64.wrap ((cs.length:Int)+1)=(((cs++[cc]).length:Nat):Int) by rw[aI (by omega)];simp]at hR9;have hnc:cc ∉ cs:=λh=>by have:=hlc cc h;omega
  refine ih (cs++[cc]) ρ9 a9 w9 _ (by simp;omega) ⟨hR9,⟨_,geAt hg9 hs8⟩,⟨_,geAt hg9 hx8⟩,hI.ns,hI.nx,λc hc=> ?_,⟨?_,λc hc=> ?_,λc hc=> ?_,λi c hi=> ?_,λk hk=> ?_⟩⟩
  ·rcases List.mem_append.1 hc with h|h
   ·have:=hlc c h;have:=hg9.size;omega
   ·rw[jJ.1 h];have:=hg9.size;omega
  ·rw[List.nodup_append];exact⟨hI.pr.nd,by simp,λx hx y hy=>by rw[jJ.1 hy];rintro rfl;exact hnc hx⟩
  ·rcases List.mem_append.1 hc with h|h
   ·exact hI.pr.new c h
   ·rw[jJ.1 h];exact hvc
  ·rcases List.mem_append.1 hc with h|h
   ·exact hI.pr.was c h
   ·rw[jJ.1 h,<- hI.pr.no cc hnc];exact hFc
  ·(try dsimp only)
   by_cases hi':i<cs.length
   ·rw[List.getElem?_append_left hi']at hi;rw[if_neg (λe=>hnc (by rw[<- e];exact List.mem_of_getElem? hi))];exact hI.pr.yes i c hi
   ·rw[List.getElem?_append_right (by omega)]at hi;cases hj:i - cs.length with
    |zero=>
     rw[hj]at hi;simp only[List.getElem?_cons_zero,Q8]at hi;subst hi;obtain rfl:i=cs.length:=by omega
     rw[if_pos rfl]
    |succ j=>rw[hj]at hi;simp at hi
  ·(try dsimp only)
   rw[List.mem_append,not_or]at hk;rw[if_neg (λe=>hk.2 (by rw[e];simp))];exact hI.pr.no k hk.1
end
noncomputable section
variable {mn:Md}
theorem uS:(jB 40).all (λi=>decide (i<3)||(match (lay PZ 129)[i]? with|some 3=>true|_=>false))=true/\(lay PZ 129).length=40:=⟨by kernel_rfl,by kernel_rfl⟩
theorem lH{r:QA}{i:Nat}{m:Int}(h:WT PZ 129 r)(J:3<=i):WT PZ 129 (adN r i m):=by
 by_cases hi:i<40
 ·refine wt_adN h ?_;have:=jG.1 uS.1 i (jK.2 hi);rw[Bool.or_eq_true,decide_eq_true_eq]at this;rcases this with h|h
  ·omega
  ·split at h
   ·assumption
   ·cases h
 ·have:adN r i m=r:=by
   unfold adN;refine Array.ext_getElem? λj=> ?_
   rw[jF];have L:r.size=40:=by rw[h.layLen];exact uS.2
   by_cases A:i=j
   ·subst A;rw[if_pos rfl,if_neg (by omega),jL (by omega)]
   ·rw[if_neg A]
  rw[this];exact h
theorem dJ(S X:QA)(w:Nat):WT PZ 129 (Ube PZ S X w):=by
 unfold Ube;refine Znj (λ_ r=>WT PZ 129 r) (WT.zero (by kernel_rfl)) (λk r _ h=> ?_) 36 (jH _);split
 ·unfold Ue9;cases Ua1 S (k:Int) w != -1
  ·exact lH h (by omega)
  ·exact lH h (by omega)
 ·exact h
def hopV(N Y:QA):QA:=bif !(Uag Y (zc PZ 129)) then togV N Y else N
def drV(S X:QA):Nat->QA
 |0=>Uce S X
 |i+1=>hopV (drV S X i) (Ube PZ S X i)
def doS(cs:List Nat)(i:Int):List SV:=xs 4 (.a (.w 2)::.a .x::.a (.w 10)::xs 9 (.a (.g (flA cs) 156)::.a (.i .i64 i)::xs 12 []))
def doH(N:QA):List VB:=[.no,.no,.row (zc PZ 129) 129,.no,.no,.no,.no,.no,.no,.no,.row N 129]
structure DoI (S X:QA) (v:QB) (F:Vc.Fd) (cs:List Nat) (i:Nat) (ρ:Nat->Ad) (a:Act) (w:QB) (F':Vc.Fd):Prop where
 rr:RR PZ v ρ (doS cs i) (doH (drV S X i)) a w
 yes:∀j c,i<=j->cs[j]?=some c->F' c=some (.agg (Ube PZ S X j))
 gone:∀j c,j<i->cs[j]?=some c->F' c=none
 no:∀k,k ∉ cs->F' k=F k
abbrev IN:Cons:=mkΓ [(106,con uN),(107,con uR)]
theorem aN:ConsOkX mn PZ (Ual mn PZ) IN:=mKc (Zae IH) IG (mKc (Zae IM) IL mKn)
theorem IO:EntX PZ 105:=Zaj (fn:=f105)
theorem kx{cs:List Nat}(h:cs.length=5):WT PZ 156 (flA cs):=by match cs,h with|[J,L,O,U,V],_=>refine⟨by kernel_rfl,λv A=> ?_⟩;have:(flA [J,L,O,U,V]).toList=[.chan (some J),.chan (some L),.chan (some O),.chan (some U),.chan (some V)]:=rfl;rw[this]at A;simp only[List.mem_cons,List.not_mem_nil,or_false]at A;rcases A with rfl|rfl|rfl|rfl|rfl<;>trivial
set_option maxHeartbeats 2000000 in
theorem Ywi{S X:QA}(hS:WT PZ 38 S)(hX:WT PZ 129 X)(hG:lG S X=true)(F:Vc.Fd)(v:QB):
  Ua6 (md F) PZ 87 #[.agg S,.agg X] v λr v'=>r=.agg (drV S X 5)/\Kept (λ_=>False) v v':=by
 refine JT (Yr1 (c:=codeOf f87) Tryz.func87 rfl ?_);have h0:S0 PZ (.a (.v (.agg S))::.a (.v (.agg X))::us 28 []) { tmps:=#[.agg S,.agg X]++jM 28 undef,defers:=[] }:=S0.enter [.agg S,.agg X] 28;have h0:=(h0.set (i:=0) (y:=.a (.g S 38)) ⟨h0.val (i:=0) rfl,hS⟩).set (i:=1) (y:=.a (.g X 129)) ⟨h0.val (i:=1) rfl,hX⟩;refine Zeb (Zdo aN (h0.rr v) 3 (kS:=[2,3,4]) (kH:=[0,1,2]) (dd:=[]) (nS:=30) (nH:=3) (s':=xs 2 (.a (.w 0)::.a (.w 1)::.a (.w 2)::xs 25 [])) (h':=[.row S 38,.row X 129,.row (zc PZ 129) 129]) rfl (by kernel_rfl) λρ1 a1 v1 hR1 hw1=> ?_);refine Zeb (Zxb ?_)
 show OpsF _ _ _ (jC 0 2++(2::(jC 3 2++[]))) _ _ _
 refine nC aN hR1 0 2 rfl (kS:=[2,3,4,10,11]) (kH:=[0,1,2]) (dd:=[]) (nS:=30) (nH:=3) 0 (s':=xs 2 (.a (.w 0)::.a (.w 1)::.a (.w 2)::xs 5 (.a (.g S 38)::.a (.g X 129)::xs 18 []))) (h':=[.row S 38,.row X 129,.row (zc PZ 129) 129]) rfl (by kernel_rfl) λρ2 a2 v2 hR2 hw2=> ?_
 have f10:=(hR2.val (i:=10) rfl:Is _ _ _ (.g S 38) _).1;have f11:=(hR2.val (i:=11) rfl:Is _ _ _ (.g X 129) _).1;refine nz (i:=2) rfl rfl (Yxv rfl rfl rfl IO (args:=#[.agg S,.agg X]) (by simp[f10,f11]) (R:=λr v' F'=>∃cs:List Nat,cs.length=5/\r=.agg (flA cs)/\Prom S X v2 F cs F'/\Ge v2 v') (λv₁ hg=>(Yp7 hS hX hG v₁ F).mono λr v' F' ⟨cs,q1,q2,q3,q4⟩=>⟨cs,q1,q2,⟨q3.nd,λc hc=>jE hg.size (q3.new c hc),q3.was,q3.yes,q3.no⟩,hg.trans q4.below⟩) λr v3 F3 h3=> ?_);obtain⟨cs,h5,rfl,hP,hg3⟩:=h3;obtain⟨c0,c1,c2,c3,c4,hcs⟩:∃c0 c1 c2 c3 c4,cs=[c0,c1,c2,c3,c4]:=by match cs,h5 with|[c0,c1,c2,c3,c4],_=>exact⟨c0,c1,c2,c3,c4,rfl⟩
 have hR3:=(hR2.ge hg3).put 12 (y:=.a (.g (flA cs) 156)) (vv:=.agg (flA cs)) ⟨rfl,kx h5⟩;refine nC aN hR3 3 2 rfl (kS:=[2,3,4,5]) (kH:=[0,1,2,6]) (dd:=[]) (nS:=30) (nH:=7) 5 (s':=xs 2 (.a (.w 0)::.a (.w 1)::.a (.w 2)::.a (.w 6)::xs 24 [])) (h':=[.row S 38,.row X 129,.row (zc PZ 129) 129,.no,.no,.no,.row (flA cs) 156]) rfl (by kernel_rfl) λρ4 a4 v4 hR4 hw4=> ?_
 refine Zeb (Zdo aN hR4 5 (kS:=[4,5,6]) (kH:=[2,6,10]) (dd:=[]) (nS:=30) (nH:=11) (s':=xs 4 (.a (.w 2)::.a (.w 6)::.a (.w 10)::xs 23 [])) (h':=[.no,.no,.row (zc PZ 129) 129,.no,.no,.no,.row (flA cs) 156,.no,.no,.no,.row (Uce S X) 129]) rfl (by kernel_rfl) λρ5 a5 v5 hR5 hw5=> ?_);refine Zeb (Zeb (Zdo aN hR5 0 (kS:=[4,6,16,17]) (kH:=[2,10]) (dd:=[]) (nS:=30) (nH:=11) (s':=doS cs 0) (h':=doH (Uce S X)) rfl (by kernel_rfl) λρ6 a6 v6 hR6 hw6=> ?_));have hvc:∀c∈cs,v.heap.size<=c:=λc hc=>jE hR2.kept.size (hP.new c hc)
 have hI:DoI S X v F cs 0 ρ6 a6 v6 F3:=⟨hR6,λj c _=>hP.yes j c,λj c h=>(by omega),hP.no⟩;clear hR1 hR2 hR3 hR4 hR5 hR6 hw1 hw2 hw4 hw5 hw6 h0 f10 f11;refine Yda (Zw0 6 ?_);refine(?_:∀(d i:Nat) (ρ:Nat->Ad) (a:Act) (w:QB) (F':Vc.Fd),i+d=5->DoI S X v F cs i ρ a w F'->Udk none PZ _ _ (d+1) a w F') 5 0 ρ6 a6 v6 F3 rfl hI;clear hI;intro d
 induction d with
 | zero=>
  intro i ρ a w F' hd hI;obtain rfl:i=5:=by omega
  have hR:=hI.rr;refine Zeb (Zdo aN hR 0 (kS:=[4,6,18]) (kH:=[2,10]) (dd:=[]) (nS:=30) (nH:=11) (s':=xs 4 (.a (.w 2)::.a .x::.a (.w 10)::xs 11 (.a (.b false)::xs 11 []))) (h':=doH (drV S X 5)) rfl (by kernel_rfl) λρ1 a1 w1 hR1 hw1=> ?_);refine Zeb (Zw3 (t:=false) (hR1.val (i:=18) rfl) (Yux ?_));refine Zeb (Zdo aN hR1 0 (kS:=[4]) (kH:=[2]) (dd:=[2]) (nS:=30) (nH:=3) (s':=xs 4 (.a (.w 2)::xs 25 [])) (h':=[.no,.no,.row (drV S X 5) 129]) rfl (by kernel_rfl) λρ2 a2 w2 hR2 hw2=>yL ?_);refine⟨.inr rfl,hR2.defers,λv₁ hg=> ?_⟩;obtain⟨r,q1,q2⟩:=hR2.result (fn:=f87) (y:=.g (drV S X 5) 129) (by kernel_rfl) v₁ hg;refine⟨r,q1,funext λk=> ?_,q2.1,hR2.kept.trans (.of_below hg)⟩
  by_cases hk:k∈cs
  ·obtain⟨j,hj⟩:=List.mem_iff_getElem?.1 hk;have hlt:=(jO.1 hj).1;rw[hI.gone j k (by omega) hj,hP.was k hk]
  ·exact hI.no k hk
 | succ d ih=>
  intro i ρ a w F' hd hI;have hlt:i<5:=by omega
  have hR:=hI.rr;obtain⟨c,hc⟩:∃c,cs[i]?=some c:=⟨cs[i],List.getElem?_eq_getElem (by omega)⟩;have hcm:=List.mem_of_getElem? hc;refine Zeb (Zdo aN hR 0 (kS:=[4,6,16,17,18]) (kH:=[2,10]) (dd:=[]) (nS:=30) (nH:=11) (s':=xs 4 (.a (.w 2)::.a .x::.a (.w 10)::xs 9 (.a (.g (flA cs) 156)::.a (.i .i64 i)::.a (.b (decide ((i:Int)<5)))::xs 11 []))) (h':=doH (drV S X i)) rfl (by kernel_rfl) λρ1 a1 w1 hR1 hw1=> ?_);refine Zeb (Zw3 (t:=true) (by rw[show a1.eval (.tmp 18)=.bool (decide ((i:Int)<5)) from hR1.val (i:=18) rfl,Q3 (by omega)]) (Ypw ?_));refine Zeb (Yda ?_);refine Zeb (Zdo aN hR1 0 (kS:=[4,6,8,16,17]) (kH:=[2,10]) (dd:=[]) (nS:=30) (nH:=11) (s':=xs 4 (.a (.w 2)::.a .x::.a (.w 10)::.a .x::.a (.v (.chan (some c)))::xs 7 (.a (.g (flA cs) 156)::.a (.i .i64 i)::xs 12 []))) (h':=doH (drV S X i)) rfl (by
   generalize drV S X i=N;subst hcs;have hi:i=0\/i=1\/i=2\/i=3\/i=4:=by omega
   rcases hi with rfl|rfl|rfl|rfl|rfl<;>(cases hc;show _=_;kernel_rfl)) λρ2 a2 w2 hR2 hw2=> ?_)
  refine Zeb (Zxb ?_)
  show OpsF _ _ _ (jC 0 1++(1::(jC 2 2++[]))) _ _ _
  refine nC aN hR2 0 1 rfl (kS:=[4,6,16,17,20]) (kH:=[2,10]) (dd:=[]) (nS:=30) (nH:=11) 0 (s':=xs 4 (.a (.w 2)::.a .x::.a (.w 10)::xs 9 (.a (.g (flA cs) 156)::.a (.i .i64 i)::xs 2 (.a (.v (.chan (some c)))::xs 9 [])))) (h':=doH (drV S X i)) rfl (by kernel_rfl) λρ3 a3 w3 hR3 hw3=> ?_
  refine nz (i:=1) rfl rfl (opF_recv (c:=c) (val:=.agg (Ube PZ S X i)) (z:=.agg (zc PZ 129)) (λc hc=>by cases hc) (run_recv (dir:=.both) (e:=129) rfl (hR3.val (i:=20) rfl) (by kernel_rfl) (by kernel_rfl)) (hI.yes i c (jH _) hc) λw4 hnc hk4=> ?_);have hR4:=(hR3.lose hk4 (λk hk=>by rw[hk];exact hvc c hcm) [4,6,16,17] [2,10] 11 rfl (by kernel_rfl) (λn C t hn e he=>hnc C t (0,0) (by rw[<- he];exact(hR3.row e).1))).put 21 (y:=.a (.g (Ube PZ S X i) 129)) (vv:=.agg (Ube PZ S X i)) ⟨rfl,dJ S X i⟩;refine nC aN hR4 2 2 rfl (kS:=[4,6,9,16,17]) (kH:=[2,10,13]) (dd:=[]) (nS:=30) (nH:=14) 4 (s':=xs 4 (.a (.w 2)::.a .x::.a (.w 10)::xs 2 (.a (.w 13)::xs 6 (.a (.g (flA cs) 156)::.a (.i .i64 i)::xs 12 [])))) (h':=doH (drV S X i)++[.no,.no,.row (Ube PZ S X i) 129]) rfl (by kernel_rfl) λρ5 a5 w5 hR5 hw5=> ?_
  refine Zeb (Zdo aN hR5 0 (kS:=[4,6,9,16,17,24]) (kH:=[2,10,13]) (dd:=[]) (nS:=30) (nH:=14) (s':=xs 4 (.a (.w 2)::.a .x::.a (.w 10)::xs 2 (.a (.w 13)::xs 6 (.a (.g (flA cs) 156)::.a (.i .i64 i)::xs 6 (.a (.b (!(Uag (Ube PZ S X i) (zc PZ 129))))::xs 5 []))))) (h':=doH (drV S X i)++[.no,.no,.row (Ube PZ S X i) 129]) rfl (by kernel_rfl) λρ6 a6 w6 hR6 hw6=> ?_);refine WpF.mono (Q:=λe a7 w7 F7=>e=.normal/\F7=(λk=>if k=c then none else F' k)/\∃ρ7,RR PZ v ρ7 (doS cs i) (doH (drV S X (i+1))) a7 w7) ?_ ?_
  ·have hstep:drV S X (i+1)=bif !(Uag (Ube PZ S X i) (zc PZ 129)) then togV (drV S X i) (Ube PZ S X i) else drV S X i:=rfl
   have h24:a6.eval (.tmp 24)=.bool (!(Uag (Ube PZ S X i) (zc PZ 129))):=hR6.val (i:=24) rfl;cases hb: !(Uag (Ube PZ S X i) (zc PZ 129)) with
   |true=>rw[hb]at hstep h24;rw[hstep,Q1];refine Zw3 (t:=true) h24 ?_;rw[if_pos rfl];exact Zdo aN hR6 0 (kS:=[4,6,16,17]) (kH:=[2,10]) (dd:=[10]) (nS:=30) (nH:=11) (s':=doS cs i) (h':=doH (togV (drV S X i) (Ube PZ S X i))) rfl (by kernel_rfl) λρ7 a7 w7 hR7 hw7=>⟨rfl,rfl,ρ7,hR7⟩
   |false=>rw[hb]at hstep h24;rw[hstep,Q2];exact Zw3 (t:=false) h24 (Ypw ⟨rfl,rfl,ρ6,hR6.lose (E:=λ_=>False) (Kept.refl _ _) (λ_ h=>h.elim) [4,6,16,17] [2,10] 11 rfl (by kernel_rfl) (λ_ _ _ _ _ h=>h)⟩)
  rintro e a7 w7 F7 ⟨rfl,rfl,ρ7,hR7⟩;refine Zdo aN hR7 0 (kS:=[4,6,16,17]) (kH:=[2,10]) (dd:=[]) (nS:=30) (nH:=11) (s':=doS cs (i64.wrap ((i:Int)+1))) (h':=doH (drV S X (i+1))) rfl (by kernel_rfl) λρ8 a8 w8 hR8 hw8=> ?_
  rw[show i64.wrap ((i:Int)+1)=((i+1:Nat):Int) by rw[aI (by omega)];omega]at hR8;have hne:∀j c',j≠i->cs[j]?=some c'->c'≠c:=λj c' hj hj' e=>by
   subst e;have h1:=(jO.1 hj');have h2:=(jO.1 hc);exact hj ((List.getElem_inj (h₀:=h1.1) (h₁:=h2.1) hP.nd).1 (h1.2.trans h2.2.symm))
  refine ih (i+1) ρ8 a8 w8 _ (by omega) ⟨hR8,λj c' hj hj'=> ?_,λj c' hj hj'=> ?_,λk hk=> ?_⟩
  ·(try dsimp only)
   rw[if_neg (hne j c' (by omega) hj')];exact hI.yes j c' (by omega) hj'
  ·(try dsimp only)
   by_cases e:c'=c
   ·rw[if_pos e]
   ·rw[if_neg e];refine hI.gone j c' ?_ hj'
    by_cases hji:j=i
    ·subst hji;rw[hc]at hj';exact absurd (Q5 hj').symm e
    ·omega
  ·(try dsimp only)
   rw[if_neg λe=>hk (by rw[e];exact hcm)];exact hI.no k hk
end
noncomputable section
variable {mn:Md}
def sumI(f:Nat->Int):Nat->Int
 |0=>0
 |n+1=>sumI f n+f n
theorem Zkp{f g:Nat->Int}:∀n,(∀k,k<n->f k=g k)->sumI f n=sumI g n
 |0,_=>rfl
 |n+1,h=>by rw[sumI,sumI,Zkp n λk hk=>h k (by omega),h n (by omega)]
theorem Yjb(f g:Nat->Int):∀n,sumI (λk=>f k+g k) n=sumI f n+sumI g n
 |0=>rfl
 |n+1=>by rw[sumI,sumI,sumI,Yjb f g n];omega
theorem Zs4:∀n,sumI (λ_=>0) n=0
 |0=>rfl
 |n+1=>by rw[sumI,Zs4 n];rfl
theorem pn(f:Nat->Nat->Int)(m:Nat):∀n,sumI (λk=>sumI (λw=>f k w) m) n=sumI (λw=>sumI (λk=>f k w) n) m
 |0=>by show (0:Int)=_;exact(Zs4 m).symm
 |n+1=>by
  rw[sumI,pn f m n];exact(Yjb _ _ m).symm
theorem uT(g:Nat->Int)(j:Nat):∀n,sumI (λk=>if 3+k*1=j then g (3+k*1) else 0) n=if 3<=j/\j<3+n then g j else 0
 |0=>by rw[if_neg (by omega)];rfl
 | n+1=>by
  rw[sumI,uT g j n]
  by_cases h:3+n*1=j
  ·rw[if_pos h,h,if_neg (by omega),if_pos (by omega)];omega
  ·rw[if_neg h]
   by_cases h2:3<=j/\j<3+n
   ·rw[if_pos h2,if_pos (by omega)];omega
   ·rw[if_neg h2,if_neg (by omega)];rfl
def cg(a b:Int):Prop:=∃q:Int,a=b+18446744073709551616*q
theorem cg.refl(a:Int):cg a a:=⟨0,by omega⟩
theorem cg.of{a b:Int}(h:a=b):cg a b:=h ▸ .refl a
theorem cg.trans{a b c:Int}(h:cg a b)(k:cg b c):cg a c:=by obtain⟨q,h⟩:=h;obtain⟨p,k⟩:=k;exact⟨q+p,by omega⟩
theorem cg.symm{a b:Int}(h:cg a b):cg b a:=by obtain⟨q,h⟩:=h;exact⟨-q,by omega⟩
theorem cg.add{a b c d:Int}(h:cg a b)(k:cg c d):cg (a+c) (b+d):=by obtain⟨q,h⟩:=h;obtain⟨p,k⟩:=k;exact⟨q+p,by omega⟩
theorem ni(x:Int):cg (i64.wrap x) x:=⟨(i64.wrap x - x) / 18446744073709551616,by rw[IntKind.wrap_i64];omega⟩
theorem dK{a b:Int}(h:cg a b)(A: -9223372036854775808<=a/\a<=9223372036854775807)(J: -9223372036854775808<=b/\b<=9223372036854775807):a=b:=by obtain⟨q,h⟩:=h;omega
theorem Ygt{r:QA}(A:r.size=40){i j:Nat}(J:j<40)(m:Int):cg (num (adN r i m) j) (num r j+if i=j then m else 0):=by
 by_cases h:i=j
 ·subst h;rw[if_pos rfl];have:num (adN r i m) i=i64.wrap (num r i+m):=by unfold adN num;rw[jF,if_pos rfl,if_pos (by omega)]
  rw[this];exact ni _
 ·rw[if_neg h];refine .of ?_;unfold adN num;rw[jF,if_neg h];omega
theorem iS(r:QA)(i:Nat)(m:Int):(adN r i m).size=r.size:=by unfold adN;simp
theorem Ydk{f:QA->Nat->QA}{j:Nat}{c:Nat->Int}:∀(n:Nat) {r:QA},r.size=40->(∀k s,k<n->s.size=40->(f s k).size=40/\cg (num (f s k) j) (num s j+c k))->(folds f r n).size=40/\cg (num (folds f r n) j) (num r j+sumI c n)
 |0,r,A,_=>⟨A,.of (by show num r j=num r j+0;omega)⟩
 |n+1,r,A,h=>by
  obtain⟨J,h2⟩:=Ydk n A λk s hk=>h k s (by omega)
  obtain⟨L,O⟩:=h n (folds f r n) (by omega) J;rw[cz];refine⟨L,O.trans ?_⟩;rw[sumI,<- Int.add_assoc];exact h2.add (.refl _)
def fv(g:Int):Nat:=if g<0 then 39 else 3+g.toNat*1
theorem gc(S X:QA)(t:Int)(k:Nat){r:QA}(A:r.size=40)(w:Nat){j:Nat}(J:j<40):(wayF S X t k r w).size=40/\cg (num (wayF S X t k r w) j) (num r j+if fv (Zai (k:Int) (w:Int) S)=j then muF S X t k w else 0):=by
 unfold wayF fv
 by_cases h:Zai (k:Int) (w:Int) S<0
 ·rw[Q3 h,Q1,if_pos h];exact⟨by rw[iS];exact A,Ygt A J _⟩
 ·rw[Q4 h,Q2,if_neg h];exact⟨by rw[iS];exact A,Ygt A J _⟩
theorem dL(S X:QA)(t:Int){r:QA}(A:r.size=40)(k:Nat){j:Nat}(J:j<40):(Ue5 S X t r k).size=40/\cg (num (Ue5 S X t r k) j) (num r j+if Zaq (k:Int) S=true then sumI (λw=>if fv (Zai (k:Int) (w:Int) S)=j then muF S X t k w else 0) 5 else if 3+k*1=j then num X (3+k*1)*12 else 0):=by
 unfold Ue5;cases O:Zaq (k:Int) S with
 |true=>rw[Q1,if_pos rfl];exact Ydk 5 A λw s _ L=>gc S X t k L w J
 |false=>
  rw[Q2,if_neg (by simp)];refine⟨by rw[iS];exact A,(Ygt A J _).trans ((cg.refl _).add ?_)⟩;split
  ·exact ni _
  ·exact .refl _
theorem dM(S X:QA)(t:Int)(w:Nat){r:QA}(A:r.size=40)(k:Nat){j:Nat}(J:j<40):(Ue9 S X t w r k).size=40/\cg (num (Ue9 S X t w r k) j) (num r j+if (if Ua1 S (k:Int) w ≠ -1 then 3+(Ua1 S (k:Int) w).toNat*1 else 39)=j then muF S X t k w else 0):=by
 unfold Ue9
 by_cases h:Ua1 S (k:Int) w=-1
 ·rw[show (Ua1 S (k:Int) w != -1)=false by rw[h];rfl,Q2,if_neg (show ¬(Ua1 S (k:Int) w ≠ -1) from λL=>L h)];exact⟨by rw[iS];exact A,Ygt A J _⟩
 ·rw[show (Ua1 S (k:Int) w != -1)=true by simpa using h,Q1,if_pos (show Ua1 S (k:Int) w ≠ -1 from h)];exact⟨by rw[iS];exact A,Ygt A J _⟩
theorem nj:(zc PZ 129).size=40/\∀j,2<=j->j<40->num (zc PZ 129) j=0:=by
 have A:(jB 40).all (λj=>decide (j<2)||(num (zc PZ 129) j==0))=true:=by kernel_rfl
 refine⟨by kernel_rfl,λj h2 J=> ?_⟩;have:=jG.1 A j (jK.2 J);rw[Bool.or_eq_true,decide_eq_true_eq,beq_iff_eq]at this;omega
theorem flowV_cg(S X:QA)(w:Nat){j:Nat}(h2:2<=j)(A:j<40):(Ube PZ S X w).size=40/\cg (num (Ube PZ S X w) j) (sumI (λk=>if (inC (num S 0) (num S 1) k&&Zac S (k:Int))=true then (if (if Ua1 S (k:Int) w ≠ -1 then 3+(Ua1 S (k:Int) w).toNat*1 else 39)=j then muF S X (tdI X) k w else 0) else 0) 36):=by
 unfold Ube;obtain⟨O,J⟩:=Ydk (f:=λr k=>if inC (num S 0) (num S 1) k&&Zac S (k:Int) then Ue9 S X (tdI X) w r k else r) (j:=j) (c:=λk=>if (inC (num S 0) (num S 1) k&&Zac S (k:Int))=true then (if (if Ua1 S (k:Int) w ≠ -1 then 3+(Ua1 S (k:Int) w).toNat*1 else 39)=j then muF S X (tdI X) k w else 0) else 0) 36 nj.1 (λk s _ L=>by
  by_cases h:(inC (num S 0) (num S 1) k&&Zac S (k:Int))=true
  ·rw[if_pos h,if_pos h];exact dM S X (tdI X) w L k A
  ·rw[if_neg h,if_neg h];exact⟨L,.of (by omega)⟩)
 rw[nj.2 j h2 A,Int.zero_add]at J;exact⟨O,J⟩
theorem gd{N Y:QA}(J:N.size=40){j:Nat}(h2:2<=j)(A:j<40):(togV N Y).size=40/\cg (num (togV N Y) j) (num N j+num Y j):=by
 unfold togV;have Z:(adN N 2 (num Y 2)).size=40:=by rw[iS];exact J
 obtain⟨L,q2⟩:=Ydk (f:=togF Y) (j:=j) (c:=λk=>if 3+k*1=j then num Y (3+k*1) else 0) 36 Z (λk s _ O=>⟨by unfold togF;rw[iS];exact O,by unfold togF;exact Ygt O A _⟩);refine⟨by rw[iS];exact L,(Ygt L A _).trans ((q2.add (.refl _)).trans ((((Ygt J A _).add (.refl _)).add (.refl _)).trans (.of ?_)))⟩;rw[uT (num Y) j 36]
 by_cases U:2=j
 ·subst U;rw[if_pos rfl,if_neg (by omega),if_neg (by omega)];omega
 ·rw[if_neg U]
  by_cases V:39=j
  ·subst V;rw[if_neg (by omega),if_pos rfl];omega
  ·rw[if_neg V,if_pos (by omega)];omega
theorem gh{N:QA}(A:N.size=40)(Y:QA){j:Nat}(h2:2<=j)(J:j<40):(hopV N Y).size=40/\cg (num (hopV N Y) j) (num N j+num Y j):=by unfold hopV;cases h:Uag Y (zc PZ 129) with|true=>rw[jD,Q2];refine⟨A,.of ?_⟩;rw[bT.1 h,nj.2 j h2 J];omega|false=>rw[jI,Q1];exact gd A h2 J
theorem drV_cg{S X:QA}{n:Nat}(A:(Uce S X).size=40){j:Nat}(h2:2<=j)(J:j<40):(drV S X n).size=40/\cg (num (drV S X n) j) (num (Uce S X) j+sumI (λw=>num (Ube PZ S X w) j) n):=by induction n with|zero=>exact⟨A,.of (by show _=num (Uce S X) j+0;rw[Int.add_zero];rfl)⟩|succ n L=>obtain⟨O,U⟩:=L;obtain⟨V,Z⟩:=gh O (Ube PZ S X n) h2 J;refine⟨V,Z.trans ?_⟩;rw[sumI,<- Int.add_assoc];exact U.add (.refl _)
end
noncomputable section
variable {mn:Md}
theorem Yre{r:QA}{i j:Nat}(m:Int)(h:i≠j):num (adN r i m) j=num r j:=by unfold adN num;rw[jF,if_neg h]
theorem Zwt(X:QA):num (Ub5 PZ X) 0=num X 0/\num (Ub5 PZ X) 1=IntKind.i8.wrap (num X 1+1)/\∀i,i<36->num (Ub5 PZ X) (3+i)=0:=by
 have J:(zc PZ 129).size=40:=by kernel_rfl
 have A:(jB 36).all (λk=>match (zc PZ 129)[3+k]? with|some (.int .i64 0)=>true|_=>false)=true:=by kernel_rfl
 unfold Ub5;refine⟨?_,?_,λi hi=> ?_⟩
 ·unfold num;rw[jF,if_neg (by omega),jF,if_neg (by omega),jF,if_neg (by omega),jF,if_pos rfl,if_pos (by omega)]
 ·unfold num;rw[jF,if_neg (by omega),jF,if_neg (by omega),jF,if_pos rfl,if_pos (by simp;omega)]
 ·unfold num;rw[jF,if_neg (by omega),jF,if_neg (by omega),jF,if_neg (by omega),jF,if_neg (by omega)];have:=jG.1 A i (jK.2 hi);split at this
  ·rename_i e;rw[e]
  ·cases this
theorem wayF_low(S X:QA)(t:Int)(k:Nat)(r:QA)(w j:Nat)(A:j<3):num (wayF S X t k r w) j=num r j:=by unfold wayF;cases decide (Zai (k:Int) (w:Int) S<0)<;>exact Yre _ (by omega)
theorem uU(S X:QA){j:Nat}(A:j<3):num (Ubn PZ S X) j=num (Ub5 PZ X) j:=by unfold Ubn;refine Znj (λ_ (r:QA)=>num r j=num (Ub5 PZ X) j) rfl (λk s _ J=> ?_) 36 (jH _);refine Eq.trans ?_ J;unfold Ue5;cases Zaq (k:Int) S with|false=>exact Yre _ (by omega)|true=>exact Znj (λ_ (r:QA)=>num r j=num s j) rfl (λw r _ L=>(wayF_low S X _ k r w j A).trans L) 5 (jH _)
theorem Zq7{i:Nat}(h2:2<=i)(h:i<40):(lay PZ 129)[i]?=some 3:=by
 have A:(jB 40).all (λi=>decide (i<2)||(match (lay PZ 129)[i]? with|some 3=>true|_=>false))=true:=by kernel_rfl
 have:=jG.1 A i (jK.2 h);rw[Bool.or_eq_true,decide_eq_true_eq]at this;rcases this with h|h
 ·omega
 ·split at h
  ·assumption
  ·cases h
theorem ky:(lay PZ 129)[0]?=some (kN .i8)/\(lay PZ 129)[1]?=some (kN .i8):=⟨by kernel_rfl,by kernel_rfl⟩
theorem uV{r:QA}(h:WT PZ 129 r):r.size=40:=by rw[h.layLen];exact uS.2
theorem Zqv{r:QA}(h:WT PZ 129 r){i:Nat}{k:IntKind}{n:Int}(hi:(lay PZ 129)[i]?=some (kN k))(L:k.min<=n/\n<=k.max):WT PZ 129 (r.setIfInBounds i (.int k n)):=by
 constructor
 ·rw[jS,List.map_set,h.1];refine List.ext_getElem? λj=> ?_
  by_cases A:i=j
  ·subst A;rw[jQ (jO.1 hi).1,hi];rfl
  ·rw[List.getElem?_set_ne A]
 ·intro v J;rw[jS]at J;rcases List.mem_or_eq_of_mem_set J with O|rfl
  ·exact h.2 v O
  ·exact L
theorem kz:i64.min<=(0:Int)/\(0:Int)<=i64.max:=by have A:i64.min=-9223372036854775808:=rfl;have J:i64.max=9223372036854775807:=rfl;omega
theorem dN{S X:QA}(A:WT PZ 129 X):WT PZ 129 (Uce S X):=by
 have J:WT PZ 129 (folds (Uc9 S) X 36):=Znj (λ_ r=>WT PZ 129 r) A (λk r hk h=>by
  unfold Uc9;cases Zad S (k:Int)
  ·exact Zqv (k:=.i64) h (Zq7 (by omega) (by omega)) kz
  ·exact Zqv (k:=.i64) h (Zq7 (by omega) (by omega)) (Zhx .i64 _)) 36 (jH _)
 unfold Uce Ucj;exact Zqv (k:=.i8) (Zqv (k:=.i64) J (Zq7 (by omega) (by omega)) (Zhx .i64 _)) ky.2 (Zhx .i8 _)
theorem gi{N Y:QA}(h:WT PZ 129 N):WT PZ 129 (togV N Y):=by unfold togV;exact lH (Znj (λ_ r=>WT PZ 129 r) (wt_adN h (Zq7 (by omega) (by omega))) (λk r _ h=>lH h (by omega)) 36 (jH _)) (by omega)
theorem gk{N Y:QA}(h:WT PZ 129 N):WT PZ 129 (hopV N Y):=by unfold hopV;cases Uag Y (zc PZ 129) with|true=>rw[jD,Q2];exact h|false=>rw[jI,Q1];exact gi h
theorem drV_wt{S X:QA}(A:WT PZ 129 X)(n:Nat):WT PZ 129 (drV S X n):=by induction n with|zero=>exact dN A|succ n J=>have e:drV S X (n+1)=hopV (drV S X n) (Ube PZ S X n):=rfl;rw[e];exact gk J
theorem Zxi{S X:QA}(A:WT PZ 129 X):WT PZ 129 (Ubn PZ S X):=by
 have J:=(A.int (o:=0) (k:=.i8) ky.1).2;have L:=(A.int (o:=2) (k:=.i64) (Zq7 (by omega) (by omega))).2;have h0:WT PZ 129 (Ub5 PZ X):=by unfold Ub5;exact Zqv (k:=.i64) (Zqv (k:=.i64) (Zqv (k:=.i8) (Zqv (k:=.i8) (WT.zero (by kernel_rfl)) ky.1 J) ky.2 (Zhx .i8 _)) (Zq7 (by omega) (by omega)) L) (Zq7 (by omega) (by omega)) (Zhx .i64 _)
 unfold Ubn;refine Znj (λ_ r=>WT PZ 129 r) h0 (λk r _ h=> ?_) 36 (jH _);unfold Ue5;cases Zaq (k:Int) S
 ·exact lH h (by omega)
 ·refine Znj (λ_ r=>WT PZ 129 r) h (λw r _ h=> ?_) 5 (jH _);unfold wayF;cases decide (Zai (k:Int) (w:Int) S<0)<;>exact lH h (by omega)
theorem IP{A C:QA}(L:WT PZ 129 A)(O:WT PZ 129 C)(h:∀j,j<40->num A j=num C j):A=C:=by
 refine Array.ext_getElem? λj=> ?_
 by_cases J:j<40
 ·by_cases h2:2<=j
  ·rw[(L.int (o:=j) (k:=.i64) (Zq7 h2 J)).1,(O.int (o:=j) (k:=.i64) (Zq7 h2 J)).1,h j J]
  ·have:(lay PZ 129)[j]?=some (kN .i8):=by
    match j,h2 with|0,_=>exact ky.1|1,_=>exact ky.2|_+2,h=>omega
   rw[(L.int this).1,(O.int this).1,h j J]
 ·rw[jL (by rw[uV L];omega),jL (by rw[uV O];omega)]
theorem cT(r:QA)(i:Nat)(k:IntKind)(n:Int)(j:Nat):num (r.setIfInBounds i (.int k n)) j=if i=j/\i<r.size then n else num r j:=by
 unfold num;rw[jF]
 by_cases J:i=j
 ·subst J
  by_cases A:i<r.size
  ·rw[if_pos rfl,if_pos A,if_pos ⟨rfl,A⟩]
  ·rw[if_pos rfl,if_neg A,if_neg (λh=>A h.2),jL (by omega)]
 ·rw[if_neg J,if_neg (λh=>J h.1)]
def Ues(S X:QA)(n:Nat):QA:=folds (Uc9 S) X n
theorem IQ(S X:QA)(n:Nat):Ues S X (n+1)=Uc9 S (Ues S X n) n:=cz ..
theorem xY{S X:QA}(hz:X.size=40):∀n,n<=36->(Ues S X n).size=40/\∀j,num (Ues S X n) j=if 3<=j/\j<3+n then (if Zad S ((j - 3:Nat):Int)=true then i64.wrap (num X j*12) else 0) else num X j
 |0,_=>⟨hz,λj=>by rw[if_neg (by omega)];rfl⟩
 | n+1,hn=>by
  obtain⟨h1,h2⟩:=xY (S:=S) (X:=X) hz n (by omega);have hi:num (Ues S X n) (3+n*1)=num X (3+n*1):=by rw[h2,if_neg (by omega)]
  rw[IQ];generalize Ues S X n=q at h1 h2 hi|-
  refine⟨by unfold Uc9;cases Zad S (n:Int)<;>simp[h1],λj=> ?_⟩;unfold Uc9;cases hl:Zad S (n:Int) with
  | false=>
   rw[Q2,cT]
   by_cases e:3+n*1=j
   ·subst e;rw[if_pos ⟨rfl,by omega⟩,if_pos (by omega),show 3+n*1 - 3=n by omega,hl,if_neg (by simp)]
   ·rw[if_neg (λh=>e h.1),h2]
    by_cases h3:3<=j/\j<3+n
    ·rw[if_pos h3,if_pos (show 3<=j/\j<3+(n+1) by omega)]
    ·rw[if_neg h3,if_neg (show ¬(3<=j/\j<3+(n+1)) by omega)]
  | true=>
   rw[Q1,cT,hi]
   by_cases e:3+n*1=j
   ·subst e;rw[if_pos ⟨rfl,by omega⟩,if_pos (by omega),show 3+n*1 - 3=n by omega,hl,if_pos rfl]
   ·rw[if_neg (λh=>e h.1),h2]
    by_cases h3:3<=j/\j<3+n
    ·rw[if_pos h3,if_pos (show 3<=j/\j<3+(n+1) by omega)]
    ·rw[if_neg h3,if_neg (show ¬(3<=j/\j<3+(n+1)) by omega)]
theorem Yw0{f g:Nat->Int}:∀n,(∀k,k<n->cg (f k) (g k))->cg (sumI f n) (sumI g n)
 |0,_=>.refl _
 |n+1,h=>(Yw0 n λk hk=>h k (by omega)).add (h n (by omega))
end
noncomputable section
variable {mn:Md}
theorem Yog{S X:QA}(A:(Ub5 PZ X).size=40){j:Nat}(J:j<40):cg (num (Ubn PZ S X) j) (num (Ub5 PZ X) j+sumI (λk=>if Zaq (k:Int) S=true then sumI (λw=>if fv (Zai (k:Int) (w:Int) S)=j then muF S X (tdS X) k w else 0) 5 else if 3+k*1=j then num X (3+k*1)*12 else 0) 36):=by unfold Ubn;exact(Ydk 36 A λk s _ L=>dL S X (tdS X) L k J).2
theorem uW(X:QA):(Ub5 PZ X).size=40/\∀j,2<=j->j<40->cg (num (Ub5 PZ X) j) (if j=2 then num X 2 else if j=39 then num X 39*12 else 0):=by
 have A:(zc PZ 129).size=40:=nj.1;refine⟨by unfold Ub5;simp[A],λj h2 O=> ?_⟩
 by_cases J:j=2
 ·subst J;rw[if_pos rfl];unfold Ub5;rw[cT,if_neg (by omega),cT,if_pos ⟨rfl,by simp[A]⟩];exact .refl _
 ·rw[if_neg J]
  by_cases L:j=39
  ·subst L;rw[if_pos rfl];unfold Ub5;rw[cT,if_pos ⟨rfl,by simp[A]⟩];exact ni _
  ·rw[if_neg L];have:=(Zwt X).2.2 (j - 3) (by omega);rw[show 3+(j - 3)=j by omega]at this;exact .of this
theorem IR{S X:QA}(V:X.size=40):num (Uce S X) 0=num X 0/\num (Uce S X) 1=IntKind.i8.wrap (num X 1+1)/\(Uce S X).size=40/\∀j,2<=j->j<40->cg (num (Uce S X) j) ((if j=2 then num X 2 else if j=39 then num X 39*12 else 0)+(if 3<=j/\j<3+36 then (if Zad S ((j - 3:Nat):Int)=true then num X j*12 else 0) else 0)):=by
 obtain⟨L,h2⟩:=xY (S:=S) V 36 (jH _);have e:Uce S X=(Ucj (Ues S X 36)).setIfInBounds 1 (.int .i8 (IntKind.i8.wrap (num (Ucj (Ues S X 36)) 1+1))):=rfl;rw[e];generalize Ues S X 36=q at L h2|-
 have A:∀j,j<39->num (Ucj q) j=num q j:=λj Z=>by unfold Ucj;rw[cT,if_neg (by omega)]
 have J:(Ucj q).size=40:=by unfold Ucj;simp[L]
 refine⟨?_,?_,by simp[J],λj h3 Z=> ?_⟩
 ·rw[cT,if_neg (by omega),A 0 (by omega),h2,if_neg (by omega)]
 ·rw[cT,if_pos ⟨rfl,by omega⟩,A 1 (by omega),h2,if_neg (by omega)]
 ·rw[cT,if_neg (by omega)]
  by_cases O:j=39
  ·subst O;rw[if_neg (by omega),if_pos rfl,if_neg (by omega),Int.add_zero];unfold Ucj;rw[cT,if_pos ⟨rfl,by omega⟩,h2,if_neg (by omega)];exact ni _
  ·rw[A j (by omega),h2]
   by_cases U:j=2
   ·subst U;rw[if_neg (by omega),if_pos rfl,if_neg (by omega),Int.add_zero];exact .refl _
   ·rw[if_pos (show 3<=j/\j<3+36 by omega),if_neg U,if_neg O,if_pos (show 3<=j/\j<3+36 by omega),Int.zero_add];cases Zad S ((j - 3:Nat):Int) with|true=>rw[if_pos rfl,if_pos rfl];exact ni _|false=>exact .refl _
theorem dO{N Y:QA}{j:Nat}(J:j<2):num (togV N Y) j=num N j:=by unfold togV;rw[Yre _ (by omega)];refine(Znj (λ_ (r:QA)=>num r j=num N j) (Yre _ (by omega)) (λk s _ A=> ?_) 36 (jH _));unfold togF;rw[Yre _ (by omega)];exact A
theorem gm{S X:QA}{j:Nat}(J:j<2)(n:Nat):num (drV S X n) j=num (Uce S X) j:=by induction n with|zero=>rfl|succ n A=>have e:drV S X (n+1)=hopV (drV S X n) (Ube PZ S X n):=rfl;rw[e];unfold hopV;cases Uag (Ube PZ S X n) (zc PZ 129) with|true=>rw[jD,Q2];exact A|false=>rw[jI,Q1,dO J];exact A
theorem xZ{X:QA}(h0:0<=num X 0/\num X 0<2)(J:0<=num X 1/\num X 1<=100):tdI X=tdS X:=by
 unfold tdI tdS;have A:IntKind.i8.wrap (num X 0+num X 1)=num X 0+num X 1:=by simp[IntKind.wrap,IntKind.bits,IntKind.signed];omega
 rw[IntKind.wrap_i64,IntKind.wrap_i64,IntKind.wrap_i64,A];congr 1;omega
theorem gn{S X:QA}(hX:WT PZ 129 X)(hok:okS S=true)(h0:0<=num X 0/\num X 0<2)(h1:0<=num X 1/\num X 1<=100)(ho:∀k,k<36->inC (num S 0) (num S 1) k=false->num X (3+k)=0)(hS:WT PZ 38 S):drV S X 5=Ubn PZ S X:=by
 have hz:=uV hX;obtain⟨r0,r1,r2,r3⟩:=IR (S:=S) hz;obtain⟨i1,i2⟩:=uW X;refine IP (drV_wt hX 5) (Zxi hX) λj hj=> ?_
 by_cases h2:2<=j
 ·have w1:=(drV_wt (S:=S) hX 5).int (o:=j) (k:=.i64) (Zq7 h2 hj);have w2:=(Zxi (S:=S) hX).int (o:=j) (k:=.i64) (Zq7 h2 hj);refine dK ?_ w1.2 w2.2;refine(drV_cg (S:=S) (X:=X) (n:=5) r2 h2 hj).2.trans (cg.trans ?_ (Yog i1 hj).symm);refine(cg.add (r3 j h2 hj) (Yw0 5 λw hw=>(flowV_cg S X w h2 hj).2)).trans (cg.trans (.of ?_) ((i2 j h2 hj).symm.add (.refl _)));rw[<- pn,Int.add_assoc];congr 1;rw[<- uT (λi=>if Zad S ((i - 3:Nat):Int)=true then num X i*12 else 0) j 36,<- Yjb];refine Zkp 36 λk hk=> ?_
  have hd:=Zxg hok;have hwet:=(Ylq hS hk).2;have hland:=mV (S:=S) hk;rw[hwet];have hwat:Zac S (k:Int)=!(bitI (num S 2) k):=by unfold Zac;rw[hland]
  rw[hwat,show 3+k*1 - 3=k by omega,hland];cases hin:inC (num S 0) (num S 1) k with
  | false=>
   have hb:bitI (num S 2) k=false:=by cases hb:bitI (num S 2) k with|false=>rfl|true=>rw[(okS_land hok (by omega) hb).2]at hin;exact hin
   rw[hb];simp only[Bool.false_and,Bool.false_eq_true,if_false,Zs4,Int.add_zero,ite_self];rw[show 3+k*1=3+k by omega,ho k hk hin];simp
  | true=>
   cases hb:bitI (num S 2) k with
   |true=>simp only[jD,Bool.and_false,Bool.false_eq_true,if_false,Zs4,Int.add_zero,if_true]
   | false=>
    simp only[jI,jA,if_true,Bool.false_eq_true,if_false,ite_self,Int.zero_add];refine Zkp 5 λw hw=> ?_
    have hgo:=uD hd hk hin w hw;have hle:=xW hd hk hin w hw;rw[hgo,hle,xZ h0 h1];unfold fv
    by_cases hg:gw S k w=-1
    ·rw[hg];rfl
    ·have:=pk hd hk hin w hw hg;rw[if_pos (show gw S k w ≠ -1 from hg),if_neg (show ¬gw S k w<0 by omega)]
 ·rw[gm (by omega),uU S X (by omega)]
  match j,h2 with|0,_=>rw[r0,(Zwt X).1]|1,_=>rw[r1,(Zwt X).2.1]|_+2,h=>omega
end
end Go.Proofs.YtefjogahegolbaaGreatDoor
