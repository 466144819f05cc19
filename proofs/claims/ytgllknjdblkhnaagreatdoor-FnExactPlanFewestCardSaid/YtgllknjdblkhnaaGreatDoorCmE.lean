/- The prospects of some cells, and their sources, in company. -/
import Derived.Test.YtgllknjdblkhnaaGreatDoorProg
import Derived.Test.YtgllknjdblkhnaaGreatDoorCmD
set_option linter.unusedVariables false
set_option linter.unusedSimpArgs false
namespace Go.Proofs.YtgllknjdblkhnaaGreatDoor
open Tryz (f12 f20 f24 f25 f27 f30 f40 f52)
open Go.ChangeShapes Go.WideShapes Go.ChangeAt Go.RowKit Ve Vc
open Tryz renaming prog -> PZ
open IntKind (i64)
set_option maxRecDepth 100000
noncomputable section
variable {mn:Md}
abbrev Zo6:Con:=Ufr
theorem Zno:EntX PZ 13:=Yht
theorem Zq2:Uac mn PZ 13 Zo6:=Ynk
theorem Zzs(N:Nat)(a0:Array Value)(a1:Int):ansV PZ (mkΓ [(42,con Zd5)]) N f25 [] [.g a0 38,.i .u64 a1] []=(bif (decide (0<=num a0 0)&&decide (num a0 0<=6)&&(decide (0<=num a0 1)&&decide (num a0 1<=6))) then (some (.a (.b (((IntKind.u64.wrap (BitVec.ofInt IntKind.u64.bits a1 &&& ~~~(BitVec.ofInt IntKind.u64.bits (Ua0 (num a0 0) (num a0 1) 36))).toNat)==(0:Int)))),.none,true)) else (none)):=by kernel_rfl
def Zac(a0:Array Value)(a1:Int):Bool:=((IntKind.u64.wrap (BitVec.ofInt IntKind.u64.bits a1 &&& ~~~(BitVec.ofInt IntKind.u64.bits (Ua0 (num a0 0) (num a0 1) 36))).toNat)==(0:Int))
def Zfq(a0:Array Value)(a1:Int):Bool:=(decide (0<=num a0 0)&&decide (num a0 0<=6)&&(decide (0<=num a0 1)&&decide (num a0 1<=6)))
theorem Zw8(a0:Array Value)(a1:Int)(h_a0:WT PZ 38 a0)(h_a1:IntKind.u64.min<=a1/\a1<=IntKind.u64.max)(hg:((Zfq a0 a1))=true):ansV PZ (mkΓ [(42,con Zd5)]) 1000 f25 [] [.g a0 38,.i .u64 a1] []=some (.a (.b ((Zac a0 a1))),.none,true):=by
 refine(Zzs 1000 a0 a1).trans ?_;unfold Zfq at hg;unfold Zac;revert hg;generalize ((decide (0<=num a0 0)&&decide (num a0 0<=6)&&(decide (0<=num a0 1)&&decide (num a0 1<=6))))=b2;intro hg;cases b2
 ·skip
  first|exact(nomatch (hg:false=true))|rfl
 ·skip
  first|rfl|exact(nomatch (hg:false=true))
def Zlo:Con:=λargs h=>match args,h with|[.g a0 38,.i .u64 a1],[]=>some (.a (.b ((Zac a0 a1))),.none,(Zfq a0 a1))|_,_=>none
theorem Zj4:EntX PZ 25:=Zak (fn:=f25)
theorem Zmh:Uac mn PZ 25 Zlo:=(ansY (N:=1000) (mKc (Zag Zmf) Zjs mKn) f25 []).of (by
 intro ρ h w args vals r e hA hH hr;unfold Zlo at hr;split at hr
 ·rename_i a0 a1;obtain⟨rfl,rfl,hg2⟩:=BQi hr;exact Zw8 a0 a1 (hA.wt 0 rfl) (hA.rng 1 rfl) hg2
 ·cases hr)
theorem Znv(N:Nat)(a0:Array Value):ansV PZ (mkΓ [(44,con Zjp)]) N f24 [] [.g a0 51] []=(bif (Zdj (num a0 0)) then (bif decide ((num a0 1)>=(1:Int)) then (some (.a (.b (decide ((num a0 1)<=(8:Int)))),.none,true)) else (some (.a (.b false),.none,true))) else (some (.a (.b false),.none,true))):=by kernel_rfl
def Zcv(a0:Array Value):Bool:=(bif (Zdj (num a0 0)) then (bif decide ((num a0 1)>=(1:Int)) then decide ((num a0 1)<=(8:Int)) else false) else false)
theorem Zmy(a0:Array Value)(h_a0:WT PZ 51 a0)(hg:(true)=true):ansV PZ (mkΓ [(44,con Zjp)]) 1000 f24 [] [.g a0 51] []=some (.a (.b ((Zcv a0))),.none,true):=by
 refine(Znv 1000 a0).trans ?_;unfold Zcv;revert hg;generalize ((Zdj (num a0 0)))=b2;intro hg;cases b2
 ·skip
  first|rfl|exact(nomatch (hg:false=true))
 ·skip
  revert hg;generalize (decide ((num a0 1)>=(1:Int)))=b4;intro hg;cases b4
  ·skip
   first|rfl|exact(nomatch (hg:false=true))
  ·skip
   first|rfl|exact(nomatch (hg:false=true))
def Zfl:Con:=λargs h=>match args,h with|[.g a0 51],[]=>some (.a (.b ((Zcv a0))),.none,true)|_,_=>none
theorem Zes:EntX PZ 24:=Zak (fn:=f24)
theorem Zfo:Uac mn PZ 24 Zfl:=(ansY (N:=1000) (mKc (Zag Yei) Zwr mKn) f24 []).of (by
 intro ρ h w args vals r e hA hH hr;unfold Zfl at hr;split at hr
 ·rename_i a0;obtain⟨rfl,rfl,hg2⟩:=BQi hr;exact Zmy a0 (hA.wt 0 rfl) hg2
 ·cases hr)
theorem Zw2(N:Nat)(a0:Array Value):ansV PZ (mkΓ [(42,con Zd5)]) N f27 [] [.g a0 38] []=(bif (decide (0<=num a0 0)&&decide (num a0 0<=6)&&(decide (0<=num a0 1)&&decide (num a0 1<=6))) then (some (.a (.i .u64 (IntKind.u64.wrap (BitVec.ofInt IntKind.u64.bits (Ua0 (num a0 0) (num a0 1) 36) &&& ~~~(BitVec.ofInt IntKind.u64.bits (num a0 2))).toNat)),.none,true)) else (none)):=by kernel_rfl
def Zab(a0:Array Value):Int:=(IntKind.u64.wrap (BitVec.ofInt IntKind.u64.bits (Ua0 (num a0 0) (num a0 1) 36) &&& ~~~(BitVec.ofInt IntKind.u64.bits (num a0 2))).toNat)
def Za5(a0:Array Value):Bool:=(decide (0<=num a0 0)&&decide (num a0 0<=6)&&(decide (0<=num a0 1)&&decide (num a0 1<=6)))
theorem Zvd(a0:Array Value)(h_a0:WT PZ 38 a0)(hg:((Za5 a0))=true):ansV PZ (mkΓ [(42,con Zd5)]) 1000 f27 [] [.g a0 38] []=some (.a (.i .u64 (Zab a0)),.none,true):=by
 refine(Zw2 1000 a0).trans ?_;unfold Za5 at hg;unfold Zab;revert hg;generalize ((decide (0<=num a0 0)&&decide (num a0 0<=6)&&(decide (0<=num a0 1)&&decide (num a0 1<=6))))=b2;intro hg;cases b2
 ·skip
  first|exact(nomatch (hg:false=true))|rfl
 ·skip
  first|rfl|exact(nomatch (hg:false=true))
def Zh2:Con:=λargs h=>match args,h with|[.g a0 38],[]=>some (.a (.i .u64 (Zab a0)),.none,(Za5 a0))|_,_=>none
theorem Zge:EntX PZ 27:=Zak (fn:=f27)
theorem Zit:Uac mn PZ 27 Zh2:=(ansY (N:=1000) (mKc (Zag Zmf) Zjs mKn) f27 []).of (by
 intro ρ h w args vals r e hA hH hr;unfold Zh2 at hr;split at hr
 ·rename_i a0;obtain⟨rfl,rfl,hg2⟩:=BQi hr;exact Zvd a0 (hA.wt 0 rfl) hg2
 ·cases hr)
def Zs3:Cons:=(mkΓ [(35,con Zoq),(36,con Zmk),(37,con Zdh),(38,con Zio)])
theorem Zzb(N:Nat)(a1 a2 a3:Int)(a0:Array Value):ansV PZ Zs3 N f20 [] [.w 0,.i .i64 a1,.i .i64 a2,.i .u64 a3] [.row a0 38]=(bif (!((okS a0))) then (some (.a (.i .i64 1),.none,true)) else (bif (!((Zaa a1 (0:Int) (1:Int)))) then (some (.a (.i .i64 2),.none,true)) else (bif (!((Zaa a2 (1:Int) (8:Int)))) then (some (.a (.i .i64 2),.none,true)) else (bif ((IntKind.u64.wrap (BitVec.ofInt IntKind.u64.bits a3 &&& ~~~(BitVec.ofInt IntKind.u64.bits (Ua0 (num a0 0) (num a0 1) 36))).toNat) != (0:Int)) then (some (.a (.i .i64 2),.none,true)) else (some (.a (.i .i64 0),.none,true)))))):=by kernel_rfl
def Zeq(a1 a2 a3:Int)(a0:Array Value):Int:=(bif (!((okS a0))) then (1:Int) else (bif (!((Zaa a1 (0:Int) (1:Int)))) then (2:Int) else (bif (!((Zaa a2 (1:Int) (8:Int)))) then (2:Int) else (bif ((IntKind.u64.wrap (BitVec.ofInt IntKind.u64.bits a3 &&& ~~~(BitVec.ofInt IntKind.u64.bits (Ua0 (num a0 0) (num a0 1) 36))).toNat) != (0:Int)) then (2:Int) else (0:Int)))))
theorem Zw4(a1 a2 a3:Int)(a0:Array Value)(h_a1:i64.min<=a1/\a1<=i64.max)(h_a2:i64.min<=a2/\a2<=i64.max)(h_a3:IntKind.u64.min<=a3/\a3<=IntKind.u64.max)(h_a0:WT PZ 38 a0)(hg:(true)=true):ansV PZ Zs3 1000 f20 [] [.w 0,.i .i64 a1,.i .i64 a2,.i .u64 a3] [.row a0 38]=some (.a (.i .i64 (Zeq a1 a2 a3 a0)),.none,true):=by
 refine(Zzb 1000 a1 a2 a3 a0).trans ?_;unfold Zeq;revert hg;generalize ((!((okS a0))))=b2;intro hg;cases b2
 ·skip
  revert hg;generalize ((!((Zaa a1 (0:Int) (1:Int)))))=b4;intro hg;cases b4
  ·skip
   revert hg;generalize ((!((Zaa a2 (1:Int) (8:Int)))))=b6;intro hg;cases b6
   ·skip
    revert hg;generalize (((IntKind.u64.wrap (BitVec.ofInt IntKind.u64.bits a3 &&& ~~~(BitVec.ofInt IntKind.u64.bits (Ua0 (num a0 0) (num a0 1) 36))).toNat) != (0:Int)))=b8;intro hg;cases b8
    ·skip
     first|rfl|exact(nomatch (hg:false=true))
    ·skip
     first|rfl|exact(nomatch (hg:false=true))
   ·skip
    first|rfl|exact(nomatch (hg:false=true))
  ·skip
   first|rfl|exact(nomatch (hg:false=true))
 ·skip
  first|rfl|exact(nomatch (hg:false=true))
def Zl3:Con:=λargs h=>match args,h with|[.w 0,.i .i64 a1,.i .i64 a2,.i .u64 a3],[.row a0 38]=>some (.a (.i .i64 (Zeq a1 a2 a3 a0)),.none,true)|_,_=>none
theorem Zvp:EntX PZ 20:=Zak (fn:=f20)
theorem Ybe:Uac mn PZ 20 Zl3:=(ansY (N:=1000) (mKc (Zag Yg1) Ybn (mKc (Zag Ydf) Zza (mKc (Zag Zk4) Zhl (mKc (Zag Zq3) Znh mKn)))) f20 []).of (by
 intro ρ h w args vals r e hA hH hr;unfold Zl3 at hr;split at hr
 ·rename_i a1 a2 a3 a0;obtain⟨rfl,rfl,hg2⟩:=BQi hr;exact Zw4 a1 a2 a3 a0 (hA.rng 1 rfl) (hA.rng 2 rfl) (hA.rng 3 rfl) (hH.wt 0 rfl) hg2
 ·cases hr)
theorem Yb6(N:Nat)(a1 a2 a3 a4:Int)(a0:Array Value):ansV PZ (mkΓ [(60,con Zg9)]) N f40 [] [.w 0,.i .i64 a1,.i .i64 a2,.i .i64 a3,.i .u64 a4] [.row a0 38]=(bif (okS a0&&Udi a0 (#[.int .i8 (IntKind.i8.wrap a2),.int .i8 (IntKind.i8.wrap a3),.slice none 0 0]:Array Value) 1 (#[.int .i8 (IntKind.i8.wrap a1),.int .i8 0,.int .i16 1]:Array Value)) then (some (.a (.i .u64 (reaV PZ a0 (#[.int .i8 (IntKind.i8.wrap a2),.int .i8 (IntKind.i8.wrap a3),.slice none 0 0]:Array Value) 1 (#[.int .i8 (IntKind.i8.wrap a1),.int .i8 0,.int .i16 1]:Array Value) a4)),.none,true)) else (none)):=by kernel_rfl
def Zbk(P:Program)(a1 a2 a3 a4:Int)(a0:Array Value):Int:=(reaV P a0 (#[.int .i8 (IntKind.i8.wrap a2),.int .i8 (IntKind.i8.wrap a3),.slice none 0 0]:Array Value) 1 (#[.int .i8 (IntKind.i8.wrap a1),.int .i8 0,.int .i16 1]:Array Value) a4)
def Zfk(a1 a2 a3 a4:Int)(a0:Array Value):Bool:=(okS a0&&Udi a0 (#[.int .i8 (IntKind.i8.wrap a2),.int .i8 (IntKind.i8.wrap a3),.slice none 0 0]:Array Value) 1 (#[.int .i8 (IntKind.i8.wrap a1),.int .i8 0,.int .i16 1]:Array Value))
theorem Zzz(a1 a2 a3 a4:Int)(a0:Array Value)(h_a1:i64.min<=a1/\a1<=i64.max)(h_a2:i64.min<=a2/\a2<=i64.max)(h_a3:i64.min<=a3/\a3<=i64.max)(h_a4:IntKind.u64.min<=a4/\a4<=IntKind.u64.max)(h_a0:WT PZ 38 a0)(hg:((Zfk a1 a2 a3 a4 a0))=true):ansV PZ (mkΓ [(60,con Zg9)]) 1000 f40 [] [.w 0,.i .i64 a1,.i .i64 a2,.i .i64 a3,.i .u64 a4] [.row a0 38]=some (.a (.i .u64 (Zbk PZ a1 a2 a3 a4 a0)),.none,true):=by
 refine(Yb6 1000 a1 a2 a3 a4 a0).trans ?_;unfold Zfk at hg;unfold Zbk;revert hg;generalize ((okS a0&&Udi a0 (#[.int .i8 (IntKind.i8.wrap a2),.int .i8 (IntKind.i8.wrap a3),.slice none 0 0]:Array Value) 1 (#[.int .i8 (IntKind.i8.wrap a1),.int .i8 0,.int .i16 1]:Array Value)))=b2;intro hg;cases b2
 ·skip
  first|exact(nomatch (hg:false=true))|rfl
 ·skip
  first|rfl|exact(nomatch (hg:false=true))
def Zmp:Con:=λargs h=>match args,h with|[.w 0,.i .i64 a1,.i .i64 a2,.i .i64 a3,.i .u64 a4],[.row a0 38]=>some (.a (.i .u64 (Zbk PZ a1 a2 a3 a4 a0)),.none,(Zfk a1 a2 a3 a4 a0))|_,_=>none
theorem Zy4:EntX PZ 40:=Zak (fn:=f40)
theorem Ydr:Uac mn PZ 40 Zmp:=(ansY (N:=1000) (mKc (Zag Zyg) Zs7 mKn) f40 []).of (by
 intro ρ h w args vals r e hA hH hr;unfold Zmp at hr;split at hr
 ·rename_i a1 a2 a3 a4 a0;obtain⟨rfl,rfl,hg2⟩:=BQi hr;exact Zzz a1 a2 a3 a4 a0 (hA.rng 1 rfl) (hA.rng 2 rfl) (hA.rng 3 rfl) (hA.rng 4 rfl) (hH.wt 0 rfl) hg2
 ·cases hr)
theorem Ylj{c:Int}(hU:U64 c)(h:c<68719476736):∀j,36<=j->bitI c j=false:=λj hj=>by
 rw[Zd3 hU];have h1:2^36<=2^j:=Nat.pow_le_pow_right (by omega) hj;have h2:(2:Nat)^36=68719476736:=by decide
 unfold U64 at hU;exact Nat.testBit_lt_two_pow (by omega)
theorem low_of{c:Int}(hU:U64 c)(h:∀j,36<=j->bitI c j=false):c<68719476736:=by
 have h2:(2:Nat)^36=68719476736:=by decide
 have h1:c.toNat<2^36:=Nat.lt_pow_two_of_testBit _ λj hj=>by rw[<- Zd3 hU];exact h j hj
 unfold U64 at hU;omega
theorem Ynx{T X:Type}{g:Int->T->Option (Stp T X)}(f:T->Nat->T){c:Int}(hU:U64 c)(hh:∀j,36<=j->bitI c j=false)(hg:∀(t:T) (k:Nat),k<36->bitI c k=true->g (k:Int) t=some (.more (f t k)))(t:T):
  Uam g (Uba c.toNat) t=some (.more (folds (λt k=>if bitI c k then f t k else t) t 36)):=by
 have key:∀n,n<=36->Uam g (((List.range n).filter λk=>c.toNat.testBit k).map λ(k:Nat)=>(k:Int)) t=some (.more (folds (λt k=>if bitI c k then f t k else t) t n)):=by
  intro n
  induction n with
  |zero=>intro _;rfl
  | succ n ih=>
   intro hn;rw[List.range_succ,List.filter_append,List.map_append,Zjk,ih (by omega),Ze7];dsimp only;cases hb:bitI c n with
   |false=>
    have hb':c.toNat.testBit n=false:=by rw[<- Zd3 hU];exact hb
    rw[show (List.filter (λk=>c.toNat.testBit k) [n])=[] by simp[hb']];rfl
   |true=>
    have hb':c.toNat.testBit n=true:=by rw[<- Zd3 hU];exact hb
    rw[show (List.filter (λk=>c.toNat.testBit k) [n])=[n] by simp[hb']];simp only[List.map_cons,List.map_nil,Uam,hg _ n (by omega) hb];rfl
 have e:Uba c.toNat=((List.range 36).filter λk=>c.toNat.testBit k).map λ(k:Nat)=>(k:Int):=by
  unfold Uba;rw[show (64:Nat)=36+28 from rfl,List.range_add,List.filter_append];have:List.filter (λk=>c.toNat.testBit k) (List.map (λx=>36+x) (List.range 28))=[]:=by rw[List.filter_eq_nil_iff];intro k hk;obtain⟨i,_,rfl⟩:=List.mem_map.1 hk;rw[<- Zd3 hU,hh _ (by omega)];simp
  rw[this,List.append_nil]
 rw[e];exact key 36 (Nat.le_refl _)
def rowC(P:Program)(c:Int):Array Value:=folds (λr k=>if bitI c k then r.setIfInBounds (k*1) (.int .i64 1) else r) (zc P 111) 36
theorem Ztj(c:Int):(rowC PZ c).size=36/\∀k,k<36->num (rowC PZ c) k=if bitI c k then 1 else 0:=by
 have h:=Zjl (f:=λ(r:Array Value) k=>if bitI c k then r.setIfInBounds (k*1) (.int .i64 1) else r) (t:=zc PZ 111) (n:=36) (λn r=>r.size=36/\∀k,k<36->num r k=if k<n/\bitI c k=true then 1 else 0) ⟨Yj5,λk hk=>by
   rw[if_neg (by omega)];unfold num;rw[zc_at k hk]⟩ (λn r hn hr=>by
  obtain⟨h1,h2⟩:=hr;cases hb:bitI c n with
  | false=>
   rw[if_neg (by simp)];refine⟨h1,λk hk=> ?_⟩;rw[h2 k hk]
   by_cases e:k=n
   ·subst e;rw[if_neg (by omega),if_neg (by rw[hb];simp)]
   ·by_cases q:k<n/\bitI c k=true
    ·rw[if_pos q,if_pos ⟨by omega,q.2⟩]
    ·rw[if_neg q,if_neg (λx=>q ⟨by omega,x.2⟩)]
  | true=>
   rw[if_pos rfl];refine⟨by rw[Array.size_setIfInBounds];exact h1,λk hk=> ?_⟩
   by_cases e:k=n
   ·subst e;rw[Nat.mul_one,Yp3 (by omega),if_pos ⟨by omega,hb⟩]
   ·unfold num;rw[Array.getElem?_setIfInBounds,if_neg (by omega)];have:=h2 k hk;unfold num at this;rw[this]
    by_cases q:k<n/\bitI c k=true
    ·rw[if_pos q,if_pos ⟨by omega,q.2⟩]
    ·rw[if_neg q,if_neg (λx=>q ⟨by omega,x.2⟩)]) 36 (Nat.le_refl _)
 refine⟨h.1,λk hk=> ?_⟩;have:=h.2 k hk;unfold rowC;rw[this]
 by_cases q:bitI c k=true
 ·rw[if_pos ⟨hk,q⟩,if_pos q]
 ·rw[if_neg (λx=>q x.2),if_neg q]
def Zcq:Cons:=(mkΓx [(69,con Zid)] [(29,Zjm)] [(49,Zfs)])
def Zbf(a0:Array Value)(a1:Int)(g_et:Addr)(g_tb:Addr):St:=(⟨.a (.r a0 53 [])::.a (.i .u64 a1)::.a (.w 2)::.a (.u)::.a (.w 3)::.a (.w 4)::.a (.u)::.a (.i .u64 a1)::.a (.c 49 [8])::us 16 ([]),[.gl 0 124 g_et 3000055,.gl 1 0 g_tb 1000000000,.one (.r a0 53 []) 53,.one (.r #[.int .i64 0,.int .i64 0,.slice none 0 0] 114 []) 114,.row (zc PZ 111) 111,.no,.no,.no,.row #[.int .u64 a1] 23,.no,.no,.no,.no],[]⟩:St)
def Zeh:Array Value->BS
 |r0_4=>([.row r0_4 111]:BS)
def Zgm:Empty->Exit×BS:=λx=>nomatch x
def Zce(P:Program)(a0:Array Value)(a1:Int)(g_et:Addr)(g_tb:Addr)(x0:Int):Array Value->Option (Stp (Array Value) Empty)
 |r0_4=>bif (decide (0<=x0)&&decide (x0<36)) then (some (.more (r0_4.setIfInBounds ((x0).toNat*1) (.int .i64 1)))) else (none)
noncomputable abbrev cKCmE52:=codeOf f52
def Ued:=(Uaa cKCmE52 [([],[4])]).1
theorem Zp0(N:Nat)(a0:Array Value)(a1:Int)(g_et:Addr)(g_tb:Addr)(x0:Int):∀t:Array Value,Uc7 PZ Zcq N (cAt cKCmE52 [1,1,0,1,0,0]) (pAt Ued [1,1,0,1,0]) 13 [4] [9] [(6,9)] (Zbf a0 a1 g_et g_tb) [.i .i64 x0] (Zeh t)=mapS Zeh Zgm (Zce PZ a0 a1 g_et g_tb x0 t):=by
 rintro r0_4
 conv=>rhs;simp only[Zce,Zax,Zay,Zaw,Zaz,Zeh,Zgm]
 kernel_rfl
def Zcu(P:Program)(N:Nat)(a0:Array Value)(a1:Int)(g_et:Addr)(g_tb:Addr)(q0_4:Array Value):Option (SV×Eff×Bool):=bif ((okS (a0.extract 2 (2+363))&&(decide (0<=(num a0 0))&&decide ((num a0 0)<2)))&&(decide (0<=(num a0 1))&&decide ((num a0 1)<=14))) then (some (.a (.r ((spl (#[.int .i64 0,.int .i64 0,.slice none 0 0]:Array Value) 0 (a0.extract 0 (0+2)).toList).setIfInBounds 2 (.slice none 0 0)) 114 [(2,HOLE)]),.newS (some 1000000) (((num a0 1).toNat+1)) (catR PZ sumL (a0.extract 2 (2+363)) q0_4 (num a0 0) (num a0 1) ((num a0 1).toNat+1)) 111,true)) else (none)
def Udl(N:Nat)(g_et g_tb:Addr):=(Uad 0 (kSeq (veC PZ Zcq N (cAt cKCmE52 [1,1,1]) (pAt Ued [1,1,1]) (SV×Eff×Bool)) (finK PZ [.gl 0 124 g_et 3000055,.gl 1 0 g_tb 1000000000] [.cell 4 114])))
theorem Zmo(N:Nat)(a0:Array Value)(a1:Int)(g_et:Addr)(g_tb:Addr)(q0_4:Array Value):(Udl N g_et g_tb) .normal (Uas [4] (Zbf a0 a1 g_et g_tb) ([.row q0_4 111]:BS))=Zcu PZ N a0 a1 g_et g_tb q0_4:=by kernel_rfl
theorem Zpc(N:Nat)(a0:Array Value)(a1:Int)(g_et:Addr)(g_tb:Addr):Ubv (Uam (λ(x0:Int) (hb:BS)=>Uc7 PZ Zcq N (cAt cKCmE52 [1,1,0,1,0,0]) (pAt Ued [1,1,0,1,0]) 13 [4] [9] [(6,9)] (Zbf a0 a1 g_et g_tb) [.i .i64 x0] hb) (Uba (a1).toNat) ([.row (zc PZ 111) 111]:BS)) (λhb=>(Udl N g_et g_tb) .normal (Uas [4] (Zbf a0 a1 g_et g_tb) hb)) (λe hb=>(Udl N g_et g_tb) e (Uas [4] (Zbf a0 a1 g_et g_tb) hb))=Ucw (Uam (Zce PZ a0 a1 g_et g_tb) (Uba (a1).toNat) (zc PZ 111)) (λx=>Zcu PZ N a0 a1 g_et g_tb x) (λx:Empty=>nomatch x):=by
 refine Zpp Zeh Zgm _ _ (λy t=>Zp0 N a0 a1 g_et g_tb y t) _ (zc PZ 111) _ _ _ _ ?_ ?_
 ·intro x;exact Zmo N a0 a1 g_et g_tb x
 ·intro x;exact nomatch x
theorem Zos(N:Nat)(a0:Array Value)(a1:Int)(g_et:Addr)(g_tb:Addr):ansV PZ Zcq N f52 [([],[4])] [.r a0 53 [],.i .u64 a1] [.gl 0 124 g_et 3000055,.gl 1 0 g_tb 1000000000]=(Ucw (Uam (Zce PZ a0 a1 g_et g_tb) (Uba (a1).toNat) (zc PZ 111)) (λx=>Zcu PZ N a0 a1 g_et g_tb x) (λx:Empty=>nomatch x)):=by
 conv=>rhs;simp only[<- Zpc N a0 a1 g_et g_tb]
 kernel_rfl
theorem Zn3(a0:Array Value)(a1:Int)(g_et:Addr)(g_tb:Addr)(h_a0:WT PZ 53 a0)(h_a1:IntKind.u64.min<=a1/\a1<=IntKind.u64.max)(hg:((((okS (a0.extract 2 (2+363))&&(decide (0<=(num a0 0))&&decide ((num a0 0)<2)))&&(decide (0<=(num a0 1))&&decide ((num a0 1)<=14)))&&decide (a1<68719476736)))=true):ansV PZ Zcq 1000 f52 [([],[4])] [.r a0 53 [],.i .u64 a1] [.gl 0 124 g_et 3000055,.gl 1 0 g_tb 1000000000]=some (.a (.r ((spl (#[.int .i64 0,.int .i64 0,.slice none 0 0]:Array Value) 0 (a0.extract 0 (0+2)).toList).setIfInBounds 2 (.slice none 0 0)) 114 [(2,HOLE)]),.newS (some 1000000) ((num a0 1).toNat+1) (catR PZ sumL (a0.extract 2 (2+363)) (rowC PZ a1) (num a0 0) (num a0 1) ((num a0 1).toNat+1)) 111,true):=by
 rw[Q7]at hg;obtain⟨hg,hlow⟩:=hg;have hU:U64 a1:=h_a1;have hh:=Ylj hU (of_decide_eq_true hlow);refine(Zos 1000 a0 a1 g_et g_tb).trans ?_;rw[Ynx (X:=Empty) (g:=Zce PZ a0 a1 g_et g_tb) (λ(r:Array Value) k=>r.setIfInBounds (k*1) (.int .i64 1)) hU hh (λt k hk hb=>by
  simp only[Zce,dec2 (show 0<=(k:Int) by omega) (show (k:Int)<36 by omega),Q9,Q1])]
 show Zcu PZ 1000 a0 a1 g_et g_tb (rowC PZ a1)=_
 unfold Zcu;rw[hg,Q1]
def Zgb:Con:=λargs h=>match args,h with|[.r a0 53 [],.i .u64 a1],[.gl 0 124 g_et 3000055,.gl 1 0 g_tb 1000000000]=>some (.a (.r ((spl (#[.int .i64 0,.int .i64 0,.slice none 0 0]:Array Value) 0 (a0.extract 0 (0+2)).toList).setIfInBounds 2 (.slice none 0 0)) 114 [(2,HOLE)]),.newS (some 1000000) ((num a0 1).toNat+1) (catR PZ sumL (a0.extract 2 (2+363)) (rowC PZ a1) (num a0 0) (num a0 1) ((num a0 1).toNat+1)) 111,(((okS (a0.extract 2 (2+363))&&(decide (0<=(num a0 0))&&decide ((num a0 0)<2)))&&(decide (0<=(num a0 1))&&decide ((num a0 1)<=14)))&&decide (a1<68719476736)))|_,_=>none
theorem Zna:EntX PZ 52:=Zak (fn:=f52)
theorem Zp1:Uac mn PZ 52 Zgb:=(ansY (N:=1000) (mKx (Zag Zua) Zp6 (mkΓx_nX Zig Zgn (mkΓx_iX Zgq Zfm mkΓx_nilX))) f52 [([],[4])]).of (by
 intro ρ h w args vals r e hA hH hr;unfold Zgb at hr;split at hr
 ·rename_i a0 a1 g_et g_tb;obtain⟨rfl,rfl,hg2⟩:=BQi hr;exact Zn3 a0 a1 g_et g_tb (hA.wtr 0 rfl) (hA.rng 1 rfl) hg2
 ·cases hr)
def srcV(P:Program)(S:Array Value)(b h c:Int):Int:=IntKind.u64.wrap (BitVec.ofInt IntKind.u64.bits (Zab S) &&& BitVec.ofInt IntKind.u64.bits (folds (fbF (rowR P sumL S (rowC P c) b h h.toNat)) 0 36)).toNat
theorem Yd3{S:Array Value}{c:Int}(hok:okS S=true):Zfq S c=true:=by unfold Zfq;exact Ztg hok
theorem Ylz(b h:Int):Zcv #[.int .i64 b,.int .i64 h]=(Zaa b 0 1&&Zaa h 1 8):=by
 show (bif Zdj b then (bif decide (h>=1) then decide (h<=8) else false) else false)=_
 rw[tide_eq];unfold Zaa;cases decide (b>=0)<;>cases decide (b<=1)<;>cases decide (h>=1)<;>cases decide (h<=8)<;>rfl
theorem Zpv{S:Array Value}{b h:Int}(hS:S.size=363):(spl (spl (zc PZ 53) 0 (#[.int .i64 b,.int .i64 h]:Array Value).toList) 2 S.toList).extract 2 (2+363)=S/\(spl (spl (zc PZ 53) 0 (#[.int .i64 b,.int .i64 h]:Array Value).toList) 2 S.toList).extract 0 (0+2)=#[.int .i64 b,.int .i64 h]:=by
 have hz:(zc PZ 53).size=366:=by kernel_rfl
 generalize (zc PZ 53)=Z at hz;have hl:S.toList.length=363:=by rw[Array.length_toList,hS]
 constructor
 ·refine Array.ext_getElem? λi=> ?_
  rw[Array.getElem?_extract,Zha _ _ _ (by rw[Zir,hz,hl];omega),Zir,Zir,hz,hl]
  by_cases hi:i<363
  ·rw[if_pos (by omega),if_pos (by omega),Array.getElem?_toList,show 2+i - 2=i by omega]
  ·rw[if_neg (by omega),Array.getElem?_eq_none (by omega)]
 ·refine Array.ext_getElem? λi=> ?_
  rw[Array.getElem?_extract,Zha _ _ _ (by rw[Zir,hz,hl];omega),Zha _ _ _ (by rw[hz];simp),Zir,Zir,hz,hl]
  by_cases hi:i<2
  ·rw[if_pos (by omega),if_neg (by omega),if_pos (by simp;omega),Array.getElem?_toList,show 0+i - 0=i by omega]
  ·rw[if_neg (by omega),Array.getElem?_eq_none (by simp;omega)]
theorem Ycd{S:Array Value}{b h:Int}(hS:S.size=363):num (spl (spl (zc PZ 53) 0 (#[.int .i64 b,.int .i64 h]:Array Value).toList) 2 S.toList) 0=b/\num (spl (spl (zc PZ 53) 0 (#[.int .i64 b,.int .i64 h]:Array Value).toList) 2 S.toList) 1=h:=by
 have h2:=(Zpv (b:=b) (h:=h) hS).2;generalize (spl (spl (zc PZ 53) 0 (#[.int .i64 b,.int .i64 h]:Array Value).toList) 2 S.toList)=V at h2|-
 have e:∀i,i<2->num V i=num (V.extract 0 (0+2)) i:=λi hi=>by
  have hz:(V.extract 0 (0+2)).size=2:=by rw[h2];rfl
  rw[Array.size_extract]at hz;unfold num;rw[Array.getElem?_extract,if_pos (by omega),Nat.zero_add]
 exact⟨(e 0 (by omega)).trans (by rw[h2];rfl),(e 1 (by omega)).trans (by rw[h2];rfl)⟩
def Zl5:Cons:=(mkΓ [(27,con Zh2),(51,con Zj2),(52,conG Zgb)])
theorem Zqu(N:Nat)(a0:Array Value)(a1:Int)(g_et:Addr)(g_tb:Addr):ansV PZ Zl5 N f30 [] [.r a0 53 [],.i .u64 a1] [.gl 0 124 g_et 3000055,.gl 1 0 g_tb 1000000000]=(bif (Za5 (a0.extract 2 (2+363))) then (bif (((okS (a0.extract 2 (2+363))&&(decide (0<=(num a0 0))&&decide ((num a0 0)<2)))&&(decide (0<=(num a0 1))&&decide ((num a0 1)<=14)))&&decide (a1<68719476736)) then (bif (decide (0<=(num a0 1))&&decide ((num a0 1)<((((num a0 1).toNat+1)):Int))) then (some (.a (.i .u64 (IntKind.u64.wrap (BitVec.ofInt IntKind.u64.bits (Zab (a0.extract 2 (2+363))) &&& BitVec.ofInt IntKind.u64.bits (folds (fbF ((catR PZ sumL (a0.extract 2 (2+363)) (rowC PZ a1) (num a0 0) (num a0 1) ((num a0 1).toNat+1)).extract ((num a0 1).toNat*36) (((num a0 1).toNat*36)+36))) 0 36)).toNat)),.none,true)) else (none)) else (none)) else (none)):=by kernel_rfl
theorem Zo9(a0:Array Value)(a1:Int)(g_et:Addr)(g_tb:Addr)(h_a0:WT PZ 53 a0)(h_a1:IntKind.u64.min<=a1/\a1<=IntKind.u64.max)(hg:((((okS (a0.extract 2 (2+363))&&(decide (0<=(num a0 0))&&decide ((num a0 0)<2)))&&(decide (0<=(num a0 1))&&decide ((num a0 1)<=14)))&&decide (a1<68719476736)))=true):ansV PZ Zl5 1000 f30 [] [.r a0 53 [],.i .u64 a1] [.gl 0 124 g_et 3000055,.gl 1 0 g_tb 1000000000]=some (.a (.i .u64 (srcV PZ (a0.extract 2 (2+363)) (num a0 0) (num a0 1) a1)),.none,true):=by
 have hq:=hg;simp only[Q7,decide_eq_true_eq]at hq;obtain⟨⟨⟨hok,-⟩,h0,h14⟩,-⟩:=hq;refine(Zqu 1000 a0 a1 g_et g_tb).trans ?_;have hw:Za5 (a0.extract 2 (2+363))=true:=by unfold Za5;exact Ztg hok
 have hL:=(Ztj a1).1;rw[hw,Q1,hg,Q1,Q3 h0,Q3 (by omega),Ykh sumL (a0.extract 2 (2+363)) hL (num a0 0) (num a0 1) ((num a0 1).toNat+1) (show (num a0 1).toNat<(num a0 1).toNat+1 by omega)];rfl
def Zhc:Con:=λargs h=>match args,h with|[.r a0 53 [],.i .u64 a1],[.gl 0 124 g_et 3000055,.gl 1 0 g_tb 1000000000]=>some (.a (.i .u64 (srcV PZ (a0.extract 2 (2+363)) (num a0 0) (num a0 1) a1)),.none,(((okS (a0.extract 2 (2+363))&&(decide (0<=(num a0 0))&&decide ((num a0 0)<2)))&&(decide (0<=(num a0 1))&&decide ((num a0 1)<=14)))&&decide (a1<68719476736)))|_,_=>none
theorem Zgd:EntX PZ 30:=Zak (fn:=f30)
theorem Zhp:Uac mn PZ 30 Zhc:=(ansY (N:=1000) (mKc (Zag Zit) Zge (mKc (Zag Zw0) Zss (mKc (Zmx Zp1) Zna mKn))) f30 []).of (by
 intro ρ h w args vals r e hA hH hr;unfold Zhc at hr;split at hr
 ·rename_i a0 a1 g_et g_tb;obtain⟨rfl,rfl,hg2⟩:=BQi hr;exact Zo9 a0 a1 g_et g_tb (hA.wtr 0 rfl) (hA.rng 1 rfl) hg2
 ·cases hr)
def Zjo:Cons:=(mkΓ [(23,con Zlz),(24,con Zfl),(25,con Zlo)])
theorem Zk9(N:Nat)(a0:Array Value)(a1 a2 a3:Int):ansV PZ Zjo N f12 [] [.g a0 38,.i .i64 a1,.i .i64 a2,.i .u64 a3] []=(bif (!((okS a0))) then (some (.t [.r (zc PZ 53) 53 [],.v (.iface 70 (.int .i64 1))],.none,true)) else (bif (!((Zcv ((spl (spl (zc PZ 53) 0 (#[.int .i64 a1,.int .i64 a2]:Array Value).toList) 2 a0.toList).extract 0 (0+2))))) then (some (.t [.r (zc PZ 53) 53 [],.v (.iface 70 (.int .i64 2))],.none,true)) else (bif (Zfq a0 a3) then (bif (!((Zac a0 a3))) then (some (.t [.r (zc PZ 53) 53 [],.v (.iface 70 (.int .i64 2))],.none,true)) else (some (.t [.r (spl (spl (zc PZ 53) 0 (#[.int .i64 a1,.int .i64 a2]:Array Value).toList) 2 a0.toList) 53 [],.v .nilIface],.none,true))) else (none)))):=by kernel_rfl
theorem Zt1(a0:Array Value)(a1 a2 a3:Int)(h_a0:WT PZ 38 a0)(h_a1:i64.min<=a1/\a1<=i64.max)(h_a2:i64.min<=a2/\a2<=i64.max)(h_a3:IntKind.u64.min<=a3/\a3<=IntKind.u64.max)(hc0:(okS a0)=false)(hg:(true)=true):ansV PZ Zjo 1000 f12 [] [.g a0 38,.i .i64 a1,.i .i64 a2,.i .u64 a3] []=some (.t [.r (zc PZ 53) 53 [],.v (.iface 70 (.int .i64 1))],.none,true):=by refine(Zk9 1000 a0 a1 a2 a3).trans ?_;simp only[hc0,Bool.not_false,Q1]
theorem Zud(a0:Array Value)(a1 a2 a3:Int)(h_a0:WT PZ 38 a0)(h_a1:i64.min<=a1/\a1<=i64.max)(h_a2:i64.min<=a2/\a2<=i64.max)(h_a3:IntKind.u64.min<=a3/\a3<=IntKind.u64.max)(hc0:(okS a0)=true)(hc1:((Zaa a1 0 1&&(Zaa a2 1 8&&Zac a0 a3)))=false)(hg:(true)=true):ansV PZ Zjo 1000 f12 [] [.g a0 38,.i .i64 a1,.i .i64 a2,.i .u64 a3] []=some (.t [.r (zc PZ 53) 53 [],.v (.iface 70 (.int .i64 2))],.none,true):=by
 refine(Zk9 1000 a0 a1 a2 a3).trans ?_;have hz:a0.size=363:=Zxp h_a0;rw[(Zpv hz).2,Ylz,Yd3 hc0,hc0];generalize Zaa a1 0 1=x1 at hc1|-
 generalize Zaa a2 1 8=x2 at hc1|-
 generalize Zac a0 a3=x3 at hc1|-
 cases x1<;>cases x2<;>cases x3<;>first|rfl|exact absurd hc1 (by decide)
theorem Zue(a0:Array Value)(a1 a2 a3:Int)(h_a0:WT PZ 38 a0)(h_a1:i64.min<=a1/\a1<=i64.max)(h_a2:i64.min<=a2/\a2<=i64.max)(h_a3:IntKind.u64.min<=a3/\a3<=IntKind.u64.max)(hc0:(okS a0)=true)(hc1:((Zaa a1 0 1&&(Zaa a2 1 8&&Zac a0 a3)))=true)(hg:(true)=true):ansV PZ Zjo 1000 f12 [] [.g a0 38,.i .i64 a1,.i .i64 a2,.i .u64 a3] []=some (.t [.r (spl (spl (zc PZ 53) 0 (#[.int .i64 a1,.int .i64 a2]:Array Value).toList) 2 a0.toList) 53 [],.v .nilIface],.none,true):=by
 refine(Zk9 1000 a0 a1 a2 a3).trans ?_;have hz:a0.size=363:=Zxp h_a0;rw[(Zpv hz).2,Ylz,Yd3 hc0,hc0];generalize Zaa a1 0 1=x1 at hc1|-
 generalize Zaa a2 1 8=x2 at hc1|-
 generalize Zac a0 a3=x3 at hc1|-
 cases x1<;>cases x2<;>cases x3<;>first|rfl|exact absurd hc1 (by decide)
def Zjt:SCon:=λargs h=>match args,h with|[.g a0 38,.i .i64 a1,.i .i64 a2,.i .u64 a3],[]=>.two (okS a0) (.two ((Zaa a1 0 1&&(Zaa a2 1 8&&Zac a0 a3))) (.one (some (.t [.r (spl (spl (zc PZ 53) 0 (#[.int .i64 a1,.int .i64 a2]:Array Value).toList) 2 a0.toList) 53 [],.v .nilIface],.none,true))) (.one (some (.t [.r (zc PZ 53) 53 [],.v (.iface 70 (.int .i64 2))],.none,true)))) (.one (some (.t [.r (zc PZ 53) 53 [],.v (.iface 70 (.int .i64 1))],.none,true)))|_,_=>.one none
theorem Zmu:EntX PZ 12:=Zak (fn:=f12)
theorem Zn8:Uac mn PZ 12 (λargs h=>Uag (Zjt args h)):=by
 intro ρ h w args vals r e hn hr hA hH;dsimp only at hr;unfold Zjt at hr;split at hr
 ·rename_i a0 a1 a2 a3;simp only[Uag]at hr;cases hc0:(okS a0)
  ·rw[hc0]at hr;simp only[Uag,Q1,Q2]at hr;obtain⟨rfl,rfl,hg2⟩:=BQi hr;exact((ansY (N:=1000) (mKc (Zag Zmi) Zkc (mKc (Zag Zfo) Zes (mKc (Zag Zmh) Zj4 mKn))) f12 [])) ρ _ w _ vals _ _ hn ((Zt1 a0 a1 a2 a3 (hA.wt 0 rfl) (hA.rng 1 rfl) (hA.rng 2 rfl) (hA.rng 3 rfl) hc0 hg2)) hA hH
  ·rw[hc0]at hr;simp only[Uag,Q1,Q2]at hr;cases hc1:((Zaa a1 0 1&&(Zaa a2 1 8&&Zac a0 a3)))
   ·rw[hc1]at hr;simp only[Uag,Q1,Q2]at hr;obtain⟨rfl,rfl,hg2⟩:=BQi hr;exact((ansY (N:=1000) (mKc (Zag Zmi) Zkc (mKc (Zag Zfo) Zes (mKc (Zag Zmh) Zj4 mKn))) f12 [])) ρ _ w _ vals _ _ hn ((Zud a0 a1 a2 a3 (hA.wt 0 rfl) (hA.rng 1 rfl) (hA.rng 2 rfl) (hA.rng 3 rfl) hc0 hc1 hg2)) hA hH
   ·rw[hc1]at hr;simp only[Uag,Q1,Q2]at hr;obtain⟨rfl,rfl,hg2⟩:=BQi hr;exact((ansY (N:=1000) (mKc (Zag Zmi) Zkc (mKc (Zag Zfo) Zes (mKc (Zag Zmh) Zj4 mKn))) f12 [])) ρ _ w _ vals _ _ hn ((Zue a0 a1 a2 a3 (hA.wt 0 rfl) (hA.rng 1 rfl) (hA.rng 2 rfl) (hA.rng 3 rfl) hc0 hc1 hg2)) hA hH
 ·simp only[Uag]at hr;cases hr
end
end Go.Proofs.YtgllknjdblkhnaaGreatDoor
