/- The prospects of some cells, and their sources, in company. -/
import Derived.Test.YtgllknjdblkhnaaDoorProg
import Derived.Test.YtgllknjdblkhnaaDoorCmD
set_option linter.unusedVariables false
set_option linter.unusedSimpArgs false
namespace Go.Proofs.YtgllknjdblkhnaaDoor
open Tryd (f15 f18 f36 f39 f40 f42 f45 f70)
open Go.ChangeShapes Go.WideShapes Go.ChangeAt Go.RowKit Ve Vc
open Tryd (prog)
open IntKind (i64)
set_option maxRecDepth 100000
noncomputable section
variable {mn:Md}
abbrev Znb:Con:=Ue8
theorem Zte:EntX prog 19:=Yd3
theorem Zyo:Uad mn prog 19 Znb:=Ykm
theorem Zwx(N:Nat)(a0:Array Value)(a1:Int):ansV prog (mkΓ [(60,con Zds)]) N f40 [] [.g a0 35,.i .u64 a1] []=(bif (decide (0<=num a0 0)&&decide (num a0 0<=6)&&(decide (0<=num a0 1)&&decide (num a0 1<=6))) then (some (.a (.b (((IntKind.u64.wrap (BitVec.ofInt IntKind.u64.bits a1 &&& ~~~(BitVec.ofInt IntKind.u64.bits (Ua0 (num a0 0) (num a0 1) 36))).toNat)==(0:Int)))),.none,true)) else (none)):=by kernel_rfl
def Zac(a0:Array Value)(a1:Int):Bool:=((IntKind.u64.wrap (BitVec.ofInt IntKind.u64.bits a1 &&& ~~~(BitVec.ofInt IntKind.u64.bits (Ua0 (num a0 0) (num a0 1) 36))).toNat)==(0:Int))
def Zfb(a0:Array Value)(a1:Int):Bool:=(decide (0<=num a0 0)&&decide (num a0 0<=6)&&(decide (0<=num a0 1)&&decide (num a0 1<=6)))
theorem Zvb(a0:Array Value)(a1:Int)(h_a0:WT prog 35 a0)(h_a1:IntKind.u64.min<=a1/\a1<=IntKind.u64.max)(hg:((Zfb a0 a1))=true):ansV prog (mkΓ [(60,con Zds)]) 1000 f40 [] [.g a0 35,.i .u64 a1] []=some (.a (.b ((Zac a0 a1))),.none,true):=by
 refine(Zwx 1000 a0 a1).trans ?_;unfold Zfb at hg;unfold Zac;revert hg;generalize ((decide (0<=num a0 0)&&decide (num a0 0<=6)&&(decide (0<=num a0 1)&&decide (num a0 1<=6))))=b2;intro hg;cases b2
 ·skip
  first|exact(nomatch (hg:false=true))|rfl
 ·skip
  first|rfl|exact(nomatch (hg:false=true))
def Zkb:Con:=λargs h=>match args,h with|[.g a0 35,.i .u64 a1],[]=>some (.a (.b ((Zac a0 a1))),.none,(Zfb a0 a1))|_,_=>none
theorem Zi4:EntX prog 40:=Zao (fn:=f40)
theorem Zk1:Uad mn prog 40 Zkb:=(ansY (N:=1000) (mKc (Zai Zkz) Zi5 mKn) f40 []).of (by
 intro ρ h w args vals r e hA hH hr;unfold Zkb at hr;split at hr
 ·rename_i a0 a1;obtain⟨rfl,rfl,hg2⟩:=BQi hr;exact Zvb a0 a1 (hA.wt 0 rfl) (hA.rng 1 rfl) hg2
 ·cases hr)
theorem Zlw(N:Nat)(a0:Array Value):ansV prog (mkΓ [(62,con Zik)]) N f39 [] [.g a0 56] []=(bif (Zdb (num a0 0)) then (bif decide ((num a0 1)>=(1:Int)) then (some (.a (.b (decide ((num a0 1)<=(8:Int)))),.none,true)) else (some (.a (.b false),.none,true))) else (some (.a (.b false),.none,true))):=by kernel_rfl
def Zcn(a0:Array Value):Bool:=(bif (Zdb (num a0 0)) then (bif decide ((num a0 1)>=(1:Int)) then decide ((num a0 1)<=(8:Int)) else false) else false)
theorem Zle(a0:Array Value)(h_a0:WT prog 56 a0)(hg:(true)=true):ansV prog (mkΓ [(62,con Zik)]) 1000 f39 [] [.g a0 56] []=some (.a (.b ((Zcn a0))),.none,true):=by
 refine(Zlw 1000 a0).trans ?_;unfold Zcn;revert hg;generalize ((Zdb (num a0 0)))=b2;intro hg;cases b2
 ·skip
  first|rfl|exact(nomatch (hg:false=true))
 ·skip
  revert hg;generalize (decide ((num a0 1)>=(1:Int)))=b4;intro hg;cases b4
  ·skip
   first|rfl|exact(nomatch (hg:false=true))
  ·skip
   first|rfl|exact(nomatch (hg:false=true))
def Ze3:Con:=λargs h=>match args,h with|[.g a0 56],[]=>some (.a (.b ((Zcn a0))),.none,true)|_,_=>none
theorem Zec:EntX prog 39:=Zao (fn:=f39)
theorem Ze5:Uad mn prog 39 Ze3:=(ansY (N:=1000) (mKc (Zai Yat) Zt9 mKn) f39 []).of (by
 intro ρ h w args vals r e hA hH hr;unfold Ze3 at hr;split at hr
 ·rename_i a0;obtain⟨rfl,rfl,hg2⟩:=BQi hr;exact Zle a0 (hA.wt 0 rfl) hg2
 ·cases hr)
theorem Ztx(N:Nat)(a0:Array Value):ansV prog (mkΓ [(60,con Zds)]) N f42 [] [.g a0 35] []=(bif (decide (0<=num a0 0)&&decide (num a0 0<=6)&&(decide (0<=num a0 1)&&decide (num a0 1<=6))) then (some (.a (.i .u64 (IntKind.u64.wrap (BitVec.ofInt IntKind.u64.bits (Ua0 (num a0 0) (num a0 1) 36) &&& ~~~(BitVec.ofInt IntKind.u64.bits (num a0 2))).toNat)),.none,true)) else (none)):=by kernel_rfl
def Zab(a0:Array Value):Int:=(IntKind.u64.wrap (BitVec.ofInt IntKind.u64.bits (Ua0 (num a0 0) (num a0 1) 36) &&& ~~~(BitVec.ofInt IntKind.u64.bits (num a0 2))).toNat)
def Zaz(a0:Array Value):Bool:=(decide (0<=num a0 0)&&decide (num a0 0<=6)&&(decide (0<=num a0 1)&&decide (num a0 1<=6)))
theorem Zst(a0:Array Value)(h_a0:WT prog 35 a0)(hg:((Zaz a0))=true):ansV prog (mkΓ [(60,con Zds)]) 1000 f42 [] [.g a0 35] []=some (.a (.i .u64 (Zab a0)),.none,true):=by
 refine(Ztx 1000 a0).trans ?_;unfold Zaz at hg;unfold Zab;revert hg;generalize ((decide (0<=num a0 0)&&decide (num a0 0<=6)&&(decide (0<=num a0 1)&&decide (num a0 1<=6))))=b2;intro hg;cases b2
 ·skip
  first|exact(nomatch (hg:false=true))|rfl
 ·skip
  first|rfl|exact(nomatch (hg:false=true))
def Zg2:Con:=λargs h=>match args,h with|[.g a0 35],[]=>some (.a (.i .u64 (Zab a0)),.none,(Zaz a0))|_,_=>none
theorem Zfr:EntX prog 42:=Zao (fn:=f42)
theorem Zhm:Uad mn prog 42 Zg2:=(ansY (N:=1000) (mKc (Zai Zkz) Zi5 mKn) f42 []).of (by
 intro ρ h w args vals r e hA hH hr;unfold Zg2 at hr;split at hr
 ·rename_i a0;obtain⟨rfl,rfl,hg2⟩:=BQi hr;exact Zst a0 (hA.wt 0 rfl) hg2
 ·cases hr)
def Zpg:Cons:=(mkΓ [(31,con Zm7),(32,con Zkv),(33,con Zc7),(34,con Zhu)])
theorem Zxs(N:Nat)(a1 a2 a3:Int)(a0:Array Value):ansV prog Zpg N f15 [] [.w 0,.i .i64 a1,.i .i64 a2,.i .u64 a3] [.row a0 35]=(bif (!((okS a0))) then (some (.a (.i .i64 1),.none,true)) else (bif (!((Zaa a1 (0:Int) (1:Int)))) then (some (.a (.i .i64 2),.none,true)) else (bif (!((Zaa a2 (1:Int) (8:Int)))) then (some (.a (.i .i64 2),.none,true)) else (bif ((IntKind.u64.wrap (BitVec.ofInt IntKind.u64.bits a3 &&& ~~~(BitVec.ofInt IntKind.u64.bits (Ua0 (num a0 0) (num a0 1) 36))).toNat) != (0:Int)) then (some (.a (.i .i64 2),.none,true)) else (some (.a (.i .i64 0),.none,true)))))):=by kernel_rfl
def Zeb(a1 a2 a3:Int)(a0:Array Value):Int:=(bif (!((okS a0))) then (1:Int) else (bif (!((Zaa a1 (0:Int) (1:Int)))) then (2:Int) else (bif (!((Zaa a2 (1:Int) (8:Int)))) then (2:Int) else (bif ((IntKind.u64.wrap (BitVec.ofInt IntKind.u64.bits a3 &&& ~~~(BitVec.ofInt IntKind.u64.bits (Ua0 (num a0 0) (num a0 1) 36))).toNat) != (0:Int)) then (2:Int) else (0:Int)))))
theorem Zua(a1 a2 a3:Int)(a0:Array Value)(h_a1:i64.min<=a1/\a1<=i64.max)(h_a2:i64.min<=a2/\a2<=i64.max)(h_a3:IntKind.u64.min<=a3/\a3<=IntKind.u64.max)(h_a0:WT prog 35 a0)(hg:(true)=true):ansV prog Zpg 1000 f15 [] [.w 0,.i .i64 a1,.i .i64 a2,.i .u64 a3] [.row a0 35]=some (.a (.i .i64 (Zeb a1 a2 a3 a0)),.none,true):=by
 refine(Zxs 1000 a1 a2 a3 a0).trans ?_;unfold Zeb;revert hg;generalize ((!((okS a0))))=b2;intro hg;cases b2
 ·skip
  revert hg;generalize ((!((Zaa a1 (0:Int) (1:Int)))))=b4;intro hg;cases b4
  ·skip
   revert hg;generalize ((!((Zaa a2 (1:Int) (8:Int)))))=b6;intro hg;cases b6
   ·skip
    revert hg;generalize (((IntKind.u64.wrap (BitVec.ofInt IntKind.u64.bits a3 &&& ~~~(BitVec.ofInt IntKind.u64.bits (Ua0 (num a0 0) (num a0 1) 36))).toNat) != (0:Int)))=b8;intro hg;cases b8
    ·skip
     first|rfl|exact(nomatch (hg:false=true))
    ·skip
     first|rfl|exact(nomatch (hg:false=true))
   ·skip
    first|rfl|exact(nomatch (hg:false=true))
  ·skip
   first|rfl|exact(nomatch (hg:false=true))
 ·skip
  first|rfl|exact(nomatch (hg:false=true))
def Zj7:Con:=λargs h=>match args,h with|[.w 0,.i .i64 a1,.i .i64 a2,.i .u64 a3],[.row a0 35]=>some (.a (.i .i64 (Zeb a1 a2 a3 a0)),.none,true)|_,_=>none
theorem Zth:EntX prog 15:=Zao (fn:=f15)
theorem Zy1:Uad mn prog 15 Zj7:=(ansY (N:=1000) (mKc (Zai Yd5) Zyc (mKc (Zai Yak) Zum (mKc (Zai Zjh) Zgm (mKc (Zai Zor) Zl1 mKn)))) f15 []).of (by
 intro ρ h w args vals r e hA hH hr;unfold Zj7 at hr;split at hr
 ·rename_i a1 a2 a3 a0;obtain⟨rfl,rfl,hg2⟩:=BQi hr;exact Zua a1 a2 a3 a0 (hA.rng 1 rfl) (hA.rng 2 rfl) (hA.rng 3 rfl) (hH.wt 0 rfl) hg2
 ·cases hr)
theorem Zyq(N:Nat)(a1 a2 a3 a4:Int)(a0:Array Value):ansV prog (mkΓ [(58,con Zf6)]) N f36 [] [.w 0,.i .i64 a1,.i .i64 a2,.i .i64 a3,.i .u64 a4] [.row a0 35]=(bif (okS a0&&Udj a0 (#[.int .i8 (IntKind.i8.wrap a2),.int .i8 (IntKind.i8.wrap a3),.slice none 0 0]:Array Value) 1 (#[.int .i8 (IntKind.i8.wrap a1),.int .i8 0,.int .i16 1]:Array Value)) then (some (.a (.i .u64 (reaV prog a0 (#[.int .i8 (IntKind.i8.wrap a2),.int .i8 (IntKind.i8.wrap a3),.slice none 0 0]:Array Value) 1 (#[.int .i8 (IntKind.i8.wrap a1),.int .i8 0,.int .i16 1]:Array Value) a4)),.none,true)) else (none)):=by kernel_rfl
def Zbi(P:Program)(a1 a2 a3 a4:Int)(a0:Array Value):Int:=(reaV P a0 (#[.int .i8 (IntKind.i8.wrap a2),.int .i8 (IntKind.i8.wrap a3),.slice none 0 0]:Array Value) 1 (#[.int .i8 (IntKind.i8.wrap a1),.int .i8 0,.int .i16 1]:Array Value) a4)
def Ze0(a1 a2 a3 a4:Int)(a0:Array Value):Bool:=(okS a0&&Udj a0 (#[.int .i8 (IntKind.i8.wrap a2),.int .i8 (IntKind.i8.wrap a3),.slice none 0 0]:Array Value) 1 (#[.int .i8 (IntKind.i8.wrap a1),.int .i8 0,.int .i16 1]:Array Value))
theorem Zxl(a1 a2 a3 a4:Int)(a0:Array Value)(h_a1:i64.min<=a1/\a1<=i64.max)(h_a2:i64.min<=a2/\a2<=i64.max)(h_a3:i64.min<=a3/\a3<=i64.max)(h_a4:IntKind.u64.min<=a4/\a4<=IntKind.u64.max)(h_a0:WT prog 35 a0)(hg:((Ze0 a1 a2 a3 a4 a0))=true):ansV prog (mkΓ [(58,con Zf6)]) 1000 f36 [] [.w 0,.i .i64 a1,.i .i64 a2,.i .i64 a3,.i .u64 a4] [.row a0 35]=some (.a (.i .u64 (Zbi prog a1 a2 a3 a4 a0)),.none,true):=by
 refine(Zyq 1000 a1 a2 a3 a4 a0).trans ?_;unfold Ze0 at hg;unfold Zbi;revert hg;generalize ((okS a0&&Udj a0 (#[.int .i8 (IntKind.i8.wrap a2),.int .i8 (IntKind.i8.wrap a3),.slice none 0 0]:Array Value) 1 (#[.int .i8 (IntKind.i8.wrap a1),.int .i8 0,.int .i16 1]:Array Value)))=b2;intro hg;cases b2
 ·skip
  first|exact(nomatch (hg:false=true))|rfl
 ·skip
  first|rfl|exact(nomatch (hg:false=true))
def Zk5:Con:=λargs h=>match args,h with|[.w 0,.i .i64 a1,.i .i64 a2,.i .i64 a3,.i .u64 a4],[.row a0 35]=>some (.a (.i .u64 (Zbi prog a1 a2 a3 a4 a0)),.none,(Ze0 a1 a2 a3 a4 a0))|_,_=>none
theorem Zvn:EntX prog 36:=Zao (fn:=f36)
theorem Ya0:Uad mn prog 36 Zk5:=(ansY (N:=1000) (mKc (Zai Zvf) Zqs mKn) f36 []).of (by
 intro ρ h w args vals r e hA hH hr;unfold Zk5 at hr;split at hr
 ·rename_i a1 a2 a3 a4 a0;obtain⟨rfl,rfl,hg2⟩:=BQi hr;exact Zxl a1 a2 a3 a4 a0 (hA.rng 1 rfl) (hA.rng 2 rfl) (hA.rng 3 rfl) (hA.rng 4 rfl) (hH.wt 0 rfl) hg2
 ·cases hr)
theorem low_bits{c:Int}(hU:U64 c)(h:c<68719476736):∀j,36<=j->bitI c j=false:=λj hj=>by
 rw[Zef hU];have h1:2^36<=2^j:=Nat.pow_le_pow_right (by omega) hj;have h2:(2:Nat)^36=68719476736:=by decide
 unfold U64 at hU;exact Nat.testBit_lt_two_pow (by omega)
theorem Yjw{T X:Type}{g:Int->T->Option (Stp T X)}(f:T->Nat->T){c:Int}(hU:U64 c)(hh:∀j,36<=j->bitI c j=false)(hg:∀(t:T) (k:Nat),k<36->bitI c k=true->g (k:Int) t=some (.more (f t k)))(t:T):
  Uam g (Ube c.toNat) t=some (.more (folds (λt k=>if bitI c k then f t k else t) t 36)):=by
 have key:∀n,n<=36->Uam g (((List.range n).filter λk=>c.toNat.testBit k).map λ(k:Nat)=>(k:Int)) t=some (.more (folds (λt k=>if bitI c k then f t k else t) t n)):=by
  intro n
  induction n with
  |zero=>intro _;rfl
  | succ n ih=>
   intro hn;rw[List.range_succ,List.filter_append,List.map_append,Zii,ih (by omega),Zen];dsimp only;cases hb:bitI c n with
   |false=>
    have hb':c.toNat.testBit n=false:=by rw[<- Zef hU];exact hb
    rw[show (List.filter (λk=>c.toNat.testBit k) [n])=[] by simp[hb']];rfl
   |true=>
    have hb':c.toNat.testBit n=true:=by rw[<- Zef hU];exact hb
    rw[show (List.filter (λk=>c.toNat.testBit k) [n])=[n] by simp[hb']];simp only[List.map_cons,List.map_nil,Uam,hg _ n (by omega) hb];rfl
 have e:Ube c.toNat=((List.range 36).filter λk=>c.toNat.testBit k).map λ(k:Nat)=>(k:Int):=by
  unfold Ube;rw[show (64:Nat)=36+28 from rfl,List.range_add,List.filter_append];have:List.filter (λk=>c.toNat.testBit k) (List.map (λx=>36+x) (List.range 28))=[]:=by rw[List.filter_eq_nil_iff];intro k hk;obtain⟨i,_,rfl⟩:=List.mem_map.1 hk;rw[<- Zef hU,hh _ (by omega)];simp
  rw[this,List.append_nil]
 rw[e];exact key 36 (Nat.le_refl _)
def rowC(P:Program)(c:Int):Array Value:=folds (λr k=>if bitI c k then r.setIfInBounds (k*1) (.int .i64 1) else r) (zc P 132) 36
theorem Zrd(c:Int):(rowC prog c).size=36/\∀k,k<36->num (rowC prog c) k=if bitI c k then 1 else 0:=by
 have h:=Zid (f:=λ(r:Array Value) k=>if bitI c k then r.setIfInBounds (k*1) (.int .i64 1) else r) (t:=zc prog 132) (n:=36) (λn r=>r.size=36/\∀k,k<36->num r k=if k<n/\bitI c k=true then 1 else 0) ⟨Yf3,λk hk=>by
   rw[if_neg (by omega)];unfold num;rw[zc_at k hk]⟩ (λn r hn hr=>by
  obtain⟨h1,h2⟩:=hr;cases hb:bitI c n with
  | false=>
   rw[if_neg (by simp)];refine⟨h1,λk hk=> ?_⟩;rw[h2 k hk]
   by_cases e:k=n
   ·subst e;rw[if_neg (by omega),if_neg (by rw[hb];simp)]
   ·by_cases q:k<n/\bitI c k=true
    ·rw[if_pos q,if_pos ⟨by omega,q.2⟩]
    ·rw[if_neg q,if_neg (λx=>q ⟨by omega,x.2⟩)]
  | true=>
   rw[if_pos rfl];refine⟨by rw[Array.size_setIfInBounds];exact h1,λk hk=> ?_⟩
   by_cases e:k=n
   ·subst e;rw[Nat.mul_one,Ykw (by omega),if_pos ⟨by omega,hb⟩]
   ·unfold num;rw[Array.getElem?_setIfInBounds,if_neg (by omega)];have:=h2 k hk;unfold num at this;rw[this]
    by_cases q:k<n/\bitI c k=true
    ·rw[if_pos q,if_pos ⟨by omega,q.2⟩]
    ·rw[if_neg q,if_neg (λx=>q ⟨by omega,x.2⟩)]) 36 (Nat.le_refl _)
 refine⟨h.1,λk hk=> ?_⟩;have:=h.2 k hk;unfold rowC;rw[this]
 by_cases q:bitI c k=true
 ·rw[if_pos ⟨hk,q⟩,if_pos q]
 ·rw[if_neg (λx=>q x.2),if_neg q]
def Zcf:Cons:=(mkΓx [(86,con Zg8)] [(44,Zkm)] [(67,Zgo)])
def Zbc(a0:Array Value)(a1:Int)(g_et:Addr)(g_tb:Addr):St:=(⟨.a (.r a0 58 [])::.a (.i .u64 a1)::.a (.w 2)::.a (.u)::.a (.w 3)::.a (.w 4)::.a (.u)::.a (.i .u64 a1)::.a (.c 67 [8])::us 16 ([]),[.gl 0 146 g_et 3000060,.gl 1 0 g_tb 1000000000,.one (.r a0 58 []) 58,.one (.r #[.int .i64 0,.int .i64 0,.slice none 0 0] 135 []) 135,.row (zc prog 132) 132,.no,.no,.no,.row #[.int .u64 a1] 23,.no,.no,.no,.no],[]⟩:St)
def Zd6:Array Value->BS
 |r0_4=>([.row r0_4 132]:BS)
def Zfz:Empty->Exit×BS:=λx=>nomatch x
def Zb8(P:Program)(a0:Array Value)(a1:Int)(g_et:Addr)(g_tb:Addr)(x0:Int):Array Value->Option (Stp (Array Value) Empty)
 |r0_4=>bif (decide (0<=x0)&&decide (x0<36)) then (some (.more (r0_4.setIfInBounds ((x0).toNat*1) (.int .i64 1)))) else (none)
noncomputable abbrev cKCmE70:=codeOf f70
def Uea:=(Uaa cKCmE70 [([],[4])]).1
theorem Znn(N:Nat)(a0:Array Value)(a1:Int)(g_et:Addr)(g_tb:Addr)(x0:Int):∀t:Array Value,Uc5 prog Zcf N (cAt cKCmE70 [1,1,0,1,0,0]) (pAt Uea [1,1,0,1,0]) 13 [4] [9] [(6,9)] (Zbc a0 a1 g_et g_tb) [.i .i64 x0] (Zd6 t)=mapS Zd6 Zfz (Zb8 prog a0 a1 g_et g_tb x0 t):=by
 rintro r0_4
 conv=>rhs;simp only[Zb8,Za3,Za8,Za6,Za7,Zd6,Zfz]
 kernel_rfl
def Zco(P:Program)(N:Nat)(a0:Array Value)(a1:Int)(g_et:Addr)(g_tb:Addr)(q0_4:Array Value):Option (SV×Eff×Bool):=bif ((okS (a0.extract 2 (2+363))&&(decide (0<=(num a0 0))&&decide ((num a0 0)<2)))&&(decide (0<=(num a0 1))&&decide ((num a0 1)<=14))) then (some (.a (.r ((spl (#[.int .i64 0,.int .i64 0,.slice none 0 0]:Array Value) 0 (a0.extract 0 (0+2)).toList).setIfInBounds 2 (.slice none 0 0)) 135 [(2,HOLE)]),.newS (some 1000000) (((num a0 1).toNat+1)) (catR prog sumL (a0.extract 2 (2+363)) q0_4 (num a0 0) (num a0 1) ((num a0 1).toNat+1)) 132,true)) else (none)
def Udl(N:Nat)(g_et g_tb:Addr):=(Uac 0 (kSeq (veC prog Zcf N (cAt cKCmE70 [1,1,1]) (pAt Uea [1,1,1]) (SV×Eff×Bool)) (finK prog [.gl 0 146 g_et 3000060,.gl 1 0 g_tb 1000000000] [.cell 4 135])))
theorem Zkx(N:Nat)(a0:Array Value)(a1:Int)(g_et:Addr)(g_tb:Addr)(q0_4:Array Value):(Udl N g_et g_tb) .normal (Uau [4] (Zbc a0 a1 g_et g_tb) ([.row q0_4 132]:BS))=Zco prog N a0 a1 g_et g_tb q0_4:=by kernel_rfl
theorem Zng(N:Nat)(a0:Array Value)(a1:Int)(g_et:Addr)(g_tb:Addr):Ubz (Uam (λ(x0:Int) (hb:BS)=>Uc5 prog Zcf N (cAt cKCmE70 [1,1,0,1,0,0]) (pAt Uea [1,1,0,1,0]) 13 [4] [9] [(6,9)] (Zbc a0 a1 g_et g_tb) [.i .i64 x0] hb) (Ube (a1).toNat) ([.row (zc prog 132) 132]:BS)) (λhb=>(Udl N g_et g_tb) .normal (Uau [4] (Zbc a0 a1 g_et g_tb) hb)) (λe hb=>(Udl N g_et g_tb) e (Uau [4] (Zbc a0 a1 g_et g_tb) hb))=Udo (Uam (Zb8 prog a0 a1 g_et g_tb) (Ube (a1).toNat) (zc prog 132)) (λx=>Zco prog N a0 a1 g_et g_tb x) (λx:Empty=>nomatch x):=by
 refine Zp0 Zd6 Zfz _ _ (λy t=>Znn N a0 a1 g_et g_tb y t) _ (zc prog 132) _ _ _ _ ?_ ?_
 ·intro x;exact Zkx N a0 a1 g_et g_tb x
 ·intro x;exact nomatch x
theorem Zms(N:Nat)(a0:Array Value)(a1:Int)(g_et:Addr)(g_tb:Addr):ansV prog Zcf N f70 [([],[4])] [.r a0 58 [],.i .u64 a1] [.gl 0 146 g_et 3000060,.gl 1 0 g_tb 1000000000]=(Udo (Uam (Zb8 prog a0 a1 g_et g_tb) (Ube (a1).toNat) (zc prog 132)) (λx=>Zco prog N a0 a1 g_et g_tb x) (λx:Empty=>nomatch x)):=by
 conv=>rhs;simp only[<- Zng N a0 a1 g_et g_tb]
 kernel_rfl
theorem Zmd(a0:Array Value)(a1:Int)(g_et:Addr)(g_tb:Addr)(h_a0:WT prog 58 a0)(h_a1:IntKind.u64.min<=a1/\a1<=IntKind.u64.max)(hg:((((okS (a0.extract 2 (2+363))&&(decide (0<=(num a0 0))&&decide ((num a0 0)<2)))&&(decide (0<=(num a0 1))&&decide ((num a0 1)<=14)))&&decide (a1<68719476736)))=true):ansV prog Zcf 1000 f70 [([],[4])] [.r a0 58 [],.i .u64 a1] [.gl 0 146 g_et 3000060,.gl 1 0 g_tb 1000000000]=some (.a (.r ((spl (#[.int .i64 0,.int .i64 0,.slice none 0 0]:Array Value) 0 (a0.extract 0 (0+2)).toList).setIfInBounds 2 (.slice none 0 0)) 135 [(2,HOLE)]),.newS (some 1000000) ((num a0 1).toNat+1) (catR prog sumL (a0.extract 2 (2+363)) (rowC prog a1) (num a0 0) (num a0 1) ((num a0 1).toNat+1)) 132,true):=by
 rw[Q7]at hg;obtain⟨hg,hlow⟩:=hg;have hU:U64 a1:=h_a1;have hh:=low_bits hU (of_decide_eq_true hlow);refine(Zms 1000 a0 a1 g_et g_tb).trans ?_;rw[Yjw (X:=Empty) (g:=Zb8 prog a0 a1 g_et g_tb) (λ(r:Array Value) k=>r.setIfInBounds (k*1) (.int .i64 1)) hU hh (λt k hk hb=>by
  simp only[Zb8,dec2 (show 0<=(k:Int) by omega) (show (k:Int)<36 by omega),Q9,Q1])]
 show Zco prog 1000 a0 a1 g_et g_tb (rowC prog a1)=_
 unfold Zco;rw[hg,Q1]
def Zfo:Con:=λargs h=>match args,h with|[.r a0 58 [],.i .u64 a1],[.gl 0 146 g_et 3000060,.gl 1 0 g_tb 1000000000]=>some (.a (.r ((spl (#[.int .i64 0,.int .i64 0,.slice none 0 0]:Array Value) 0 (a0.extract 0 (0+2)).toList).setIfInBounds 2 (.slice none 0 0)) 135 [(2,HOLE)]),.newS (some 1000000) ((num a0 1).toNat+1) (catR prog sumL (a0.extract 2 (2+363)) (rowC prog a1) (num a0 0) (num a0 1) ((num a0 1).toNat+1)) 132,(((okS (a0.extract 2 (2+363))&&(decide (0<=(num a0 0))&&decide ((num a0 0)<2)))&&(decide (0<=(num a0 1))&&decide ((num a0 1)<=14)))&&decide (a1<68719476736)))|_,_=>none
theorem Zl0:EntX prog 70:=Zao (fn:=f70)
theorem Zns:Uad mn prog 70 Zfo:=(ansY (N:=1000) (mKx (Zai Zrw) Zn5 (mkΓx_nX Zjj Zhw (mkΓx_iX Zhp Zgj mkΓx_nilX))) f70 [([],[4])]).of (by
 intro ρ h w args vals r e hA hH hr;unfold Zfo at hr;split at hr
 ·rename_i a0 a1 g_et g_tb;obtain⟨rfl,rfl,hg2⟩:=BQi hr;exact Zmd a0 a1 g_et g_tb (hA.wtr 0 rfl) (hA.rng 1 rfl) hg2
 ·cases hr)
def srcV(P:Program)(S:Array Value)(b h c:Int):Int:=IntKind.u64.wrap (BitVec.ofInt IntKind.u64.bits (Zab S) &&& BitVec.ofInt IntKind.u64.bits (folds (fbF (rowR P sumL S (rowC P c) b h h.toNat)) 0 36)).toNat
theorem Yal{S:Array Value}{c:Int}(hok:okS S=true):Zfb S c=true:=by unfold Zfb;exact Zrb hok
theorem Yh5(b h:Int):Zcn #[.int .i64 b,.int .i64 h]=(Zaa b 0 1&&Zaa h 1 8):=by
 show (bif Zdb b then (bif decide (h>=1) then decide (h<=8) else false) else false)=_
 rw[tide_eq];unfold Zaa;cases decide (b>=0)<;>cases decide (b<=1)<;>cases decide (h>=1)<;>cases decide (h<=8)<;>rfl
theorem Zq3{S:Array Value}{b h:Int}(hS:S.size=363):(spl (spl (zc prog 58) 0 (#[.int .i64 b,.int .i64 h]:Array Value).toList) 2 S.toList).extract 2 (2+363)=S/\(spl (spl (zc prog 58) 0 (#[.int .i64 b,.int .i64 h]:Array Value).toList) 2 S.toList).extract 0 (0+2)=#[.int .i64 b,.int .i64 h]:=by
 have hz:(zc prog 58).size=366:=by kernel_rfl
 generalize (zc prog 58)=Z at hz;have hl:S.toList.length=363:=by rw[Array.length_toList,hS]
 constructor
 ·refine Array.ext_getElem? λi=> ?_
  rw[Array.getElem?_extract,Zge _ _ _ (by rw[Zhq,hz,hl];omega),Zhq,Zhq,hz,hl]
  by_cases hi:i<363
  ·rw[if_pos (by omega),if_pos (by omega),Array.getElem?_toList,show 2+i - 2=i by omega]
  ·rw[if_neg (by omega),Array.getElem?_eq_none (by omega)]
 ·refine Array.ext_getElem? λi=> ?_
  rw[Array.getElem?_extract,Zge _ _ _ (by rw[Zhq,hz,hl];omega),Zge _ _ _ (by rw[hz];simp),Zhq,Zhq,hz,hl]
  by_cases hi:i<2
  ·rw[if_pos (by omega),if_neg (by omega),if_pos (by simp;omega),Array.getElem?_toList,show 0+i - 0=i by omega]
  ·rw[if_neg (by omega),Array.getElem?_eq_none (by simp;omega)]
theorem Yjn{S:Array Value}{b h:Int}(hS:S.size=363):num (spl (spl (zc prog 58) 0 (#[.int .i64 b,.int .i64 h]:Array Value).toList) 2 S.toList) 0=b/\num (spl (spl (zc prog 58) 0 (#[.int .i64 b,.int .i64 h]:Array Value).toList) 2 S.toList) 1=h:=by
 have h2:=(Zq3 (b:=b) (h:=h) hS).2;generalize (spl (spl (zc prog 58) 0 (#[.int .i64 b,.int .i64 h]:Array Value).toList) 2 S.toList)=V at h2|-
 have e:∀i,i<2->num V i=num (V.extract 0 (0+2)) i:=λi hi=>by
  have hz:(V.extract 0 (0+2)).size=2:=by rw[h2];rfl
  rw[Array.size_extract]at hz;unfold num;rw[Array.getElem?_extract,if_pos (by omega),Nat.zero_add]
 exact⟨(e 0 (by omega)).trans (by rw[h2];rfl),(e 1 (by omega)).trans (by rw[h2];rfl)⟩
def Zkr:Cons:=(mkΓ [(42,con Zg2),(69,con Ziz),(70,conG Zfo)])
theorem Zob(N:Nat)(a0:Array Value)(a1:Int)(g_et:Addr)(g_tb:Addr):ansV prog Zkr N f45 [] [.r a0 58 [],.i .u64 a1] [.gl 0 146 g_et 3000060,.gl 1 0 g_tb 1000000000]=(bif (Zaz (a0.extract 2 (2+363))) then (bif (((okS (a0.extract 2 (2+363))&&(decide (0<=(num a0 0))&&decide ((num a0 0)<2)))&&(decide (0<=(num a0 1))&&decide ((num a0 1)<=14)))&&decide (a1<68719476736)) then (bif (decide (0<=(num a0 1))&&decide ((num a0 1)<((((num a0 1).toNat+1)):Int))) then (some (.a (.i .u64 (IntKind.u64.wrap (BitVec.ofInt IntKind.u64.bits (Zab (a0.extract 2 (2+363))) &&& BitVec.ofInt IntKind.u64.bits (folds (fbF ((catR prog sumL (a0.extract 2 (2+363)) (rowC prog a1) (num a0 0) (num a0 1) ((num a0 1).toNat+1)).extract ((num a0 1).toNat*36) (((num a0 1).toNat*36)+36))) 0 36)).toNat)),.none,true)) else (none)) else (none)) else (none)):=by kernel_rfl
theorem Zni(a0:Array Value)(a1:Int)(g_et:Addr)(g_tb:Addr)(h_a0:WT prog 58 a0)(h_a1:IntKind.u64.min<=a1/\a1<=IntKind.u64.max)(hg:((((okS (a0.extract 2 (2+363))&&(decide (0<=(num a0 0))&&decide ((num a0 0)<2)))&&(decide (0<=(num a0 1))&&decide ((num a0 1)<=14)))&&decide (a1<68719476736)))=true):ansV prog Zkr 1000 f45 [] [.r a0 58 [],.i .u64 a1] [.gl 0 146 g_et 3000060,.gl 1 0 g_tb 1000000000]=some (.a (.i .u64 (srcV prog (a0.extract 2 (2+363)) (num a0 0) (num a0 1) a1)),.none,true):=by
 have hq:=hg;simp only[Q7,decide_eq_true_eq]at hq;obtain⟨⟨⟨hok,-⟩,h0,h14⟩,-⟩:=hq;refine(Zob 1000 a0 a1 g_et g_tb).trans ?_;have hw:Zaz (a0.extract 2 (2+363))=true:=by unfold Zaz;exact Zrb hok
 have hL:=(Zrd a1).1;rw[hw,Q1,hg,Q1,Q3 h0,Q3 (by omega),Yhk sumL (a0.extract 2 (2+363)) hL (num a0 0) (num a0 1) ((num a0 1).toNat+1) (show (num a0 1).toNat<(num a0 1).toNat+1 by omega)];rfl
def Zgl:Con:=λargs h=>match args,h with|[.r a0 58 [],.i .u64 a1],[.gl 0 146 g_et 3000060,.gl 1 0 g_tb 1000000000]=>some (.a (.i .u64 (srcV prog (a0.extract 2 (2+363)) (num a0 0) (num a0 1) a1)),.none,(((okS (a0.extract 2 (2+363))&&(decide (0<=(num a0 0))&&decide ((num a0 0)<2)))&&(decide (0<=(num a0 1))&&decide ((num a0 1)<=14)))&&decide (a1<68719476736)))|_,_=>none
theorem Zfm:EntX prog 45:=Zao (fn:=f45)
theorem Zgz:Uad mn prog 45 Zgl:=(ansY (N:=1000) (mKc (Zai Zhm) Zfr (mKc (Zai Zvx) Zpx (mKc (Zqz Zns) Zl0 mKn))) f45 []).of (by
 intro ρ h w args vals r e hA hH hr;unfold Zgl at hr;split at hr
 ·rename_i a0 a1 g_et g_tb;obtain⟨rfl,rfl,hg2⟩:=BQi hr;exact Zni a0 a1 g_et g_tb (hA.wtr 0 rfl) (hA.rng 1 rfl) hg2
 ·cases hr)
def Zio:Cons:=(mkΓ [(38,con Zj8),(39,con Ze3),(40,con Zkb)])
theorem Zje(N:Nat)(a0:Array Value)(a1 a2 a3:Int):ansV prog Zio N f18 [] [.g a0 35,.i .i64 a1,.i .i64 a2,.i .u64 a3] []=(bif (!((okS a0))) then (some (.t [.r (zc prog 58) 58 [],.v (.iface 91 (.int .i64 1))],.none,true)) else (bif (!((Zcn ((spl (spl (zc prog 58) 0 (#[.int .i64 a1,.int .i64 a2]:Array Value).toList) 2 a0.toList).extract 0 (0+2))))) then (some (.t [.r (zc prog 58) 58 [],.v (.iface 91 (.int .i64 2))],.none,true)) else (bif (Zfb a0 a3) then (bif (!((Zac a0 a3))) then (some (.t [.r (zc prog 58) 58 [],.v (.iface 91 (.int .i64 2))],.none,true)) else (some (.t [.r (spl (spl (zc prog 58) 0 (#[.int .i64 a1,.int .i64 a2]:Array Value).toList) 2 a0.toList) 58 [],.v .nilIface],.none,true))) else (none)))):=by kernel_rfl
theorem Zrj(a0:Array Value)(a1 a2 a3:Int)(h_a0:WT prog 35 a0)(h_a1:i64.min<=a1/\a1<=i64.max)(h_a2:i64.min<=a2/\a2<=i64.max)(h_a3:IntKind.u64.min<=a3/\a3<=IntKind.u64.max)(hc0:(okS a0)=false)(hg:(true)=true):ansV prog Zio 1000 f18 [] [.g a0 35,.i .i64 a1,.i .i64 a2,.i .u64 a3] []=some (.t [.r (zc prog 58) 58 [],.v (.iface 91 (.int .i64 1))],.none,true):=by refine(Zje 1000 a0 a1 a2 a3).trans ?_;simp only[hc0,Bool.not_false,Q1]
theorem Zr6(a0:Array Value)(a1 a2 a3:Int)(h_a0:WT prog 35 a0)(h_a1:i64.min<=a1/\a1<=i64.max)(h_a2:i64.min<=a2/\a2<=i64.max)(h_a3:IntKind.u64.min<=a3/\a3<=IntKind.u64.max)(hc0:(okS a0)=true)(hc1:((Zaa a1 0 1&&(Zaa a2 1 8&&Zac a0 a3)))=false)(hg:(true)=true):ansV prog Zio 1000 f18 [] [.g a0 35,.i .i64 a1,.i .i64 a2,.i .u64 a3] []=some (.t [.r (zc prog 58) 58 [],.v (.iface 91 (.int .i64 2))],.none,true):=by
 refine(Zje 1000 a0 a1 a2 a3).trans ?_;have hz:a0.size=363:=Zzv h_a0;rw[(Zq3 hz).2,Yh5,Yal hc0,hc0];generalize Zaa a1 0 1=x1 at hc1|-
 generalize Zaa a2 1 8=x2 at hc1|-
 generalize Zac a0 a3=x3 at hc1|-
 cases x1<;>cases x2<;>cases x3<;>first|rfl|exact absurd hc1 (by decide)
theorem Zr3(a0:Array Value)(a1 a2 a3:Int)(h_a0:WT prog 35 a0)(h_a1:i64.min<=a1/\a1<=i64.max)(h_a2:i64.min<=a2/\a2<=i64.max)(h_a3:IntKind.u64.min<=a3/\a3<=IntKind.u64.max)(hc0:(okS a0)=true)(hc1:((Zaa a1 0 1&&(Zaa a2 1 8&&Zac a0 a3)))=true)(hg:(true)=true):ansV prog Zio 1000 f18 [] [.g a0 35,.i .i64 a1,.i .i64 a2,.i .u64 a3] []=some (.t [.r (spl (spl (zc prog 58) 0 (#[.int .i64 a1,.int .i64 a2]:Array Value).toList) 2 a0.toList) 58 [],.v .nilIface],.none,true):=by
 refine(Zje 1000 a0 a1 a2 a3).trans ?_;have hz:a0.size=363:=Zzv h_a0;rw[(Zq3 hz).2,Yh5,Yal hc0,hc0];generalize Zaa a1 0 1=x1 at hc1|-
 generalize Zaa a2 1 8=x2 at hc1|-
 generalize Zac a0 a3=x3 at hc1|-
 cases x1<;>cases x2<;>cases x3<;>first|rfl|exact absurd hc1 (by decide)
def Ziw:SCon:=λargs h=>match args,h with|[.g a0 35,.i .i64 a1,.i .i64 a2,.i .u64 a3],[]=>.two (okS a0) (.two ((Zaa a1 0 1&&(Zaa a2 1 8&&Zac a0 a3))) (.one (some (.t [.r (spl (spl (zc prog 58) 0 (#[.int .i64 a1,.int .i64 a2]:Array Value).toList) 2 a0.toList) 58 [],.v .nilIface],.none,true))) (.one (some (.t [.r (zc prog 58) 58 [],.v (.iface 91 (.int .i64 2))],.none,true)))) (.one (some (.t [.r (zc prog 58) 58 [],.v (.iface 91 (.int .i64 1))],.none,true)))|_,_=>.one none
theorem Zrv:EntX prog 18:=Zao (fn:=f18)
theorem Zv0:Uad mn prog 18 (λargs h=>Uax (Ziw args h)):=by
 intro ρ h w args vals r e hn hr hA hH;dsimp only at hr;unfold Ziw at hr;split at hr
 ·rename_i a0 a1 a2 a3;simp only[Uax]at hr;cases hc0:(okS a0)
  ·rw[hc0]at hr;simp only[Uax,Q1,Q2]at hr;obtain⟨rfl,rfl,hg2⟩:=BQi hr;exact((ansY (N:=1000) (mKc (Zai Zk6) Zi6 (mKc (Zai Ze5) Zec (mKc (Zai Zk1) Zi4 mKn))) f18 [])) ρ _ w _ vals _ _ hn ((Zrj a0 a1 a2 a3 (hA.wt 0 rfl) (hA.rng 1 rfl) (hA.rng 2 rfl) (hA.rng 3 rfl) hc0 hg2)) hA hH
  ·rw[hc0]at hr;simp only[Uax,Q1,Q2]at hr;cases hc1:((Zaa a1 0 1&&(Zaa a2 1 8&&Zac a0 a3)))
   ·rw[hc1]at hr;simp only[Uax,Q1,Q2]at hr;obtain⟨rfl,rfl,hg2⟩:=BQi hr;exact((ansY (N:=1000) (mKc (Zai Zk6) Zi6 (mKc (Zai Ze5) Zec (mKc (Zai Zk1) Zi4 mKn))) f18 [])) ρ _ w _ vals _ _ hn ((Zr6 a0 a1 a2 a3 (hA.wt 0 rfl) (hA.rng 1 rfl) (hA.rng 2 rfl) (hA.rng 3 rfl) hc0 hc1 hg2)) hA hH
   ·rw[hc1]at hr;simp only[Uax,Q1,Q2]at hr;obtain⟨rfl,rfl,hg2⟩:=BQi hr;exact((ansY (N:=1000) (mKc (Zai Zk6) Zi6 (mKc (Zai Ze5) Zec (mKc (Zai Zk1) Zi4 mKn))) f18 [])) ρ _ w _ vals _ _ hn ((Zr3 a0 a1 a2 a3 (hA.wt 0 rfl) (hA.rng 1 rfl) (hA.rng 2 rfl) (hA.rng 3 rfl) hc0 hc1 hg2)) hA hH
 ·simp only[Uax]at hr;cases hr
end
end Go.Proofs.YtgllknjdblkhnaaDoor
