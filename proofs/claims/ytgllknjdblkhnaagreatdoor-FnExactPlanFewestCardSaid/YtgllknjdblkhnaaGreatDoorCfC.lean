/- The sets of some cells, by numbers: which one is the first of the fewest. -/
import Derived.Test.YtgllknjdblkhnaaGreatDoorProg
import Derived.Test.YtgllknjdblkhnaaGreatDoorCfB
import Derived.Test.YtgllknjdblkhnaaGreatDoorChX
set_option linter.unusedVariables false
set_option linter.unusedSimpArgs false
open _root_.List renaming range->jA,mem_range->jD
open _root_.Nat renaming le_refl->jB
open _root_.Bool renaming true_and->jC
namespace Go.Proofs.YtgllknjdblkhnaaGreatDoor
open Go.ChangeShapes Go.WideShapes Go.ChangeAt Go.RowKit Ve Vc
open Tryz renaming prog -> PZ
set_option maxRecDepth 100000
noncomputable section
variable {mn:Md}
namespace Pop
def Ub4(A:Nat->Bool)(c:Nat->Nat):Nat->Option Nat
 |0=>none
 |k+1=>match Ub4 A c k with|none=>bif A k then some k else none|some b=>bif A k&&decide (c k<c b) then some k else some b
def Ude(A:Nat->Bool)(c:Nat->Nat)(N:Nat):Nat->Option Nat
 |0=>none
 |m+1=>match Ude A c N m with|some b=>some b|none=>(jA N).find? λk=>A k&&Nat.beq (c k) m
def Ugp(A:Nat->Bool)(c:Nat->Nat)(N b:Nat):Prop:=b<N/\A b=true/\∀k,k<N->A k=true->c b<c k\/(c b=c k/\b<=k)
theorem Ugp.uniq{A:Nat->Bool}{c:Nat->Nat}{N b b':Nat}(h:Ugp A c N b)(h':Ugp A c N b'):b=b':=by rcases h.2.2 b' h'.1 h'.2.1 with h1|h1<;>rcases h'.2.2 b h.1 h.2.1 with h2|h2<;>omega
theorem Yh6(A:Nat->Bool)(c:Nat->Nat):∀N,(∀b,Ub4 A c N=some b->Ugp A c N b)/\(Ub4 A c N=none->∀k,k<N->A k=false)
 |0=>⟨λb h=>(by cases h),λ_ k hk=>by omega⟩
 | n+1=>by
  obtain⟨h1,h2⟩:=Yh6 A c n;rw[Ub4];cases hs:Ub4 A c n with
  | none=>
   have hn:=h2 hs;cases hA:A n with
   |false=>
    refine⟨λb h=>(by cases h),λ_ k hk=> ?_⟩
    by_cases e:k=n
    ·rw[e];exact hA
    ·exact hn k (by omega)
   |true=>
    refine⟨λb h=> ?_,λh=>by cases h⟩;have e:n=b:=by simpa using h
    subst e;refine⟨Nat.lt_succ_self _,hA,λk hk hk'=> ?_⟩
    by_cases e:k=n
    ·rw[e];right;exact⟨rfl,jB _⟩
    ·rw[hn k (by omega)]at hk';cases hk'
  | some b=>
   obtain⟨b1,b2,b3⟩:=h1 b hs;dsimp only;refine⟨λx h=> ?_,λh=>by cases hh:(A n&&decide (c n<c b))<;>rw[hh]at h<;>cases h⟩;cases hh:(A n&&decide (c n<c b)) with
   | false=>
    rw[hh,Q2]at h;have e:b=x:=Q5 h;subst e;refine⟨by omega,b2,λk hk hk'=> ?_⟩
    by_cases e:k=n
    ·subst e;rw[hk',jC]at hh;have:=of_decide_eq_false hh;omega
    ·exact b3 k (by omega) hk'
   | true=>
    rw[hh,Q1]at h;have e:n=x:=Q5 h;subst e;rw[Q7]at hh;have hlt:=of_decide_eq_true hh.2;refine⟨Nat.lt_succ_self _,hh.1,λk hk hk'=> ?_⟩
    by_cases e:k=n
    ·rw[e];right;exact⟨rfl,jB _⟩
    ·left;rcases b3 k (by omega) hk' with h|h<;>omega
theorem Ynq{p:Nat->Bool}:∀{N b:Nat},(jA N).find? p=some b->b<N/\p b=true/\∀k,k<b->p k=false:=by
 intro N b h;have h1:=List.find?_some h;have h2:=List.mem_of_find?_eq_some h;refine⟨jD.1 h2,h1,λk hk=> ?_⟩;obtain⟨_,as1,bs,e,hn⟩:=List.find?_eq_some_iff_append.1 h;have hl:as1.length=b:=by have:=congrArg (λl=>l[as1.length]?) e;simp only[List.getElem?_append_right (jB _),Nat.sub_self,List.getElem?_cons_zero]at this;obtain⟨h3,h4⟩:=List.getElem?_eq_some_iff.1 this;rw[List.getElem_range]at h4;exact h4
 have hk2:as1[k]?=some k:=by have:=congrArg (λl=>l[k]?) e;simp only[List.getElem?_append_left (show k<as1.length by omega)]at this;rw[<- this,List.getElem?_range (by have:=jD.1 h2;omega)]
 have:=hn k (List.mem_of_getElem? hk2)
 simpa using this
theorem Ym9(A:Nat->Bool)(c:Nat->Nat)(N:Nat):∀M,(∀b,Ude A c N M=some b->Ugp A c N b/\c b<M)/\(Ude A c N M=none->∀k,k<N->A k=true->M<=c k)
 |0=>⟨λb h=>(by cases h),λ_ k _ _=>Nat.zero_le _⟩
 | m+1=>by
  obtain⟨h1,h2⟩:=Ym9 A c N m;rw[Ude];cases hs:Ude A c N m with
  |some b=>refine⟨λx h=> ?_,λh=>by cases h⟩;have e:b=x:=Q5 h;subst e;exact⟨(h1 b hs).1,by have:=(h1 b hs).2;omega⟩
  | none=>
   have hn:=h2 hs;dsimp only;refine⟨λx h=> ?_,λh k hk hA=> ?_⟩
   ·obtain⟨f1,f2,f3⟩:=Ynq h;rw[Q7]at f2;have hc:=Nat.eq_of_beq_eq_true f2.2;refine⟨⟨f1,f2.1,λk hk hA=> ?_⟩,by omega⟩;have hm:=hn k hk hA
    by_cases e:c k=m
    ·right;refine⟨by omega,?_⟩
     by_cases hlt:k<x
     ·have:=f3 k hlt;rw[hA,e,jC]at this;rw[show Nat.beq m m=true from Nat.beq_refl m]at this;cases this
     ·omega
    ·left;omega
   ·have hm:=hn k hk hA
    by_cases e:c k=m
    ·have:=List.find?_eq_none.1 h k (jD.2 hk);rw[hA,e,jC,show Nat.beq m m=true from Nat.beq_refl m]at this;exact absurd rfl this
    ·omega
theorem few_eq(A:Nat->Bool)(c:Nat->Nat){N M:Nat}(hc:∀k,k<N->c k<M):Ude A c N M=Ub4 A c N:=by
 obtain⟨s1,s2⟩:=Yh6 A c N;obtain⟨p1,p2⟩:=Ym9 A c N M;cases hs:Ub4 A c N with
 | none=>cases hp:Ude A c N M with|none=>rfl|some b=>have hb:=(p1 b hp).1;have h2:=hb.2.1;rw[s2 hs b hb.1]at h2;cases h2
 |some b=>have hb:=s1 b hs;cases hp:Ude A c N M with|none=>have:=p2 hp b hb.1 hb.2.1;have:=hc b hb.1;omega|some x=>rw[(p1 x hp).1.uniq hb]
theorem Zlf(q:Nat->Bool):∀m,((jA m).filter q).length=cntQ q m
 |0=>rfl
 |m+1=>by
  rw[List.range_succ,List.filter_append,List.length_append,Zlf q m,cntQ];cases h:q m<;>simp[h]
theorem Zsa{q:Nat->Bool}:∀{m i:Nat},i<m->q i=true->((jA m).filter q)[cntQ q i]?=some i
 | m+1,i,hi,hq=>by
  rw[List.range_succ,List.filter_append]
  by_cases e:i=m
  ·subst e;rw[List.getElem?_append_right (by rw[Zlf];exact jB _),Zlf,Nat.sub_self];simp[hq]
  ·rw[List.getElem?_append_left (by rw[Zlf];exact Yj4 hq (by omega))];exact Zsa (by omega) hq
theorem Yl5(q r:Nat->Bool):∀m,cntQ (λi=>q i&&r (cntQ q i)) m=cntQ r (cntQ q m)
 |0=>rfl
 | m+1=>by
  rw[cntQ,Yl5 q r m]
  conv=>rhs;rw[cntQ]
  cases h:q m with|false=>simp|true=>simp only[jC,if_true];rw[cntQ]
def setI(c k:Nat):Int:=((setB (BitVec.ofNat 64 c) k).toNat:Int)
theorem Yol(c k:Nat):U64 (setI c k):=by have:=(setB (BitVec.ofNat 64 c) k).isLt;unfold U64 setI;omega
theorem cnt_of{c:Nat}(hc:c<2^64){i:Nat}(hi:i<=64):cntQ (BitVec.ofNat 64 c).getLsbD i=cntQ c.testBit i:=Zl9 λj hj=>by
 rw[BitVec.getLsbD_ofNat,Q3 (by omega),jC]
theorem Zxh{c k i:Nat}(hc:c<2^64)(hi:i<64):bitI (setI c k) i=(c.testBit i&&k.testBit (cntQ c.testBit i)):=by unfold bitI setI;rw[BitVec.ofInt_natCast,BitVec.ofNat_toNat,BitVec.setWidth_eq,Ych (BitVec.ofNat 64 c) k i hi,BitVec.getLsbD_ofNat,Q3 hi,jC,cnt_of hc (by omega)]
theorem Ymm{c:Nat}(hc:c<2^64)(k:Nat):cntI (setI c k)=cntQ k.testBit (cntQ c.testBit 64):=by unfold cntI;rw[<- Yl5];exact Zl9 λi hi=>by rw[<- Zd3 (Yol c k),Zxh hc hi]
theorem Yna(c:Nat)(p:Int->Bool):∀m,(choP c m).find? p=(Ude (λk=>p (setI c k)) (λk=>cntI (setI c k)) (2^cntQ c.testBit 64) m).map (setI c)
 |0=>rfl
 | m+1=>by
  rw[Zwq,List.find?_append,Yna c p m,Ude];cases Ude (λk=>p (setI c k)) (λk=>cntI (setI c k)) (2^cntQ c.testBit 64) m with
  |some b=>rfl
  |none=>
   dsimp only;unfold Ucp;rw[List.find?_filter,List.find?_map];simp only[Option.map_none,Option.none_or];congr 2;funext k
   show decide (Nat.beq (cntI (setI c k)) m=true/\p (setI c k)=true)=(p (setI c k)&&Nat.beq (cntI (setI c k)) m)
   rw[Bool.decide_and,Bool.decide_eq_true,Bool.decide_eq_true];exact Bool.and_comm _ _
theorem Ztr{A A':Nat->Bool}{c c':Nat->Nat}:∀{N:Nat},(∀k,k<N->A k=A' k/\c k=c' k)->(Ub4 A c N=Ub4 A' c' N)
 |0,_=>rfl
 | n+1,h=>by
  have ih:=Ztr (N:=n) λk hk=>h k (by omega)
  have hs:=Yh6 A' c' n;rw[Ub4,Ub4,ih,(h n (by omega)).1,(h n (by omega)).2];cases hb:Ub4 A' c' n with|none=>rfl|some b=>have:=(hs.1 b hb).1;dsimp only;rw[(h b (by omega)).2]
theorem Ym1{c:Nat}(hc:c<2^64)(p:Int->Bool):(choL c).find? p=(Ub4 (λk=>p (setI c k)) (λk=>cntQ k.testBit (cntQ c.testBit 64)) (2^cntQ c.testBit 64)).map (setI c):=by unfold choL;rw[Yna,few_eq _ _ (λk hk=>by rw[Ymm hc];have:=Zyp k.testBit (cntQ c.testBit 64);omega)];congr 1;exact Ztr λk _=>⟨rfl,Ymm hc k⟩
end Pop
open Pop
def wt(S:Array Value)(k:Nat):Bool:=Zae (k:Int) S
def nW(S:Array Value):Nat:=cntQ (wt S) 36
def cN(S:Array Value):Nat:=(Zab S).toNat
theorem cN_u(S:Array Value):U64 (Zab S):=Ve.u64_andNot _ _
theorem Ugi(S:Array Value):cN S<2^64:=by have:=cN_u S;unfold U64 at this;unfold cN;omega
theorem Yi6{S:Array Value}(hS:WT PZ 38 S){k:Nat}(hk:k<64):(cN S).testBit k=(decide (k<36)&&wt S k):=by
 unfold cN;rw[<- Zd3 (cN_u S)]
 show bitI (Ubc (Ua0 (num S 0) (num S 1) 36) (num S 2)) k=_
 rw[Ztd _ _ hk,Zxa _ _ 36 (jB _)]
 by_cases h:k<36
 ·unfold wt;rw[(Zuy hS h).2,Bool.and_assoc]
 ·rw[Q4 h];simp
theorem Yim{S:Array Value}(hS:WT PZ 38 S){i:Nat}(hi:i<=36):cntQ (cN S).testBit i=cntQ (wt S) i:=Zl9 λj hj=>by
 rw[Yi6 hS (by omega),Q3 (by omega),jC]
theorem Yjg{S:Array Value}(hS:WT PZ 38 S):cntQ (cN S).testBit 64=nW S:=by
 rw[show (64:Nat)=36+28 from rfl,Yk1,Yim hS (jB _)];have:cntQ (λi=>(cN S).testBit (36+i)) 28=cntQ (λ_=>false) 28:=Zl9 λj hj=>by
  rw[Yi6 hS (by omega),Q4 (by omega),Bool.false_and]
 rw[this];rfl
theorem Yba{l:List Nat}{K:IntKind}{f:Nat->Int}{t i:Nat}(h:l[t]?=some i):num (⟨l.map λk=>Value.int K (f k)⟩:Array Value) t=f i:=by
 have:(⟨l.map λk=>Value.int K (f k)⟩:Array Value)[t]?=some (.int K (f i)):=by simp[h]
 unfold num;rw[this]
def watA(S:Array Value)(m:Nat):Array Value:=⟨((jA m).filter (wt S)).map λ(k:Nat)=>Value.int .i64 (k:Int)⟩
def reaA(P:Program)(S:Array Value)(b h c:Int)(m:Nat):Array Value:=⟨((jA m).filter (wt S)).map λ(k:Nat)=>Value.int .u64 (Zbk P (k:Int) b h c S)⟩
def srcA(P:Program)(S:Array Value)(b h c:Int)(m:Nat):Array Value:=⟨((jA m).filter (bitI c)).map λ(j:Nat)=>Value.int .u64 (srcV P S b h (oneI j))⟩
def sgF(W R:Array Value)(k:Nat)(s:Int×Int×Int)(t:Nat):Int×Int×Int:=bif k.testBit t then (orI s.1 (num R (t*1)),orI s.2.1 (oneI (num W (t*1)).toNat),s.2.2+1) else s
theorem Ymo{W R:Array Value}{k n:Nat}(hW:∀t,t<n->(num W t).toNat<64):∀m,m<=n->U64 (folds (sgF W R k) (0,0,0) m).1/\U64 (folds (sgF W R k) (0,0,0) m).2.1/\(∀j,bitI (folds (sgF W R k) (0,0,0) m).1 j=true ↔ ∃t,t<m/\k.testBit t=true/\bitI (num R t) j=true) /\
  (∀i,bitI (folds (sgF W R k) (0,0,0) m).2.1 i=true ↔ ∃t,t<m/\k.testBit t=true/\(num W t).toNat=i)/\(folds (sgF W R k) (0,0,0) m).2.2=(cntQ k.testBit m:Int)
 |0,_=>⟨(show U64 0 from ⟨by decide,by decide⟩),(show U64 0 from ⟨by decide,by decide⟩),λj=>⟨λh=>(by rw[show (folds (sgF W R k) (0,0,0) 0).1=0 from rfl,Zis]at h;cases h),λ⟨t,h,_⟩=>absurd h (by omega)⟩,λj=>⟨λh=>(by rw[show (folds (sgF W R k) (0,0,0) 0).2.1=0 from rfl,Zis]at h;cases h),λ⟨t,h,_⟩=>absurd h (by omega)⟩,rfl⟩
 | m+1,hm=>by
  obtain⟨u1,u2,h1,h2,h3⟩:=Ymo (R:=R) hW m (by omega);rw[Ze7];generalize folds (sgF W R k) (0,0,0) m=s at u1 u2 h1 h2 h3;unfold sgF;rw[cntQ];cases hb:k.testBit m with
  | false=>
   simp only[Q2];refine⟨u1,u2,λj=>(h1 j).trans ⟨λ⟨t,a,b⟩=>⟨t,by omega,b⟩,λ⟨t,a,b⟩=>⟨t,?_,b⟩⟩,λj=>(h2 j).trans ⟨λ⟨t,a,b⟩=>⟨t,by omega,b⟩,λ⟨t,a,b⟩=>⟨t,?_,b⟩⟩,by rw[h3];simp⟩
   all_goals
    by_cases e:t=m
    ·rw[e,hb]at b;cases b.1
    ·omega
  | true=>
   simp only[Q1,Nat.mul_one];refine⟨Ve.u64_or _ _,Ve.u64_or _ _,λj=> ?_,λj=> ?_,by rw[h3];simp⟩
   ·rw[Ylt,Bool.or_eq_true,h1 j];constructor
    ·rintro(⟨t,a,b⟩|h)
     ·exact⟨t,by omega,b⟩
     ·exact⟨m,by omega,hb,h⟩
    ·rintro⟨t,a,b,c⟩
     by_cases e:t=m
     ·subst e;exact .inr c
     ·exact .inl ⟨t,by omega,b,c⟩
   ·rw[Ylt,Bool.or_eq_true,h2 j,Zs5 (hW m (by omega)),decide_eq_true_iff];constructor
    ·rintro(⟨t,a,b⟩|h)
     ·exact⟨t,by omega,b⟩
     ·exact⟨m,by omega,hb,h⟩
    ·rintro⟨t,a,b,c⟩
     by_cases e:t=m
     ·subst e;exact .inr c
     ·exact .inl ⟨t,by omega,b,c⟩
def fil(P:Program)(S:Array Value)(b h:Int)(i j:Nat):Bool:=decide (num (Ua1 P S (oneX P (i:Int) b) h.toNat) (3+j) > 0)
theorem Yco{S:Array Value}{b h c:Int}(hb:0<=b/\b<=1)(hh:1<=h/\h<=8){i:Nat}(hi:i<36)(j:Nat):bitI (Zbk PZ (i:Int) b h c S) j=(bitI c j&&(decide (j<36)&&fil PZ S b h i j)):=by
 obtain⟨m,rfl⟩:∃m:Nat,h=((m+1:Nat):Int):=⟨h.toNat - 1,by omega⟩;have n0:num (#[.int .i8 (IntKind.i8.wrap b),.int .i8 (IntKind.i8.wrap ((m+1:Nat):Int)),.slice none 0 0]:Array Value) 0=b:=IntWalk.i8_in b (by omega);have n1:num (#[.int .i8 (IntKind.i8.wrap b),.int .i8 (IntKind.i8.wrap ((m+1:Nat):Int)),.slice none 0 0]:Array Value) 1=((m+1:Nat):Int):=IntWalk.i8_in _ (by omega);have eE:endV PZ S (#[.int .i8 (IntKind.i8.wrap b),.int .i8 (IntKind.i8.wrap ((m+1:Nat):Int)),.slice none 0 0]:Array Value) 1 (#[.int .i8 (IntKind.i8.wrap (i:Int)),.int .i8 0,.int .i16 1]:Array Value)=Ua1 PZ S (oneX PZ (i:Int) b) (m+1):=by unfold endV;rw[n0,n1,Q9];exact Zsr S hb (by omega) m (by omega)
 unfold Zbk reaV;rw[eE]
 show bitI (andI c _) j=_
 rw[Yau,(Yo8 _ 36 (jB _)).2,Nat.mul_one];unfold fil;rw[Q9]
 by_cases hj:j<36
 ·rw[Yce _ hj]
 ·rw[Q4 hj];simp
theorem Yju{S:Array Value}{c:Int}(h:Zac S c=true){j:Nat}(hj:bitI c j=true):j<36/\Zac S (oneI j)=true:=by
 have h36:j<36:=by
  by_cases e:36<=j
  ·rw[Zw6 h j e]at hj;cases hj
  ·omega
 refine⟨h36,(Zp4 (a:=oneI j) (b:=Ua0 (num S 0) (num S 1) 36)).2 λk hk hb=> ?_⟩;rw[Zs5 (by omega),decide_eq_true_iff]at hb;subst hb;exact(Zp4 (a:=c) (b:=Ua0 (num S 0) (num S 1) 36)).1 h j hk hj
theorem Yqe{S:Array Value}(hS:WT PZ 38 S)(hok:okS S=true){b h c:Int}(hb:0<=b/\b<=1)(hh:1<=h/\h<=8)(hcs:Zac S c=true){j:Nat}(hj:bitI c j=true)(i:Nat):bitI (srcV PZ S b h (oneI j)) i=(decide (i<36)&&(wt S i&&fil PZ S b h i j)):=by
 obtain⟨h36,hc1⟩:=Yju hcs hj;rw[<- src_eq hS hok (Yo6 (by omega)) hb hh hc1,(Yhv _ 36 (jB _)).2]
 by_cases hi:i<36
 ·rw[Q3 hi,jC,jC];unfold fromQ
  show (wt S i&&_)=_
  congr 1;rw[Bool.eq_iff_iff];have hne:∀x:Int,U64 x->((x != 0)=true ↔ ∃k,k<64/\bitI x k=true):=λx hx=>by
   rw[bne_iff_ne];constructor
   ·intro hx0;refine Classical.byContradiction λhno=>hx0 (Zwk hx ⟨by decide,by decide⟩ λk hk=> ?_)
    rw[Zis];cases hb:bitI x k with|false=>rfl|true=>exact absurd ⟨k,hk,hb⟩ hno
   ·rintro⟨k,hk,hb⟩ rfl;rw[Zis]at hb;cases hb
  rw[hne _ (by unfold Zbk reaV;exact Ve.u64_and _ _)];constructor
  ·rintro⟨k,hk,h⟩;rw[Yco hb hh hi,Zs5 (by omega),Q7,Q7,decide_eq_true_iff]at h;obtain⟨rfl,-,h⟩:=h;exact h
  ·intro h;refine⟨j,by omega,?_⟩;rw[Yco hb hh hi,Zs5 (by omega),Q3 rfl,Q3 h36,h];rfl
 ·rw[Q4 hi];simp
theorem Yp4{x:Int}{n:Nat}{A:Array Value}:Zbr x none n A=true ↔ ∀t,t<n->(andI x (num A t) != 0)=true:=by
 unfold Zbr Za0 idxU;have key:(jA n).find? (eqU A #[.int .u64 x])=none ↔ ∀t,t<n->(andI x (num A t) != 0)=true:=by
  rw[List.find?_eq_none];constructor
  ·intro h t ht;have:=h t (jD.2 ht);unfold eqU at this;rw[Nat.mul_one]at this;rw[bne_iff_ne];intro e;exact this (beq_iff_eq.2 e)
  ·intro h t ht e;unfold eqU at e;rw[Nat.mul_one]at e;have:=h t (jD.1 ht);rw[bne_iff_ne]at this;exact this (beq_iff_eq.1 e)
 rw[<- key];cases (jA n).find? (eqU A #[.int .u64 x]) with|none=>simp|some k=>simp
theorem Yi0{S:Array Value}(hS:WT PZ 38 S)(hok:okS S=true){b h c:Int}(hU:U64 c)(hb:0<=b/\b<=1)(hh:1<=h/\h<=8)(hcs:Zac S c=true)(k:Nat):
  Zbr (setI (cN S) k) none ((jA 36).filter (bitI c)).length (srcA PZ S b h c 36)=((folds (sgF (watA S 36) (reaA PZ S b h c 36) k) (0,0,0) (nW S)).1==c):=by
 have hw:∀t,t<nW S->∃i,i<36/\wt S i=true/\cntQ (wt S) i=t/\((jA 36).filter (wt S))[t]?=some i:=λt ht=>by
  obtain⟨i,h1,h2,h3⟩:=Zzo ht;exact⟨i,h1,h2,h3,by rw[<- h3];exact Zsa h1 h2⟩
 have hW:∀t,t<nW S->(num (watA S 36) t).toNat<64:=λt ht=>by
  obtain⟨i,h1,-,-,h4⟩:=hw t ht;rw[show num (watA S 36) t=(i:Int) from Yba (f:=λk=>(k:Int)) h4];omega
 obtain⟨u1,-,h1,-,-⟩:=Ymo (R:=reaA PZ S b h c 36) (k:=k) hW (nW S) (jB _);generalize (folds (sgF (watA S 36) (reaA PZ S b h c 36) k) (0,0,0) (nW S)).1=x at u1 h1;have hx:∀j,bitI x j=true ↔ bitI c j=true/\j<36/\∃i,i<36/\wt S i=true/\k.testBit (cntQ (wt S) i)=true/\fil PZ S b h i j=true:=λj=>by
  rw[h1];constructor
  ·rintro⟨t,ht,hk,hr⟩;obtain⟨i,i1,i2,i3,i4⟩:=hw t ht;rw[show num (reaA PZ S b h c 36) t=_ from Yba (f:=λk=>Zbk PZ (k:Int) b h c S) i4,Yco hb hh i1,Q7,Q7,decide_eq_true_iff]at hr;exact⟨hr.1,hr.2.1,i,i1,i2,by rw[i3];exact hk,hr.2.2⟩
  ·rintro⟨hc,hj,i,i1,i2,i3,i4⟩;refine⟨cntQ (wt S) i,Yj4 i2 i1,i3,?_⟩;rw[show num (reaA PZ S b h c 36) (cntQ (wt S) i)=_ from Yba (f:=λk=>Zbk PZ (k:Int) b h c S) (Zsa i1 i2),Yco hb hh i1,hc,Q3 hj,i4];rfl
 rw[Bool.eq_iff_iff,beq_iff_eq,Yp4,Zlf];have hsrc:∀j,j<36->bitI c j=true->((andI (setI (cN S) k) (srcV PZ S b h (oneI j)) != 0)=true ↔ ∃i,i<36/\wt S i=true/\k.testBit (cntQ (wt S) i)=true/\fil PZ S b h i j=true):=λj hj hc=>by
  rw[Yon];constructor
  ·rintro⟨i,hi,q1,q2⟩;rw[Yqe hS hok hb hh hcs hc,Q7,Q7,decide_eq_true_iff]at q2;rw[Zxh (Ugi S) hi,Q7,Yim hS (by omega)]at q1;exact⟨i,q2.1,q2.2.1,q1.2,q2.2.2⟩
  ·rintro⟨i,i1,i2,i3,i4⟩;refine⟨i,by omega,?_,?_⟩
   ·rw[Zxh (Ugi S) (by omega),Yi6 hS (by omega),Q3 i1,i2,Yim hS (by omega),i3];rfl
   ·rw[Yqe hS hok hb hh hcs hc,Q3 i1,i2,i4];rfl
 constructor
 ·intro hm;refine Zwk u1 hU λj hj=> ?_
  rw[Bool.eq_iff_iff,hx j];refine⟨λh=>h.1,λhc=> ?_⟩;have h36:=(Yju hcs hc).1;refine⟨hc,h36,(hsrc j h36 hc).1 ?_⟩;have:=hm (cntQ (bitI c) j) (Yj4 hc h36)
  rwa [show num (srcA PZ S b h c 36) (cntQ (bitI c) j)=_ from Yba (f:=λj=>srcV PZ S b h (oneI j)) (Zsa h36 hc)]at this
 ·rintro rfl t ht;obtain⟨j,j1,j2,j3⟩:=Zzo ht;rw[<- j3,show num (srcA PZ S b h x 36) (cntQ (bitI x) j)=_ from Yba (f:=λj=>srcV PZ S b h (oneI j)) (Zsa j1 j2)];exact(hsrc j j1 j2).2 ((hx j).1 j2).2.2
theorem own_is{S:Array Value}(hS:WT PZ 38 S){R:Array Value}(k:Nat):(folds (sgF (watA S 36) R k) (0,0,0) (nW S)).2.1=setI (cN S) k/\(folds (sgF (watA S 36) R k) (0,0,0) (nW S)).2.2=(cntQ k.testBit (nW S):Int):=by
 have hw:∀t,t<nW S->∃i,i<36/\wt S i=true/\cntQ (wt S) i=t/\num (watA S 36) t=(i:Int):=λt ht=>by
  obtain⟨i,h1,h2,h3⟩:=Zzo ht;exact⟨i,h1,h2,h3,by rw[<- h3];exact Yba (f:=λk=>(k:Int)) (Zsa h1 h2)⟩
 have hW:∀t,t<nW S->(num (watA S 36) t).toNat<64:=λt ht=>by
  obtain⟨i,h1,-,-,h4⟩:=hw t ht;rw[h4];omega
 obtain⟨-,u2,-,h2,h3⟩:=Ymo (R:=R) (k:=k) hW (nW S) (jB _);refine⟨Zwk u2 (Yol _ _) λi hi=> ?_,h3⟩;rw[Bool.eq_iff_iff,h2 i,Zxh (Ugi S) hi,Q7,Yi6 hS hi,Q7,decide_eq_true_iff];constructor
 ·rintro⟨t,ht,hk,he⟩;obtain⟨i',i1,i2,i3,i4⟩:=hw t ht;rw[i4,Q9]at he;subst he;exact⟨⟨i1,i2⟩,by rw[Yim hS (by omega),i3];exact hk⟩
 ·rintro⟨⟨i1,i2⟩,i3⟩;rw[Yim hS (by omega)]at i3;refine⟨cntQ (wt S) i,Yj4 i2 i1,i3,?_⟩;rw[show num (watA S 36) (cntQ (wt S) i)=(i:Int) from Yba (f:=λk=>(k:Int)) (Zsa i1 i2)];omega
end
end Go.Proofs.YtgllknjdblkhnaaGreatDoor
