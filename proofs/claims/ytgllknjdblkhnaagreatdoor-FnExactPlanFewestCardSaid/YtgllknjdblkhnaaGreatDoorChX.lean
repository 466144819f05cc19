/- The sets of some cells, one behind the other, and those of the fewest cells first. -/
import Derived.Test.YtgllknjdblkhnaaGreatDoorCfB
import Derived.Test.YtgllknjdblkhnaaGreatDoorTzX
set_option linter.unusedVariables false
set_option linter.unusedSimpArgs false
open _root_.List renaming range'->jA,mem_singleton->jB
open _root_.Array renaming getElem?_eq_some_iff->jC
open _root_.Nat renaming le_trans->jD
namespace Go.Proofs.YtgllknjdblkhnaaGreatDoor
open Go.ChangeShapes Go.WideShapes Go.ChangeAt Go.RowKit Go.Conc Ve Vc
open Tryz renaming prog -> PZ
open IntKind (i64)
set_option maxRecDepth 100000
set_option maxHeartbeats 1000000
namespace Pop
theorem bit_succ(k n:Nat):(k+1).testBit n=(k.testBit n ^^ decide (k % 2^n=2^n - 1)):=by
 have hp:0<2^n:=Nat.two_pow_pos n;have e1:k=2^n*(k / 2^n)+k % 2^n:=(Nat.div_add_mod k (2^n)).symm;have hr:k % 2^n<2^n:=Nat.mod_lt _ hp;have tb:∀x,x.testBit n=decide (x / 2^n % 2=1):=λx=>Nat.testBit_eq_decide_div_mod_eq
 rw[tb,tb]
 by_cases h:k % 2^n=2^n - 1
 ·have e2:(k+1) / 2^n=k / 2^n+1:=by
   have:k+1=2^n*(k / 2^n+1):=by rw[Nat.mul_add,Nat.mul_one];omega
   rw[this,Nat.mul_div_cancel_left _ hp]
  rw[e2,Q3 h];generalize k / 2^n=a
  by_cases ha:a % 2=1
  ·rw[Q3 ha,Q4 (by omega)];rfl
  ·rw[Q4 ha,Q3 (by omega)];rfl
 ·have e2:(k+1) / 2^n=k / 2^n:=by
   have:k+1=2^n*(k / 2^n)+(k % 2^n+1):=by omega
   have h4:(k % 2^n+1) / 2^n=0:=Nat.div_eq_of_lt (by omega);rw[this,Nat.mul_add_div hp,h4,Nat.add_zero]
  rw[e2,Q4 h,Bool.xor_false]
theorem Yqa(k n:Nat):decide (k % 2^(n+1)=2^(n+1) - 1)=(k.testBit n&&decide (k % 2^n=2^n - 1)):=by
 have hp:0<2^n:=Nat.two_pow_pos n;have tb:k.testBit n=decide (k / 2^n % 2=1):=Nat.testBit_eq_decide_div_mod_eq;have e:k % 2^(n+1)=2^n*(k / 2^n % 2)+k % 2^n:=by rw[Nat.pow_succ,Nat.mod_mul];omega
 have hr:k % 2^n<2^n:=Nat.mod_lt _ hp;have e2:2^(n+1)=2^n+2^n:=by rw[Nat.pow_succ];omega
 rw[tb,e,e2];rcases Nat.mod_two_eq_zero_or_one (k / 2^n) with h|h
 ·rw[h,Nat.mul_zero,Nat.zero_add,Q4 (show ¬(0:Nat)=1 by omega),Bool.false_and];exact Q4 (by omega)
 ·rw[h,Nat.mul_one,Q3 rfl,Bool.true_and];exact decide_eq_decide.2 (by omega)
def Uep(M x:BitVec 64)(k:Nat):Prop:=∀i,i<64->x.getLsbD i=(M.getLsbD i&&k.testBit (cntQ M.getLsbD i))
theorem Yj7{M x:BitVec 64}{k:Nat}(h:Uep M x k):∀i,i<=64->BitVec.carry i x (~~~M) true=decide (k % 2^cntQ M.getLsbD i=2^cntQ M.getLsbD i - 1)
 |0,_=>by simp[BitVec.carry,cntQ,Nat.mod_one]
 | i+1,hi=>by
  rw[BitVec.carry_succ,Yj7 h i (by omega),h i (by omega),cntQ,BitVec.getLsbD_not];have hlt:decide (i<64)=true:=Q3 (by omega);rw[hlt,Bool.true_and];cases hq:M.getLsbD i with|false=>simp[Bool.atLeastTwo]|true=>rw[if_pos rfl,Yqa];cases k.testBit (cntQ M.getLsbD i)<;>simp[Bool.atLeastTwo]
theorem dep_next{M x:BitVec 64}{k:Nat}(h:Uep M x k):Uep M ((x - M) &&& M) (k+1):=by
 intro i hi;have e:x - M=x + ~~~M+BitVec.setWidth 64 (BitVec.ofBool true):=by rw[BitVec.sub_eq_add_neg,BitVec.neg_eq_not_add,BitVec.add_assoc];rfl
 rw[BitVec.getLsbD_and,e,BitVec.getLsbD_add_add_bool hi,Yj7 h i (by omega),h i hi,BitVec.getLsbD_not,bit_succ];have hlt:decide (i<64)=true:=Q3 hi;rw[hlt,Bool.true_and];cases hq:M.getLsbD i with|false=>simp|true=>simp
theorem dep_zero(M:BitVec 64):Uep M 0#64 0:=λi _=>by simp
theorem dep_uniq{M x y:BitVec 64}{k:Nat}(h:Uep M x k)(h':Uep M y k):x=y:=
 BitVec.eq_of_getLsbD_eq λi hi=>by rw[h i hi,h' i hi]
theorem Ylv(q:Nat->Bool):∀{m n:Nat},m<=n->cntQ q m<=cntQ q n
 |m,0,h=>by rw[show m=0 by omega];exact Nat.le_refl _
 | m,n+1,h=>by
  by_cases e:m=n+1
  ·rw[e];exact Nat.le_refl _
  ·have:=Ylv q (show m<=n by omega);rw[cntQ];omega
theorem Yj4{q:Nat->Bool}{i n:Nat}(hq:q i=true)(h:i<n):cntQ q i<cntQ q n:=by
 have h1:cntQ q (i+1)=cntQ q i+1:=by rw[cntQ,if_pos hq]
 have:=Ylv q (show i+1<=n from h);omega
theorem Zzo{q:Nat->Bool}:∀{n j:Nat},j<cntQ q n->∃i,i<n/\q i=true/\cntQ q i=j
 |0,j,h=>absurd h (Nat.not_lt_zero j)
 | n+1,j,h=>by
  rw[cntQ]at h
  by_cases hj:j<cntQ q n
  ·obtain⟨i,h1,h2,h3⟩:=Zzo hj;exact⟨i,by omega,h2,h3⟩
  ·cases hq:q n with|false=>rw[hq,if_neg (by simp)]at h;omega|true=>rw[hq,if_pos rfl]at h;exact⟨n,Nat.lt_succ_self n,hq,by omega⟩
theorem dep_full(M:BitVec 64):Uep M M (2^cntQ M.getLsbD 64 - 1):=λi hi=>by
 rw[Nat.testBit_two_pow_sub_one];cases hq:M.getLsbD i with|false=>rfl|true=>rw[Q3 (Yj4 hq hi)];rfl
theorem Yp0{M x:BitVec 64}{k:Nat}(h:Uep M x k)(hk:k<2^cntQ M.getLsbD 64):x=M ↔ k+1=2^cntQ M.getLsbD 64:=by
 constructor
 ·intro e;subst e;have:k=2^cntQ x.getLsbD 64 - 1:=Nat.eq_of_testBit_eq λj=>by
   rw[Nat.testBit_two_pow_sub_one]
   by_cases hj:j<cntQ x.getLsbD 64
   ·obtain⟨i,h1,h2,h3⟩:=Zzo hj;have:=h i h1;rw[h2,h3,Bool.true_and]at this;rw[<- this,Q3 hj]
   ·rw[Q4 hj];exact Nat.testBit_lt_two_pow (Nat.lt_of_lt_of_le hk (Nat.pow_le_pow_right (by omega) (by omega)))
  have:=Nat.two_pow_pos (cntQ x.getLsbD 64);omega
 ·intro e;have e2:k=2^cntQ M.getLsbD 64 - 1:=by omega
  rw[e2]at h;exact dep_uniq h (dep_full M)
theorem Zyp(q:Nat->Bool):∀n,cntQ q n<=n
 |0=>Nat.le_refl _
 |n+1=>by have:=Zyp q n;rw[cntQ];split<;>omega
def setB(M:BitVec 64):Nat->BitVec 64
 |0=>0#64
 |k+1=>(setB M k - M) &&& M
theorem Ych(M:BitVec 64):∀k,Uep M (setB M k) k
 |0=>dep_zero M
 |k+1=>dep_next (Ych M k)
def Ucp(c:Nat):List Int:=(List.range (2^cntQ c.testBit 64)).map λk=>((setB (BitVec.ofNat 64 c) k).toNat:Int)
def cntI(x:Int):Nat:=cntQ x.toNat.testBit 64
def choP(c m:Nat):List Int:=(List.range m).flatMap λm=>(Ucp c).filter λx=>Nat.beq (cntI x) m
def choL(c:Nat):List Int:=choP c (cntQ c.testBit 64+1)
theorem Zwq(c m:Nat):choP c (m+1)=choP c m++(Ucp c).filter λx=>Nat.beq (cntI x) m:=by unfold choP;rw[List.range_succ,List.flatMap_append];simp
theorem Ymd{c m n:Nat}(h:m<=n):choP c m <+: choP c n:=by obtain⟨d,rfl⟩:∃d,n=m+d:=⟨n - m,by omega⟩;unfold choP;rw[List.range_add,List.flatMap_append];exact List.prefix_append _ _
theorem Yhy{c:Nat}(hc:c<2^64):cntQ (BitVec.ofNat 64 c).getLsbD 64=cntQ c.testBit 64:=Zl9 λi hi=>by
 rw[BitVec.getLsbD_ofNat,Q3 hi,Bool.true_and]
theorem set_next{c:Nat}(hc:c<2^64)(k:Nat):andI (IntKind.u64.wrap (((setB (BitVec.ofNat 64 c) k).toNat:Int) - (c:Int))) (c:Int)=((setB (BitVec.ofNat 64 c) (k+1)).toNat:Int):=by
 generalize hs:setB (BitVec.ofNat 64 c) k=s;have hl:=s.isLt;have e1:BitVec.ofInt IntKind.u64.bits (IntKind.u64.wrap ((s.toNat:Int) - (c:Int)))=s - BitVec.ofNat 64 c:=by
  show BitVec.ofInt 64 _=_
  rw[IntKind.wrap_u64];apply BitVec.eq_of_toNat_eq;rw[BitVec.toNat_ofInt,BitVec.toNat_sub,BitVec.toNat_ofNat];omega
 have e2:BitVec.ofInt IntKind.u64.bits (c:Int)=BitVec.ofNat 64 c:=by
  show BitVec.ofInt 64 _=_
  rw[BitVec.ofInt_natCast]
 unfold andI;rw[e1,e2,setB,hs];have:((s - BitVec.ofNat 64 c) &&& BitVec.ofNat 64 c).toNat<18446744073709551616:=((s - BitVec.ofNat 64 c) &&& BitVec.ofNat 64 c).isLt;exact u64n this
theorem set_at{c k:Nat}(hk:k<2^cntQ c.testBit 64):(Ucp c).take k++[((setB (BitVec.ofNat 64 c) k).toNat:Int)]=(Ucp c).take (k+1):=by unfold Ucp;rw[<- List.map_take,<- List.map_take,List.take_range,List.take_range,Nat.min_eq_left (by omega),Nat.min_eq_left (by omega),List.range_succ,List.map_append];rfl
theorem set_all(c:Nat):(Ucp c).take (2^cntQ c.testBit 64)=Ucp c:=List.take_of_length_le (by simp[Ucp])
theorem set_lt{c:Nat}{x:Int}(h:x∈Ucp c):0<=x/\x<=18446744073709551615:=by obtain⟨k,-,rfl⟩:=List.mem_map.1 h;have:=(setB (BitVec.ofNat 64 c) k).isLt;omega
theorem cho_mem{c:Nat}{x:Int}(h:x∈choL c):0<=x/\x<=18446744073709551615:=by obtain⟨m,-,h⟩:=List.mem_flatMap.1 h;exact set_lt (List.mem_filter.1 h).1
end Pop
open Pop
variable {mn:Md}
theorem Yms{β:Type}{B:Nat}{J:β->World->Prop}(hJ:OwnFrom B J){s:β}{v wx:World}(h:J s v)(hk:Kept (λk=>B<=k) v wx)(hc:∀(k:Nat) c t fr,v.heap[k]?=some (Obj.cells c t fr)->wx.heap[k]?=some (Obj.cells c t fr)):J s wx:=by
 obtain⟨k1,k2,k3,k4,k5⟩:=hk
 let mix:Nat->World:=λn=>{ wx with heap:=wx.heap.mapIdx λk o=>if k<n then o else (v.heap[k]?).getD o }
 have hget:∀n k,(mix n).heap[k]?=(wx.heap[k]?).map λo=>if k<n then o else (v.heap[k]?).getD o:=λn k=>Array.getElem?_mapIdx
 have h0:J s (mix 0):=hJ s v (mix 0) none h ⟨k1,k2,k3,by simpa [mix] using k4,λk hk _=>by
  obtain⟨o,ho⟩:∃o,wx.heap[k]?=some o:=⟨_,Array.getElem?_eq_getElem (by omega)⟩;obtain⟨o',ho'⟩:∃o,v.heap[k]?=some o:=⟨_,Array.getElem?_eq_getElem hk⟩;rw[hget,ho,ho'];rfl⟩ λr e=>by cases e
 have step:∀ n,J s (mix n)→J s (mix (n+1)):=fun n hn=>by
  have oth:∀k,k≠n->(mix (n+1)).heap[k]?=(mix n).heap[k]?:=λk hk=>by
   rw[hget,hget];refine congrArg (λg=>Option.map g _) (funext λo=> ?_)
   by_cases h1:k<n
   ·rw[if_pos h1,if_pos (by omega)]
   ·rw[if_neg h1,if_neg (by omega)]
  have hsz:(mix n).heap.size<=(mix (n+1)).heap.size:=by simp[mix]
  by_cases he:(mix (n+1)).heap[n]?=(mix n).heap[n]?
  ·exact hJ s _ _ none hn ⟨rfl,rfl,rfl,hsz,λk _ _=>by by_cases e:k=n;(rw[e];exact he);exact oth k e⟩ λr e=>by cases e
  ·refine hJ s _ _ (some n) hn ⟨rfl,rfl,rfl,hsz,λk _ hne=>oth k λe=>hne (by rw[e])⟩ λr e=> ?_
   cases e;rw[hget,hget]at he;cases hw:wx.heap[n]? with
   |none=>rw[hw]at he;exact absurd rfl he
   | some o=>
    rw[hw]at he;simp only[Option.map_some,if_pos (Nat.lt_succ_self n),if_neg (Nat.lt_irrefl n)]at he;cases hv:v.heap[n]? with
    |none=>rw[hv]at he;exact absurd rfl he
    | some o'=>
     rw[hv,Option.getD_some]at he;have hlt:n<v.heap.size:=(jC.1 hv).1;refine⟨Nat.le_of_not_lt λhB=> ?_,o',?_,?_⟩
     ·have:=k5 n hlt (by omega);rw[hw,hv]at this;exact he this
     ·rw[hget,hw];simp only[Option.map_some,if_neg (Nat.lt_irrefl n),hv,Option.getD_some]
     ·cases o' with|cells c t fr=>have:=hc n c t fr hv;rw[hw]at this;exact absurd this he|_=>rfl
 have hall:∀n,J s (mix n):=λn=>by
  induction n with|zero=>exact h0|succ n ih=>exact step n ih
 have he:mix v.heap.size=wx:=by
  show ({ wx with heap:=_ }:World)=wx
  have:wx.heap.mapIdx (λk o=>if k<v.heap.size then o else (v.heap[k]?).getD o)=wx.heap:=Array.ext_getElem? λk=>by
   rw[Array.getElem?_mapIdx];cases hw:wx.heap[k]? with
   |none=>rfl
   |some o=>
    rw[Option.map_some]
    by_cases h1:k<v.heap.size
    ·rw[if_pos h1]
    ·rw[if_neg h1,Array.getElem?_eq_none (by omega)];rfl
  rw[this]
 rw[<- he];exact hall _
theorem Ycw{fn:Func}(hf:fn.results=#[]){tmps:Array Value}{R:Value->World->Prop}{V v:World}{ds:List Deferred}(hd:DefOk V ds v)(h:∀v',Kept (λk=>V.heap.size<=k) v v'->(∀(k:Nat) c t fr,v.heap[k]?=some (Obj.cells c t fr)->v'.heap[k]?=some (Obj.cells c t fr))->R (.tuple #[]) v'):Ucf PZ fn tmps R ds v:=
 ⟨V,hd,λwx hk hc=>⟨_,results_none hf _ _ _,h wx hk hc⟩⟩
theorem Ugs{s:List SV}{a:Act}(h:S0 PZ s a)(ds:List Deferred):S0 PZ s (strip { tmps:=a.tmps,defers:=ds }):=⟨h.len,h.slots,rfl⟩
theorem Ym6{V W A B:World}{ds:List Deferred}{row:Option Nat}(h0:DefOk V ds W)(h:DefOk V ds A)(hg:A.grownBy B row)(hr:∀r,row=some r->W.heap.size<=r):DefOk V ds B:=⟨λd hd=>by
 obtain⟨m,e1,h1,h2⟩:=h.all d hd;obtain⟨m',e2,-,h3⟩:=h0.all d hd;have:m'=m:=by rw[e1]at e2;simpa using e2.symm
 subst this;refine⟨m',e1,h1,(hg.block m' (jC.1 h2).1 λe=> ?_).trans h2⟩;have:=hr _ e.symm;have:=(jC.1 h3).1;omega,h.diff⟩
theorem Zye{V A B:World}{ds:List Deferred}(h:DefOk V ds A)(hk:∀m,V.heap.size<=m->A.heap[m]?=some (.deferred (some []))->B.heap[m]?=some (.deferred (some []))):DefOk V ds B:=⟨λd hd=>by
 obtain⟨m,e1,h1,h2⟩:=h.all d hd;exact⟨m,e1,h1,hk m h1 h2⟩,h.diff⟩
noncomputable section
abbrev slU(n:Int):SV:=.a (.i .u64 n)
theorem wtInt{n:Int}(h: -1000000<=n/\n<=1000000):WT PZ 3 #[.int .i64 n]:=by
 have hl:lay PZ 3=[3]:=by kernel_rfl
 refine Ubt (by rw[hl];rfl) ?_;have e1:i64.min=-9223372036854775808:=rfl;have e2:i64.max=9223372036854775807:=rfl;constructor<;>omega
theorem Ylc{sf:TypeId->Bool}(bc:Nat){c:Nat}(hc64:c<2^64)(v:World)(hbc:v.heap[bc]?=some (.cells #[.int .u64 (c:Int)] 23 (0,0))){ks:List Nat}(hks:bc∈ks):
  SeqS sf mn PZ 71 #[.pointer (some ⟨bc,0,none⟩)] (λx:Int=>#[.int .u64 x]) (Uc8 ks) (Ucp c) v:=by
 intro l J Jx V hge hJ hJx hY h0;have hbc:=geAt hge hbc;clear hge
 let Inv:List Int->World->Prop:=λp v=>J p v/\v.heap[bc]?=some (.cells #[.int .u64 (c:Int)] 23 (0,0))/\V.heap.size<=v.heap.size
 have invGe:∀{p v v'},Ge v v'->Inv p v->Inv p v':=λhg h=>⟨Ucm hJ hg h.1,geAt hg h.2.1,jD h.2.2 hg.size⟩
 have hI0:Inv [] V:=⟨h0,hbc,Nat.le_refl _⟩;have hW:WT PZ 23 #[.int .u64 (c:Int)]:=wtU64 (by omega)
 show Ua9 mn PZ 71 #[.func (.yield l) #[] #[],.pointer (some ⟨bc,0,none⟩)] V _
 refine Zfd (c:=codeOf Tryz.f71) Tryz.func71 rfl ?_;have hS:S0 PZ (slY l::slP bc::us 15 []) { tmps:=#[.func (.yield l) #[] #[],.pointer (some ⟨bc,0,none⟩)]++Array.replicate 15 undef,defers:=[] }:=S0.enter [.func (.yield l) #[] #[],.pointer (some ⟨bc,0,none⟩)] 15;refine Zal (Zgy eoΓ_ok hS (kS:=[0,1,3]) (nS:=17) (s':=slY l::slP bc::.a .x::slU 0::xs 13 []) rfl (by kernel_rfl) λa1 v1 hS1 hg1=> ?_);have hS1:S0 PZ (slY l::slP bc::.a .x::slU ((setB (BitVec.ofNat 64 c) 0).toNat:Int)::xs 13 []) a1:=hS1;have hI1:Inv ((Ucp c).take 0) v1:=invGe hg1 hI0;obtain⟨N,hN⟩:∃N,2^cntQ c.testBit 64=N+1:=⟨2^cntQ c.testBit 64 - 1,by have:=Nat.two_pow_pos (cntQ c.testBit 64);omega⟩;refine Zfj (Zby (N+1) ?_);refine(?_:∀(d:Nat) (k:Nat) (a:Act) (v:World),k+d=N->S0 PZ (slY l::slP bc::.a .x::slU ((setB (BitVec.ofNat 64 c) k).toNat:Int)::xs 13 []) a->Inv ((Ucp c).take k) v->Ua7 mn none PZ _ _ (d+1) a v) N 0 a1 v1 (by omega) hS1 hI1;clear hS hS1 hI0 hI1 hg1 hbc h0;intro d
 induction d with
 | zero=>
  intro k a v hd hS hI;have hat:=set_at (c:=c) (k:=k) (by omega);have hend:setB (BitVec.ofNat 64 c) k=BitVec.ofNat 64 c:=(Yp0 (Ych _ k) (by rw[Yhy hc64];omega)).2 (by rw[Yhy hc64];omega);have hxr:0<=((setB (BitVec.ofNat 64 c) k).toNat:Int)/\((setB (BitVec.ofNat 64 c) k).toNat:Int)<=18446744073709551615:=by have:=(setB (BitVec.ofNat 64 c) k).isLt;omega
  have hxe:((setB (BitVec.ofNat 64 c) k).toNat:Int)=(c:Int):=by rw[hend,BitVec.toNat_ofNat,Nat.mod_eq_of_lt hc64]
  generalize ((setB (BitVec.ofNat 64 c) k).toNat:Int)=x at hat hxr hxe hS;refine Zal (Zal (Zap ?_))
  show OpsX mn _ _ _ (jA 0 2++(2::(jA 3 5++[]))) _ _
  refine Zbw eoΓ_ok hS 0 2 rfl (kS:=[0,1,3,4,5]) (nS:=17) (s':=slY l::slP bc::.a .x::slU x::slY l::slU x::xs 11 []) rfl (by kernel_rfl) λa2 v2 hS2 hg2=> ?_
  have hI2:=invGe hg2 hI;refine Zsg (i:=2) rfl rfl (Zpl rfl rfl (hS2.cst (i:=4) rfl) (args:=#[.int .u64 x]) (by rw[<- hS2.int (i:=5) rfl];simp) (hY _ x v2 hI2.1 (by rw[hat];exact List.take_prefix _ _) hI2.2.2) λr3 v3 hr3=> ?_);rw[hat]at hr3;rcases hr3 with ⟨rfl,hJ3,hk3,hkf3⟩ | ⟨rfl,hJ3,hkf3⟩
  ·have hS3:=hS2.put 6 (y:=.b true) (vv:=.bool true) rfl;have hb3:=hk3 bc hks _ _ _ hI2.2.1;refine Zls eoΓ_ok hS3 (j:=1) (b:=bc) rfl hb3 hW rfl 3 5 rfl (kS:=[1,11]) (nS:=17) (s':=.a .x::.a (.w 0)::xs 9 (.a (.b (x != (c:Int)))::xs 5 [])) rfl rfl (by kernel_rfl) λa4 v4 hS4 hg4=> ?_
   refine Za7 ((hS4.bool (i:=11) rfl).trans (by rw[hxe];simp)) (Zk5 ?_);refine⟨.inl rfl,Zkd rfl hS4.defers λv5 hg5=>.inl ?_⟩;rw[show k+1=2^cntQ c.testBit 64 by omega,set_all]at hJ3;exact Ucm hJ (hg4.trans hg5) hJ3
  ·have hS3:=hS2.put 6 (y:=.b false) (vv:=.bool false) rfl;refine Zbw eoΓ_ok hS3 3 5 rfl (kS:=[11]) (nS:=17) (s':=xs 11 (.a (.b false)::xs 5 [])) rfl (by kernel_rfl) λa4 v4 hS4 hg4=> ?_
   refine Za7 (hS4.bool (i:=11) rfl) (Zk5 ?_);exact⟨.inl rfl,Zkd rfl hS4.defers λv5 hg5=>.inr ⟨_,List.take_prefix _ _,Ucm hJx (hg4.trans hg5) hJ3⟩⟩
 | succ d ih=>
  intro k a v hd hS hI;have hat:=set_at (c:=c) (k:=k) (by omega);have hnext:=set_next hc64 k;have hxr:0<=((setB (BitVec.ofNat 64 c) k).toNat:Int)/\((setB (BitVec.ofNat 64 c) k).toNat:Int)<=18446744073709551615:=by have:=(setB (BitVec.ofNat 64 c) k).isLt;omega
  have hxe:((setB (BitVec.ofNat 64 c) k).toNat:Int)≠(c:Int):=λe=>by
   have e1:setB (BitVec.ofNat 64 c) k=BitVec.ofNat 64 c:=by apply BitVec.eq_of_toNat_eq;rw[BitVec.toNat_ofNat,Nat.mod_eq_of_lt hc64];omega
   have:=(Yp0 (Ych _ k) (by rw[Yhy hc64];omega)).1 e1;rw[Yhy hc64]at this;omega
  generalize hgx:((setB (BitVec.ofNat 64 c) k).toNat:Int)=x at hat hxr hxe hS hnext;refine Zal (Zal (Zap ?_))
  show OpsX mn _ _ _ (jA 0 2++(2::(jA 3 5++[]))) _ _
  refine Zbw eoΓ_ok hS 0 2 rfl (kS:=[0,1,3,4,5]) (nS:=17) (s':=slY l::slP bc::.a .x::slU x::slY l::slU x::xs 11 []) rfl (by kernel_rfl) λa2 v2 hS2 hg2=> ?_
  have hI2:=invGe hg2 hI;refine Zsg (i:=2) rfl rfl (Zpl rfl rfl (hS2.cst (i:=4) rfl) (args:=#[.int .u64 x]) (by rw[<- hS2.int (i:=5) rfl];simp) (hY _ x v2 hI2.1 (by rw[hat];exact List.take_prefix _ _) hI2.2.2) λr3 v3 hr3=> ?_);rw[hat]at hr3;rcases hr3 with ⟨rfl,hJ3,hk3,hkf3⟩ | ⟨rfl,hJ3,hkf3⟩
  ·have hS3:=hS2.put 6 (y:=.b true) (vv:=.bool true) rfl;have hb3:=hk3 bc hks _ _ _ hI2.2.1;have hI3:Inv ((Ucp c).take (k+1)) v3:=⟨hJ3,hb3,jD hI2.2.2 hkf3.size⟩;refine Zls eoΓ_ok hS3 (j:=1) (b:=bc) rfl hb3 hW rfl 3 5 rfl (kS:=[0,1,3,11]) (nS:=17) (s':=slY l::.a (.w 0)::.a .x::slU x::xs 7 (.a (.b (x != (c:Int)))::xs 5 [])) rfl rfl (by kernel_rfl) λa4 v4 hS4 hg4=> ?_
   have hI4:=invGe hg4 hI3;refine Zdo ((hS4.bool (i:=11) rfl).trans (by rw[bne_iff_ne.2 hxe])) (Zf8 ?_);refine Zfj (Zyk eoΓ_ok hS4 (j:=1) (b:=bc) rfl hI4.2.1 hW rfl (kS:=[0,1,3]) (nS:=17) (s':=slY l::.a (.w 0)::.a .x::slU (andI (IntKind.u64.wrap (x - (c:Int))) (c:Int))::xs 13 []) rfl rfl (by kernel_rfl) λa5 v5 hS5 hg5=> ?_);rw[hnext]at hS5;exact ih (k+1) a5 v5 (by omega) hS5 (invGe hg5 hI4)
  ·have hS3:=hS2.put 6 (y:=.b false) (vv:=.bool false) rfl;refine Zbw eoΓ_ok hS3 3 5 rfl (kS:=[11]) (nS:=17) (s':=xs 11 (.a (.b false)::xs 5 [])) rfl (by kernel_rfl) λa4 v4 hS4 hg4=> ?_
   refine Za7 (hS4.bool (i:=11) rfl) (Zk5 ?_);exact⟨.inl rfl,Zkd rfl hS4.defers λv5 hg5=>.inr ⟨_,List.take_prefix _ _,Ucm hJx (hg4.trans hg5) hJ3⟩⟩
theorem Ybc(c:Int):ansN PZ (mkΓ []) 10 Tryz.f54 [] [.i .u64 c]=some ⟨71,[(#[.int .u64 c],23)]⟩:=by kernel_rfl
def Zoo:NCon:=λargs=>match args with|[.i .u64 c]=>some ⟨71,[(#[.int .u64 c],23)]⟩|_=>none
theorem Yd8:Ubo mn PZ 54 Zoo:=(Yhi (N:=10) (by kernel_rfl) mKn (fn:=Tryz.f54) (by kernel_rfl) (by kernel_rfl) []).of (by
 intro ρ h args vals c hA hr;unfold Zoo at hr;split at hr
 ·rename_i c0;rw[<- Q5 hr];exact Ybc c0
 ·cases hr)
theorem Yai:EntX PZ 54:=Zak (fn:=Tryz.f54)
theorem Zve:EntX PZ 71:=Zak (fn:=Tryz.f71)
theorem Zvt(c:Int):ansN PZ (mkΓ []) 10 Tryz.f32 [] [.i .u64 c]=some ⟨53,[(#[.int .u64 c],23)]⟩:=by kernel_rfl
def Zlm:NCon:=λargs=>match args with|[.i .u64 c]=>some ⟨53,[(#[.int .u64 c],23)]⟩|_=>none
theorem Zkr:Ubo mn PZ 32 Zlm:=(Yhi (N:=10) (by kernel_rfl) mKn (fn:=Tryz.f32) (by kernel_rfl) (by kernel_rfl) []).of (by
 intro ρ h args vals c hA hr;unfold Zlm at hr;split at hr
 ·rename_i c0;rw[<- Q5 hr];exact Zvt c0
 ·cases hr)
theorem Zi3:EntX PZ 32:=Zak (fn:=Tryz.f32)
theorem Zhz:EntX PZ 53:=Zak (fn:=Tryz.f53)
abbrev chΓ:Cons:=mkΓx [(28,con Zea)] [(54,Zoo)] []
theorem chΓ_ok:ConsOkX mn PZ (Uai mn PZ) chΓ:=mKx (Zag Zen) Zdp (mkΓx_nX Yd8 Yai mkΓx_nilX)
abbrev Ua5:Array Oper:=(regs (codeOf Tryz.f53)).getD 6 #[]
theorem chReg{l bq bm:Nat}{m x:Int}(hm0:0<=m/\m<=1000){W:World}(hbm:W.heap[bm]?=some (.cells #[.int .i64 m] 3 (0,0)))(hq:W.heap[bq]?=some (.cells #[.func (.yield l) #[] #[]] 116 (0,0))){K:Act->World->Prop}
  (hno:((cntI x:Int)==m)=false->∀a' v',S0 PZ (xs 23 (.a (.b false)::xs 1 [])) a'->Ge W v'->K a' v')
  (hyes:((cntI x:Int)==m)=true->∀v1,Ge W v1->YieldX mn PZ l #[.int .u64 x] v1 λr v2=>∃t,r=.bool t/\∀a' v',S0 PZ (xs 23 (.a (.b (!t))::xs 1 [])) a'->Ge v2 v'->K a' v')
  {a:Act} (hS:S0 PZ (xs 2 (slP bq::slP bm::slU x::xs 20 [])) a):AnyX mn PZ Ua5 K 10 (arrB Ua5.size 0) a W:=by
 have hmw:WT PZ 3 #[.int .i64 m]:=wtInt (by omega)
 have h31:∀ a v,S0 PZ (xs 2 (slP bq::slP bm::slU x::xs 13 (.a (.b ((cntI x:Int)==m))::xs 6 []))) a→Ge W v→AnyX mn PZ Ua5 K 5 (arrB Ua5.size 31) a v:=fun a v hS hg=>by
  cases hb:((cntI x:Int)==m) with
  | false=>
   rw[hb]at hS;have n511:∀a v,S0 PZ (xs 18 (.a (.b false)::xs 6 [])) a->Ge W v->AnyX mn PZ Ua5 K 1 (arrB Ua5.size 511) a v:=λa v hS hg=>by
    refine Zhf (n:=0) (m:=511) (L:=[9]) (by kernel_rfl) rfl (by kernel_rfl) λi hi=> ?_
    obtain rfl:=jB.1 hi
    show OpsX mn _ _ _ (jA 9 1++[]) _ _
    exact Zbw chΓ_ok hS 9 1 (by kernel_rfl) (kS:=[23]) (nS:=25) (s':=xs 23 (.a (.b false)::xs 1 [])) rfl (by kernel_rfl) λa2 v2 hS2 hg2=>Yl9 (m:=1023) (by kernel_rfl) (hno hb a2 v2 hS2 (hg.trans hg2))
   have n255:∀a v,S0 PZ (xs 18 (.a (.b false)::xs 6 [])) a->Ge W v->AnyX mn PZ Ua5 K 2 (arrB Ua5.size 255) a v:=λa v hS hg=>by
    refine Zhf (n:=1) (m:=255) (L:=[8]) (by kernel_rfl) rfl (by kernel_rfl) λi hi=> ?_
    obtain rfl:=jB.1 hi
    show OpsX mn _ _ _ (jA 8 1++[]) _ _
    exact Zbw chΓ_ok hS 8 1 (by kernel_rfl) (kS:=[18]) (nS:=25) (s':=xs 18 (.a (.b false)::xs 6 [])) rfl (by kernel_rfl) λa2 v2 hS2 hg2=>n511 a2 v2 hS2 (hg.trans hg2)
   have n127:∀a v,S0 PZ (xs 18 (.a (.b false)::xs 6 [])) a->Ge W v->AnyX mn PZ Ua5 K 3 (arrB Ua5.size 127) a v:=λa v hS hg=>by
    refine Zhf (n:=2) (m:=127) (L:=[7]) (by kernel_rfl) rfl (by kernel_rfl) λi hi=> ?_
    obtain rfl:=jB.1 hi
    show OpsX mn _ _ _ (jA 7 1++[]) _ _
    exact Zbw chΓ_ok hS 7 1 (by kernel_rfl) (kS:=[18]) (nS:=25) (s':=xs 18 (.a (.b false)::xs 6 [])) rfl (by kernel_rfl) λa2 v2 hS2 hg2=>n255 a2 v2 hS2 (hg.trans hg2)
   have n63:∀a v,S0 PZ (xs 18 (.a (.b false)::xs 6 [])) a->Ge W v->AnyX mn PZ Ua5 K 4 (arrB Ua5.size 63) a v:=λa v hS hg=>by
    refine Zhf (n:=3) (m:=63) (L:=[6]) (by kernel_rfl) rfl (by kernel_rfl) λi hi=> ?_
    obtain rfl:=jB.1 hi
    show OpsX mn _ _ _ (jA 6 1++[]) _ _
    exact Zbw chΓ_ok hS 6 1 (by kernel_rfl) (kS:=[18]) (nS:=25) (s':=xs 18 (.a (.b false)::xs 6 [])) rfl (by kernel_rfl) λa2 v2 hS2 hg2=>n127 a2 v2 hS2 (hg.trans hg2)
   have n95:∀a v,S0 PZ (xs 18 (.a (.b false)::xs 6 [])) a->Ge W v->AnyX mn PZ Ua5 K 4 (arrB Ua5.size 95) a v:=λa v hS hg=>by
    refine Zhf (n:=3) (m:=95) (L:=[5]) (by kernel_rfl) rfl (by kernel_rfl) λi hi=> ?_
    obtain rfl:=jB.1 hi
    show OpsX mn _ _ _ (jA 5 1++[]) _ _
    exact Zbw chΓ_ok hS 5 1 (by kernel_rfl) (kS:=[18]) (nS:=25) (s':=xs 18 (.a (.b false)::xs 6 [])) rfl (by kernel_rfl) λa2 v2 hS2 hg2=>n127 a2 v2 hS2 (hg.trans hg2)
   have n31:∀a v,S0 PZ (xs 18 (.a (.b false)::xs 6 [])) a->Ge W v->AnyX mn PZ Ua5 K 5 (arrB Ua5.size 31) a v:=λa v hS hg=>by
    refine Zhf (n:=4) (m:=31) (L:=[5,6]) (by kernel_rfl) rfl (by kernel_rfl) λi hi=> ?_
    rcases List.mem_cons.1 hi with rfl|hi
    ·show OpsX mn _ _ _ (jA 5 1++[]) _ _
     exact Zbw chΓ_ok hS 5 1 (by kernel_rfl) (kS:=[18]) (nS:=25) (s':=xs 18 (.a (.b false)::xs 6 [])) rfl (by kernel_rfl) λa2 v2 hS2 hg2=>n63 a2 v2 hS2 (hg.trans hg2)
    ·obtain rfl:=jB.1 hi
     show OpsX mn _ _ _ (jA 6 1++[]) _ _
     exact Zbw chΓ_ok hS 6 1 (by kernel_rfl) (kS:=[18]) (nS:=25) (s':=xs 18 (.a (.b false)::xs 6 [])) rfl (by kernel_rfl) λa2 v2 hS2 hg2=>n95 a2 v2 hS2 (hg.trans hg2)
   exact n31 a v (((hS.set (i:=2) (y:=.a .x) trivial).set (i:=3) (y:=.a .x) trivial).set (i:=4) (y:=.a .x) trivial) hg
  | true=>
   rw[hb]at hS;have y127:∀a v,S0 PZ (xs 18 (.a (.b true)::slY l::slU x::xs 4 [])) a->Ge W v->AnyX mn PZ Ua5 K 3 (arrB Ua5.size 127) a v:=λa v hS hg=>by
    refine Zhf (n:=2) (m:=127) (L:=[7]) (by kernel_rfl) rfl (by kernel_rfl) λi hi=> ?_
    obtain rfl:=jB.1 hi;refine Zpm hS (i:=7) rfl (j:=4) (d:=18) rfl rfl rfl (Zpl rfl rfl (hS.cst (i:=19) rfl) (args:=#[.int .u64 x]) (by rw[<- hS.int (i:=20) rfl];simp) (hyes hb v hg) λr v2 hr=> ?_);obtain⟨t,rfl,hr⟩:=hr;have hS2:=(hS.put 21 (y:=.b t) (vv:=.bool t) rfl);have z511:∀a v,S0 PZ (xs 18 (.a (.b true)::xs 3 (.a (.b (!t))::xs 2 []))) a->Ge v2 v->AnyX mn PZ Ua5 K 1 (arrB Ua5.size 511) a v:=λa v hS hg=>by
     refine Zhf (n:=0) (m:=511) (L:=[9]) (by kernel_rfl) rfl (by kernel_rfl) λi hi=> ?_
     obtain rfl:=jB.1 hi
     show OpsX mn _ _ _ (jA 9 1++[]) _ _
     exact Zbw chΓ_ok hS 9 1 (by kernel_rfl) (kS:=[23]) (nS:=25) (s':=xs 23 (.a (.b (!t))::xs 1 [])) rfl (by kernel_rfl) λa3 v3 hS3 hg3=>Yl9 (m:=1023) (by kernel_rfl) (hr a3 v3 hS3 (hg.trans hg3))
    show AnyX mn PZ Ua5 K 2 (arrB Ua5.size 255) _ _
    refine Zhf (n:=1) (m:=255) (L:=[8]) (by kernel_rfl) rfl (by kernel_rfl) λi hi=> ?_
    obtain rfl:=jB.1 hi
    show OpsX mn _ _ _ (jA 8 1++[]) _ _
    exact Zbw chΓ_ok hS2 8 1 (by kernel_rfl) (kS:=[18,22]) (nS:=25) (s':=xs 18 (.a (.b true)::xs 3 (.a (.b (!t))::xs 2 []))) rfl (by kernel_rfl) λa3 v3 hS3 hg3=>z511 a3 v3 hS3 hg3
   have y63:∀a v,S0 PZ (xs 4 (slU x::xs 13 (.a (.b true)::slY l::xs 5 []))) a->Ge W v->AnyX mn PZ Ua5 K 4 (arrB Ua5.size 63) a v:=λa v hS hg=>by
    refine Zhf (n:=3) (m:=63) (L:=[6]) (by kernel_rfl) rfl (by kernel_rfl) λi hi=> ?_
    obtain rfl:=jB.1 hi
    show OpsX mn _ _ _ (jA 6 1++[]) _ _
    exact Zbw chΓ_ok hS 6 1 (by kernel_rfl) (kS:=[18,19,20]) (nS:=25) (s':=xs 18 (.a (.b true)::slY l::slU x::xs 4 [])) rfl (by kernel_rfl) λa2 v2 hS2 hg2=>y127 a2 v2 hS2 (hg.trans hg2)
   have y95:∀a v,S0 PZ (xs 2 (slP bq::xs 15 (.a (.b true)::.a .x::slU x::xs 4 []))) a->Ge W v->AnyX mn PZ Ua5 K 4 (arrB Ua5.size 95) a v:=λa v hS hg=>by
    refine Zhf (n:=3) (m:=95) (L:=[5]) (by kernel_rfl) rfl (by kernel_rfl) λi hi=> ?_
    obtain rfl:=jB.1 hi;refine Zpm hS (i:=5) rfl (j:=4) (d:=18) rfl rfl rfl (Ym4 rfl (vv:=.func (.yield l) #[] #[]) (λv₁ h₁=>by
     rw[hS.cst (i:=2) rfl];exact Zwj (by kernel_rfl) (by rw[cell_of_row v₁ bq 0 _ _ _ (geAt (hg.trans h₁) hq)];rfl)) λv2 hg2=> ?_)
    have hS2:=(hS.put 19 (y:=.v (.func (.yield l) #[] #[])) (vv:=.func (.yield l) #[] #[]) rfl).set (i:=2) (y:=.a .x) trivial;exact y127 _ v2 hS2 (hg.trans hg2)
   have y31:∀a v,S0 PZ (xs 2 (slP bq::.a .x::slU x::xs 13 (.a (.b true)::xs 6 []))) a->Ge W v->AnyX mn PZ Ua5 K 5 (arrB Ua5.size 31) a v:=λa v hS hg=>by
    refine Zhf (n:=4) (m:=31) (L:=[5,6]) (by kernel_rfl) rfl (by kernel_rfl) λi hi=> ?_
    rcases List.mem_cons.1 hi with rfl|hi
    ·refine Zpm hS (i:=5) rfl (j:=4) (d:=18) rfl rfl rfl (Ym4 rfl (vv:=.func (.yield l) #[] #[]) (λv₁ h₁=>by
      rw[hS.cst (i:=2) rfl];exact Zwj (by kernel_rfl) (by rw[cell_of_row v₁ bq 0 _ _ _ (geAt (hg.trans h₁) hq)];rfl)) λv2 hg2=> ?_)
     have hS2:=(hS.put 19 (y:=.v (.func (.yield l) #[] #[])) (vv:=.func (.yield l) #[] #[]) rfl).set (i:=2) (y:=.a .x) trivial;exact y63 _ v2 hS2 (hg.trans hg2)
    ·obtain rfl:=jB.1 hi
     show OpsX mn _ _ _ (jA 6 1++[]) _ _
     exact Zbw chΓ_ok hS 6 1 (by kernel_rfl) (kS:=[2,18,20]) (nS:=25) (s':=xs 2 (slP bq::xs 15 (.a (.b true)::.a .x::slU x::xs 4 []))) rfl (by kernel_rfl) λa2 v2 hS2 hg2=>y95 a2 v2 hS2 (hg.trans hg2)
   exact y31 a v (hS.set (i:=3) (y:=.a .x) trivial) hg
 have h15:∀a v,S0 PZ (xs 2 (slP bq::slP bm::slU x::xs 12 (.a (.b ((cntI x:Int)==m))::xs 7 []))) a->Ge W v->AnyX mn PZ Ua5 K 6 (arrB Ua5.size 15) a v:=λa v hS hg=>by
  refine Zhf (n:=5) (m:=15) (L:=[4]) (by kernel_rfl) rfl (by kernel_rfl) λi hi=> ?_
  obtain rfl:=jB.1 hi
  show OpsX mn _ _ _ (jA 4 1++[]) _ _
  exact Zbw chΓ_ok hS 4 1 (by kernel_rfl) (kS:=[2,3,4,18]) (nS:=25) (s':=xs 2 (slP bq::slP bm::slU x::xs 13 (.a (.b ((cntI x:Int)==m))::xs 6 []))) rfl (by kernel_rfl) λa2 v2 hS2 hg2=>h31 a2 v2 hS2 (hg.trans hg2)
 have h7:∀a v,S0 PZ (xs 2 (slP bq::slP bm::slU x::xs 10 (slI (cntI x)::slI m::xs 8 []))) a->Ge W v->AnyX mn PZ Ua5 K 7 (arrB Ua5.size 7) a v:=λa v hS hg=>by
  refine Zhf (n:=6) (m:=7) (L:=[3]) (by kernel_rfl) rfl (by kernel_rfl) λi hi=> ?_
  obtain rfl:=jB.1 hi
  show OpsX mn _ _ _ (jA 3 1++[]) _ _
  exact Zbw chΓ_ok hS 3 1 (by kernel_rfl) (kS:=[2,3,4,17]) (nS:=25) (s':=xs 2 (slP bq::slP bm::slU x::xs 12 (.a (.b ((cntI x:Int)==m))::xs 7 []))) rfl (by kernel_rfl) λa2 v2 hS2 hg2=>h15 a2 v2 hS2 (hg.trans hg2)
 have h5:∀a v,S0 PZ (xs 2 (slP bq::slP bm::slU x::xs 9 (slU x::.a .x::slI m::xs 8 []))) a->Ge W v->AnyX mn PZ Ua5 K 8 (arrB Ua5.size 5) a v:=λa v hS hg=>by
  refine Zhf (n:=7) (m:=5) (L:=[1]) (by kernel_rfl) rfl (by kernel_rfl) λi hi=> ?_
  obtain rfl:=jB.1 hi
  show OpsX mn _ _ _ (jA 1 1++[]) _ _
  exact Zbw chΓ_ok hS 1 1 (by kernel_rfl) (kS:=[2,3,4,15,16]) (nS:=25) (s':=xs 2 (slP bq::slP bm::slU x::xs 10 (slI (cntI x)::slI m::xs 8 []))) rfl (by kernel_rfl) λa2 v2 hS2 hg2=>h7 a2 v2 hS2 (hg.trans hg2)
 have h3:∀a v,S0 PZ (xs 2 (slP bq::slP bm::slU x::xs 10 (slI (cntI x)::xs 9 []))) a->Ge W v->AnyX mn PZ Ua5 K 8 (arrB Ua5.size 3) a v:=λa v hS hg=>by
  refine Zhf (n:=7) (m:=3) (L:=[2]) (by kernel_rfl) rfl (by kernel_rfl) λi hi=> ?_
  obtain rfl:=jB.1 hi
  show OpsX mn _ _ _ (jA 2 1++[]) _ _
  exact Zls chΓ_ok hS (j:=3) (b:=bm) rfl (geAt hg hbm) hmw rfl 2 1 (by kernel_rfl) (kS:=[2,3,4,15,16]) (nS:=25) (s':=xs 2 (slP bq::.a (.w 0)::slU x::xs 10 (slI (cntI x)::slI m::xs 8 []))) rfl rfl (by kernel_rfl) λa2 v2 hS2 hg2=>h7 a2 v2 hS2 (hg.trans hg2)
 have h4:∀a v,S0 PZ (xs 2 (slP bq::slP bm::slU x::xs 11 (slI m::xs 8 []))) a->Ge W v->AnyX mn PZ Ua5 K 9 (arrB Ua5.size 4) a v:=λa v hS hg=>by
  refine Zhf (n:=8) (m:=4) (L:=[0]) (by kernel_rfl) rfl (by kernel_rfl) λi hi=> ?_
  obtain rfl:=jB.1 hi
  show OpsX mn _ _ _ (jA 0 1++[]) _ _
  exact Zbw chΓ_ok hS 0 1 (by kernel_rfl) (kS:=[2,3,4,14,16]) (nS:=25) (s':=xs 2 (slP bq::slP bm::slU x::xs 9 (slU x::.a .x::slI m::xs 8 []))) rfl (by kernel_rfl) λa2 v2 hS2 hg2=>h5 a2 v2 hS2 (hg.trans hg2)
 have h1:∀a v,S0 PZ (xs 2 (slP bq::slP bm::slU x::xs 9 (slU x::xs 10 []))) a->Ge W v->AnyX mn PZ Ua5 K 9 (arrB Ua5.size 1) a v:=λa v hS hg=>by
  refine Zhf (n:=8) (m:=1) (L:=[1,2]) (by kernel_rfl) rfl (by kernel_rfl) λi hi=> ?_
  rcases List.mem_cons.1 hi with rfl|hi
  ·show OpsX mn _ _ _ (jA 1 1++[]) _ _
   exact Zbw chΓ_ok hS 1 1 (by kernel_rfl) (kS:=[2,3,4,15]) (nS:=25) (s':=xs 2 (slP bq::slP bm::slU x::xs 10 (slI (cntI x)::xs 9 []))) rfl (by kernel_rfl) λa2 v2 hS2 hg2=>h3 a2 v2 hS2 (hg.trans hg2)
  ·obtain rfl:=jB.1 hi
   show OpsX mn _ _ _ (jA 2 1++[]) _ _
   exact Zls chΓ_ok hS (j:=3) (b:=bm) rfl (geAt hg hbm) hmw rfl 2 1 (by kernel_rfl) (kS:=[2,3,4,14,16]) (nS:=25) (s':=xs 2 (slP bq::.a (.w 0)::slU x::xs 9 (slU x::.a .x::slI m::xs 8 []))) rfl rfl (by kernel_rfl) λa2 v2 hS2 hg2=>h5 a2 v2 hS2 (hg.trans hg2)
 have h0:∀a v,S0 PZ (xs 2 (slP bq::slP bm::slU x::xs 20 [])) a->Ge W v->AnyX mn PZ Ua5 K 10 (arrB Ua5.size 0) a v:=λa v hS hg=>by
  refine Zhf (n:=9) (m:=0) (L:=[0,2]) (by kernel_rfl) rfl (by kernel_rfl) λi hi=> ?_
  rcases List.mem_cons.1 hi with rfl|hi
  ·show OpsX mn _ _ _ (jA 0 1++[]) _ _
   exact Zbw chΓ_ok hS 0 1 (by kernel_rfl) (kS:=[2,3,4,14]) (nS:=25) (s':=xs 2 (slP bq::slP bm::slU x::xs 9 (slU x::xs 10 []))) rfl (by kernel_rfl) λa2 v2 hS2 hg2=>h1 a2 v2 hS2 (hg.trans hg2)
  ·obtain rfl:=jB.1 hi
   show OpsX mn _ _ _ (jA 2 1++[]) _ _
   exact Zls chΓ_ok hS (j:=3) (b:=bm) rfl (geAt hg hbm) hmw rfl 2 1 (by kernel_rfl) (kS:=[2,3,4,16]) (nS:=25) (s':=xs 2 (slP bq::.a (.w 0)::slU x::xs 11 (slI m::xs 8 []))) rfl rfl (by kernel_rfl) λa2 v2 hS2 hg2=>h4 a2 v2 hS2 (hg.trans hg2)
 exact h0 a W hS (Ge.refl W)
def chH(l bc bq:Nat)(K m:Int):List SV:=slY l::slP bc::slP bq::xs 4 (slI K::slI m::xs 16 [])
theorem Yfa (bc : Nat) {c : Nat} (hc64 : c < 2 ^ 64) (v : World) (hbc : v.heap[bc]? = some (.cells #[.int .u64 (c : Int)] 23 (0, 0))) {ks : List Nat} (hks : bc ∈ ks) :
    SeqS (λ_=>false) mn PZ 53 #[.pointer (some ⟨bc,0,none⟩)] (λx:Int=>#[.int .u64 x]) (Uc8 ks) (choL c) v:=by
  intro l J Jx V hge hJ hJx hY h0;have hbc:=geAt hge hbc;have hbV:bc<V.heap.size:=(jC.1 hbc).1;clear hge;have hW:WT PZ 23 #[.int .u64 (c:Int)]:=wtU64 (by omega);obtain⟨K,hK⟩:∃K,cntQ c.testBit 64=K:=⟨_,rfl⟩;have hK64:K<=64:=hK ▸ Zyp _ _;have hL:choL c=choP c (K+1):=by unfold choL; rw[hK]
  show Ua9 mn PZ 53 #[.func (.yield l) #[] #[],.pointer (some ⟨bc,0,none⟩)] V _
  refine Zfd (c:=codeOf Tryz.f53) Tryz.func53 rfl ?_;have hS:S0 PZ (slY l::slP bc::us 23 []) { tmps:=#[.func (.yield l) #[] #[],.pointer (some ⟨bc,0,none⟩)]++Array.replicate 23 undef,defers:=[] }:=S0.enter [.func (.yield l) #[] #[],.pointer (some ⟨bc,0,none⟩)] 23;refine Zal (Zap ?_)
  show OpsX mn _ _ _ [0] _ _
  refine Zsg (i:=0) rfl rfl (opX_boxF rfl (hS.cst (i:=0) rfl) λv1 hg1 => ?_);have hS1:=hS.put 2 (y := .v (.pointer (some ⟨v1.heap.size,0,none⟩))) (vv := .pointer (some ⟨v1.heap.size,0,none⟩)) rfl;have hq:(v1.alloc (.cells #[.func (.yield l) #[] #[]] 116)).heap[v1.heap.size]?=some (.cells #[.func (.yield l) #[] #[]] 116 (0,0)):=World.alloc_heap_new v1 _;have hgV:=hg1.trans (ge_alloc v1 (.cells #[.func (.yield l) #[] #[]] 116));have hbc:=geAt hgV hbc;have hqV:V.heap.size<=v1.heap.size:=hg1.size;have hJ1:=Ucm hJ hgV h0;generalize v1.alloc (.cells #[.func (.yield l) #[] #[]] 116)=v2 at hq hgV hbc hJ1;generalize v1.heap.size=bq at hq hS1 hqV;have hz2:V.heap.size<=v2.heap.size:=hgV.size;clear hg1 hgV h0 hS;refine Zal (Zyk chΓ_ok hS1 (j:=1) (b:=bc) rfl hbc hW rfl (kS:=[0,1,2,7,8]) (nS:=25) (s':=slY l::.a (.w 0)::slP bq::xs 4 (slI (i64.wrap ((cntQ (Int.toNat (c:Int)).testBit 64:Int)+1))::slI 0::xs 16 [])) rfl rfl (by kernel_rfl) λa3 v3 hS3 hg3 => ?_);rw[Q9,hK,IntWalk.i64_in _ (by omega)]at hS3;have hS3:S0 PZ (chH l bc bq (K+1) (0:Nat)) a3:=hS3
  let Inv:Nat->List Deferred->World->Prop:=λm ds v=>J (choP c m) v/\v.heap[bc]?=some (.cells #[.int .u64 (c:Int)] 23 (0,0))/\v.heap[bq]?=some (.cells #[.func (.yield l) #[] #[]] 116 (0,0))/\V.heap.size<=v.heap.size/\DefOk V ds v
  have invGe:∀{m ds v v'},Ge v v'->Inv m ds v->Inv m ds v':=λhg h=>⟨Ucm hJ hg h.1,geAt hg h.2.1,geAt hg h.2.2.1,jD h.2.2.2.1 hg.size,Zye h.2.2.2.2 λm _ hm=>geAt hg hm⟩
  have hI3:Inv 0 a3.defers v3:=by rw[hS3.defers]; exact invGe hg3 ⟨hJ1,hbc,hq,hz2,DefOk.nil _ _⟩
  refine Zfj (Zby (K+2) ?_);refine(?_:∀(d m:Nat) (a:Act) (v:World),m+d=K+1->S0 PZ (chH l bc bq (K+1) m) (strip a)->Inv m a.defers v->Ua7 mn none PZ _ _ (d+1) a v) (K+1) 0 a3 v3 (by omega) (by have:=Ugs hS3 []; exact this) hI3;clear hS3 hI3 hS1 hg3 hbc hq hJ1 hz2;intro d
  induction d with
  | zero =>
    intro m a v hd hS hI;refine Zal (Zap (Zmz rfl ?_))
    show OpsX mn _ _ _ (jA 0 1++[]) _ _
    refine Zbw chΓ_ok hS 0 1 (by kernel_rfl) (kS:=[9]) (nS:=25) (s':=xs 9 (.a (.b (decide ((m:Int)<(K:Int)+1)))::xs 15 [])) rfl (by kernel_rfl) λa2 v2 hS2 hg2 => ?_
    refine Zal (Za7 (show a2.eval (.tmp 9)=.bool false from (hS2.bool (i:=9) rfl).trans (by rw[Q4 (by omega)])) (Zk5 ?_));have hI2:=invGe hg2 hI;refine⟨.inl rfl,Ycw rfl hI2.2.2.2.2 λv3 hk3 hc3 => .inl ?_⟩;rw[hL,show K+1=m by omega];exact Yms hJ hI2.1 hk3 hc3
  | succ d ih =>
    intro m a v hd hS hI;have hm1:m<=K:=by omega
    refine Zal (Zap (Zmz rfl ?_))
    show OpsX mn _ _ _ (jA 0 1++[]) _ _
    refine Zbw chΓ_ok hS 0 1 (by kernel_rfl) (kS:=[0,1,2,7,8,9]) (nS:=25) (s':=slY l::slP bc::slP bq::xs 4 (slI (K+1)::slI m::.a (.b (decide ((m:Int)<(K:Int)+1)))::xs 15 [])) rfl (by kernel_rfl) λa2 v2 hS2 hg2 => ?_
    refine Zal (Zdo (show a2.eval (.tmp 9)=.bool true from (hS2.bool (i:=9) rfl).trans (by rw[Q3 (by omega)])) (Zf8 ?_));have hI2:=invGe hg2 hI;clear hI hS hg2;generalize hds:a.defers=ds at hI2 |-
    refine Zal (Zfj ?_);refine Zal (Zap (Zmz rfl ?_))
    show OpsX mn _ _ _ (jA 0 3++[]) _ _
    refine Yo1 chΓ_ok ((Ugs hS2 ds).rr v2) 0 3 rfl (kS:=[0,1,2,3,7,8]) (kH:=[1]) (dd:=[]) (nS:=25) (nH:=2) 3 (s':=slY l::slP bc::slP bq::.a (.w 1)::xs 3 (slI (K+1)::slI m::xs 16 [])) (h':=[.no,.row #[.int .i64 m] 3]) rfl (by kernel_rfl) λρ3 a3 v3 hR3 hw3 => ?_
    have hI3:=invGe (Ztc hw3) hI2;obtain⟨hbm,-,hfm⟩:=hR3.row (n:=1) rfl;have hS3:S0 PZ (slY l::slP bc::slP bq::slP (ρ3 1).a::xs 3 (slI (K+1)::slI m::xs 16 [])) a3:=hR3.bare.set (i:=3) (y:=slP (ρ3 1).a) (hR3.slots 3 _ rfl:Is PZ ρ3 _ (.w 1) _).1;have hbmV:V.heap.size<=(ρ3 1).a:=jD hI2.2.2.2.1 hfm;generalize (ρ3 1).a=bm at hbm hbmV hS3;clear hfm;clear hw3 hR3 hI2;refine Zal (Zap (Zmz rfl ?_))
    show OpsX mn _ _ _ (jA 0 1++(jA 1 1++[])) _ _
    refine Zls chΓ_ok (Ugs hS3 ds) (j:=1) (b:=bc) rfl hI3.2.1 hW rfl 0 1 rfl (kS:=[0,1,2,3,7,8,11]) (nS:=25) (s':=slY l::.a (.w 0)::slP bq::slP bm::xs 3 (slI (K+1)::slI m::xs 2 (slU c::xs 13 []))) rfl rfl (by kernel_rfl) λa4 v4 hS4 hg4 => ?_
    have hI4:=invGe hg4 hI3;have hbm:=geAt hg4 hbm;refine Yo1 chΓ_ok (hS4.rr v4) 1 1 rfl (kS:=[0,1,2,3,7,8,12]) (kH:=[3]) (dd:=[]) (nS:=25) (nH:=4) 8 (s':=slY l::slP bc::slP bq::slP bm::xs 3 (slI (K+1)::slI m::xs 3 (.a (.c 71 [3])::xs 12 []))) (h':=[.no,.no,.no,.row #[.int .u64 c] 23]) rfl (by kernel_rfl) λρ5 a5 v5 hR5 hw5 => ?_
    have hg5:=Ztc hw5;have hI5:=invGe hg5 hI4;have hbm:=geAt hg5 hbm;obtain⟨hbs,-,hfs⟩:=hR5.row (n:=3) rfl;have hf:=(hR5.slots 12 _ rfl:Is PZ ρ5 _ (.c 71 [3]) _).1;have hS5:S0 PZ (slY l::slP bc::slP bq::slP bm::xs 3 (slI (K+1)::slI m::xs 3 (.a (.v (.func (.func 71) #[] #[.pointer (some ⟨(ρ5 3).a,0,none⟩)]))::xs 12 []))) a5:=hR5.bare.set (i:=12) hf;have hbsV:V.heap.size<=(ρ5 3).a:=jD hI4.2.2.2.1 hfs;clear hfs;generalize (ρ5 3).a=bs at hbs hbsV hS5;clear hf hR5 hw5 hg5 hI4 hS4 hg4 hS3 hI3 hS2;have hdef:=hI5.2.2.2.2;have hzV:V.heap.size<=v5.heap.size:=hI5.2.2.2.1;have hbslt:bs<v5.heap.size:=(jC.1 hbs).1;have hbmlt:bm<v5.heap.size:=(jC.1 hbm).1
    let q:Int->Bool:=λx=>Nat.beq (cntI x) m
    refine Zfj ?_;refine Znx (α:=Int) (v0:=v5) (sf:=λ_=>false) (gf:=71) (lb:=#[.pointer (some ⟨bs,0,none⟩)]) (show a5.eval (.tmp 12)=_ from hS5.cst (i:=12) rfl) Zve (Ylc (sf:=λ_=>false) bs hc64 v5 hbs (ks:=[bs]) (by simp))
      (λ{A B C} h k q hq Ce t fr e=>k q hq Ce t fr (h q hq Ce t fr e))
      (λW l' o o' hl ho hc _ k hk C t fr e=>by
        have:l'≠k:=λe'=>by subst e'; rw[ho]at e; cases e; cases hc
        rw[World.putObj_heap_other (Ne.symm this)]; exact e)
      (λ{A B} hAB k _ C t fr e=>geAt hAB e)
      (Ge.refl v5)
      (λpre W=>J (choP c m++pre.filter q) W/\W.heap[bc]?=some (.cells #[.int .u64 (c:Int)] 23 (0,0))/\W.heap[bq]?=some (.cells #[.func (.yield l) #[] #[]] 116 (0,0))/\v5.heap.size<=W.heap.size/\W.heap[bm]?=some (.cells #[.int .i64 m] 3 (0,0))/\W.heap[bs]?=some (.cells #[.int .u64 (c:Int)] 23 (0,0))/\DefOk V ds W)
      (λcd pre W=>cd=.ret/\Jx (choP c m++pre.filter q) W/\DefOk V ds W)
      ?hps ?hI ?hIx ?h0 (λx=>Ub5 [(4,13)] { tmps:=(#[13].zip #[.int .u64 x]).foldl (λt (p,v)=>t.setIfInBounds p v) a5.tmps,defers:=[] }) ?hassign ?hbody ?hdone ?hstop
    case hps=>exact λpre x W _ _=>rfl
    case hI =>
      intro pre A B row ⟨h1,h2,h3,h4,h5,h6,h7⟩ hg hr;have cellk:∀{k:Nat} {C:Array Value} {t:TypeId},A.heap[k]?=some (.cells C t (0,0))->B.heap[k]?=some (.cells C t (0,0)):=λ{k C t} hk=>by
        refine(hg.block k (jC.1 hk).1 λe => ?_).trans hk;obtain⟨_,o,ho,hc⟩:=hr k e.symm;rw[hk]at ho; cases ho; cases hc
      exact⟨hJ _ _ _ row h1 hg λr e=>⟨by have:=(hr r e).1; omega,(hr r e).2⟩,cellk h2,cellk h3,jD h4 hg.size,cellk h5,cellk h6,Ym6 hdef h7 hg λr e=>(hr r e).1⟩
    case hIx=>exact λcd pre A B row ⟨h1,h2,h3⟩ hg hr=>⟨h1,hJx _ _ _ row h2 hg λr e=>⟨by have:=(hr r e).1; omega,(hr r e).2⟩,Ym6 hdef h3 hg λr e=>(hr r e).1⟩
    case h0=>exact⟨by simpa using hI5.1,hI5.2.1,hI5.2.2.1,Nat.le_refl _,hbm,hbs,hdef⟩
    case hassign=>exact λl' x W=>asgX rfl
    case hbody =>
      rintro l' pre x W hl' - ⟨hJ0,hb0,hq0,hz0,hbm0,hbs0,hd0⟩ hpre;have hx:=set_lt (c:=c) (x:=x) (hpre.subset (by simp));have hpf:=hpre.filter q;rw[List.filter_append]at hpf;have hxi:IntKind.u64.min<=x/\x<=IntKind.u64.max:=by have e1:IntKind.u64.min=0:=rfl;have e2:IntKind.u64.max=18446744073709551615:=rfl;omega
      have hS6:S0 PZ (xs 2 (slP bq::slP bm::slU x::xs 20 [])) (Ub5 [(4,13)] { tmps:=(#[13].zip #[.int .u64 x]).foldl (λt (p,v)=>t.setIfInBounds p v) a5.tmps,defers:=[] }):=by
        have h1:S0 PZ _ (({ tmps:=a5.tmps,defers:=[] }:Act).put (some 13) (.int .u64 x)):=S0.put (a:={ tmps:=a5.tmps,defers:=[] }) ⟨hS5.len,hS5.slots,rfl⟩ 13 (y := .i .u64 x) ⟨rfl,hxi⟩;have h2:=h1.put 4 (y := .i .u64 x) (vv := .int .u64 x) ⟨rfl,hxi⟩;have e:∀a:Act,a.eval (.tmp 13)=.int .u64 x->Ub5 [(4,13)] a=a.put (some 4) (.int .u64 x):=λa ha=>by simp only[Ub5,ha]
        have e0:({ tmps:=(#[13].zip #[.int .u64 x]).foldl (λt (p,v)=>t.setIfInBounds p v) a5.tmps,defers:=[] }:Act)=({ tmps:=a5.tmps,defers:=[] }:Act).put (some 13) (.int .u64 x):=by simp[Act.put]
        rw[e0,e _ (h1.int (i:=13) (by
          rw[List.getElem?_set_self];exact(by decide:13<25)))]
        exact(((((((h2.set (i:=0) (y := .a .x) trivial).set (i:=1) (y := .a .x) trivial).set (i:=7) (y := .a .x) trivial).set (i:=8) (y := .a .x) trivial).set (i:=12) (y := .a .x) trivial).set (i:=13) (y := .a .x) trivial))
      generalize Ub5 [(4,13)] { tmps:=(#[13].zip #[.int .u64 x]).foldl (λt (p,v)=>t.setIfInBounds p v) a5.tmps,defers:=[] }=a6 at hS6 |-
      refine Zfj (Zal (Zon (by kernel_rfl) ?_));rw[<- Yi7];have hqx:((cntI x:Int)==(m:Int))=q x:=by
        show _=Nat.beq (cntI x) m
        cases hb:Nat.beq (cntI x) m with
        |true=>rw[Nat.eq_of_beq_eq_true hb]; simp
        | false => exact beq_eq_false_iff_ne.2 fun e => by have e : cntI x = m := by omega
                                                           rw[e,Nat.beq_refl]at hb; cases hb
      refine chReg (l:=l) (bq:=bq) (bm:=bm) (m:=(m:Int)) (x:=x) (by omega) hbm0 hq0 (λhb a' v' hS7 hg7 => ?_) (λhb v7 hg7 => ?_) hS6
      · rw [hqx] at hb;have Hf:(pre++[x]).filter q=pre.filter q:=by rw[List.filter_append]; simp[hb]
        refine Za7 (hS7.bool (i:=23) rfl) (Zf8 ?_);exact⟨KeepsS.of_ge hg7,λk hk C t fr h=>geAt hg7 h,by rw[Hf]; exact Ucm hJ hg7 hJ0,geAt hg7 hb0,geAt hg7 hq0,jD hz0 hg7.size,geAt hg7 hbm0,geAt hg7 hbs0,Zye hd0 λm _ hm=>geAt hg7 hm⟩
      · rw [hqx] at hb;have Hf:(pre++[x]).filter q=pre.filter q++[x]:=by rw[List.filter_append]; simp[hb]
        rw[show List.filter q [x]=[x] by simp[hb]]at hpf;have hpc:choP c m++pre.filter q++[x] <+: choL c:=by
          have h1:choP c (m+1) <+: choL c:=by rw[hL]; exact Ymd (by omega)
          rw[Zwq]at h1;refine List.IsPrefix.trans ?_ h1;rw[List.append_assoc];exact(List.prefix_append_right_inj _).2 hpf
        refine(hY (choP c m++pre.filter q) x v7 (Ucm hJ hg7 hJ0) hpc (by have:=hg7.size; omega)).mono λr v8 hr => ?_
        rcases hr with ⟨rfl,hJ8,hk8,hkf8⟩ | ⟨rfl,hJ8,hkf8⟩
        · refine ⟨true, rfl, fun a9 v9 hS9 hg9 => ?_⟩;refine Za7 (hS9.bool (i:=23) rfl) (Zf8 ?_);have hK:KeepsS (λ_=>false) v5.heap.size W v9:=((KeepsS.of_ge hg7).trans (hkf8.later (by omega))).trans (KeepsS.of_ge hg9);have hat:∀{k:Nat} {o:Obj},V.heap.size<=k->W.heap[k]?=some o->v9.heap[k]?=some o:=λ{k o} hk ho=>geAt hg9 (hkf8.at hk (geAt hg7 ho) λ_ _ _ _=>rfl)
          refine⟨hK,λk hk C t fr h => ?_,by rw[Hf, <- List.append_assoc]; exact Ucm hJ hg9 hJ8,geAt hg9 (hk8 bc hks _ _ _ (geAt hg7 hb0)),hat hqV hq0,jD hz0 hK.size,hat hbmV hbm0,hat hbsV hbs0,Zye hd0 λm hm h=>hat hm h⟩;obtain rfl:=jB.1 hk;exact hat hbsV h
        · refine ⟨false, rfl, fun a9 v9 hS9 hg9 => ?_⟩;refine Zdo (hS9.bool (i:=23) rfl) (Zkl ?_);have hK:KeepsS (λ_=>false) v5.heap.size W v9:=((KeepsS.of_ge hg7).trans (hkf8.later (by omega))).trans (KeepsS.of_ge hg9);have hat:∀{k:Nat} {o:Obj},V.heap.size<=k->W.heap[k]?=some o->v9.heap[k]?=some o:=λ{k o} hk ho=>geAt hg9 (hkf8.at hk (geAt hg7 ho) λ_ _ _ _=>rfl)
          exact⟨hK,rfl,by rw[Hf, <- List.append_assoc]; exact Ucm hJx hg9 hJ8,Zye hd0 λm hm h=>hat hm h⟩
    case hdone =>
      rintro D W hD ⟨hJ0,hb0,hq0,hz0,-,-,hd0⟩ hm;have hdp:DefOk V ({ target := .collected D,args:=#[] }::ds) W:=hd0.push (by omega) hm λk hk e=>by
        obtain⟨k',e',-,h3⟩:=hdef.all _ hk;cases e';have:=(jC.1 h3).1;omega
      refine Zap (Zmz rfl ?_)
      show OpsX mn _ _ _ (jA 0 2++[]) _ _
      refine Zbw chΓ_ok (Ugs hS5 []) 0 2 rfl (kS:=[0,1,2,7,8]) (nS:=25) (s':=slY l::slP bc::slP bq::xs 4 (slI (K+1)::slI (i64.wrap ((m:Int)+1))::xs 16 [])) rfl (by kernel_rfl) λa6 v6 hS6 hg6 => ?_
      rw[show i64.wrap ((m:Int)+1)=((m+1:Nat):Int) by rw[IntWalk.i64_in _ (by omega)]; omega]at hS6;refine ih (m+1) _ v6 (by omega) (Ugs hS6 _) (invGe hg6 ⟨?_,hb0,hq0,jD hzV hz0,hdp⟩);rw[Zwq];exact hJ0
    case hstop =>
      rintro D cd pre W hD hpre ⟨rfl,hJx0,hd0⟩ hm;have hdp:DefOk V ({ target := .collected D,args:=#[] }::ds) W:=hd0.push (by omega) hm λk hk e=>by
        obtain⟨k',e',-,h3⟩:=hdef.all _ hk;cases e';have:=(jC.1 h3).1;omega
      refine Zkl ⟨.inr rfl,Ycw rfl hdp λv6 hk6 hc6 => .inr ⟨_,?_,Yms hJx hJx0 hk6 hc6⟩⟩;have h1:choP c (m+1) <+: choL c:=by rw[hL]; exact Ymd (by omega)
      rw[Zwq]at h1;exact List.IsPrefix.trans ((List.prefix_append_right_inj _).2 (hpre.filter q)) h1
def Zhh:ICon:=λbs h=>match bs with|[.row S 23]=>bif Ub7 h then some ⟨Int,λn=>[.i .u64 n],choL (num S 0).toNat,true⟩ else none|_=>none
theorem Zja:Uai mn PZ 53 Zhh:=by
 intro ρ h w ns Y hY hok hH hr
 match ns,hY,hr with
 | [n1],hY,hr=>
  simp only[getH]at hY;unfold Zhh at hY;split at hY
  ·rename_i S heq;have e0:=(List.cons.inj heq).1;cases ht:Ub7 h with
   |false=>rw[ht]at hY;cases hY
   | true=>
    rw[ht,Q1]at hY;cases hY;have g:∀{m:Nat} {C:Array Value} {t:TypeId},h.getD m .no=.row C t->h[m]?=some (.row C t):=λ{m C t} e=>by
     rw[List.getD_eq_getElem?_getD]at e;cases hm:h[m]? with
     |none=>rw[hm]at e;cases e
     |some b=>rw[hm]at e;exact congrArg some e
    obtain⟨h1,w1⟩:=hH.is n1 _ (g e0);have hl:lay PZ 23=[kN .u64]:=by kernel_rfl
    have hz:=w1.layLen;rw[hl]at hz;have hint:=w1.int (o:=0) (k:=.u64) (by rw[hl];rfl);have m1:IntKind.u64.min=0:=rfl;have m2:IntKind.u64.max=18446744073709551615:=rfl;have eS:S=#[.int .u64 (num S 0)]:=Array.ext_getElem? λi=>by
     by_cases hi:i=0
     ·subst hi;rw[hint.1];rfl
     ·rw[Array.getElem?_eq_none (by simp at hz;omega),Array.getElem?_eq_none (by simp;omega)]
    obtain⟨c,hc⟩:=Int.eq_ofNat_of_zero_le (show 0<=num S 0 by omega);rw[eS,hc]at h1;rw[hc,Q9];have hsf:sfOf PZ h=λ_=>false:=funext λt=>by unfold sfOf;rw[ht];rfl
    rw[hsf];refine⟨λpre x hpre y hy=> ?_,Yfa (ρ n1).a (by omega) w h1 (by simp)⟩;simp only[jB]at hy;subst hy;refine⟨rfl,rfl,?_⟩;have:=cho_mem (hpre.subset (by simp):x∈choL c);omega
  ·cases hY
 |[],hY,_=>cases hY
 |_::_::_,hY,_=>
  simp only[getH]at hY;unfold Zhh at hY;split at hY
  ·rename_i heq;simp at heq
  ·cases hY
end
end Go.Proofs.YtgllknjdblkhnaaGreatDoor
