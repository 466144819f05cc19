/- Laws whose rows list variables of the program's that hold errors. -/
import Derived.Stop.LaidErr
import Derived.OpenVars
import Derived.Deep.DeepHandedRow
import Derived.Test.YtgllknjdblkhnaaGreatDoorVeD
set_option linter.unusedVariables false
set_option linter.unusedSimpArgs false
open _root_.List renaming range->jA,mem_range->jB
open _root_.Nat renaming testBit_two_pow_mul->jC,eq_of_testBit_eq->jD
namespace Go.Proofs.YtgllknjdblkhnaaGreatDoor.Ve
open Go.ChangeShapes Go.WideShapes Go.ChangeAt Go.RowKit
section
theorem Ylg{P:Program}{n:String}{nm:List UInt8}{d:DataW Unit}{hs:List (String×DataW Unit)}{W:World}{g u E NG:Nat}(h:handlesMet P hs W)(hx:(n,d)∈hs)(hd:d.funcsIn?=none)(hh:d.handleName?=some nm)
  (hu : (P.cutTypes.find? (·.1 == "internal/reflectlite.rtype")).map (·.2) = some u) (hrow : (jA P.types.size).all (λ ty => !(P.rowNamed ty nm) || Nat.beq ty E) = true) (hg : P.globalNamed n = some g) (hG : P.globals.size = NG) (hE : E < 1000000) (hN : NG < 900) :
  BIs P idA [] W ⟨0,0⟩ (.gl g u ⟨g,0,none⟩ ((NG+1)*1000000+E)):=by
 have hm:=h _ hx;dsimp only at hm;rw[hd]at hm;obtain⟨name,u',ty,h1,h2,h3,h4,h5⟩:=hm;obtain rfl:=Q5 (hh.symm.trans h1);obtain rfl:=Q5 (hu.symm.trans h2);have h6:=List.all_eq_true.1 hrow ty (jB.2 h3);rw[h4]at h6;obtain rfl:ty=E:=by simpa using h6
 refine .inr ⟨by omega,rfl,.inl ⟨by omega,?_⟩⟩;have h7:W.cell? ⟨g,0,none⟩=some (.iface u (.agg #[typeHandle P ty])):=by simpa using World.var?_cell hg h5 0
 rw[h7,<- hG];rw[show ((P.globals.size+1)*1000000+ty) / 1000000 - 1=P.globals.size by omega,show ((P.globals.size+1)*1000000+ty) % 1000000=ty by omega];rfl
theorem Ya8{H:Type}{enc:TypeId×Value->H}{P:Program}{W:World}{sp:Nat->Bool}:∀{ns:List String} {gs:List (DataW H)} {ps:List MemPlace},DataW.TrodVars enc P W sp ns gs ps->gs.length=ns.length
 |[],[],_,_=>rfl
 |[],_::_,_,h=>h.elim
 |_::_,[],_,h=>h.elim
 |_::_,_::_,_,h=>by
  obtain⟨_,_,_,_,_,_,_,_,_,_,hs,_⟩:=h;simp[Ya8 hs]
theorem Zyo{H:Type}{enc:TypeId×Value->H}{P:Program}(hl:laidOutB P=true){W W':World}(hb:Below W.heap.size W W'):
  ∀{ts:List TypeId} {vs:List Value} {ds:List (DataW H)} {ps:List MemPlace},
   (∀t∈ts,P.readableRec t=true/\t<P.types.size) ->
   DataW.TrodAll enc P W 0 (λ_=>true) true ts vs ds ps ->
   DataW.TrodAll enc P W' 0 (λb=>decide (b<W.heap.size)) true ts vs ds ps
 |[],[],[],ps,_,h=>h
 | t::ts,v::vs,d::ds,ps,hr,h=>by
  obtain⟨p,q,h1,h2,e⟩:=h;have hp:∀x∈p,x.block<W.heap.size:=by obtain⟨m,hm⟩:=h1;exact DataW.trod_lt m _ _ _ hm
  exact⟨p,q,Below.trod hl (hr t (List.mem_cons_self ..)).1 (hr t (List.mem_cons_self ..)).2 h1 hb hp,
   Zyo hl hb (λt' ht'=>hr t' (List.mem_cons_of_mem _ ht')) h2,e⟩
 |[],[],_::_,_,_,h=>h.elim
 |[],_::_,_,_,_,h=>h.elim
 |_::_,[],_,_,_,h=>h.elim
 |_::_,_::_,[],_,_,h=>h.elim
theorem Zsi{H:Type}{enc:TypeId×Value->H}{P:Program}{W:World}{b:Nat}{sp:Nat->Bool}{hd:Bool}:
  ∀{ts:List TypeId} {vs:List Value} {ds:List (DataW H)} {ps:List MemPlace},
   DataW.TrodAll enc P W b sp hd ts vs ds ps->ds.length=ts.length/\vs.length=ts.length
 |[],[],[],_,_=>⟨rfl,rfl⟩
 |_::_,_::_,_::_,_,h=>by
  obtain⟨p,q,_,h2,_⟩:=h;have:=Zsi h2;simp[this.1,this.2]
 |[],[],_::_,_,h=>h.elim
 |[],_::_,_,_,h=>h.elim
 |_::_,[],_,_,h=>h.elim
 |_::_,_::_,[],_,h=>h.elim
end
section
open Go.RowKit
def tzN(n:Nat):Nat:=((jA 64).find? λk=>n.testBit k).getD 0
theorem Zze{n:Nat}(h0:0<n)(h1:n<2^64):tzN n<64/\n.testBit (tzN n)=true/\∀j,j<tzN n->n.testBit j=false:=by
 unfold tzN;cases h:(jA 64).find? (λk=>n.testBit k) with
 | none=>
  exfalso;have h2:=List.find?_range_eq_none.1 h;have:n=0:=jD λi=>by
   rw[Nat.zero_testBit]
   by_cases hi:i<64
   ·simpa using h2 i hi
   ·exact Nat.testBit_lt_two_pow (Nat.lt_of_lt_of_le h1 (Nat.pow_le_pow_right (by omega) (by omega)))
  omega
 |some k=>
  obtain⟨h2,h3,h4⟩:=List.find?_range_eq_some.1 h;refine⟨by simpa using h3,h2,λj hj=> ?_⟩;have:=h4 j hj
  simpa using this
theorem low_bit{n:Nat}(h0:0<n)(h1:n<2^64):n &&& (2^64 - n)=2^tzN n:=by
 obtain⟨k1,k2,k3⟩:=Zze h0 h1;generalize tzN n=k at k1 k2 k3
 -- n = 2^k * (2 m + 1)
 obtain⟨q,hq⟩:∃q,n=2^k*q:=⟨n / 2^k,by
  have hm:n % 2^k=0:=jD λi=>by
   rw[Nat.testBit_mod_two_pow,Nat.zero_testBit]
   by_cases hi:i<k
   ·rw[k3 i hi];simp
   ·simp[hi]
  have:=Nat.div_add_mod n (2^k);omega⟩
 have hodd:q % 2=1:=by have h:=k2;rw[hq,jC,Nat.sub_self]at h;simp at h;exact h
 obtain⟨m,rfl⟩:∃m,q=2*m+1:=⟨q / 2,by omega⟩;obtain⟨d,hd⟩:∃d,64=k+(d+1):=⟨63 - k,by omega⟩;have e64:2^64=2^k*(2*2^d):=by rw[hd,Nat.pow_add,Nat.pow_succ,Nat.mul_comm (2^d) 2]
 have hp:0<2^k:=Nat.pow_pos (by omega);have hlt:2*m+1<2*2^d:=by rw[hq,e64]at h1;exact Nat.lt_of_mul_lt_mul_left h1
 have hm:m<2^d:=by omega
 have e1:2^64 - n=2^k*(2*(2^d - (m+1))+1):=by rw[hq,e64,<- Nat.mul_sub];congr 1;omega
 rw[e1,hq];refine jD λi=> ?_
 rw[Nat.testBit_and,jC,jC,Nat.testBit_two_pow]
 by_cases hi:k<=i
 ·obtain⟨j,rfl⟩:=Nat.exists_eq_add_of_le hi;rw[Nat.add_sub_cancel_left];simp only[Nat.le_add_right,decide_true,Bool.true_and];cases j with|zero=>simp|succ j=>rw[Nat.testBit_succ,Nat.testBit_succ,show (2*m+1) / 2=m by omega,show (2*(2^d - (m+1))+1) / 2=2^d - (m+1) by omega,Nat.testBit_two_pow_sub_succ hm];have:decide (k=k+(j+1))=false:=Q4 (by omega);rw[this];cases m.testBit j<;>simp
 ·have:decide (k=i)=false:=Q4 (by omega);rw[this];simp[hi]
def ixK(k:Nat):Nat:=(2^k*285870213051353865 % 2^64) / 2^58
theorem ix_all:((jA 64).all λk=>decide (ixK k<64)&&decide (deBr (ixK k)=(k:Int)))=true:=by decide +kernel
theorem ix_ok{k:Nat}(hk:k<64):ixK k<64/\deBr (ixK k)=(k:Int):=by
 have h:=List.all_eq_true.1 ix_all k (jB.2 hk)
 simpa using h
theorem tz_and{n:Nat}(h0:0<n)(h1:n<2^64):andI (n:Int) (IntKind.u64.wrap (-(n:Int)))=((2^tzN n:Nat):Int):=by
 have hlt:2^tzN n<2^64:=Nat.pow_lt_pow_right (by omega) (Zze h0 h1).1;have e1:IntKind.u64.wrap (-(n:Int))=((2^64 - n:Nat):Int):=by rw[IntKind.wrap_u64];omega
 unfold andI;rw[e1];have b1:(BitVec.ofInt IntKind.u64.bits (n:Int) &&& BitVec.ofInt IntKind.u64.bits ((2^64 - n:Nat):Int)).toNat=2^tzN n:=by
  rw[BitVec.toNat_and];have t1:(BitVec.ofInt IntKind.u64.bits (n:Int)).toNat=n:=by
   show (BitVec.ofInt 64 (n:Int)).toNat=n
   rw[BitVec.toNat_ofInt];omega
  have t2:(BitVec.ofInt IntKind.u64.bits ((2^64 - n:Nat):Int)).toNat=2^64 - n:=by
   show (BitVec.ofInt 64 ((2^64 - n:Nat):Int)).toNat=2^64 - n
   rw[BitVec.toNat_ofInt];omega
  rw[t1,t2,low_bit h0 h1]
 rw[b1,IntKind.wrap_u64];omega
theorem tz_ix(k:Nat):(IntKind.u64.wrap (((2^k:Nat):Int)*285870213051353865)).fdiv (2^(min 58 IntKind.u64.bits))=((ixK k:Nat):Int):=by rw[show min 58 IntKind.u64.bits=58 from rfl,IntKind.wrap_u64];unfold ixK;rw[Int.fdiv_eq_ediv_of_nonneg _ (by decide)];omega
def Uba(n:Nat):List Int:=((jA 64).filter λk=>n.testBit k).map λ(k:Nat)=>(k:Int)
theorem Yiq:Uba 0=[]:=by decide +kernel
theorem Zxs{p:Nat->Bool}{N k:Nat}(hk:k<N)(h1:p k=true)(h2:∀j,j<k->p j=false):(jA N).filter p=k::(jA N).filter (λj=>p j && !(j==k)):=by
 obtain⟨d,rfl⟩:∃d,N=k+(d+1):=⟨N - k - 1,by omega⟩;rw[List.range_add];have e1:(jA k).filter p=[]:=List.filter_eq_nil_iff.2 λj hj=>by rw[h2 j (jB.1 hj)];simp
 have e2:(jA k).filter (λj=>p j && !(j==k))=[]:=List.filter_eq_nil_iff.2 λj hj=>by rw[h2 j (jB.1 hj)];simp
 rw[List.filter_append,List.filter_append,e1,e2,List.nil_append,List.nil_append,List.range_succ_eq_map,List.map_cons,Nat.add_zero,List.filter_cons,List.filter_cons,h1];simp only[if_true,beq_self_eq_true,Bool.not_true,Bool.and_false,Bool.false_eq_true,if_false];congr 1;refine List.filter_congr λj hj=> ?_
 simp only[List.map_map,List.mem_map,jB,Function.comp]at hj;obtain⟨i,hi,rfl⟩:=hj;have:(k+i.succ==k)=false:=beq_eq_false_iff_ne.2 (by omega);rw[this];simp
theorem Yqp{n:Nat}(h0:0<n)(h1:n<2^64)(j:Nat):(n &&& (n - 1)).testBit j=(n.testBit j && !(j==tzN n)):=by
 obtain⟨k1,k2,k3⟩:=Zze h0 h1;generalize tzN n=k at k1 k2 k3;obtain⟨q,hq⟩:∃q,n=2^k*q:=⟨n / 2^k,by
  have hm:n % 2^k=0:=jD λi=>by
   rw[Nat.testBit_mod_two_pow,Nat.zero_testBit]
   by_cases hi:i<k
   ·rw[k3 i hi];simp
   ·simp[hi]
  have:=Nat.div_add_mod n (2^k);omega⟩
 have hodd:q % 2=1:=by have h:=k2;rw[hq,jC,Nat.sub_self]at h;simp at h;exact h
 obtain⟨m,rfl⟩:∃m,q=2*m+1:=⟨q / 2,by omega⟩;have hp:0<2^k:=Nat.pow_pos (by omega);have e1:n - 1=2^k*(2*m)+(2^k - 1):=by rw[hq,Nat.mul_add];omega
 rw[Nat.testBit_and,e1]
 by_cases hj:j<k
 ·rw[k3 j hj];simp
 ·rw[Nat.testBit_two_pow_mul_add _ (by omega),if_neg hj];obtain⟨i,rfl⟩:=Nat.exists_eq_add_of_le (Nat.le_of_not_lt hj);rw[hq,jC,Nat.add_sub_cancel_left];simp only[Nat.le_add_right,decide_true,Bool.true_and];cases i with|zero=>simp|succ i=>have:(k+(i+1)==k)=false:=beq_eq_false_iff_ne.2 (by omega);rw[this,Nat.testBit_succ,Nat.testBit_succ,show (2*m+1) / 2=m by omega,show 2*m / 2=m by omega];cases m.testBit i<;>rfl
theorem Yj9{n:Nat}(h0:0<n)(h1:n<2^64):Uba n=(tzN n:Int)::Uba (n &&& (n - 1)):=by obtain⟨k1,k2,k3⟩:=Zze h0 h1;unfold Uba;rw[Zxs k1 k2 k3,List.map_cons];congr 2;exact List.filter_congr λj _=>(Yqp h0 h1 j).symm
theorem rest_eq{n:Nat}(h0:0<n)(h1:n<2^64):andI (n:Int) (IntKind.u64.wrap ((n:Int) - 1))=((n &&& (n - 1):Nat):Int):=by
 have hlt:n &&& (n - 1)<=n:=Nat.and_le_left;have e1:IntKind.u64.wrap ((n:Int) - 1)=((n - 1:Nat):Int):=by rw[IntKind.wrap_u64];omega
 unfold andI;rw[e1];have b1:(BitVec.ofInt IntKind.u64.bits (n:Int) &&& BitVec.ofInt IntKind.u64.bits ((n - 1:Nat):Int)).toNat=n &&& (n - 1):=by
  rw[BitVec.toNat_and];have t1:(BitVec.ofInt IntKind.u64.bits (n:Int)).toNat=n:=by
   show (BitVec.ofInt 64 (n:Int)).toNat=n
   rw[BitVec.toNat_ofInt];omega
  have t2:(BitVec.ofInt IntKind.u64.bits ((n - 1:Nat):Int)).toNat=n - 1:=by
   show (BitVec.ofInt 64 ((n - 1:Nat):Int)).toNat=n - 1
   rw[BitVec.toNat_ofInt];omega
  rw[t1,t2]
 rw[b1,IntKind.wrap_u64];omega
theorem bits_mem{n:Nat}{x:Int}(h:x∈Uba n):∃k:Nat,k<64/\x=(k:Int)/\n.testBit k=true:=by unfold Uba at h;obtain⟨k,hk,rfl⟩:=List.mem_map.1 h;obtain⟨h1,h2⟩:=List.mem_filter.1 hk;exact⟨k,jB.1 h1,rfl,h2⟩
end
end Go.Proofs.YtgllknjdblkhnaaGreatDoor.Ve
