/- The cells that reach some cells: both sides. -/
import Derived.Test.YtgllknjdblkhnaaGreatDoorProg
import Derived.Test.YtgllknjdblkhnaaGreatDoorCmF
set_option linter.unusedVariables false
set_option linter.unusedSimpArgs false
namespace Go.Proofs.YtgllknjdblkhnaaGreatDoor
open Go.ChangeShapes Go.WideShapes Go.ChangeAt Go.RowKit Ve Vc
open Tryz renaming prog -> PZ
set_option maxRecDepth 100000
noncomputable section
variable {mn:Md}
theorem Zw6{S:Array Value}{c:Int}(h:Zac S c=true):∀j,36<=j->bitI c j=false:=λj hj=>by
 by_cases h64:j<64
 ·cases hb:bitI c j with|false=>rfl|true=>have:=(Zp4 (a:=c) (b:=Ua0 (num S 0) (num S 1) 36)).1 h j h64 hb;rw[Zxa _ _ 36 (by omega),Q4 (by omega)]at this;cases this
 ·exact Yml (by omega) c
theorem ext3(x y z:Value):(#[x,y,z]:Array Value).extract (0*3) (0*3+3)=#[x,y,z]:=by simp
theorem from_gd{S:Array Value}(hok:okS S=true){k b h c:Int}(hb:0<=b/\b<=1)(hk:0<=k/\k<=35)(hh:1<=h/\h<=8)(hw:Zae k S=true):Zfk k b h c S=true:=by
 have n0:num (#[.int .i8 (IntKind.i8.wrap b),.int .i8 (IntKind.i8.wrap h),.slice none 0 0]:Array Value) 0=b:=IntWalk.i8_in b (by omega);have n1:num (#[.int .i8 (IntKind.i8.wrap b),.int .i8 (IntKind.i8.wrap h),.slice none 0 0]:Array Value) 1=h:=IntWalk.i8_in h (by omega);have a0:num (#[.int .i8 (IntKind.i8.wrap k),.int .i8 0,.int .i16 1]:Array Value) 0=k:=IntWalk.i8_in k (by omega);have a1:num (#[.int .i8 (IntKind.i8.wrap k),.int .i8 0,.int .i16 1]:Array Value) 1=0:=rfl;have a2:num (#[.int .i8 (IntKind.i8.wrap k),.int .i8 0,.int .i16 1]:Array Value) 2=1:=rfl;have hr:Ue5 S h 1 (#[.int .i8 (IntKind.i8.wrap k),.int .i8 0,.int .i16 1]:Array Value)=true:=(Yfj S h 1 _).2 λj hj=>by
  obtain rfl:j=0:=by omega
  show relB S h ((#[.int .i8 (IntKind.i8.wrap k),.int .i8 0,.int .i16 1]:Array Value).extract (0*3) (0*3+3))=true
  rw[ext3];unfold relB;rw[a0,a1,a2,IntWalk.i64_in k (by omega),IntWalk.i64_in (h - 1) (by omega),IntWalk.i64_in 0 (by omega),IntWalk.i64_in 1 (by omega),hw,in_of (by omega),in_of (by omega)];rfl
 have hs:wsum (#[.int .i8 (IntKind.i8.wrap k),.int .i8 0,.int .i16 1]:Array Value) 1=1:=by
  show IntKind.i64.wrap (0+IntKind.i64.wrap (num ((#[.int .i8 (IntKind.i8.wrap k),.int .i8 0,.int .i16 1]:Array Value).extract (0*3) (0*3+3)) 2))=1
  rw[ext3,a2,IntWalk.i64_in 1 (by omega),IntWalk.i64_in _ (by omega)];rfl
 unfold Zfk Udi;rw[n0,n1,IntWalk.i64_in b (by omega),IntWalk.i64_in h (by omega),hr,hs,hok,in_of (by omega),in_of (by omega)];rfl
theorem zs_num:∀i,i<40->num (zc PZ 144) i=0:=by
 have:((List.range 40).all λi=>num (zc PZ 144) i==0)=true:=by kernel_rfl
 intro i hi;exact eq_of_beq (List.all_eq_true.1 this i (List.mem_range.2 hi))
theorem Zsr(S:Array Value){k b:Int}(hb:0<=b/\b<=1)(hk:0<=k/\k<=35):∀j:Nat,j<=100->Uaw PZ S b 1 (#[.int .i8 (IntKind.i8.wrap k),.int .i8 0,.int .i16 1]:Array Value) (j+1)=Ua1 PZ S (oneX PZ k b) (j+1)
 | 0,_=>by
  have a0:num (#[.int .i8 (IntKind.i8.wrap k),.int .i8 0,.int .i16 1]:Array Value) 0=k:=IntWalk.i8_in k (by omega);have a1:num (#[.int .i8 (IntKind.i8.wrap k),.int .i8 0,.int .i16 1]:Array Value) 1=0:=rfl;have a2:num (#[.int .i8 (IntKind.i8.wrap k),.int .i8 0,.int .i16 1]:Array Value) 2=1:=rfl;have hz:(zc PZ 144).size=40:=by kernel_rfl
  have e:Uc5 ((0:Nat):Int) 1 (#[.int .i8 (IntKind.i8.wrap k),.int .i8 0,.int .i16 1]:Array Value) ((zc PZ 144).setIfInBounds 0 (.int .i8 b))=oneX PZ k b:=by unfold Uc5;rw[Ze7,Zm0];unfold putR;rw[ext3,a0,a1,a2,show (IntKind.i64.wrap 0==((0:Nat):Int))=true from by decide,Q1];unfold put2 oneX;rw[Zef,if_neg (by omega),zs_num 2 (by omega),Zef,if_neg (by omega),Zef,if_neg (by omega),zs_num _ (by omega),IntWalk.i8_in b (by omega)];rfl
  rw[Uaw,Ua1,Uaw,Ua1,e]
 | j+1,hj=>by
  have a1:num (#[.int .i8 (IntKind.i8.wrap k),.int .i8 0,.int .i16 1]:Array Value) 1=0:=rfl;have e:∀X,Uc5 ((j+1:Nat):Int) 1 (#[.int .i8 (IntKind.i8.wrap k),.int .i8 0,.int .i16 1]:Array Value) X=X:=λX=>by
   unfold Uc5;rw[Ze7,Zm0];unfold putR;rw[ext3,a1,IntWalk.i64_in 0 (by omega),show ((0:Int)==((j+1:Nat):Int))=false from beq_eq_false_iff_ne.2 (by omega),Q2]
  rw[Uaw,e,Zsr S hb hk j (by omega),Ua1,Ua1,Ua1]
theorem from_src{S:Array Value}(hS:WT PZ 38 S)(hok:okS S=true){k b h c:Int}(hU:U64 c)(hb:0<=b/\b<=1)(hk:0<=k/\k<=35)(hh:1<=h/\h<=8)(hcs:Zac S c=true):(Zbk PZ k b h c S != 0)=decide (num (rowR PZ sumL S (rowC PZ c) b h h.toNat) k.toNat > 0):=by
 have n0:num (#[.int .i8 (IntKind.i8.wrap b),.int .i8 (IntKind.i8.wrap h),.slice none 0 0]:Array Value) 0=b:=IntWalk.i8_in b (by omega);have n1:num (#[.int .i8 (IntKind.i8.wrap b),.int .i8 (IntKind.i8.wrap h),.slice none 0 0]:Array Value) 1=h:=IntWalk.i8_in h (by omega);obtain⟨m,rfl⟩:∃m:Nat,h=((m+1:Nat):Int):=⟨h.toNat - 1,by omega⟩;have eE:endV PZ S (#[.int .i8 (IntKind.i8.wrap b),.int .i8 (IntKind.i8.wrap ((m+1:Nat):Int)),.slice none 0 0]:Array Value) 1 (#[.int .i8 (IntKind.i8.wrap k),.int .i8 0,.int .i16 1]:Array Value)=Ua1 PZ S (oneX PZ k b) (m+1):=by unfold endV;rw[n0,n1,Q9];exact Zsr S hb hk m (by omega)
 unfold Zbk reaV;rw[eE,Q9,row_dot hS hok hb hk hcs (h:=m+1) (by omega)];have hM:=Zzk hS hok hb hk (m+1) (by omega);generalize Ua1 PZ S (oneX PZ k b) (m+1)=X at hM|-
 have hnn:∀i,i<36->0<=num X (3+i)*num (rowC PZ c) i:=λi hi=>by
  have:=hM.1 i (by omega);rw[(Ztj c).2 i hi];split<;>omega
 rw[Bool.eq_iff_iff,decide_eq_true_iff];refine(Yon (a:=c) (b:=folds (fbF (X.extract 3 (3+36))) 0 36)).trans (Iff.trans ?_ (sm_pos 36 hnn).symm);have hbit:=(Yo8 (X.extract 3 (3+36)) 36 (Nat.le_refl _)).2;constructor
 ·rintro⟨i,hi,h1,h2⟩;rw[hbit,Q7,decide_eq_true_iff,decide_eq_true_iff]at h2;refine⟨i,h2.1,?_⟩;have h3:=h2.2;rw[Nat.mul_one,Yce X h2.1]at h3;rw[(Ztj c).2 i h2.1,if_pos h1];omega
 ·rintro⟨i,hi,h1⟩;have hn:=hM.1 i (by omega);rw[(Ztj c).2 i hi]at h1
  by_cases hc:bitI c i=true
  ·rw[if_pos hc]at h1;refine⟨i,by omega,hc,?_⟩;rw[hbit,Q7,decide_eq_true_iff,decide_eq_true_iff,Nat.mul_one,Yce X hi];exact⟨hi,by omega⟩
  ·rw[if_neg hc]at h1;omega
def fromQ(P:Program)(S:Array Value)(b h c:Int)(k:Nat):Bool:=Zae (k:Int) S&&(Zbk P (k:Int) b h c S != 0)
theorem src_eq{S:Array Value}(hS:WT PZ 38 S)(hok:okS S=true){b h c:Int}(hU:U64 c)(hb:0<=b/\b<=1)(hh:1<=h/\h<=8)(hcs:Zac S c=true):folds (orF (fromQ PZ S b h c)) 0 36=srcV PZ S b h c:=by
 obtain⟨u1,b1⟩:=Yhv (fromQ PZ S b h c) 36 (Nat.le_refl _);obtain⟨u2,b2⟩:=Yo8 (rowR PZ sumL S (rowC PZ c) b h h.toNat) 36 (Nat.le_refl _);have e:srcV PZ S b h c=andI (Ubc (Ua0 (num S 0) (num S 1) 36) (num S 2)) (folds (fbF (rowR PZ sumL S (rowC PZ c) b h h.toNat)) 0 36):=rfl;rw[e];refine Zwk u1 (Ve.u64_and _ _) λk hk64=> ?_
 rw[b1,Yau,Ztd _ _ hk64,Zxa _ _ 36 (Nat.le_refl _),b2]
 by_cases hk:k<36
 ·rw[Q3 hk,Bool.true_and,Bool.true_and,Bool.true_and];unfold fromQ;rw[from_src hS hok hU hb (by omega) hh hcs,(Zuy hS hk).2,Q9,Nat.mul_one]
 ·rw[Q4 hk];simp
def ctrC(S:Array Value)(b h c:Int):Int:=bif okS S then (bif (Zaa b 0 1&&(Zaa h 1 8&&Zac S c)) then 0 else 2) else 1
theorem begun_eq(S:Array Value)(b h c:Int):Zeq b h c S=ctrC S b h c:=by unfold Zeq ctrC Zac;simp only[bne];cases okS S<;>cases Zaa b 0 1<;>cases Zaa h 1 8<;>cases ((IntKind.u64.wrap (BitVec.ofInt IntKind.u64.bits c &&& ~~~(BitVec.ofInt IntKind.u64.bits (Ua0 (num S 0) (num S 1) 36))).toNat)==(0:Int))<;>rfl
end
end Go.Proofs.YtgllknjdblkhnaaGreatDoor
