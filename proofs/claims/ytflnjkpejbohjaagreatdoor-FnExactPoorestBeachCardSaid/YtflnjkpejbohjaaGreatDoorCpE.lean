/- How much a plan spreads, exactly, and how much of it is in some cells. -/
import Derived.Test.YtflnjkpejbohjaaGreatDoorProg
import Derived.Test.YtflnjkpejbohjaaGreatDoorCpD
namespace Go.Proofs.YtflnjkpejbohjaaGreatDoor
open Go.ChangeShapes Go.WideShapes Go.ChangeAt Go.RowKit Ve Vc
open Tryz renaming prog → PZ
open IntKind (i64)
set_option linter.unusedVariables false
set_option linter.unusedSimpArgs false
set_option maxRecDepth 100000
noncomputable section
variable {F:Vc.Fd}
theorem Zod {f:Nat→Int}:∀ n,(∀ k,k<n→0≤f k)→0≤sumI f n
 | 0,_=>Int.le_refl _
 | n+1,h=>by
  have h1:=Zod n fun k hk=>h k (by omega)
  have h2:=h n (by omega)
  rw [sumI];omega
theorem Zq3 {f:Nat→Int} {i:Nat}:∀ n,i<n→(∀ k,k<n→0≤f k)→f i≤sumI f n
 | 0,hi,_=>by omega
 | n+1,hi,h=>by
  rw [sumI]
  by_cases e:i=n
  ·subst e
   have:=Zod i fun k hk=>h k (by omega)
   omega
  ·have h1:=Zq3 (f:=f) (i:=i) n (by omega) fun k hk=>h k (by omega)
   have h2:=h n (by omega)
   omega
theorem Yeu (c:Int) (f:Nat→Int):∀ n,sumI (fun k=>c*f k) n=c*sumI f n
 | 0=>(Int.mul_zero c).symm
 | n+1=>by rw [sumI,sumI,Yeu c f n,Int.mul_add]
theorem Zzn (m:Int) {d o:Nat}:∀ n,sumI (fun i=>if d=o+i then m else 0) n=if o≤d∧d<o+n then m else 0
 | 0=>by rw [if_neg (by omega)];rfl
 | n+1=>by
  rw [sumI,Zzn m n]
  by_cases h:d=o+n
  ·rw [if_pos h,if_neg (by omega),if_pos (by omega)];omega
  ·rw [if_neg h]
   by_cases h2:o≤d∧d<o+n
   ·rw [if_pos h2,if_pos (by omega)];omega
   ·rw [if_neg h2,if_neg (by omega)];rfl
theorem Yji {a:Array Value} {f:Nat→Int} (hf:∀ w,w<5→num a (w*1)=f w∧0≤f w∧f w≤255):∀ n,n≤5→sumW a n=sumI f n∧0≤sumI f n∧sumI f n≤255*n
 | 0,_=>⟨rfl,Int.le_refl _,Int.le_refl _⟩
 | n+1,hn=>by
  obtain ⟨h1,h2,h3⟩:=Yji hf n (by omega)
  obtain ⟨q1,q2,q3⟩:=hf n (by omega)
  rw [sumW,sumI,h1,q1,w64 (n:=f n) (by omega),IntWalk.i64_in _ (by omega)]
  refine ⟨rfl,by omega,by omega⟩
def chP (S:Array Value) (t k w:Nat):Int:=num S (3+t*180+k*5+w)
theorem ch_sum {S:Array Value} (hS:WT PZ 41 S) (hok:okS S=true) {t k:Nat} (ht:t<2) (hk:k<36) (hw:(inC (num S 0) (num S 1) k && !(bitI (num S 2) k))=true):sumI (chP S t k) 5=12∧∀ w,w<5→0≤chP S t k w∧chP S t k w≤12:=by
 have hr:∀ w,w<5→0≤chP S t k w∧chP S t k w≤255:=fun w hw=>by
  have:=(sea_u8 hS (i:=t*180+k*5+w) (by omega)).2
  unfold chP
  rw [show 3+t*180+k*5+w=3+(t*180+k*5+w) by omega]
  exact this
 have hf:=okS_fit hok ht hk
 unfold fitS at hf
 rw [hw,cond_true] at hf
 have hs:=(Yji (a:=chR S t k) (f:=chP S t k) (fun w hw=>⟨by unfold chR chP;rw [num_sub (by omega),Nat.mul_one],hr w hw⟩) 5 (Nat.le_refl _)).1
 have h12:sumI (chP S t k) 5=12:=by rw [← hs];exact eq_of_beq hf
 refine ⟨h12,fun w hw=>⟨(hr w hw).1, ?_⟩⟩
 rw [← h12]
 exact Zq3 (f:=chP S t k) 5 hw fun q hq=>(hr q hq).1
def Mass (X:Array Value) (T:Int):Prop:=(∀ i,i<37→0≤num X (3+i))∧sumI (fun i=>num X (3+i)) 37=T
theorem Mass.le {X:Array Value} {T:Int} (h:Mass X T) {i:Nat} (hi:i<37):0≤num X (3+i)∧num X (3+i)≤T:=⟨h.1 i hi,by rw [← h.2];exact Zq3 (f:=fun i=>num X (3+i)) 37 hi h.1⟩
def Ucj (S X:Array Value) (j k:Nat):Int:=if Zae (k:Int) S=true then sumI (fun w=>if Udc (Zac (k:Int) (w:Int) S)=j then muF S X (tdS X) k w else 0) 5 else if 3+k*1=j then num X (3+k*1)*12 else 0
theorem cell_sum {S X:Array Value} (hS:WT PZ 41 S) (hok:okS S=true) {T:Int} (hM:Mass X T) (hT:T*12≤9223372036854775807) {t:Nat} (ht:t<2) (htd:tdS X=(t:Int)) {k:Nat} (hk:k<36):(∀ j,0≤Ucj S X j k)∧sumI (fun i=>Ucj S X (3+i) k) 37=12*num X (3+k):=by
 obtain ⟨x0,x1⟩:=hM.le (i:=k) (by omega)
 have hwet:=(Ydk hS hk).2
 unfold Ucj
 cases hw:Zae (k:Int) S with
 | false=>
  simp only [Bool.false_eq_true,if_false]
  refine ⟨fun j=> ?_, ?_⟩
  ·split
   ·rw [show 3+k*1=3+k by omega];omega
   ·exact Int.le_refl _
  ·rw [Zzn (num X (3+k*1)*12) (d:=3+k*1) (o:=3) 37,if_pos (by omega),show 3+k*1=3+k by omega,Int.mul_comm]
 | true=>
  rw [hw] at hwet
  obtain ⟨c1,c2⟩:=ch_sum hS hok ht hk hwet.symm
  have hi:inC (num S 0) (num S 1) k=true:=(Bool.and_eq_true_iff.1 hwet.symm).1
  have hmu:∀ w,w<5→muF S X (tdS X) k w=num X (3+k)*chP S t k w∧0≤num X (3+k)*chP S t k w:=fun w hw5=>by
   obtain ⟨d1,d2⟩:=c2 w hw5
   have hp:0≤num X (3+k)*chP S t k w:=Int.mul_nonneg x0 d1
   have hq:num X (3+k)*chP S t k w≤T*12:=Int.mul_le_mul x1 d2 d1 (by omega)
   refine ⟨?_,hp⟩
   unfold muF chW
   rw [htd,Int.toNat_natCast,Int.toNat_natCast,show 3+k*1=3+k by omega]
   have e:num S (((3+(t*180))+(k*5))+w)=chP S t k w:=rfl
   rw [e,w64 (n:=chP S t k w) (by omega),IntWalk.i64_in _ (by omega)]
  simp only [if_true]
  refine ⟨fun j=>Zod 5 fun w hw5=> ?_, ?_⟩
  ·split
   ·rw [(hmu w hw5).1];exact (hmu w hw5).2
   ·exact Int.le_refl _
  ·rw [Zv6 (fun i w=>if Udc (Zac (k:Int) (w:Int) S)=3+i then muF S X (tdS X) k w else 0) 5 37]
   refine (Zhe 5 (g:=fun w=>num X (3+k)*chP S t k w) fun w hw5=> ?_).trans ?_
   ·rw [Zzn (muF S X (tdS X) k w) (d:=Udc (Zac (k:Int) (w:Int) S)) (o:=3) 37,if_pos,(hmu w hw5).1]
    unfold Udc
    by_cases hg:Zac (k:Int) (w:Int) S<0
    ·rw [if_pos hg];omega
    ·rw [if_neg hg]
     obtain ⟨r1,r2⟩:=Ydy (Zog hok) hk hi hw5 hg
     omega
   ·rw [Yeu,c1,Int.mul_comm]
theorem Ylu {S X:Array Value} (hS:WT PZ 41 S) (hX:WT PZ 60 X) (hok:okS S=true) {T:Int} (hM:Mass X T) (hT:T*12≤9223372036854775807) {t:Nat} (ht:t<2) (htd:tdS X=(t:Int)) :
  Mass (Ubf PZ S X) (12*T)∧∀ k:Nat,k<36→Zae (k:Int) S=false→12*num X (3+k)≤num (Ubf PZ S X) (3+k):=by
 obtain ⟨i1,i2⟩:=Zq8 X
 have o1:0≤num X 39∧num X 39≤T:=hM.le (i:=36) (by omega)
 have hcell:=fun k hk=>cell_sum hS hok hM hT ht htd (k:=k) hk
 have hsum:sumI (fun i=>(if 39=3+i then num X 39*12 else 0)+sumI (fun k=>Ucj S X (3+i) k) 36) 37=12*T:=by
  rw [Zzq,Zzn (num X 39*12) (d:=39) (o:=3) 37,if_pos (by omega),Zv6 (fun i k=>Ucj S X (3+i) k) 36 37,Zhe 36 (g:=fun k=>12*num X (3+k)) fun k hk=>(hcell k hk).2,Yeu,← hM.2]
  have e37:sumI (fun i=>num X (3+i)) 37=sumI (fun i=>num X (3+i)) 36+num X 39:=rfl
  rw [e37,Int.mul_add]
  omega
 have hnn:∀ i,i<37→0≤(if 39=3+i then num X 39*12 else 0)+sumI (fun k=>Ucj S X (3+i) k) 36:=fun i hi=>by
  have h1:=Zod (f:=fun k=>Ucj S X (3+i) k) 36 fun k hk=>(hcell k hk).1 (3+i)
  split
  ·have:=o1.1;omega
  ·omega
 have hval:∀ i,i<37→num (Ubf PZ S X) (3+i)=(if 39=3+i then num X 39*12 else 0)+sumI (fun k=>Ucj S X (3+i) k) 36:=fun i hi=>by
  have hw:=(Zof (S:=S) hX).int (o:=3+i) (k:=.i64) (Zj3 (by omega) (by omega))
  have hle:(if 39=3+i then num X 39*12 else 0)+sumI (fun k=>Ucj S X (3+i) k) 36≤12*T:=by
   rw [← hsum]
   exact Zq3 (f:=fun i=>(if 39=3+i then num X 39*12 else 0)+sumI (fun k=>Ucj S X (3+i) k) 36) 37 hi hnn
  have:=hnn i hi
  refine cg_eq ((Yex i1 (j:=3+i) (by omega)).trans (((i2 (3+i) (by omega) (by omega)).add (.refl _)).trans (.of ?_))) hw.2 (by omega)
  rw [if_neg (show ¬ 3+i=2 by omega)]
  by_cases e:3+i=39
  ·rw [if_pos e,if_pos e.symm];rfl
  ·rw [if_neg e,if_neg (fun h=>e h.symm)];rfl
 refine ⟨⟨fun i hi=>by rw [hval i hi];exact hnn i hi, ?_⟩,fun k hk hd=> ?_⟩
 ·rw [← hsum]
  exact Zhe 37 hval
 ·rw [hval k (by omega)]
  have h1:=Zq3 (f:=fun q=>Ucj S X (3+k) q) (i:=k) 36 hk fun q hq=>(hcell q hq).1 (3+k)
  have h2:Ucj S X (3+k) k=num X (3+k)*12:=by
   unfold Ucj
   rw [hd,if_neg (by simp),if_pos (by omega),show 3+k*1=3+k by omega]
  rw [if_neg (show ¬ 39=3+k by omega)]
  omega
theorem Zqn:∀ n:Nat,0<(12:Int)^n:=fun n=>Int.pow_pos (by omega)
theorem Yey {n m:Nat} (h:n≤m):(12:Int)^n≤12^m:=by
 obtain ⟨d,rfl⟩:=Nat.exists_eq_add_of_le h
 rw [Int.pow_add]
 have h1:=Zqn n
 have h2:=Zqn d
 exact Int.le_trans (by omega) (Int.mul_le_mul_of_nonneg_left (show (1:Int)≤12^d by omega) (Int.le_of_lt h1))
theorem Yh4:(12:Int)^8=429981696:=by decide
def relI (A:Array Value) (j:Int) (k:Nat):Int:=if num (A.extract (k*3) (k*3+3)) 1=j then num (A.extract (k*3) (k*3+3)) 2 else 0
def relT (A:Array Value) (n:Nat):Nat→Int
 | 0=>0
 | j+1=>relT A n j+sumI (relI A (j:Int)) n
def Uft (S A:Array Value) (n:Nat) (h:Int):Prop:=∀ k,k<n→(0≤num (A.extract (k*3) (k*3+3)) 0∧num (A.extract (k*3) (k*3+3)) 0≤35∧inC (num S 0) (num S 1) (num (A.extract (k*3) (k*3+3)) 0).toNat=true)∧(0≤num (A.extract (k*3) (k*3+3)) 1∧num (A.extract (k*3) (k*3+3)) 1<h)∧1≤num (A.extract (k*3) (k*3+3)) 2∧num (A.extract (k*3) (k*3+3)) 2≤200
theorem Ym6 {S A:Array Value} {h:Int} {n:Nat} (hh:0≤h∧h≤8) (hS:WT PZ 41 S) (hA:∀ k,k<n→WT PZ 95 (A.extract (k*3) (k*3+3))) (hr:Ub7 S h n A=true):Uft S A n h:=fun k hk=>by
 refine ⟨Ybp hS hA hr k hk, ?_⟩
 have h1:=(Zq4 S h n A).1 hr k hk
 have h1:relB S h (A.extract (k*3) (k*3+3))=true:=h1
 obtain ⟨-,b1⟩:=(hA k hk).int (o:=1) (k:=.i8) (by kernel_rfl)
 obtain ⟨-,b2⟩:=(hA k hk).int (o:=2) (k:=.i16) (by kernel_rfl)
 have m8:IntKind.i8.min = -128∧IntKind.i8.max=127:=⟨rfl,rfl⟩
 have m16:IntKind.i16.min = -32768∧IntKind.i16.max=32767:=⟨rfl,rfl⟩
 unfold relB at h1
 rw [IntWalk.i64_in (num (A.extract (k*3) (k*3+3)) 1) (by omega),IntWalk.i64_in (num (A.extract (k*3) (k*3+3)) 2) (by omega),IntWalk.i64_in (h - 1) (by omega)] at h1
 simp only [Bool.and_eq_true] at h1
 have r1:=Zl9 h1.2.1
 have r2:=Zl9 h1.2.2
 omega
theorem Ybt {S A:Array Value} {n:Nat} {h:Int} (hr:Uft S A n h) (j:Int):∀ m,m≤n→0≤sumI (relI A j) m∧sumI (relI A j) m≤200*m
 | 0,_=>⟨Int.le_refl _,Int.le_refl _⟩
 | m+1,hm=>by
  obtain ⟨h1,h2⟩:=Ybt hr j m (by omega)
  have h3:=(hr m (by omega)).2.2
  rw [sumI]
  unfold relI at h1 h2⊢
  split<;>omega
theorem Yi7 {X:Array Value} (hz:X.size=40) {c:Nat} (hc:c<36) (b m:Int):num (put2 X c b m) 2=i64.wrap (num X 2+b)∧∀ i,i<37→num (put2 X c b m) (3+i)=if c=i then i64.wrap (num X (3+i)+m) else num X (3+i):=by
 unfold put2
 refine ⟨?_,fun i hi=> ?_⟩
 ·rw [Zbz,if_neg (by omega),Zbz,if_pos (by omega)]
 ·by_cases e:c=i
  ·subst e
   rw [Zbz,if_pos (by rw [Array.size_setIfInBounds];omega),Zbz,if_neg (by omega),if_pos rfl,show 3+c*1=3+c by omega]
  ·rw [Zbz,if_neg (by omega),Zbz,if_neg (by omega),if_neg e]
theorem Yi6 {f g:Nat→Int} {c:Nat} {m:Int}:∀ n,(∀ i,i<n→g i=if c=i then f i+m else f i)→sumI g n=sumI f n+(if c<n then m else 0)
 | 0,_=>by rw [if_neg (by omega)];rfl
 | n+1,h=>by
  rw [sumI,sumI,Yi6 n fun i hi=>h i (by omega),h n (by omega)]
  by_cases e:c=n
  ·subst e;rw [if_pos rfl,if_neg (by omega),if_pos (by omega)];omega
  ·rw [if_neg e]
   by_cases e2:c<n
   ·rw [if_pos e2,if_pos (by omega)];omega
   ·rw [if_neg e2,if_neg (by omega)];omega
theorem mass_put {X:Array Value} (hz:X.size=40) {T:Int} (hM:Mass X T) {c:Nat} (hc:c<36) {b m:Int} (h0:0≤m) (h1:T+m≤9223372036854775807):Mass (put2 X c b m) (T+m):=by
 obtain ⟨-,hn⟩:=Yi7 hz hc b m
 have hv:∀ i,i<37→num (put2 X c b m) (3+i)=if c=i then num X (3+i)+m else num X (3+i):=fun i hi=>by
  rw [hn i hi]
  have:=hM.le hi
  rw [IntWalk.i64_in _ (by omega)]
 refine ⟨fun i hi=> ?_, ?_⟩
 ·rw [hv i hi]
  have:=hM.1 i hi
  split<;>omega
 ·rw [Yi6 (f:=fun i=>num X (3+i)) 37 hv,if_pos (by omega),hM.2]
theorem Yfv {S A X:Array Value} {b h:Int} {j n:Nat} (hX:Good S b j X) (hr:Uft S A n h) (hh:h≤8) (hn:n≤12) (hj:j≤8) {T:Int} (hM:Mass X T) (hT:0≤T∧T≤1000000000000000) (hB:0≤num X 2∧num X 2≤100000):∀ m,m≤n →
  Mass (folds (putR (j:Int) A) X m) (T+12^j*sumI (relI A (j:Int)) m)∧num (folds (putR (j:Int) A) X m) 2=num X 2+sumI (relI A (j:Int)) m∧Good S b j (folds (putR (j:Int) A) X m)
 | 0,_=>⟨by show Mass X (T+12^j*0);rw [Int.mul_zero,Int.add_zero];exact hM,by show num X 2=num X 2+0;omega,hX⟩
 | m+1,hm=>by
  obtain ⟨h1,h2,h3⟩:=Yfv hX hr hh hn hj hM hT hB m (by omega)
  have hk:=hr m (by omega)
  have hg:=Yiz (h:=(j:Int)) (k:=m) (A:=A) h3 hk.1
  obtain ⟨s0,s1⟩:=Ybt hr (j:Int) m (by omega)
  have hp:=Zqn j
  have hp8:=Yey hj
  rw [Yh4] at hp8
  rw [Zil,sumI]
  generalize folds (putR (j:Int) A) X m=Y at h1 h2 h3 hg⊢
  generalize sumI (relI A (j:Int)) m=s at h1 h2 s0 s1⊢
  have hz:Y.size=40:=by rw [h3.1.layLen];kernel_rfl
  have e1:i64.wrap (num (A.extract (m*3) (m*3+3)) 1)=num (A.extract (m*3) (m*3+3)) 1:=IntWalk.i64_in _ (by have:=hk.2.1;omega)
  unfold putR at hg⊢
  rw [e1] at hg⊢
  unfold relI
  by_cases e:num (A.extract (m*3) (m*3+3)) 1=(j:Int)
  ·rw [show (num (A.extract (m*3) (m*3+3)) 1==(j:Int))=true from beq_iff_eq.2 e,cond_true] at hg⊢
   rw [if_pos e]
   obtain ⟨b0,b1⟩:=hk.2.2
   have e2:i64.wrap (num (A.extract (m*3) (m*3+3)) 2)=num (A.extract (m*3) (m*3+3)) 2:=IntWalk.i64_in _ (by omega)
   rw [e2] at hg⊢
   obtain ⟨c0,c1,-⟩:=hk.1
   generalize num (A.extract (m*3) (m*3+3)) 0=c at c0 c1 hg⊢
   generalize num (A.extract (m*3) (m*3+3)) 2=q at b0 b1 hg⊢
   have pw0:(0:Int)≤q*12^j:=Int.mul_nonneg (by omega) (Int.le_of_lt hp)
   have pw1:q*12^j≤200*429981696:=Int.mul_le_mul b1 hp8 (Int.le_of_lt hp) (by omega)
   have ps0:(0:Int)≤12^j*s:=Int.mul_nonneg (Int.le_of_lt hp) s0
   have ps1:(12:Int)^j*s≤429981696*2400:=Int.mul_le_mul hp8 (by omega) s0 (by omega)
   have e3:i64.wrap (q*12^(j:Int).toNat)=q*12^j:=by rw [Int.toNat_natCast];exact IntWalk.i64_in _ (by omega)
   rw [e3] at hg⊢
   refine ⟨?_, ?_,hg⟩
   ·have:=mass_put hz h1 (c:=c.toNat) (by omega) (b:=q) pw0 (by omega)
    rw [Int.mul_add,Int.mul_comm (12^j) q,← Int.add_assoc]
    exact this
   ·rw [(Yi7 hz (c:=c.toNat) (by omega) _ _).1,h2,IntWalk.i64_in _ (by omega)];omega
  ·rw [show (num (A.extract (m*3) (m*3+3)) 1==(j:Int))=false from beq_eq_false_iff_ne.2 e,cond_false] at hg⊢
   rw [if_neg e,Int.add_zero]
   exact ⟨h1,h2,hg⟩
theorem hour_two {S X:Array Value} (hX:WT PZ 60 X):num (Ubf PZ S X) 2=num X 2:=by
 obtain ⟨i1,i2⟩:=Zq8 X
 have w1:=(Zof (S:=S) hX).int (o:=2) (k:=.i64) (Zj3 (by omega) (by omega))
 have w2:=hX.int (o:=2) (k:=.i64) (Zj3 (by omega) (by omega))
 refine cg_eq ?_ w1.2 w2.2
 rw [Zt4 S X (by omega)]
 have:=i2 2 (by omega) (by omega)
 rw [if_pos rfl] at this
 exact this
theorem Ybd {S A:Array Value} {b h:Int} {n:Nat} (hS:WT PZ 41 S) (hok:okS S=true) (hb:0≤b∧b≤1) (hr:Uft S A n h) (hh:h≤8) (hn:n≤12):∀ j,j≤8 →
  Mass (Uae PZ S b n A j) (12^j*relT A n j)∧num (Uae PZ S b n A j) 2=relT A n j∧0≤relT A n j∧relT A n j≤2400*j
 | 0,_=>by
  have z0:∀ i,i<40→num (zc PZ 60) i=0:=by
   have:((List.range 40).all fun i=>num (zc PZ 60) i==0)=true:=by kernel_rfl
   intro i hi
   exact eq_of_beq (List.all_eq_true.1 this i (List.mem_range.2 hi))
  have hv:∀ i,1≤i→i<40→num (Uae PZ S b n A 0) i=0:=fun i h1 hi=>by
   rw [Uae,Zbz,if_neg (by omega)];exact z0 i hi
  have e0:relT A n 0=0:=rfl
  rw [e0,Int.mul_zero]
  refine ⟨⟨fun i hi=>by rw [hv (3+i) (by omega) (by omega)];exact Int.le_refl _, ?_⟩,hv 2 (by omega) (by omega),Int.le_refl _,by omega⟩
  exact (Zhe 37 (g:=fun _=>0) fun i hi=>hv (3+i) (by omega) (by omega)).trans (Zlt 37)
 | j+1,hj=>by
  obtain ⟨h1,h2,h3,h4⟩:=Ybd hS hok hb hr hh hn j (by omega)
  have hG:=Zk9 (A:=A) (n:=n) hS hok hb (fun k hk=>(hr k hk).1) j (by omega)
  have hp:=Zqn j
  have hp8:=Yey (show j≤8 by omega)
  rw [Yh4] at hp8
  obtain ⟨s0,s1⟩:=Ybt hr (j:Int) n (Nat.le_refl _)
  have t0:(0:Int)≤12^j*relT A n j:=Int.mul_nonneg (Int.le_of_lt hp) h3
  have t1:(12:Int)^j*relT A n j≤429981696*19200:=Int.mul_le_mul hp8 (by omega) h3 (by omega)
  have q0:(0:Int)≤12^j*sumI (relI A (j:Int)) n:=Int.mul_nonneg (Int.le_of_lt hp) s0
  have q1:(12:Int)^j*sumI (relI A (j:Int)) n≤429981696*2400:=Int.mul_le_mul hp8 (by omega) s0 (by omega)
  obtain ⟨m1,m2,m3⟩:=Yfv hG hr hh hn (by omega) h1 ⟨t0,by omega⟩ (by rw [h2];omega) n (Nat.le_refl _)
  have hgo:=(Yh7 hok hb (by omega) m3).2
  have hM:=(Ylu hS m3.1 hok m1 (by omega) (t:=(tdS (folds (putR (j:Int) A) (Uae PZ S b n A j) n)).toNat) (by omega) (by omega)).1
  have e1:relT A n (j+1)=relT A n j+sumI (relI A (j:Int)) n:=rfl
  rw [Uae,e1]
  refine ⟨?_, ?_,by omega,by omega⟩
  ·rw [Int.pow_succ,Int.mul_comm (12^j) 12,Int.mul_assoc,Int.mul_add]
   exact hM
  ·unfold Uby
   rw [hour_two m3.1,m2,h2]
theorem Ymo {S A:Array Value} {n:Nat} {h:Int} (hr:Uft S A n h) (hn:0<n):∀ j:Nat,num (A.extract (0*3) (0*3+3)) 1<(j:Int)→1≤relT A n j
 | 0,hj=>by have:=(hr 0 hn).2.1;omega
 | j+1,hj=>by
  have h1:=(Ybt hr (j:Int) n (Nat.le_refl _)).1
  have key:∀ i,i<n→0≤relI A (j:Int) i:=fun i hi=>by
   have:=(hr i hi).2.2
   unfold relI;split<;>omega
  have e1:relT A n (j+1)=relT A n j+sumI (relI A (j:Int)) n:=rfl
  have nn:∀ i:Nat,0≤relT A n i:=by
   intro i
   induction i with
   | zero=>exact Int.le_refl _
   | succ i ih=>
    have e:relT A n (i+1)=relT A n i+sumI (relI A (i:Int)) n:=rfl
    have:=(Ybt hr (i:Int) n (Nat.le_refl _)).1
    omega
  rw [e1]
  by_cases e:num (A.extract (0*3) (0*3+3)) 1=(j:Int)
  ·have h2:=Zq3 (f:=relI A (j:Int)) (i:=0) n hn key
   have h3:relI A (j:Int) 0=num (A.extract (0*3) (0*3+3)) 2:=by unfold relI;rw [if_pos e]
   have:=(hr 0 hn).2.2
   have:=nn j
   omega
  ·have:=Ymo hr hn j (by omega)
   omega
theorem Yb7 (N:Nat) (a0:Array Value):ansV PZ (mkΓ [(41,con Zfh)]) N Tryz.f22 [] [.w 0] [.row a0 60]=(bif (decide (0≤(i64.wrap (num a0 1)))&&decide ((i64.wrap (num a0 1))≤14)) then (some (.a (.i .i64 (i64.wrap ((num a0 2)*(12^(i64.wrap (num a0 1)).toNat)))),.none,true))
  else (none)):=by kernel_rfl
def Zbp (a0:Array Value):Int:=(i64.wrap ((num a0 2)*(12^(i64.wrap (num a0 1)).toNat)))
def Ze9 (a0:Array Value):Bool:=(decide (0≤(i64.wrap (num a0 1)))&&decide ((i64.wrap (num a0 1))≤14))
theorem Zyq (a0:Array Value) (h_a0:WT PZ 60 a0) (hg:((Ze9 a0))=true):ansV PZ (mkΓ [(41,con Zfh)]) 1000 Tryz.f22 [] [.w 0] [.row a0 60]=some (.a (.i .i64 (Zbp a0)),.none,true):=by
 refine (Yb7 1000 a0).trans ?_
 unfold Ze9 at hg
 unfold Zbp
 revert hg
 generalize (decide (0≤(i64.wrap (num a0 1))))=b2
 intro hg
 cases b2
 ·skip
  first | exact (nomatch (hg:false=true)) | (simp only [cond_true,cond_false,Bool.and_true,Bool.true_and,Bool.and_false,Bool.false_and];done) | rfl
 ·skip
  revert hg
  generalize (decide ((i64.wrap (num a0 1))≤14))=b4
  intro hg
  cases b4
  ·skip
   first | exact (nomatch (hg:false=true)) | (simp only [cond_true,cond_false,Bool.and_true,Bool.true_and,Bool.and_false,Bool.false_and];done) | rfl
  ·skip
   first | (simp only [cond_true,cond_false,Bool.and_true,Bool.true_and,Bool.and_false,Bool.false_and];done) | rfl | exact (nomatch (hg:false=true))
def Zlf:Con:=fun args h=>match args,h with
 | [.w 0],[.row a0 60]=>some (.a (.i .i64 (Zbp a0)),.none,(Ze9 a0))
 | _,_=>none
theorem Zxk:EntX PZ 22:=Zaf (fn:=Tryz.f22) (by kernel_rfl) (by kernel_rfl) (by kernel_rfl)
theorem Ycz:Uad (md F) PZ 22 Zlf:=(Zah (N:=1000) (by kernel_rfl) (mkΓ_consX (Zad Zor) Zli mkΓ_nilX) (fn:=Tryz.f22) (by kernel_rfl) (by kernel_rfl) []).of (by
 intro ρ h w args vals r e hA hH hr
 unfold Zlf at hr
 split at hr
 ·rename_i a0
  obtain ⟨rfl,hg⟩:=Prod.mk.inj (Option.some.inj hr)
  obtain ⟨rfl,hg2⟩:=Prod.mk.inj hg
  exact Zyq a0 (hH.wt 0 rfl) hg2
 ·cases hr)
theorem Ycq (N:Nat) (a0:Array Value):ansV PZ (mkΓ [(53,con Zav)]) N Tryz.f30 [] [.g a0 60] []=(bif (decide (0≤(i64.wrap (num a0 1)))&&decide ((i64.wrap (num a0 1))≤14)) then (some (.a (.i .i64 (i64.wrap ((num a0 2)*(12^(i64.wrap (num a0 1)).toNat)))),.none,true))
  else (none)):=by kernel_rfl
def Zcs (a0:Array Value):Int:=(i64.wrap ((num a0 2)*(12^(i64.wrap (num a0 1)).toNat)))
def Zfs (a0:Array Value):Bool:=(decide (0≤(i64.wrap (num a0 1)))&&decide ((i64.wrap (num a0 1))≤14))
theorem Zz3 (a0:Array Value) (h_a0:WT PZ 60 a0) (hg:((Zfs a0))=true):ansV PZ (mkΓ [(53,con Zav)]) 1000 Tryz.f30 [] [.g a0 60] []=some (.a (.i .i64 (Zcs a0)),.none,true):=by
 refine (Ycq 1000 a0).trans ?_
 unfold Zfs at hg
 unfold Zcs
 revert hg
 generalize (decide (0≤(i64.wrap (num a0 1))))=b2
 intro hg
 cases b2
 ·skip
  first | exact (nomatch (hg:false=true)) | (simp only [cond_true,cond_false,Bool.and_true,Bool.true_and,Bool.and_false,Bool.false_and];done) | rfl
 ·skip
  revert hg
  generalize (decide ((i64.wrap (num a0 1))≤14))=b4
  intro hg
  cases b4
  ·skip
   first | exact (nomatch (hg:false=true)) | (simp only [cond_true,cond_false,Bool.and_true,Bool.true_and,Bool.and_false,Bool.false_and];done) | rfl
  ·skip
   first | (simp only [cond_true,cond_false,Bool.and_true,Bool.true_and,Bool.and_false,Bool.false_and];done) | rfl | exact (nomatch (hg:false=true))
def Zmk:Con:=fun args h=>match args,h with
 | [.g a0 60],[]=>some (.a (.i .i64 (Zcs a0)),.none,(Zfs a0))
 | _,_=>none
theorem Zyb:EntX PZ 30:=Zaf (fn:=Tryz.f30) (by kernel_rfl) (by kernel_rfl) (by kernel_rfl)
theorem Yeq:Uad (md F) PZ 30 Zmk:=(Zah (N:=1000) (by kernel_rfl) (mkΓ_consX (Zad Zme) Zj2 mkΓ_nilX) (fn:=Tryz.f30) (by kernel_rfl) (by kernel_rfl) []).of (by
 intro ρ h w args vals r e hA hH hr
 unfold Zmk at hr
 split at hr
 ·rename_i a0
  obtain ⟨rfl,hg⟩:=Prod.mk.inj (Option.some.inj hr)
  obtain ⟨rfl,hg2⟩:=Prod.mk.inj hg
  exact Zz3 a0 (hA.wt 0 rfl) hg2
 ·cases hr)
end
end Go.Proofs.YtflnjkpejbohjaaGreatDoor
