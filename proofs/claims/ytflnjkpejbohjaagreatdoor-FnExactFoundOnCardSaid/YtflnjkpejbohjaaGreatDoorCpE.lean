/- How much a plan spreads, exactly, and how much of it is in some cells. -/
import Derived.Test.YtflnjkpejbohjaaGreatDoorProg
import Derived.Test.YtflnjkpejbohjaaGreatDoorCpD
namespace Go.Proofs.YtflnjkpejbohjaaGreatDoor
open Go.ChangeShapes Go.WideShapes Go.ChangeAt Go.RowKit Ve Vc
open IntKind (i64)
set_option linter.unusedVariables false
set_option linter.unusedSimpArgs false
set_option maxRecDepth 100000
noncomputable section
variable {F:Vc.Fd}
theorem Zkz {f:Nat→Int}:∀ n,(∀ k,k<n→0≤f k)→0≤sumI f n
 | 0,_=>Int.le_refl _
 | n+1,h=>by
  have h1:=Zkz n fun k hk=>h k (by omega)
  have h2:=h n (by omega)
  rw [sumI];omega
theorem Zqj {f:Nat→Int} {i:Nat}:∀ n,i<n→(∀ k,k<n→0≤f k)→f i≤sumI f n
 | 0,hi,_=>by omega
 | n+1,hi,h=>by
  rw [sumI]
  by_cases e:i=n
  ·subst e
   have:=Zkz i fun k hk=>h k (by omega)
   omega
  ·have h1:=Zqj (f:=f) (i:=i) n (by omega) fun k hk=>h k (by omega)
   have h2:=h n (by omega)
   omega
theorem Yes (c:Int) (f:Nat→Int):∀ n,sumI (fun k=>c*f k) n=c*sumI f n
 | 0=>(Int.mul_zero c).symm
 | n+1=>by rw [sumI,sumI,Yes c f n,Int.mul_add]
theorem Zy9 (m:Int) {d o:Nat}:∀ n,sumI (fun i=>if d=o+i then m else 0) n=if o≤d∧d<o+n then m else 0
 | 0=>by rw [if_neg (by omega)];rfl
 | n+1=>by
  rw [sumI,Zy9 m n]
  by_cases h:d=o+n
  ·rw [if_pos h,if_neg (by omega),if_pos (by omega)];omega
  ·rw [if_neg h]
   by_cases h2:o≤d∧d<o+n
   ·rw [if_pos h2,if_pos (by omega)];omega
   ·rw [if_neg h2,if_neg (by omega)];rfl
theorem Yii {a:Array Value} {f:Nat→Int} (hf:∀ w,w<5→num a (w*1)=f w∧0≤f w∧f w≤255):∀ n,n≤5→sumW a n=sumI f n∧0≤sumI f n∧sumI f n≤255*n
 | 0,_=>⟨rfl,Int.le_refl _,Int.le_refl _⟩
 | n+1,hn=>by
  obtain ⟨h1,h2,h3⟩:=Yii hf n (by omega)
  obtain ⟨q1,q2,q3⟩:=hf n (by omega)
  rw [sumW,sumI,h1,q1,w64 (n:=f n) (by omega),IntWalk.i64_in _ (by omega)]
  refine ⟨rfl,by omega,by omega⟩
def chP (S:Array Value) (t k w:Nat):Int:=num S (3+t*180+k*5+w)
theorem ch_sum {S:Array Value} (hS:WT Tryz.prog 41 S) (hok:okS S=true) {t k:Nat} (ht:t<2) (hk:k<36) (hw:(inC (num S 0) (num S 1) k && !(bitI (num S 2) k))=true):sumI (chP S t k) 5=12∧∀ w,w<5→0≤chP S t k w∧chP S t k w≤12:=by
 have hr:∀ w,w<5→0≤chP S t k w∧chP S t k w≤255:=fun w hw=>by
  have:=(sea_u8 hS (i:=t*180+k*5+w) (by omega)).2
  unfold chP
  rw [show 3+t*180+k*5+w=3+(t*180+k*5+w) by omega]
  exact this
 have hf:=okS_fit hok ht hk
 unfold fitS at hf
 rw [hw,cond_true] at hf
 have hs:=(Yii (a:=chR S t k) (f:=chP S t k) (fun w hw=>⟨by unfold chR chP;rw [num_sub (by omega),Nat.mul_one],hr w hw⟩) 5 (Nat.le_refl _)).1
 have h12:sumI (chP S t k) 5=12:=by rw [← hs];exact eq_of_beq hf
 refine ⟨h12,fun w hw=>⟨(hr w hw).1, ?_⟩⟩
 rw [← h12]
 exact Zqj (f:=chP S t k) 5 hw fun q hq=>(hr q hq).1
def Mass (X:Array Value) (T:Int):Prop:=(∀ i,i<37→0≤num X (3+i))∧sumI (fun i=>num X (3+i)) 37=T
theorem Mass.le {X:Array Value} {T:Int} (h:Mass X T) {i:Nat} (hi:i<37):0≤num X (3+i)∧num X (3+i)≤T:=⟨h.1 i hi,by rw [← h.2];exact Zqj (f:=fun i=>num X (3+i)) 37 hi h.1⟩
def cellE (S X:Array Value) (j k:Nat):Int:=if Zae (k:Int) S=true then sumI (fun w=>if destW (Zac (k:Int) (w:Int) S)=j then muF S X (tdS X) k w else 0) 5 else if 3+k*1=j then num X (3+k*1)*12 else 0
theorem cell_sum {S X:Array Value} (hS:WT Tryz.prog 41 S) (hok:okS S=true) {T:Int} (hM:Mass X T) (hT:T*12≤9223372036854775807) {t:Nat} (ht:t<2) (htd:tdS X=(t:Int)) {k:Nat} (hk:k<36):(∀ j,0≤cellE S X j k)∧sumI (fun i=>cellE S X (3+i) k) 37=12*num X (3+k):=by
 obtain ⟨x0,x1⟩:=hM.le (i:=k) (by omega)
 have hwet:=(Yc0 hS hk).2
 unfold cellE
 cases hw:Zae (k:Int) S with
 | false=>
  simp only [Bool.false_eq_true,if_false]
  refine ⟨fun j=> ?_, ?_⟩
  ·split
   ·rw [show 3+k*1=3+k by omega];omega
   ·exact Int.le_refl _
  ·rw [Zy9 (num X (3+k*1)*12) (d:=3+k*1) (o:=3) 37,if_pos (by omega),show 3+k*1=3+k by omega,Int.mul_comm]
 | true=>
  rw [hw] at hwet
  obtain ⟨c1,c2⟩:=ch_sum hS hok ht hk hwet.symm
  have hi:inC (num S 0) (num S 1) k=true:=(Bool.and_eq_true_iff.1 hwet.symm).1
  have hmu:∀ w,w<5→muF S X (tdS X) k w=num X (3+k)*chP S t k w∧0≤num X (3+k)*chP S t k w:=fun w hw5=>by
   obtain ⟨d1,d2⟩:=c2 w hw5
   have hp:0≤num X (3+k)*chP S t k w:=Int.mul_nonneg x0 d1
   have hq:num X (3+k)*chP S t k w≤T*12:=Int.mul_le_mul x1 d2 d1 (by omega)
   refine ⟨?_,hp⟩
   unfold muF chW
   rw [htd,Int.toNat_natCast,Int.toNat_natCast,show 3+k*1=3+k by omega]
   have e:num S (((3+(t*180))+(k*5))+w)=chP S t k w:=rfl
   rw [e,w64 (n:=chP S t k w) (by omega),IntWalk.i64_in _ (by omega)]
  simp only [if_true]
  refine ⟨fun j=>Zkz 5 fun w hw5=> ?_, ?_⟩
  ·split
   ·rw [(hmu w hw5).1];exact (hmu w hw5).2
   ·exact Int.le_refl _
  ·rw [Ztr (fun i w=>if destW (Zac (k:Int) (w:Int) S)=3+i then muF S X (tdS X) k w else 0) 5 37]
   refine (Zg2 5 (g:=fun w=>num X (3+k)*chP S t k w) fun w hw5=> ?_).trans ?_
   ·rw [Zy9 (muF S X (tdS X) k w) (d:=destW (Zac (k:Int) (w:Int) S)) (o:=3) 37,if_pos,(hmu w hw5).1]
    unfold destW
    by_cases hg:Zac (k:Int) (w:Int) S<0
    ·rw [if_pos hg];omega
    ·rw [if_neg hg]
     obtain ⟨r1,r2⟩:=Ydm (Zno hok) hk hi hw5 hg
     omega
   ·rw [Yes,c1,Int.mul_comm]
theorem Yl5 {S X:Array Value} (hS:WT Tryz.prog 41 S) (hX:WT Tryz.prog 60 X) (hok:okS S=true) {T:Int} (hM:Mass X T) (hT:T*12≤9223372036854775807) {t:Nat} (ht:t<2) (htd:tdS X=(t:Int)) :
  Mass (hourV Tryz.prog S X) (12*T)∧∀ k:Nat,k<36→Zae (k:Int) S=false→12*num X (3+k)≤num (hourV Tryz.prog S X) (3+k):=by
 obtain ⟨i1,i2⟩:=Zqt X
 have o1:0≤num X 39∧num X 39≤T:=hM.le (i:=36) (by omega)
 have hcell:=fun k hk=>cell_sum hS hok hM hT ht htd (k:=k) hk
 have hsum:sumI (fun i=>(if 39=3+i then num X 39*12 else 0)+sumI (fun k=>cellE S X (3+i) k) 36) 37=12*T:=by
  rw [Zzc,Zy9 (num X 39*12) (d:=39) (o:=3) 37,if_pos (by omega),Ztr (fun i k=>cellE S X (3+i) k) 36 37,Zg2 36 (g:=fun k=>12*num X (3+k)) fun k hk=>(hcell k hk).2,Yes,← hM.2]
  have e37:sumI (fun i=>num X (3+i)) 37=sumI (fun i=>num X (3+i)) 36+num X 39:=rfl
  rw [e37,Int.mul_add]
  omega
 have hnn:∀ i,i<37→0≤(if 39=3+i then num X 39*12 else 0)+sumI (fun k=>cellE S X (3+i) k) 36:=fun i hi=>by
  have h1:=Zkz (f:=fun k=>cellE S X (3+i) k) 36 fun k hk=>(hcell k hk).1 (3+i)
  split
  ·have:=o1.1;omega
  ·omega
 have hval:∀ i,i<37→num (hourV Tryz.prog S X) (3+i)=(if 39=3+i then num X 39*12 else 0)+sumI (fun k=>cellE S X (3+i) k) 36:=fun i hi=>by
  have hw:=(Znt (S:=S) hX).int (o:=3+i) (k:=.i64) (Zjo (by omega) (by omega))
  have hle:(if 39=3+i then num X 39*12 else 0)+sumI (fun k=>cellE S X (3+i) k) 36≤12*T:=by
   rw [← hsum]
   exact Zqj (f:=fun i=>(if 39=3+i then num X 39*12 else 0)+sumI (fun k=>cellE S X (3+i) k) 36) 37 hi hnn
  have:=hnn i hi
  refine cg_eq ((Yew i1 (j:=3+i) (by omega)).trans (((i2 (3+i) (by omega) (by omega)).add (.refl _)).trans (.of ?_))) hw.2 (by omega)
  rw [if_neg (show ¬ 3+i=2 by omega)]
  by_cases e:3+i=39
  ·rw [if_pos e,if_pos e.symm];rfl
  ·rw [if_neg e,if_neg (fun h=>e h.symm)];rfl
 refine ⟨⟨fun i hi=>by rw [hval i hi];exact hnn i hi, ?_⟩,fun k hk hd=> ?_⟩
 ·rw [← hsum]
  exact Zg2 37 hval
 ·rw [hval k (by omega)]
  have h1:=Zqj (f:=fun q=>cellE S X (3+k) q) (i:=k) 36 hk fun q hq=>(hcell q hq).1 (3+k)
  have h2:cellE S X (3+k) k=num X (3+k)*12:=by
   unfold cellE
   rw [hd,if_neg (by simp),if_pos (by omega),show 3+k*1=3+k by omega]
  rw [if_neg (show ¬ 39=3+k by omega)]
  omega
theorem Zo7:∀ n:Nat,0<(12:Int)^n:=fun n=>Int.pow_pos (by omega)
theorem Yez {n m:Nat} (h:n≤m):(12:Int)^n≤12^m:=by
 obtain ⟨d,rfl⟩:=Nat.exists_eq_add_of_le h
 rw [Int.pow_add]
 have h1:=Zo7 n
 have h2:=Zo7 d
 exact Int.le_trans (by omega) (Int.mul_le_mul_of_nonneg_left (show (1:Int)≤12^d by omega) (Int.le_of_lt h1))
theorem Yhr:(12:Int)^8=429981696:=by decide
def relI (A:Array Value) (j:Int) (k:Nat):Int:=if num (A.extract (k*3) (k*3+3)) 1=j then num (A.extract (k*3) (k*3+3)) 2 else 0
def relT (A:Array Value) (n:Nat):Nat→Int
 | 0=>0
 | j+1=>relT A n j+sumI (relI A (j:Int)) n
def RelOk (S A:Array Value) (n:Nat) (h:Int):Prop:=∀ k,k<n→(0≤num (A.extract (k*3) (k*3+3)) 0∧num (A.extract (k*3) (k*3+3)) 0≤35∧inC (num S 0) (num S 1) (num (A.extract (k*3) (k*3+3)) 0).toNat=true)∧(0≤num (A.extract (k*3) (k*3+3)) 1∧num (A.extract (k*3) (k*3+3)) 1<h)∧1≤num (A.extract (k*3) (k*3+3)) 2∧num (A.extract (k*3) (k*3+3)) 2≤200
theorem Ylc {S A:Array Value} {h:Int} {n:Nat} (hh:0≤h∧h≤8) (hS:WT Tryz.prog 41 S) (hA:∀ k,k<n→WT Tryz.prog 95 (A.extract (k*3) (k*3+3))) (hr:relAll S h n A=true):RelOk S A n h:=fun k hk=>by
 refine ⟨Ya2 hS hA hr k hk, ?_⟩
 have h1:=(Zqd S h n A).1 hr k hk
 have h1:relB S h (A.extract (k*3) (k*3+3))=true:=h1
 obtain ⟨-,b1⟩:=(hA k hk).int (o:=1) (k:=.i8) (by kernel_rfl)
 obtain ⟨-,b2⟩:=(hA k hk).int (o:=2) (k:=.i16) (by kernel_rfl)
 have m8:IntKind.i8.min = -128∧IntKind.i8.max=127:=⟨rfl,rfl⟩
 have m16:IntKind.i16.min = -32768∧IntKind.i16.max=32767:=⟨rfl,rfl⟩
 unfold relB at h1
 rw [IntWalk.i64_in (num (A.extract (k*3) (k*3+3)) 1) (by omega),IntWalk.i64_in (num (A.extract (k*3) (k*3+3)) 2) (by omega),IntWalk.i64_in (h - 1) (by omega)] at h1
 simp only [Bool.and_eq_true] at h1
 have r1:=Zl6 h1.2.1
 have r2:=Zl6 h1.2.2
 omega
theorem Zzp {S A:Array Value} {n:Nat} {h:Int} (hr:RelOk S A n h) (j:Int):∀ m,m≤n→0≤sumI (relI A j) m∧sumI (relI A j) m≤200*m
 | 0,_=>⟨Int.le_refl _,Int.le_refl _⟩
 | m+1,hm=>by
  obtain ⟨h1,h2⟩:=Zzp hr j m (by omega)
  have h3:=(hr m (by omega)).2.2
  rw [sumI]
  unfold relI at h1 h2⊢
  split<;>omega
theorem Yje {X:Array Value} (hz:X.size=40) {c:Nat} (hc:c<36) (b m:Int):num (put2 X c b m) 2=i64.wrap (num X 2+b)∧∀ i,i<37→num (put2 X c b m) (3+i)=if c=i then i64.wrap (num X (3+i)+m) else num X (3+i):=by
 unfold put2
 refine ⟨?_,fun i hi=> ?_⟩
 ·rw [Zbt,if_neg (by omega),Zbt,if_pos (by omega)]
 ·by_cases e:c=i
  ·subst e
   rw [Zbt,if_pos (by rw [Array.size_setIfInBounds];omega),Zbt,if_neg (by omega),if_pos rfl,show 3+c*1=3+c by omega]
  ·rw [Zbt,if_neg (by omega),Zbt,if_neg (by omega),if_neg e]
theorem Yjd {f g:Nat→Int} {c:Nat} {m:Int}:∀ n,(∀ i,i<n→g i=if c=i then f i+m else f i)→sumI g n=sumI f n+(if c<n then m else 0)
 | 0,_=>by rw [if_neg (by omega)];rfl
 | n+1,h=>by
  rw [sumI,sumI,Yjd n fun i hi=>h i (by omega),h n (by omega)]
  by_cases e:c=n
  ·subst e;rw [if_pos rfl,if_neg (by omega),if_pos (by omega)];omega
  ·rw [if_neg e]
   by_cases e2:c<n
   ·rw [if_pos e2,if_pos (by omega)];omega
   ·rw [if_neg e2,if_neg (by omega)];omega
theorem mass_put {X:Array Value} (hz:X.size=40) {T:Int} (hM:Mass X T) {c:Nat} (hc:c<36) {b m:Int} (h0:0≤m) (h1:T+m≤9223372036854775807):Mass (put2 X c b m) (T+m):=by
 obtain ⟨-,hn⟩:=Yje hz hc b m
 have hv:∀ i,i<37→num (put2 X c b m) (3+i)=if c=i then num X (3+i)+m else num X (3+i):=fun i hi=>by
  rw [hn i hi]
  have:=hM.le hi
  rw [IntWalk.i64_in _ (by omega)]
 refine ⟨fun i hi=> ?_, ?_⟩
 ·rw [hv i hi]
  have:=hM.1 i hi
  split<;>omega
 ·rw [Yjd (f:=fun i=>num X (3+i)) 37 hv,if_pos (by omega),hM.2]
theorem Ygh {S A X:Array Value} {b h:Int} {j n:Nat} (hX:Good S b j X) (hr:RelOk S A n h) (hh:h≤8) (hn:n≤12) (hj:j≤8) {T:Int} (hM:Mass X T) (hT:0≤T∧T≤1000000000000000) (hB:0≤num X 2∧num X 2≤100000):∀ m,m≤n →
  Mass (folds (putR (j:Int) A) X m) (T+12^j*sumI (relI A (j:Int)) m)∧num (folds (putR (j:Int) A) X m) 2=num X 2+sumI (relI A (j:Int)) m∧Good S b j (folds (putR (j:Int) A) X m)
 | 0,_=>⟨by show Mass X (T+12^j*0);rw [Int.mul_zero,Int.add_zero];exact hM,by show num X 2=num X 2+0;omega,hX⟩
 | m+1,hm=>by
  obtain ⟨h1,h2,h3⟩:=Ygh hX hr hh hn hj hM hT hB m (by omega)
  have hk:=hr m (by omega)
  have hg:=Yis (h:=(j:Int)) (k:=m) (A:=A) h3 hk.1
  obtain ⟨s0,s1⟩:=Zzp hr (j:Int) m (by omega)
  have hp:=Zo7 j
  have hp8:=Yez hj
  rw [Yhr] at hp8
  rw [Zh4,sumI]
  generalize folds (putR (j:Int) A) X m=Y at h1 h2 h3 hg⊢
  generalize sumI (relI A (j:Int)) m=s at h1 h2 s0 s1⊢
  have hz:Y.size=40:=by rw [h3.1.layLen];kernel_rfl
  have e1:i64.wrap (num (A.extract (m*3) (m*3+3)) 1)=num (A.extract (m*3) (m*3+3)) 1:=IntWalk.i64_in _ (by have:=hk.2.1;omega)
  unfold putR at hg⊢
  rw [e1] at hg⊢
  unfold relI
  by_cases e:num (A.extract (m*3) (m*3+3)) 1=(j:Int)
  ·rw [show (num (A.extract (m*3) (m*3+3)) 1==(j:Int))=true from beq_iff_eq.2 e,cond_true] at hg⊢
   rw [if_pos e]
   obtain ⟨b0,b1⟩:=hk.2.2
   have e2:i64.wrap (num (A.extract (m*3) (m*3+3)) 2)=num (A.extract (m*3) (m*3+3)) 2:=IntWalk.i64_in _ (by omega)
   rw [e2] at hg⊢
   obtain ⟨c0,c1,-⟩:=hk.1
   generalize num (A.extract (m*3) (m*3+3)) 0=c at c0 c1 hg⊢
   generalize num (A.extract (m*3) (m*3+3)) 2=q at b0 b1 hg⊢
   have pw0:(0:Int)≤q*12^j:=Int.mul_nonneg (by omega) (Int.le_of_lt hp)
   have pw1:q*12^j≤200*429981696:=Int.mul_le_mul b1 hp8 (Int.le_of_lt hp) (by omega)
   have ps0:(0:Int)≤12^j*s:=Int.mul_nonneg (Int.le_of_lt hp) s0
   have ps1:(12:Int)^j*s≤429981696*2400:=Int.mul_le_mul hp8 (by omega) s0 (by omega)
   have e3:i64.wrap (q*12^(j:Int).toNat)=q*12^j:=by rw [Int.toNat_natCast];exact IntWalk.i64_in _ (by omega)
   rw [e3] at hg⊢
   refine ⟨?_, ?_,hg⟩
   ·have:=mass_put hz h1 (c:=c.toNat) (by omega) (b:=q) pw0 (by omega)
    rw [Int.mul_add,Int.mul_comm (12^j) q,← Int.add_assoc]
    exact this
   ·rw [(Yje hz (c:=c.toNat) (by omega) _ _).1,h2,IntWalk.i64_in _ (by omega)];omega
  ·rw [show (num (A.extract (m*3) (m*3+3)) 1==(j:Int))=false from beq_eq_false_iff_ne.2 e,cond_false] at hg⊢
   rw [if_neg e,Int.add_zero]
   exact ⟨h1,h2,hg⟩
theorem hour_two {S X:Array Value} (hX:WT Tryz.prog 60 X):num (hourV Tryz.prog S X) 2=num X 2:=by
 obtain ⟨i1,i2⟩:=Zqt X
 have w1:=(Znt (S:=S) hX).int (o:=2) (k:=.i64) (Zjo (by omega) (by omega))
 have w2:=hX.int (o:=2) (k:=.i64) (Zjo (by omega) (by omega))
 refine cg_eq ?_ w1.2 w2.2
 rw [Zt7 S X (by omega)]
 have:=i2 2 (by omega) (by omega)
 rw [if_pos rfl] at this
 exact this
theorem Ybm {S A:Array Value} {b h:Int} {n:Nat} (hS:WT Tryz.prog 41 S) (hok:okS S=true) (hb:0≤b∧b≤1) (hr:RelOk S A n h) (hh:h≤8) (hn:n≤12):∀ j,j≤8 →
  Mass (spreadV Tryz.prog S b n A j) (12^j*relT A n j)∧num (spreadV Tryz.prog S b n A j) 2=relT A n j∧0≤relT A n j∧relT A n j≤2400*j
 | 0,_=>by
  have z0:∀ i,i<40→num (zc Tryz.prog 60) i=0:=by
   have:((List.range 40).all fun i=>num (zc Tryz.prog 60) i==0)=true:=by kernel_rfl
   intro i hi
   exact eq_of_beq (List.all_eq_true.1 this i (List.mem_range.2 hi))
  have hv:∀ i,1≤i→i<40→num (spreadV Tryz.prog S b n A 0) i=0:=fun i h1 hi=>by
   rw [spreadV,Zbt,if_neg (by omega)];exact z0 i hi
  have e0:relT A n 0=0:=rfl
  rw [e0,Int.mul_zero]
  refine ⟨⟨fun i hi=>by rw [hv (3+i) (by omega) (by omega)];exact Int.le_refl _, ?_⟩,hv 2 (by omega) (by omega),Int.le_refl _,by omega⟩
  exact (Zg2 37 (g:=fun _=>0) fun i hi=>hv (3+i) (by omega) (by omega)).trans (Zk4 37)
 | j+1,hj=>by
  obtain ⟨h1,h2,h3,h4⟩:=Ybm hS hok hb hr hh hn j (by omega)
  have hG:=Zkw (A:=A) (n:=n) hS hok hb (fun k hk=>(hr k hk).1) j (by omega)
  have hp:=Zo7 j
  have hp8:=Yez (show j≤8 by omega)
  rw [Yhr] at hp8
  obtain ⟨s0,s1⟩:=Zzp hr (j:Int) n (Nat.le_refl _)
  have t0:(0:Int)≤12^j*relT A n j:=Int.mul_nonneg (Int.le_of_lt hp) h3
  have t1:(12:Int)^j*relT A n j≤429981696*19200:=Int.mul_le_mul hp8 (by omega) h3 (by omega)
  have q0:(0:Int)≤12^j*sumI (relI A (j:Int)) n:=Int.mul_nonneg (Int.le_of_lt hp) s0
  have q1:(12:Int)^j*sumI (relI A (j:Int)) n≤429981696*2400:=Int.mul_le_mul hp8 (by omega) s0 (by omega)
  obtain ⟨m1,m2,m3⟩:=Ygh hG hr hh hn (by omega) h1 ⟨t0,by omega⟩ (by rw [h2];omega) n (Nat.le_refl _)
  have hgo:=(Yhh hok hb (by omega) m3).2
  have hM:=(Yl5 hS m3.1 hok m1 (by omega) (t:=(tdS (folds (putR (j:Int) A) (spreadV Tryz.prog S b n A j) n)).toNat) (by omega) (by omega)).1
  have e1:relT A n (j+1)=relT A n j+sumI (relI A (j:Int)) n:=rfl
  rw [spreadV,e1]
  refine ⟨?_, ?_,by omega,by omega⟩
  ·rw [Int.pow_succ,Int.mul_comm (12^j) 12,Int.mul_assoc,Int.mul_add]
   exact hM
  ·unfold withV
   rw [hour_two m3.1,m2,h2]
theorem Ymd {S A:Array Value} {n:Nat} {h:Int} (hr:RelOk S A n h) (hn:0<n):∀ j:Nat,num (A.extract (0*3) (0*3+3)) 1<(j:Int)→1≤relT A n j
 | 0,hj=>by have:=(hr 0 hn).2.1;omega
 | j+1,hj=>by
  have h1:=(Zzp hr (j:Int) n (Nat.le_refl _)).1
  have key:∀ i,i<n→0≤relI A (j:Int) i:=fun i hi=>by
   have:=(hr i hi).2.2
   unfold relI;split<;>omega
  have e1:relT A n (j+1)=relT A n j+sumI (relI A (j:Int)) n:=rfl
  have nn:∀ i:Nat,0≤relT A n i:=by
   intro i
   induction i with
   | zero=>exact Int.le_refl _
   | succ i ih=>
    have e:relT A n (i+1)=relT A n i+sumI (relI A (i:Int)) n:=rfl
    have:=(Zzp hr (i:Int) n (Nat.le_refl _)).1
    omega
  rw [e1]
  by_cases e:num (A.extract (0*3) (0*3+3)) 1=(j:Int)
  ·have h2:=Zqj (f:=relI A (j:Int)) (i:=0) n hn key
   have h3:relI A (j:Int) 0=num (A.extract (0*3) (0*3+3)) 2:=by unfold relI;rw [if_pos e]
   have:=(hr 0 hn).2.2
   have:=nn j
   omega
  ·have:=Ymd hr hn j (by omega)
   omega
def maskV (c:Int) (X:Array Value):Nat→Int
 | 0=>0
 | k+1=>bif bitI c k then i64.wrap (maskV c X k+num X (3+k*1)) else maskV c X k
theorem Ybn {X:Array Value} {T:Int} (hM:Mass X T) (hT:T≤9223372036854775807) (c:Int):∀ k,k≤37→0≤maskV c X k∧maskV c X k≤sumI (fun i=>num X (3+i)) k∧sumI (fun i=>num X (3+i)) k≤T
 | 0,_=>⟨Int.le_refl _,Int.le_refl _,by have:=Zkz (f:=fun i=>num X (3+i)) 37 hM.1;rw [hM.2] at this;exact this⟩
 | k+1,hk=>by
  obtain ⟨h1,h2,h3⟩:=Ybn hM hT c k (by omega)
  have hx:=hM.1 k (by omega)
  have hle:sumI (fun i=>num X (3+i)) (k+1)≤T:=by
   rw [← hM.2]
   have key:∀ m,k+1+m≤37→sumI (fun i=>num X (3+i)) (k+1)≤sumI (fun i=>num X (3+i)) (k+1+m):=by
    intro m
    induction m with
    | zero=>intro _;exact Int.le_refl _
    | succ m ih=>
     intro hm
     have a1:=ih (by omega)
     have a2:=hM.1 (k+1+m) (by omega)
     have a3:sumI (fun i=>num X (3+i)) (k+1+(m+1))=sumI (fun i=>num X (3+i)) (k+1+m)+num X (3+(k+1+m)):=rfl
     omega
   have a1:=key (36 - k) (by omega)
   rw [show k+1+(36 - k)=37 by omega] at a1
   exact a1
  have e1:sumI (fun i=>num X (3+i)) (k+1)=sumI (fun i=>num X (3+i)) k+num X (3+k):=rfl
  rw [e1] at hle⊢
  rw [maskV,show 3+k*1=3+k by omega]
  cases bitI c k with
  | false=>rw [cond_false];omega
  | true=>rw [cond_true,IntWalk.i64_in _ (by omega)];omega
def Zf5 (a1:Int) (a0:Array Value):St:=(⟨.a (.w 0) :: .a (.i .u64 (a1)) :: .a (.u) :: .a (.u) :: .a (.i .i64 (0:Int)) :: .a (.i .i64 (0:Int)) :: .a (.i .i64 (0:Int))::us 19 ([]),[.row a0 60],[]⟩:St)
def Zhi:Int×Int→LS
 | (y0_5,y0_6)=>([.a (.i .i64 (y0_5)),.a (.i .i64 (y0_6))],[])
def Zl8:Int×Int→Exit×LS
 | t=>((.exit 0),Zhi t)
def Zdf (P : Program) (a1 : Int) (a0 : Array Value) : Int × Int → Option (Stp (Int × Int) (Int × Int))
 | (y0_5, y0_6) => bif decide (y0_6 < (36 : Int)) then (bif decide (0 ≤ (IntKind.u64.wrap y0_6)) then (bif (((((a1).fdiv (2 ^ (min ((IntKind.u64.wrap y0_6)).toNat IntKind.u64.bits)))).tmod (2 : Int)) == (1 : Int)) then (bif (decide (0 ≤ y0_6) && decide (y0_6 < 36)) then (some (.more ((i64.wrap (y0_5 + (num a0 (3 + ((y0_6).toNat * 1))))), (i64.wrap (y0_6 + (1 : Int))))))
     else (none))
    else (some (.more (y0_5, (i64.wrap (y0_6 + (1 : Int)))))))
   else (none))
  else (some (.done (y0_5, y0_6)))
theorem Yby (N:Nat) (a1:Int) (a0:Array Value):∀ t:Int×Int,stepV Tryz.prog (mkΓ []) N (cAt (codeOf Tryz.f21) [1,1,0,1,0,0]) (pAt (mkPlan (codeOf Tryz.f21) [([5,6],[])]).1 [1,1,0,1,0]) [5,6] [] (Zf5 a1 a0) (Zhi t)=mapS Zhi Zl8 (Zdf Tryz.prog a1 a0 t):=by
 rintro ⟨y0_5,y0_6⟩
 refine Eq.trans (b:=(bif decide (y0_6<(36:Int)) then (bif decide (0≤(IntKind.u64.wrap y0_6)) then (bif (((((a1).fdiv (2^(min ((IntKind.u64.wrap y0_6)).toNat IntKind.u64.bits)))).tmod (2:Int))==(1:Int)) then (bif (decide (0≤y0_6)&&decide (y0_6<36)) then (some (.more ([.a (.i .i64 (i64.wrap (y0_5+(num a0 (3+((y0_6).toNat*1)))))),.a (.i .i64 (i64.wrap (y0_6+(1:Int))))],[])))
     else (none))
    else (some (.more ([.a (.i .i64 (y0_5)),.a (.i .i64 (i64.wrap (y0_6+(1:Int))))],[]))))
   else (none))
  else (some (.done ((.exit 0),([.a (.i .i64 (y0_5)),.a (.i .i64 (y0_6))],[])))))) (by kernel_rfl) ?_
 simp only [Zdf,Zay,Zaz,Zax,Zaw,Zhi,Zl8]
def Zhp (P:Program) (N:Nat) (a1:Int) (a0:Array Value) (z0_5:Int) (z0_6:Int):Option (SV×Eff×Bool):=some (.a (.i .i64 (z0_5)),.none,true)
theorem Zr4 (N:Nat) (a1:Int) (a0:Array Value) (z0_5:Int) (z0_6:Int):(kBlock 0 (kSeq (veC Tryz.prog (mkΓ []) N (cAt (codeOf Tryz.f21) [1,1,1]) (pAt (mkPlan (codeOf Tryz.f21) [([5,6],[])]).1 [1,1,1]) (SV×Eff×Bool)) (finK Tryz.prog [.row a0 60] [.tmp 4]))) (.exit 0) (left (writes (cAt (codeOf Tryz.f21) [1,1,0,1,0,0])) [5,6] [] (Zf5 a1 a0) ([.a (.i .i64 (z0_5)),.a (.i .i64 (z0_6))],[]))=Zhp Tryz.prog N a1 a0 z0_5 z0_6:=by
 refine Eq.trans (b:=(some (.a (.i .i64 (z0_5)),.none,true))) (by kernel_rfl) ?_
 rfl
theorem Ycp (N:Nat) (a1:Int) (a0:Array Value):bindX (iterO (stepV Tryz.prog (mkΓ []) N (cAt (codeOf Tryz.f21) [1,1,0,1,0,0]) (pAt (mkPlan (codeOf Tryz.f21) [([5,6],[])]).1 [1,1,0,1,0]) [5,6] [] (Zf5 a1 a0)) N ([.a (.i .i64 (0:Int)),.a (.i .i64 (0:Int))],[])) (fun e s=>(kBlock 0 (kSeq (veC Tryz.prog (mkΓ []) N (cAt (codeOf Tryz.f21) [1,1,1]) (pAt (mkPlan (codeOf Tryz.f21) [([5,6],[])]).1 [1,1,1]) (SV×Eff×Bool)) (finK Tryz.prog [.row a0 60] [.tmp 4]))) e (left (writes (cAt (codeOf Tryz.f21) [1,1,0,1,0,0])) [5,6] [] (Zf5 a1 a0) s))=nodeX (iterO (Zdf Tryz.prog a1 a0) N ((0:Int),(0:Int))) (fun x=>Zhp Tryz.prog N a1 a0 x.1 x.2):=by
 refine Zbc Zhi Zl8 _ _ (Yby N a1 a0) N ((0:Int),(0:Int)) _ _ ?_
 intro x;exact Zr4 N a1 a0 x.1 x.2
theorem Yab (N:Nat) (a1:Int) (a0:Array Value):ansV Tryz.prog (mkΓ []) N Tryz.f21 [([5,6],[])] [.w 0,.i .u64 (a1)] [.row a0 60]=(nodeX (iterO (Zdf Tryz.prog a1 a0) N ((0:Int),(0:Int))) (fun x=>Zhp Tryz.prog N a1 a0 x.1 x.2)):=by
 refine Eq.trans (b:=(bindX (iterO (stepV Tryz.prog (mkΓ []) N (cAt (codeOf Tryz.f21) [1,1,0,1,0,0]) (pAt (mkPlan (codeOf Tryz.f21) [([5,6],[])]).1 [1,1,0,1,0]) [5,6] [] (Zf5 a1 a0)) N ([.a (.i .i64 (0:Int)),.a (.i .i64 (0:Int))],[])) (fun e s=>(kBlock 0 (kSeq (veC Tryz.prog (mkΓ []) N (cAt (codeOf Tryz.f21) [1,1,1]) (pAt (mkPlan (codeOf Tryz.f21) [([5,6],[])]).1 [1,1,1]) (SV×Eff×Bool)) (finK Tryz.prog [.row a0 60] [.tmp 4]))) e (left (writes (cAt (codeOf Tryz.f21) [1,1,0,1,0,0])) [5,6] [] (Zf5 a1 a0) s)))) (by kernel_rfl) ?_
 simp only [Ycp N a1 a0]
theorem Zyh (a1:Int) (a0:Array Value) (h_a1:IntKind.u64.min≤a1∧a1≤IntKind.u64.max) (h_a0:WT Tryz.prog 60 a0) (hg:(true)=true):ansV Tryz.prog (mkΓ []) 1000 Tryz.f21 [([5,6],[])] [.w 0,.i .u64 (a1)] [.row a0 60]=some (.a (.i .i64 (maskV a1 a0 36)),.none,true):=by
 refine (Yab 1000 a1 a0).trans ?_
 have hq:∀ q:Int,iterO (Zdf Tryz.prog a1 a0) 1000 ((0:Int),(0:Int))=some (q,(36:Int))→nodeX (iterO (Zdf Tryz.prog a1 a0) 1000 ((0:Int),(0:Int))) (fun x=>Zhp Tryz.prog 1000 a1 a0 x.1 x.2)=some (.a (.i .i64 q),.none,true):=fun q e=>by rw [e];rfl
 refine hq _ ?_
 exact Zei (g:=Zdf Tryz.prog a1 a0) (fun k=>(maskV a1 a0 k,(k:Int))) (m:=36) (x:=(maskV a1 a0 36,(36:Int))) (N:=1000) (fun k hk=>by
  have h1:decide ((k:Int)<36)=true:=decide_eq_true (by omega)
  have h0:decide (0≤(k:Int))=true:=decide_eq_true (by omega)
  have h3:i64.wrap ((k:Int)+1)=((k+1:Nat):Int):=by rw [w64 (by omega)];omega
  have h6:decide (0≤IntKind.u64.wrap (k:Int))=true:=decide_eq_true (Zgl .u64 _).1
  have hb:((a1.fdiv (2^(min (IntKind.u64.wrap (k:Int)).toNat IntKind.u64.bits))).tmod (2:Int)==(1:Int))=bitI a1 k:=by rw [u64w hk,Int.toNat_natCast];exact Yle h_a1 (by omega)
  simp only [Zdf,h1,h0,h3,h6,Int.toNat_natCast,Bool.and_self,cond_true]
  rw [hb]
  skip
  have e7:maskV a1 a0 (k+1)=bif bitI a1 k then i64.wrap (maskV a1 a0 k+num a0 (3+k*1)) else maskV a1 a0 k:=rfl
  rw [e7]
  cases bitI a1 k<;>simp only [cond_true,cond_false]) (by
  have h1:decide (((36:Nat):Int)<36)=false:=by decide
  simp only [Zdf,h1,cond_false]
  rfl) (by omega)
def Zlf:Con:=fun args h=>match args,h with
 | [.w 0,.i .u64 a1],[.row a0 60]=>some (.a (.i .i64 (maskV a1 a0 36)),.none,true)
 | _,_=>none
theorem Zv4:EntX Tryz.prog 21:=Zaf (fn:=Tryz.f21) (by kernel_rfl) (by kernel_rfl) (by kernel_rfl)
theorem Yb3:ConOkX (md F) Tryz.prog 21 Zlf:=(Zag (N:=1000) (by kernel_rfl) mkΓ_nilX (fn:=Tryz.f21) (by kernel_rfl) (by kernel_rfl) [([5,6],[])]).of (by
 intro ρ h w args vals r e hA hH hr
 unfold Zlf at hr
 split at hr
 ·rename_i a1 a0
  obtain ⟨rfl,hg⟩:=Prod.mk.inj (Option.some.inj hr)
  obtain ⟨rfl,hg2⟩:=Prod.mk.inj hg
  exact Zyh a1 a0 (hA.rng 1 rfl) (hH.wt 0 rfl) hg2
 ·cases hr)
def Zej (a0:Array Value) (a1:Int):St:=(⟨.a (.g a0 60) :: .a (.i .u64 (a1)) :: .a (.w 0) :: .a (.u) :: .a (.i .i64 (0:Int)) :: .a (.i .i64 (0:Int)) :: .a (.u) :: .a (.u) :: .a (.p 0 (3) 58) :: .a (.g (a0.extract 3 (3+36)) 58) :: .a (.i .i64 (0:Int))::us 13 ([]),[.row a0 60,.no],[]⟩:St)
def Zfz:Int×Int→LS
 | (y0_5,y0_10)=>([.a (.i .i64 (y0_5)),.a (.i .i64 (y0_10))],[])
def Zj7:Int×Int→Exit×LS
 | t=>((.exit 0),Zfz t)
def Zcf (P : Program) (a0 : Array Value) (a1 : Int) : Int × Int → Option (Stp (Int × Int) (Int × Int))
 | (y0_5, y0_10) => bif decide (y0_10 < (36 : Int)) then (bif (decide (0 ≤ y0_10) && decide (y0_10 < 36)) then (bif decide (0 ≤ y0_10) then (bif ((IntKind.u64.wrap (BitVec.ofInt IntKind.u64.bits a1 &&& BitVec.ofInt IntKind.u64.bits (Zce y0_10)).toNat) != (0 : Int)) then (some (.more ((i64.wrap (y0_5 + (num (a0.extract 3 (3 + 36)) ((y0_10).toNat * 1)))), (i64.wrap (y0_10 + (1 : Int))))))
     else (some (.more (y0_5, (i64.wrap (y0_10 + (1 : Int)))))))
    else (none))
   else (none))
  else (some (.done (y0_5, y0_10)))
theorem Zxp (N:Nat) (a0:Array Value) (a1:Int):∀ t:Int×Int,stepV Tryz.prog (mkΓ [(52,con Zbl)]) N (cAt (codeOf Tryz.f29) [1,1,0,1,0,0]) (pAt (mkPlan (codeOf Tryz.f29) [([5,10],[])]).1 [1,1,0,1,0]) [5,10] [] (Zej a0 a1) (Zfz t)=mapS Zfz Zj7 (Zcf Tryz.prog a0 a1 t):=by
 rintro ⟨y0_5,y0_10⟩
 refine Eq.trans (b:=(bif decide (y0_10<(36:Int)) then (bif (decide (0≤y0_10)&&decide (y0_10<36)) then (bif decide (0≤y0_10) then (bif ((IntKind.u64.wrap (BitVec.ofInt IntKind.u64.bits a1 &&& BitVec.ofInt IntKind.u64.bits (Zce y0_10)).toNat) != (0:Int)) then (some (.more ([.a (.i .i64 (i64.wrap (y0_5+(num (a0.extract 3 (3+36)) ((y0_10).toNat*1))))),.a (.i .i64 (i64.wrap (y0_10+(1:Int))))],[])))
     else (some (.more ([.a (.i .i64 (y0_5)),.a (.i .i64 (i64.wrap (y0_10+(1:Int))))],[]))))
    else (none))
   else (none))
  else (some (.done ((.exit 0),([.a (.i .i64 (y0_5)),.a (.i .i64 (y0_10))],[])))))) (by kernel_rfl) ?_
 simp only [Zcf,Zay,Zaz,Zax,Zaw,Zfz,Zj7]
def Zgf (P:Program) (N:Nat) (a0:Array Value) (a1:Int) (z0_5:Int) (z0_10:Int):Option (SV×Eff×Bool):=some (.a (.i .i64 (z0_5)),.none,true)
theorem Zot (N:Nat) (a0:Array Value) (a1:Int) (z0_5:Int) (z0_10:Int):(kBlock 0 (kSeq (veC Tryz.prog (mkΓ [(52,con Zbl)]) N (cAt (codeOf Tryz.f29) [1,1,1]) (pAt (mkPlan (codeOf Tryz.f29) [([5,10],[])]).1 [1,1,1]) (SV×Eff×Bool)) (finK Tryz.prog [] [.tmp 4]))) (.exit 0) (left (writes (cAt (codeOf Tryz.f29) [1,1,0,1,0,0])) [5,10] [] (Zej a0 a1) ([.a (.i .i64 (z0_5)),.a (.i .i64 (z0_10))],[]))=Zgf Tryz.prog N a0 a1 z0_5 z0_10:=by
 refine Eq.trans (b:=(some (.a (.i .i64 (z0_5)),.none,true))) (by kernel_rfl) ?_
 rfl
theorem Zye (N:Nat) (a0:Array Value) (a1:Int):bindX (iterO (stepV Tryz.prog (mkΓ [(52,con Zbl)]) N (cAt (codeOf Tryz.f29) [1,1,0,1,0,0]) (pAt (mkPlan (codeOf Tryz.f29) [([5,10],[])]).1 [1,1,0,1,0]) [5,10] [] (Zej a0 a1)) N ([.a (.i .i64 (0:Int)),.a (.i .i64 (0:Int))],[])) (fun e s=>(kBlock 0 (kSeq (veC Tryz.prog (mkΓ [(52,con Zbl)]) N (cAt (codeOf Tryz.f29) [1,1,1]) (pAt (mkPlan (codeOf Tryz.f29) [([5,10],[])]).1 [1,1,1]) (SV×Eff×Bool)) (finK Tryz.prog [] [.tmp 4]))) e (left (writes (cAt (codeOf Tryz.f29) [1,1,0,1,0,0])) [5,10] [] (Zej a0 a1) s))=nodeX (iterO (Zcf Tryz.prog a0 a1) N ((0:Int),(0:Int))) (fun x=>Zgf Tryz.prog N a0 a1 x.1 x.2):=by
 refine Zbc Zfz Zj7 _ _ (Zxp N a0 a1) N ((0:Int),(0:Int)) _ _ ?_
 intro x;exact Zot N a0 a1 x.1 x.2
theorem Zwy (N:Nat) (a0:Array Value) (a1:Int):ansV Tryz.prog (mkΓ [(52,con Zbl)]) N Tryz.f29 [([5,10],[])] [.g a0 60,.i .u64 (a1)] []=(nodeX (iterO (Zcf Tryz.prog a0 a1) N ((0:Int),(0:Int))) (fun x=>Zgf Tryz.prog N a0 a1 x.1 x.2)):=by
 refine Eq.trans (b:=(bindX (iterO (stepV Tryz.prog (mkΓ [(52,con Zbl)]) N (cAt (codeOf Tryz.f29) [1,1,0,1,0,0]) (pAt (mkPlan (codeOf Tryz.f29) [([5,10],[])]).1 [1,1,0,1,0]) [5,10] [] (Zej a0 a1)) N ([.a (.i .i64 (0:Int)),.a (.i .i64 (0:Int))],[])) (fun e s=>(kBlock 0 (kSeq (veC Tryz.prog (mkΓ [(52,con Zbl)]) N (cAt (codeOf Tryz.f29) [1,1,1]) (pAt (mkPlan (codeOf Tryz.f29) [([5,10],[])]).1 [1,1,1]) (SV×Eff×Bool)) (finK Tryz.prog [] [.tmp 4]))) e (left (writes (cAt (codeOf Tryz.f29) [1,1,0,1,0,0])) [5,10] [] (Zej a0 a1) s)))) (by kernel_rfl) ?_
 simp only [Zye N a0 a1]
theorem Zva (a0:Array Value) (a1:Int) (h_a0:WT Tryz.prog 60 a0) (h_a1:IntKind.u64.min≤a1∧a1≤IntKind.u64.max) (hg:(true)=true):ansV Tryz.prog (mkΓ [(52,con Zbl)]) 1000 Tryz.f29 [([5,10],[])] [.g a0 60,.i .u64 (a1)] []=some (.a (.i .i64 (maskV a1 a0 36)),.none,true):=by
 refine (Zwy 1000 a0 a1).trans ?_
 have hq:∀ q:Int,iterO (Zcf Tryz.prog a0 a1) 1000 ((0:Int),(0:Int))=some (q,(36:Int))→nodeX (iterO (Zcf Tryz.prog a0 a1) 1000 ((0:Int),(0:Int))) (fun x=>Zgf Tryz.prog 1000 a0 a1 x.1 x.2)=some (.a (.i .i64 q),.none,true):=fun q e=>by rw [e];rfl
 refine hq _ ?_
 exact Zei (g:=Zcf Tryz.prog a0 a1) (fun k=>(maskV a1 a0 k,(k:Int))) (m:=36) (x:=(maskV a1 a0 36,(36:Int))) (N:=1000) (fun k hk=>by
  have h1:decide ((k:Int)<36)=true:=decide_eq_true (by omega)
  have h0:decide (0≤(k:Int))=true:=decide_eq_true (by omega)
  have h3:i64.wrap ((k:Int)+1)=((k+1:Nat):Int):=by rw [w64 (by omega)];omega
  have h6:decide (0≤IntKind.u64.wrap (k:Int))=true:=decide_eq_true (Zgl .u64 _).1
  have hb:(IntKind.u64.wrap (BitVec.ofInt IntKind.u64.bits a1 &&& BitVec.ofInt IntKind.u64.bits (Zce (k:Int))).toNat != (0:Int))=bitI a1 k:=by rw [Yau];exact Yjl (by omega)
  have h5:=num_part a0 (i:=k*1) (by omega)
  simp only [Zcf,h1,h0,h3,h6,Int.toNat_natCast,Bool.and_self,cond_true]
  rw [hb]
  rw [h5]
  have e7:maskV a1 a0 (k+1)=bif bitI a1 k then i64.wrap (maskV a1 a0 k+num a0 (3+k*1)) else maskV a1 a0 k:=rfl
  rw [e7]
  cases bitI a1 k<;>simp only [cond_true,cond_false]) (by
  have h1:decide (((36:Nat):Int)<36)=false:=by decide
  simp only [Zcf,h1,cond_false]
  rfl) (by omega)
def Zi3:Con:=fun args h=>match args,h with
 | [.g a0 60,.i .u64 a1],[]=>some (.a (.i .i64 (maskV a1 a0 36)),.none,true)
 | _,_=>none
theorem Zsh:EntX Tryz.prog 29:=Zaf (fn:=Tryz.f29) (by kernel_rfl) (by kernel_rfl) (by kernel_rfl)
theorem Zyp:ConOkX (md F) Tryz.prog 29 Zi3:=(Zag (N:=1000) (by kernel_rfl) (mkΓ_consX (Zad Zns) Zju mkΓ_nilX) (fn:=Tryz.f29) (by kernel_rfl) (by kernel_rfl) [([5,10],[])]).of (by
 intro ρ h w args vals r e hA hH hr
 unfold Zi3 at hr
 split at hr
 ·rename_i a0 a1
  obtain ⟨rfl,hg⟩:=Prod.mk.inj (Option.some.inj hr)
  obtain ⟨rfl,hg2⟩:=Prod.mk.inj hg
  exact Zva a0 a1 (hA.wt 0 rfl) (hA.rng 1 rfl) hg2
 ·cases hr)
theorem Zzg (N:Nat) (a0:Array Value):ansV Tryz.prog (mkΓ [(41,con Zfe)]) N Tryz.f22 [] [.w 0] [.row a0 60]=(bif (decide (0≤(i64.wrap (num a0 1)))&&decide ((i64.wrap (num a0 1))≤14)) then (some (.a (.i .i64 (i64.wrap ((num a0 2)*(12^(i64.wrap (num a0 1)).toNat)))),.none,true))
  else (none)):=by kernel_rfl
def Zdh (a0:Array Value):Int:=(i64.wrap ((num a0 2)*(12^(i64.wrap (num a0 1)).toNat)))
def Zf3 (a0:Array Value):Bool:=(decide (0≤(i64.wrap (num a0 1)))&&decide ((i64.wrap (num a0 1))≤14))
theorem Zx7 (a0:Array Value) (h_a0:WT Tryz.prog 60 a0) (hg:((Zf3 a0))=true):ansV Tryz.prog (mkΓ [(41,con Zfe)]) 1000 Tryz.f22 [] [.w 0] [.row a0 60]=some (.a (.i .i64 (Zdh a0)),.none,true):=by
 refine (Zzg 1000 a0).trans ?_
 unfold Zf3 at hg
 unfold Zdh
 revert hg
 generalize (decide (0≤(i64.wrap (num a0 1))))=b2
 intro hg
 cases b2
 ·skip
  first | exact (nomatch (hg:false=true)) | (simp only [cond_true,cond_false,Bool.and_true,Bool.true_and,Bool.and_false,Bool.false_and];done) | rfl
 ·skip
  revert hg
  generalize (decide ((i64.wrap (num a0 1))≤14))=b4
  intro hg
  cases b4
  ·skip
   first | exact (nomatch (hg:false=true)) | (simp only [cond_true,cond_false,Bool.and_true,Bool.true_and,Bool.and_false,Bool.false_and];done) | rfl
  ·skip
   first | (simp only [cond_true,cond_false,Bool.and_true,Bool.true_and,Bool.and_false,Bool.false_and];done) | rfl | exact (nomatch (hg:false=true))
def Zle:Con:=fun args h=>match args,h with
 | [.w 0],[.row a0 60]=>some (.a (.i .i64 (Zdh a0)),.none,(Zf3 a0))
 | _,_=>none
theorem Zvl:EntX Tryz.prog 22:=Zaf (fn:=Tryz.f22) (by kernel_rfl) (by kernel_rfl) (by kernel_rfl)
theorem Yb0:ConOkX (md F) Tryz.prog 22 Zle:=(Zag (N:=1000) (by kernel_rfl) (mkΓ_consX (Zad Zn4) Zk6 mkΓ_nilX) (fn:=Tryz.f22) (by kernel_rfl) (by kernel_rfl) []).of (by
 intro ρ h w args vals r e hA hH hr
 unfold Zle at hr
 split at hr
 ·rename_i a0
  obtain ⟨rfl,hg⟩:=Prod.mk.inj (Option.some.inj hr)
  obtain ⟨rfl,hg2⟩:=Prod.mk.inj hg
  exact Zx7 a0 (hH.wt 0 rfl) hg2
 ·cases hr)
theorem Ycc (N:Nat) (a0:Array Value):ansV Tryz.prog (mkΓ [(53,con Zav)]) N Tryz.f30 [] [.g a0 60] []=(bif (decide (0≤(i64.wrap (num a0 1)))&&decide ((i64.wrap (num a0 1))≤14)) then (some (.a (.i .i64 (i64.wrap ((num a0 2)*(12^(i64.wrap (num a0 1)).toNat)))),.none,true))
  else (none)):=by kernel_rfl
def Zd1 (a0:Array Value):Int:=(i64.wrap ((num a0 2)*(12^(i64.wrap (num a0 1)).toNat)))
def Zg0 (a0:Array Value):Bool:=(decide (0≤(i64.wrap (num a0 1)))&&decide ((i64.wrap (num a0 1))≤14))
theorem Zz8 (a0:Array Value) (h_a0:WT Tryz.prog 60 a0) (hg:((Zg0 a0))=true):ansV Tryz.prog (mkΓ [(53,con Zav)]) 1000 Tryz.f30 [] [.g a0 60] []=some (.a (.i .i64 (Zd1 a0)),.none,true):=by
 refine (Ycc 1000 a0).trans ?_
 unfold Zg0 at hg
 unfold Zd1
 revert hg
 generalize (decide (0≤(i64.wrap (num a0 1))))=b2
 intro hg
 cases b2
 ·skip
  first | exact (nomatch (hg:false=true)) | (simp only [cond_true,cond_false,Bool.and_true,Bool.true_and,Bool.and_false,Bool.false_and];done) | rfl
 ·skip
  revert hg
  generalize (decide ((i64.wrap (num a0 1))≤14))=b4
  intro hg
  cases b4
  ·skip
   first | exact (nomatch (hg:false=true)) | (simp only [cond_true,cond_false,Bool.and_true,Bool.true_and,Bool.and_false,Bool.false_and];done) | rfl
  ·skip
   first | (simp only [cond_true,cond_false,Bool.and_true,Bool.true_and,Bool.and_false,Bool.false_and];done) | rfl | exact (nomatch (hg:false=true))
def Zml:Con:=fun args h=>match args,h with
 | [.g a0 60],[]=>some (.a (.i .i64 (Zd1 a0)),.none,(Zg0 a0))
 | _,_=>none
theorem Zyn:EntX Tryz.prog 30:=Zaf (fn:=Tryz.f30) (by kernel_rfl) (by kernel_rfl) (by kernel_rfl)
theorem Yd7:ConOkX (md F) Tryz.prog 30 Zml:=(Zag (N:=1000) (by kernel_rfl) (mkΓ_consX (Zad Zl1) Zjk mkΓ_nilX) (fn:=Tryz.f30) (by kernel_rfl) (by kernel_rfl) []).of (by
 intro ρ h w args vals r e hA hH hr
 unfold Zml at hr
 split at hr
 ·rename_i a0
  obtain ⟨rfl,hg⟩:=Prod.mk.inj (Option.some.inj hr)
  obtain ⟨rfl,hg2⟩:=Prod.mk.inj hg
  exact Zz8 a0 (hA.wt 0 rfl) hg2
 ·cases hr)
end
end Go.Proofs.YtflnjkpejbohjaaGreatDoor
