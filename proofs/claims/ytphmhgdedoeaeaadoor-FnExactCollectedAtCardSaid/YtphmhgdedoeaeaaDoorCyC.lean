/- Sums of what has stranded, exactly; shares in lowest terms. -/
import Derived.Test.YtphmhgdedoeaeaaDoorProg
import Derived.Test.YtphmhgdedoeaeaaDoorCyA
namespace Go.Proofs.YtphmhgdedoeaeaaDoor
open Go.ChangeShapes Go.WideShapes Go.ChangeAt Go.RowKit Ve Vc
open Tryd (prog)
open IntKind (i64)
set_option linter.unusedVariables false
set_option linter.unusedSimpArgs false
set_option maxRecDepth 100000
noncomputable section
variable {F:Vc.Fd}
theorem sumI_nonneg {f:Nat→Int}:∀ n,(∀ k,k<n→0≤f k)→0≤sumI f n
 | 0,_=>Int.le_refl _
 | n+1,h=>by
  have h1:=sumI_nonneg n fun k hk=>h k (by omega)
  have h2:=h n (by omega)
  rw [sumI];omega
theorem sumI_one {f:Nat→Int} {i:Nat}:∀ n,i<n→(∀ k,k<n→0≤f k)→f i≤sumI f n
 | 0,hi,_=>by omega
 | n+1,hi,h=>by
  rw [sumI]
  by_cases e:i=n
  ·subst e
   have:=sumI_nonneg i fun k hk=>h k (by omega)
   omega
  ·have h1:=sumI_one (f:=f) (i:=i) n (by omega) fun k hk=>h k (by omega)
   have h2:=h n (by omega)
   omega
theorem sumI_mul (c:Int) (f:Nat→Int):∀ n,sumI (fun k=>c*f k) n=c*sumI f n
 | 0=>(Int.mul_zero c).symm
 | n+1=>by rw [sumI,sumI,sumI_mul c f n,Int.mul_add]
theorem sumI_hit (m:Int) {d o:Nat}:∀ n,sumI (fun i=>if d=o+i then m else 0) n=if o≤d∧d<o+n then m else 0
 | 0=>by rw [if_neg (by omega)];rfl
 | n+1=>by
  rw [sumI,sumI_hit m n]
  by_cases h:d=o+n
  ·rw [if_pos h,if_neg (by omega),if_pos (by omega)];omega
  ·rw [if_neg h]
   by_cases h2:o≤d∧d<o+n
   ·rw [if_pos h2,if_pos (by omega)];omega
   ·rw [if_neg h2,if_neg (by omega)];rfl
theorem sumW_sum {a:Array Value} {f:Nat→Int} (hf:∀ w,w<5→num a (w*1)=f w∧0≤f w∧f w≤255):∀ n,n≤5→sumW a n=sumI f n∧0≤sumI f n∧sumI f n≤255*n
 | 0,_=>⟨rfl,Int.le_refl _,Int.le_refl _⟩
 | n+1,hn=>by
  obtain ⟨h1,h2,h3⟩:=sumW_sum hf n (by omega)
  obtain ⟨q1,q2,q3⟩:=hf n (by omega)
  rw [sumW,sumI,h1,q1,w64 (n:=f n) (by omega),IntWalk.i64_in _ (by omega)]
  refine ⟨rfl,by omega,by omega⟩
noncomputable def chP (S:Array Value) (t k w:Nat):Int:=num S (3+t*180+k*5+w)
theorem ch_sum {S:Array Value} (hS:WT prog 36 S) (hok:okS S=true) {t k:Nat} (ht:t<2) (hk:k<36) (hw:(inC (num S 0) (num S 1) k && !(bitI (num S 2) k))=true):sumI (chP S t k) 5=12∧∀ w,w<5→0≤chP S t k w∧chP S t k w≤12:=by
 have hr:∀ w,w<5→0≤chP S t k w∧chP S t k w≤255:=fun w hw=>by
  have:=(sea_u8 hS (i:=t*180+k*5+w) (by omega)).2
  unfold chP
  rw [show 3+t*180+k*5+w=3+(t*180+k*5+w) by omega]
  exact this
 have hf:=okS_fit hok ht hk
 unfold fitS at hf
 rw [hw,cond_true] at hf
 have hs:=(sumW_sum (a:=chR S t k) (f:=chP S t k) (fun w hw=>⟨by unfold chR chP;rw [num_sub (by omega),Nat.mul_one],hr w hw⟩) 5 (Nat.le_refl _)).1
 have h12:sumI (chP S t k) 5=12:=by rw [← hs];exact eq_of_beq hf
 refine ⟨h12,fun w hw=>⟨(hr w hw).1, ?_⟩⟩
 rw [← h12]
 exact sumI_one (f:=chP S t k) 5 hw fun q hq=>(hr q hq).1
noncomputable def Mass (X:Array Value) (T:Int):Prop:=(∀ i,i<37→0≤num X (3+i))∧sumI (fun i=>num X (3+i)) 37=T
theorem Mass.le {X:Array Value} {T:Int} (h:Mass X T) {i:Nat} (hi:i<37):0≤num X (3+i)∧num X (3+i)≤T:=⟨h.1 i hi,by rw [← h.2];exact sumI_one (f:=fun i=>num X (3+i)) 37 hi h.1⟩
noncomputable def cellE (S X:Array Value) (j k:Nat):Int:=if spec_l01Wet_v0 (k:Int) S=true then sumI (fun w=>if destW (spec_l01Goes_v0 (k:Int) (w:Int) S)=j then muF S X (tdS X) k w else 0) 5 else if 3+k*1=j then num X (3+k*1)*12 else 0
theorem cell_sum {S X:Array Value} (hS:WT prog 36 S) (hok:okS S=true) {T:Int} (hM:Mass X T) (hT:T*12≤9223372036854775807) {t:Nat} (ht:t<2) (htd:tdS X=(t:Int)) {k:Nat} (hk:k<36):(∀ j,0≤cellE S X j k)∧sumI (fun i=>cellE S X (3+i) k) 37=12*num X (3+k):=by
 obtain ⟨x0,x1⟩:=hM.le (i:=k) (by omega)
 have hwet:=(wet_in hS hk).2
 unfold cellE
 cases hw:spec_l01Wet_v0 (k:Int) S with
 | false=>
  simp only [Bool.false_eq_true,if_false]
  refine ⟨fun j=> ?_, ?_⟩
  ·split
   ·rw [show 3+k*1=3+k by omega];omega
   ·exact Int.le_refl _
  ·rw [sumI_hit (num X (3+k*1)*12) (d:=3+k*1) (o:=3) 37,if_pos (by omega),show 3+k*1=3+k by omega,Int.mul_comm]
 | true=>
  rw [hw] at hwet
  obtain ⟨c1,c2⟩:=ch_sum hS hok ht hk hwet.symm
  have hi:inC (num S 0) (num S 1) k=true:=(Bool.and_eq_true_iff.1 hwet.symm).1
  have hmu:∀ w,w<5→muF S X (tdS X) k w=num X (3+k)*chP S t k w∧0≤num X (3+k)*chP S t k w:=fun w hw5=>by
   obtain ⟨d1,d2⟩:=c2 w hw5
   have hp:0≤num X (3+k)*chP S t k w:=Int.mul_nonneg x0 d1
   have hq:num X (3+k)*chP S t k w≤T*12:=Int.mul_le_mul x1 d2 d1 (by omega)
   refine ⟨?_,hp⟩
   unfold muF chW
   rw [htd,Int.toNat_natCast,Int.toNat_natCast,show 3+k*1=3+k by omega]
   have e:num S (((3+(t*180))+(k*5))+w)=chP S t k w:=rfl
   rw [e,w64 (n:=chP S t k w) (by omega),IntWalk.i64_in _ (by omega)]
  simp only [if_true]
  refine ⟨fun j=>sumI_nonneg 5 fun w hw5=> ?_, ?_⟩
  ·split
   ·rw [(hmu w hw5).1];exact (hmu w hw5).2
   ·exact Int.le_refl _
  ·rw [sumI_swap (fun i w=>if destW (spec_l01Goes_v0 (k:Int) (w:Int) S)=3+i then muF S X (tdS X) k w else 0) 5 37]
   refine (sumI_congr 5 (g:=fun w=>num X (3+k)*chP S t k w) fun w hw5=> ?_).trans ?_
   ·rw [sumI_hit (muF S X (tdS X) k w) (d:=destW (spec_l01Goes_v0 (k:Int) (w:Int) S)) (o:=3) 37,if_pos,(hmu w hw5).1]
    unfold destW
    by_cases hg:spec_l01Goes_v0 (k:Int) (w:Int) S<0
    ·rw [if_pos hg];omega
    ·rw [if_neg hg]
     obtain ⟨r1,r2⟩:=goes_range (okS_dims hok) hk hi hw5 hg
     omega
   ·rw [sumI_mul,c1,Int.mul_comm]
theorem hour_mass {S X:Array Value} (hS:WT prog 36 S) (hX:WT prog 108 X) (hok:okS S=true) {T:Int} (hM:Mass X T) (hT:T*12≤9223372036854775807) {t:Nat} (ht:t<2) (htd:tdS X=(t:Int)) :
  Mass (hourV prog S X) (12*T)∧∀ k:Nat,k<36→spec_l01Wet_v0 (k:Int) S=false→12*num X (3+k)≤num (hourV prog S X) (3+k):=by
 obtain ⟨i1,i2⟩:=hourI_high X
 have o1:0≤num X 39∧num X 39≤T:=hM.le (i:=36) (by omega)
 have hcell:=fun k hk=>cell_sum hS hok hM hT ht htd (k:=k) hk
 have hsum:sumI (fun i=>(if 39=3+i then num X 39*12 else 0)+sumI (fun k=>cellE S X (3+i) k) 36) 37=12*T:=by
  rw [sumI_add,sumI_hit (num X 39*12) (d:=39) (o:=3) 37,if_pos (by omega),sumI_swap (fun i k=>cellE S X (3+i) k) 36 37,sumI_congr 36 (g:=fun k=>12*num X (3+k)) fun k hk=>(hcell k hk).2,sumI_mul,← hM.2]
  have e37:sumI (fun i=>num X (3+i)) 37=sumI (fun i=>num X (3+i)) 36+num X 39:=rfl
  rw [e37,Int.mul_add]
  omega
 have hnn:∀ i,i<37→0≤(if 39=3+i then num X 39*12 else 0)+sumI (fun k=>cellE S X (3+i) k) 36:=fun i hi=>by
  have h1:=sumI_nonneg (f:=fun k=>cellE S X (3+i) k) 36 fun k hk=>(hcell k hk).1 (3+i)
  split
  ·have:=o1.1;omega
  ·omega
 have hval:∀ i,i<37→num (hourV prog S X) (3+i)=(if 39=3+i then num X 39*12 else 0)+sumI (fun k=>cellE S X (3+i) k) 36:=fun i hi=>by
  have hw:=(hourV_wt (S:=S) hX).int (o:=3+i) (k:=.i64) (lay_at (by omega) (by omega))
  have hle:(if 39=3+i then num X 39*12 else 0)+sumI (fun k=>cellE S X (3+i) k) 36≤12*T:=by
   rw [← hsum]
   exact sumI_one (f:=fun i=>(if 39=3+i then num X 39*12 else 0)+sumI (fun k=>cellE S X (3+i) k) 36) 37 hi hnn
  have:=hnn i hi
  refine cg_eq ((hourV_cg i1 (j:=3+i) (by omega)).trans (((i2 (3+i) (by omega) (by omega)).add (.refl _)).trans (.of ?_))) hw.2 (by omega)
  rw [if_neg (show ¬ 3+i=2 by omega)]
  by_cases e:3+i=39
  ·rw [if_pos e,if_pos e.symm];rfl
  ·rw [if_neg e,if_neg (fun h=>e h.symm)];rfl
 refine ⟨⟨fun i hi=>by rw [hval i hi];exact hnn i hi, ?_⟩,fun k hk hd=> ?_⟩
 ·rw [← hsum]
  exact sumI_congr 37 hval
 ·rw [hval k (by omega)]
  have h1:=sumI_one (f:=fun q=>cellE S X (3+k) q) (i:=k) 36 hk fun q hq=>(hcell q hq).1 (3+k)
  have h2:cellE S X (3+k) k=num X (3+k)*12:=by
   unfold cellE
   rw [hd,if_neg (by simp),if_pos (by omega),show 3+k*1=3+k by omega]
  rw [if_neg (show ¬ 39=3+k by omega)]
  omega
theorem pow12_pos:∀ n:Nat,0<(12:Int)^n:=fun n=>Int.pow_pos (by omega)
theorem pow12_le {n m:Nat} (h:n≤m):(12:Int)^n≤12^m:=by
 obtain ⟨d,rfl⟩:=Nat.exists_eq_add_of_le h
 rw [Int.pow_add]
 have h1:=pow12_pos n
 have h2:=pow12_pos d
 exact Int.le_trans (by omega) (Int.mul_le_mul_of_nonneg_left (show (1:Int)≤12^d by omega) (Int.le_of_lt h1))
theorem pow12_14:(12:Int)^14=1283918464548864:=by decide
theorem one_mass {c b:Int} (hc:0≤c∧c≤35) (hb:0≤b∧b≤1):Mass (oneX prog c b) 1:=by
 obtain ⟨_,_,_,n3⟩:=oneX_num (c:=c) (b:=b) hb hc
 have hv:∀ i,i<37→num (oneX prog c b) (3+i)=if c.toNat=0+i then 1 else 0:=fun i hi=>by
  by_cases h:i<36
  ·rw [n3 i h]
   by_cases e:i=c.toNat
   ·rw [if_pos e,if_pos (by omega)]
   ·rw [if_neg e,if_neg (by omega)]
  ·obtain rfl:i=36:=by omega
   rw [if_neg (by omega)]
   have hz:=zero_spread.2 39 (by omega) (by omega)
   unfold oneX
   rw [num_setI,if_neg (by omega),num_setI,if_neg (by omega),num_setI,if_neg (by omega)]
   exact hz
 refine ⟨fun i hi=>by rw [hv i hi];split<;>omega, ?_⟩
 rw [sumI_congr 37 hv,sumI_hit 1 37,if_pos (by omega)]
theorem drift_mass {S:Array Value} (hS:WT prog 36 S) (hok:okS S=true) {c b:Int} (hc:spec_l01Is_v0 c S=true) (hb:spec_l00In_v0 b 0 1=true):∀ n,n≤14→Mass (driftV prog S (oneX prog c b) n) (12^n) ∧
  ∀ m,m<n→∀ k:Nat,k<36→spec_l01Wet_v0 (k:Int) S=false→12*num (driftV prog S (oneX prog c b) m) (3+k)≤num (driftV prog S (oneX prog c b) (m+1)) (3+k)
 | 0,_=>⟨one_mass (is_range hc) (in_range hb),fun m hm=>by omega⟩
 | n+1,hn=>by
  obtain ⟨h1,h2⟩:=drift_mass hS hok hc hb n (by omega)
  have hl:=one_low hc hb
  have hp:=pow12_le (n:=n+1) (m:=14) hn
  rw [pow12_14] at hp
  have ht:=td_drift (S:=S) hl.1 hl.2 (n:=n) (by omega)
  obtain ⟨q1,q2⟩:=hour_mass hS (drift_wt (S:=S) (oneX_wt (is_range hc)) n) hok h1 (by rw [← Int.pow_succ];omega) (t:=(tdS (driftV prog S (oneX prog c b) n)).toNat) (by omega) (by omega)
  refine ⟨by rw [Int.pow_succ,Int.mul_comm];exact q1,fun m hm k hk hd=> ?_⟩
  by_cases e:m<n
  ·exact h2 m e k hk hd
  ·obtain rfl:m=n:=by omega
   exact q2 k hk hd
theorem drift_keep {S:Array Value} (hS:WT prog 36 S) (hok:okS S=true) {c b:Int} (hc:spec_l01Is_v0 c S=true) (hb:spec_l00In_v0 b 0 1=true) {k:Nat} (hk:k<36) (hd:spec_l01Wet_v0 (k:Int) S=false) (n:Nat):∀ d,n+d≤14→num (driftV prog S (oneX prog c b) n) (3+k)*12^d≤num (driftV prog S (oneX prog c b) (n+d)) (3+k)
 | 0,_=>by rw [Int.pow_zero,Int.mul_one];exact Int.le_refl _
 | d+1,h=>by
  have ih:=drift_keep hS hok hc hb hk hd n d (by omega)
  have h2:=(drift_mass hS hok hc hb (n+d+1) (by omega)).2 (n+d) (by omega) k hk hd
  rw [Int.pow_succ,← Int.mul_assoc,show n+(d+1)=n+d+1 by omega]
  omega
theorem num_setV (r:Array Value) (i j:Nat) (n:Int) (h:r.size=36) (hi:i<36):num (r.setIfInBounds (i*1) (.int .i64 n)) j=if i=j then n else num r j:=by
 unfold num
 rw [Array.getElem?_setIfInBounds]
 by_cases e:i=j
 ·rw [if_pos (by omega),if_pos (by omega),if_pos e]
 ·rw [if_neg (by omega),if_neg e]
theorem row_zeros {j:Nat} (hj:j<36):num (zc prog 29) j=0:=by
 have hc:(List.range 36).all (fun j=>(num (zc prog 29) j==0))=true:=by kernel_rfl
 exact eq_of_beq (List.all_eq_true.1 hc j (List.mem_range.2 hj))
theorem landV_num (S X:Array Value) {k:Nat} (hk:k<36):num (landV prog S X) k=if (inC (num S 0) (num S 1) k&&impl_isLand_v0 S (k:Int))=true then num X (3+k) else 0:=by
 have key:∀ n,n≤36→(folds (fun r k=>if inC (num S 0) (num S 1) k&&impl_isLand_v0 S (k:Int) then landF X r k else r) (zc prog 29) n).size=36∧num (folds (fun r k=>if inC (num S 0) (num S 1) k&&impl_isLand_v0 S (k:Int) then landF X r k else r) (zc prog 29) n) k=if k<n∧(inC (num S 0) (num S 1) k&&impl_isLand_v0 S (k:Int))=true then num X (3+k) else 0:=by
  intro n
  induction n with
  | zero=>intro _;exact ⟨row_zero,by rw [if_neg (by omega)];exact row_zeros hk⟩
  | succ n ih=>
   intro hn
   obtain ⟨h1,h2⟩:=ih (by omega)
   rw [folds_succ]
   generalize folds (fun r k=>if inC (num S 0) (num S 1) k&&impl_isLand_v0 S (k:Int) then landF X r k else r) (zc prog 29) n=r at h1 h2⊢
   by_cases hq:(inC (num S 0) (num S 1) n&&impl_isLand_v0 S (n:Int))=true
   ·rw [if_pos hq]
    unfold landF
    refine ⟨by rw [Array.size_setIfInBounds];exact h1, ?_⟩
    rw [num_setV _ _ _ _ h1 (by omega),h2]
    by_cases e:n=k
    ·subst e;rw [if_pos rfl,if_pos ⟨by omega,hq⟩,show 3+n*1=3+n by omega]
    ·rw [if_neg e]
     by_cases hkn:k<n∧(inC (num S 0) (num S 1) k&&impl_isLand_v0 S (k:Int))=true
     ·rw [if_pos hkn,if_pos ⟨by omega,hkn.2⟩]
     ·rw [if_neg hkn,if_neg (fun h=>hkn ⟨by omega,h.2⟩)]
   ·rw [if_neg hq]
    refine ⟨h1, ?_⟩
    rw [h2]
    by_cases hkn:k<n∧(inC (num S 0) (num S 1) k&&impl_isLand_v0 S (k:Int))=true
    ·rw [if_pos hkn,if_pos ⟨by omega,hkn.2⟩]
    ·rw [if_neg hkn,if_neg (fun h=>hkn ⟨by
      by_cases e:k=n
      ·subst e;exact absurd h.2 hq
      ·omega,h.2⟩)]
 have:=(key 36 (Nat.le_refl _)).2
 unfold landV
 rw [this]
 by_cases hq:(inC (num S 0) (num S 1) k&&impl_isLand_v0 S (k:Int))=true
 ·rw [if_pos ⟨hk,hq⟩,if_pos hq]
 ·rw [if_neg (fun h=>hq h.2),if_neg hq]
theorem subV_num (C D:Array Value) (m:Int) (hC:C.size=36) {k:Nat} (hk:k<36):num (subV C D m) k=i64.wrap (num C k - i64.wrap (num D k*m)):=by
 have key:∀ n,n≤36→(folds (subF D m) C n).size=36∧num (folds (subF D m) C n) k=if k<n then i64.wrap (num C k - i64.wrap (num D k*m)) else num C k:=by
  intro n
  induction n with
  | zero=>intro _;exact ⟨hC,by rw [if_neg (by omega)];rfl⟩
  | succ n ih=>
   intro hn
   obtain ⟨h1,h2⟩:=ih (by omega)
   rw [folds_succ]
   generalize folds (subF D m) C n=r at h1 h2⊢
   unfold subF
   refine ⟨by rw [Array.size_setIfInBounds];exact h1, ?_⟩
   rw [num_setV _ _ _ _ h1 (by omega),h2]
   by_cases e:n=k
   ·subst e
    rw [if_pos rfl,if_pos (by omega),Nat.mul_one,h2,if_neg (by omega)]
   ·rw [if_neg e]
    by_cases hkn:k<n
    ·rw [if_pos hkn,if_pos (by omega)]
    ·rw [if_neg hkn,if_neg (by omega)]
 unfold subV
 rw [(key 36 (Nat.le_refl _)).2,if_pos hk]
noncomputable def partI (P:Program) (S:Array Value) (c b:Int) (k before d:Nat):Int:=num (byV P S c b (before+d)) k - num (byV P S c b before) k*12^d
theorem by_bound {S:Array Value} (hS:WT prog 36 S) (hok:okS S=true) {c b:Int} (hc:spec_l01Is_v0 c S=true) (hb:spec_l00In_v0 b 0 1=true) {k n:Nat} (hk:k<36) (hn:n≤14):0≤num (byV prog S c b n) k∧num (byV prog S c b n) k≤12^n:=by
 obtain ⟨x0,x1⟩:=(drift_mass hS hok hc hb n hn).1.le (i:=k) (by omega)
 have hp:=pow12_pos n
 unfold byV
 rw [landV_num _ _ hk]
 split<;>omega
theorem part_in {S:Array Value} (hS:WT prog 36 S) (hok:okS S=true) {c b:Int} (hc:spec_l01Is_v0 c S=true) (hb:spec_l00In_v0 b 0 1=true) {k before d:Nat} (hk:k<36) (hn:before+d≤14):0≤partI prog S c b k before d∧partI prog S c b k before d≤1283918464548864 ∧
  i64.wrap (num (byV prog S c b (before+d)) k - i64.wrap (num (byV prog S c b before) k*12^d))=partI prog S c b k before d:=by
 obtain ⟨a0,a1⟩:=by_bound hS hok hc hb hk hn
 obtain ⟨b0,b1⟩:=by_bound hS hok hc hb hk (show before≤14 by omega)
 have hp:=pow12_le hn
 rw [pow12_14] at hp
 have hm0:0≤num (byV prog S c b before) k*12^d:=Int.mul_nonneg b0 (Int.le_of_lt (pow12_pos d))
 have hle:num (byV prog S c b before) k*12^d≤num (byV prog S c b (before+d)) k:=by
  unfold byV
  rw [landV_num _ _ hk,landV_num _ _ hk]
  by_cases hq:(inC (num S 0) (num S 1) k&&impl_isLand_v0 S (k:Int))=true
  ·rw [if_pos hq,if_pos hq]
   refine drift_keep hS hok hc hb hk ?_ before d hn
   rw [(wet_in hS hk).2]
   rw [isLand_bit hk,Bool.and_eq_true] at hq
   rw [hq.2];simp
  ·rw [if_neg hq,if_neg hq];omega
 unfold partI
 refine ⟨by omega,by omega, ?_⟩
 rw [IntWalk.i64_in (num (byV prog S c b before) k*12^d) (by omega),IntWalk.i64_in _ (by omega)]
noncomputable def gcdW (a b:Int):Int:=(Int.gcd a b:Int)
theorem gcdW_step {a b:Int} (ha:0≤a) (hb:0<b):gcdW b (a.tmod b)=gcdW a b:=by
 unfold gcdW
 obtain ⟨m,rfl⟩:=Int.eq_ofNat_of_zero_le ha
 obtain ⟨n,rfl⟩:=Int.eq_ofNat_of_zero_le (Int.le_of_lt hb)
 rw [Int.tmod_eq_emod_of_nonneg ha,← Int.natCast_emod,Int.gcd_natCast_natCast,Int.gcd_natCast_natCast,Nat.gcd_comm m n,Nat.gcd_rec n m,Nat.gcd_comm]
theorem gcdW_comm (a b:Int):gcdW a b=gcdW b a:=by unfold gcdW;rw [Int.gcd_comm]
theorem gcdW_ne {a b:Int} (hb:0<b):(gcdW a b != 0)=true:=by
 unfold gcdW
 rw [bne_iff_ne]
 intro h
 have h':Int.gcd a b=0:=by omega
 have:=Int.gcd_eq_zero_iff.1 h'
 omega
theorem gcdW_zero {a:Int} (ha:0≤a):gcdW a 0=a:=by
 unfold gcdW;rw [Int.gcd_zero_right];omega
noncomputable def spec_l02Gcd_cn (m:Nat):Con:=fun args h=>match args,h with
 | [.i .i64 a0,.i .i64 a1],[]=>some (.a (.i .i64 (gcdW a0 a1)),.none,(decide (0≤a0)&&(decide (0≤a1)&&decide (a1<m))))
 | _,_=>none
theorem spec_l02Gcd_enter:EntX prog 119:=entX_ok (fn:=Tryd.f119) (by kernel_rfl) (by kernel_rfl) (by kernel_rfl)
theorem spec_l02Gcd_ans (m:Nat) (N:Nat) (a0 a1:Int):ansV prog (mkΓ [(119,con (spec_l02Gcd_cn m))]) N Tryd.f119 [] [.i .i64 (a0),.i .i64 (a1)] []=(bif (a1==(0:Int)) then (some (.a (.i .i64 (a0)),.none,true))
  else (bif (a1 != 0) then (bif (decide (0≤a1)&&(decide (0≤((a0).tmod a1))&&decide (((a0).tmod a1)<m))) then (some (.a (.i .i64 (gcdW a1 ((a0).tmod a1))),.none,true))
    else (none))
   else (none))):=by kernel_rfl
theorem spec_l02Gcd_main (m:Nat) (a0 a1:Int) (hg:(decide (0≤a0)&&(decide (0≤a1)&&decide (a1<((m+1:Nat):Int))))=true):ansV prog (mkΓ [(119,con (spec_l02Gcd_cn m))]) 1000 Tryd.f119 [] [.i .i64 (a0),.i .i64 (a1)] []=some (.a (.i .i64 (gcdW a0 a1)),.none,true):=by
 simp only [Bool.and_eq_true,decide_eq_true_eq] at hg
 obtain ⟨g0,g1,g2⟩:=hg
 refine (spec_l02Gcd_ans m 1000 a0 a1).trans ?_
 by_cases h:a1=0
 ·subst h;rw [gcdW_zero g0];rfl
 ·have hp:0<a1:=by omega
  have ht:=Int.tmod_lt_of_pos a0 hp
  have h0:0≤a0.tmod a1:=Int.tmod_nonneg _ g0
  rw [show (a1==(0:Int))=false from beq_eq_false_iff_ne.2 h,show (a1 != 0)=true from bne_iff_ne.2 h,decide_eq_true g1,decide_eq_true h0,decide_eq_true (show a0.tmod a1<(m:Int) by omega),gcdW_step g0 hp]
  rfl
theorem spec_l02Gcd_okn:∀ m,ConOkX (md F) prog 119 (spec_l02Gcd_cn m)
 | 0=>by
  intro ρ h w args vals r e hn hr hA hH
  unfold spec_l02Gcd_cn at hr
  split at hr
  ·obtain ⟨_,hg⟩:=Prod.mk.inj (Option.some.inj hr)
   obtain ⟨_,hg⟩:=Prod.mk.inj hg
   simp only [Bool.and_eq_true,decide_eq_true_eq] at hg
   omega
  ·cases hr
 | m+1=>(ansX_ok (N:=1000) (by kernel_rfl) (mkΓ_consX (con_okX (spec_l02Gcd_okn m)) spec_l02Gcd_enter mkΓ_nilX) (fn:=Tryd.f119) (by kernel_rfl) (by kernel_rfl) []).of (by
  intro ρ h w args vals r e hA hH hr
  unfold spec_l02Gcd_cn at hr
  split at hr
  ·rename_i a0 a1
   obtain ⟨rfl,hg⟩:=Prod.mk.inj (Option.some.inj hr)
   obtain ⟨rfl,hg2⟩:=Prod.mk.inj hg
   exact spec_l02Gcd_main m a0 a1 hg2
  ·cases hr)
noncomputable def spec_l02Gcd_con:Con:=fun args h=>match args,h with
 | [.i .i64 a0,.i .i64 a1],[]=>some (.a (.i .i64 (gcdW a0 a1)),.none,(decide (0≤a0)&&decide (0≤a1)))
 | _,_=>none
theorem spec_l02Gcd_ok:ConOkX (md F) prog 119 spec_l02Gcd_con:=by
 intro ρ h w args vals r e hn hr hA hH
 unfold spec_l02Gcd_con at hr
 split at hr
 ·rename_i a0 a1
  obtain ⟨rfl,hg⟩:=Prod.mk.inj (Option.some.inj hr)
  obtain ⟨rfl,hg2⟩:=Prod.mk.inj hg
  refine spec_l02Gcd_okn (a1.toNat+1) ρ _ w _ vals _ _ hn ?_ hA hH
  show (some (SV.a (SA.i .i64 (gcdW a0 a1)),Eff.none,(decide (0≤a0)&&(decide (0≤a1)&&decide (a1<((a1.toNat+1:Nat):Int))))):Option (SV×Eff×Bool))=_
  simp only [Bool.and_eq_true,decide_eq_true_eq] at hg2
  rw [decide_eq_true hg2.1,decide_eq_true hg2.2,decide_eq_true (show a1<((a1.toNat+1:Nat):Int) by omega)]
  rfl
 ·cases hr
noncomputable def impl_fraction_int64_lowest_t0 (a0:Array Value):St:=(⟨.a (.g a0 126) :: .a (.w 0) :: .a (.w 1) :: .a (.i .i64 (num a0 1)) :: .a (.i .i64 (num a0 0)) :: .a (.p 0 (1) 2) :: .a (.i .i64 (num a0 1)) :: .a (.p 0 (0) 2) :: .a (.i .i64 (num a0 0))::us 15 ([]),[.row a0 126,.row #[.int .i64 (0:Int),.int .i64 (0:Int)] 126,.no,.no,.no,.no,.no,.no],[]⟩:St)
noncomputable def impl_fraction_int64_lowest_e0:Int×Int→LS
 | (y0_3,y0_4)=>([.a (.i .i64 (y0_3)),.a (.i .i64 (y0_4))],[])
noncomputable def impl_fraction_int64_lowest_x0:Int×Int→Exit×LS
 | t=>((.exit 0),impl_fraction_int64_lowest_e0 t)
noncomputable def impl_fraction_int64_lowest_g0 (P:Program) (a0:Array Value):Int×Int→Option (Stp (Int×Int) (Int×Int))
 | (y0_3,y0_4)=>bif (y0_4 != (0:Int)) then (bif (y0_4 != 0) then (some (.more (y0_4,((y0_3).tmod y0_4))))
   else (none))
  else (some (.done (y0_3,y0_4)))
theorem impl_fraction_int64_lowest_s0 (N:Nat) (a0:Array Value):∀ t:Int×Int,stepV prog (mkΓ []) N (cAt (codeOf Tryd.f95) [1,1,0,0,0]) (pAt (mkPlan (codeOf Tryd.f95) [([3,4],[])]).1 [1,1,0,0]) [3,4] [] (impl_fraction_int64_lowest_t0 a0) (impl_fraction_int64_lowest_e0 t)=mapS impl_fraction_int64_lowest_e0 impl_fraction_int64_lowest_x0 (impl_fraction_int64_lowest_g0 prog a0 t):=by
 rintro ⟨y0_3,y0_4⟩
 refine Eq.trans (b:=(bif (y0_4 != (0:Int)) then (bif (y0_4 != 0) then (some (.more ([.a (.i .i64 (y0_4)),.a (.i .i64 ((y0_3).tmod y0_4))],[])))
   else (none))
  else (some (.done ((.exit 0),([.a (.i .i64 (y0_3)),.a (.i .i64 (y0_4))],[])))))) (by kernel_rfl) ?_
 simp only [impl_fraction_int64_lowest_g0,mapS_cond,mapS_more,mapS_done,mapS_none,impl_fraction_int64_lowest_e0,impl_fraction_int64_lowest_x0]
noncomputable def impl_fraction_int64_lowest_k0_0 (P:Program) (N:Nat) (a0:Array Value) (z0_3:Int) (z0_4:Int):Option (SV×Eff×Bool):=bif (z0_3 != 0) then (bif (z0_3 != 0) then (some (.a (.g #[.int .i64 (i64.wrap (((num a0 0)).tdiv z0_3)),.int .i64 (i64.wrap (((num a0 1)).tdiv z0_3))] 126),.none,true))
   else (none))
  else (none)
theorem impl_fraction_int64_lowest_k0_0_eq (N:Nat) (a0:Array Value) (z0_3:Int) (z0_4:Int):(kBlock 0 (kSeq (veC prog (mkΓ []) N (cAt (codeOf Tryd.f95) [1,1,1]) (pAt (mkPlan (codeOf Tryd.f95) [([3,4],[])]).1 [1,1,1]) (SV×Eff×Bool)) (finK prog [] [.cell 2 126]))) (.exit 0) (left (writes (cAt (codeOf Tryd.f95) [1,1,0,0,0])) [3,4] [] (impl_fraction_int64_lowest_t0 a0) ([.a (.i .i64 (z0_3)),.a (.i .i64 (z0_4))],[]))=impl_fraction_int64_lowest_k0_0 prog N a0 z0_3 z0_4:=by
 refine Eq.trans (b:=(bif (z0_3 != 0) then (bif (z0_3 != 0) then (some (.a (.g #[.int .i64 (i64.wrap (((num a0 0)).tdiv z0_3)),.int .i64 (i64.wrap (((num a0 1)).tdiv z0_3))] 126),.none,true))
   else (none))
  else (none))) (by kernel_rfl) ?_
 rfl
theorem impl_fraction_int64_lowest_n0 (N:Nat) (a0:Array Value):bindX (iterO (stepV prog (mkΓ []) N (cAt (codeOf Tryd.f95) [1,1,0,0,0]) (pAt (mkPlan (codeOf Tryd.f95) [([3,4],[])]).1 [1,1,0,0]) [3,4] [] (impl_fraction_int64_lowest_t0 a0)) N ([.a (.i .i64 (num a0 1)),.a (.i .i64 (num a0 0))],[])) (fun e s=>(kBlock 0 (kSeq (veC prog (mkΓ []) N (cAt (codeOf Tryd.f95) [1,1,1]) (pAt (mkPlan (codeOf Tryd.f95) [([3,4],[])]).1 [1,1,1]) (SV×Eff×Bool)) (finK prog [] [.cell 2 126]))) e (left (writes (cAt (codeOf Tryd.f95) [1,1,0,0,0])) [3,4] [] (impl_fraction_int64_lowest_t0 a0) s))=nodeX (iterO (impl_fraction_int64_lowest_g0 prog a0) N ((num a0 1),(num a0 0))) (fun x=>impl_fraction_int64_lowest_k0_0 prog N a0 x.1 x.2):=by
 refine loop_node impl_fraction_int64_lowest_e0 impl_fraction_int64_lowest_x0 _ _ (impl_fraction_int64_lowest_s0 N a0) N ((num a0 1),(num a0 0)) _ _ ?_
 intro x;exact impl_fraction_int64_lowest_k0_0_eq N a0 x.1 x.2
theorem impl_fraction_int64_lowest_ans (N:Nat) (a0:Array Value):ansV prog (mkΓ []) N Tryd.f95 [([3,4],[])] [.g a0 126] []=(nodeX (iterO (impl_fraction_int64_lowest_g0 prog a0) N ((num a0 1),(num a0 0))) (fun x=>impl_fraction_int64_lowest_k0_0 prog N a0 x.1 x.2)):=by
 refine Eq.trans (b:=(bindX (iterO (stepV prog (mkΓ []) N (cAt (codeOf Tryd.f95) [1,1,0,0,0]) (pAt (mkPlan (codeOf Tryd.f95) [([3,4],[])]).1 [1,1,0,0]) [3,4] [] (impl_fraction_int64_lowest_t0 a0)) N ([.a (.i .i64 (num a0 1)),.a (.i .i64 (num a0 0))],[])) (fun e s=>(kBlock 0 (kSeq (veC prog (mkΓ []) N (cAt (codeOf Tryd.f95) [1,1,1]) (pAt (mkPlan (codeOf Tryd.f95) [([3,4],[])]).1 [1,1,1]) (SV×Eff×Bool)) (finK prog [] [.cell 2 126]))) e (left (writes (cAt (codeOf Tryd.f95) [1,1,0,0,0])) [3,4] [] (impl_fraction_int64_lowest_t0 a0) s)))) (by kernel_rfl) ?_
 simp only [impl_fraction_int64_lowest_n0 N a0]
theorem gcd_loop (a0:Array Value):∀ (n:Nat) (x y:Int),0≤x→0≤y→y.toNat<n→iterO (impl_fraction_int64_lowest_g0 prog a0) n (x,y)=some (gcdW x y,0)
 | 0,x,y,_,_,h=>by omega
 | n+1,x,y,hx,hy,h=>by
  by_cases e:y=0
  ·subst e
   rw [gcdW_zero hx]
   exact iter_done (by simp only [impl_fraction_int64_lowest_g0];rfl) n
  ·have hp:0<y:=by omega
   have ht:=Int.tmod_lt_of_pos x hp
   have h0:0≤x.tmod y:=Int.tmod_nonneg _ hx
   rw [iter_step (t':=(y,x.tmod y)) (by simp only [impl_fraction_int64_lowest_g0];rw [show (y != (0:Int))=true from bne_iff_ne.2 e];rfl) n,gcd_loop a0 n y (x.tmod y) hy h0 (by omega),gcdW_step hx hp]
theorem impl_fraction_int64_lowest_main (a0:Array Value) (h_a0:WT prog 126 a0) (hg:((decide (0≤num a0 0)&&(decide (0≤num a0 1)&&(gcdW (num a0 1) (num a0 0) != 0))))=true):ansV prog (mkΓ []) 18446744073709551616 Tryd.f95 [([3,4],[])] [.g a0 126] []=some (.a (.g #[.int .i64 (i64.wrap ((num a0 0).tdiv (gcdW (num a0 1) (num a0 0)))),.int .i64 (i64.wrap ((num a0 1).tdiv (gcdW (num a0 1) (num a0 0))))] 126),.none,true):=by
 simp only [Bool.and_eq_true,decide_eq_true_eq] at hg
 obtain ⟨g0,g1,g2⟩:=hg
 have hr:=(h_a0.int (k:=.i64) (o:=0) (by kernel_rfl)).2
 have hm:num a0 0≤9223372036854775807:=hr.2
 refine (impl_fraction_int64_lowest_ans 18446744073709551616 a0).trans ?_
 rw [gcd_loop a0 18446744073709551616 (num a0 1) (num a0 0) g1 g0 (by omega)]
 generalize gcdW (num a0 1) (num a0 0)=q at g2
 show impl_fraction_int64_lowest_k0_0 prog 18446744073709551616 a0 q 0=_
 unfold impl_fraction_int64_lowest_k0_0
 rw [g2]
 rfl
noncomputable def impl_fraction_int64_lowest_con:Con:=fun args h=>match args,h with
 | [.g a0 126],[]=>some (.a (.g #[.int .i64 (i64.wrap ((num a0 0).tdiv (gcdW (num a0 1) (num a0 0)))),.int .i64 (i64.wrap ((num a0 1).tdiv (gcdW (num a0 1) (num a0 0))))] 126),.none,(decide (0≤num a0 0)&&(decide (0≤num a0 1)&&(gcdW (num a0 1) (num a0 0) != 0))))
 | _,_=>none
theorem impl_fraction_int64_lowest_enter:EntX prog 95:=entX_ok (fn:=Tryd.f95) (by kernel_rfl) (by kernel_rfl) (by kernel_rfl)
theorem impl_fraction_int64_lowest_ok:ConOkX (md F) prog 95 impl_fraction_int64_lowest_con:=(ansX_ok (N:=18446744073709551616) (by kernel_rfl) mkΓ_nilX (fn:=Tryd.f95) (by kernel_rfl) (by kernel_rfl) [([3,4],[])]).of (by
 intro ρ h w args vals r e hA hH hr
 unfold impl_fraction_int64_lowest_con at hr
 split at hr
 ·rename_i a0
  obtain ⟨rfl,hg⟩:=Prod.mk.inj (Option.some.inj hr)
  obtain ⟨rfl,hg2⟩:=Prod.mk.inj hg
  exact impl_fraction_int64_lowest_main a0 (hA.wt 0 rfl) hg2
 ·cases hr)
theorem spec_l02Share_ans (N:Nat) (a0 a1:Int):ansV prog (mkΓ [(119,con spec_l02Gcd_con)]) N Tryd.f93 [] [.i .i64 (a0),.i .i64 (a1)] []=(bif (decide (0≤a0)&&decide (0≤a1)) then (bif ((gcdW a0 a1) != 0) then (bif ((gcdW a0 a1) != 0) then (some (.a (.g #[.int .i64 (i64.wrap ((a0).tdiv (gcdW a0 a1))),.int .i64 (i64.wrap ((a1).tdiv (gcdW a0 a1)))] 41),.none,true))
    else (none))
   else (none))
  else (none)):=by kernel_rfl
noncomputable def spec_l02Share_gd (a0 a1:Int):Bool:=(bif (decide (0≤a0)&&decide (0≤a1)) then (bif ((gcdW a0 a1) != 0) then ((gcdW a0 a1) != 0) else false) else false)
theorem spec_l02Share_main (a0 a1:Int) (h_a0:i64.min≤a0∧a0≤i64.max) (h_a1:i64.min≤a1∧a1≤i64.max) (hg:((spec_l02Share_gd a0 a1))=true):ansV prog (mkΓ [(119,con spec_l02Gcd_con)]) 1000 Tryd.f93 [] [.i .i64 (a0),.i .i64 (a1)] []=some (.a (.g #[.int .i64 (i64.wrap ((a0).tdiv (gcdW a0 a1))),.int .i64 (i64.wrap ((a1).tdiv (gcdW a0 a1)))] 41),.none,true):=by
 refine (spec_l02Share_ans 1000 a0 a1).trans ?_
 unfold spec_l02Share_gd at hg
 revert hg
 generalize (decide (0≤a0))=b2
 intro hg
 cases b2
 ·skip
  first | exact (nomatch (hg:false=true)) | (simp only [cond_true,cond_false,Bool.and_true,Bool.true_and,Bool.and_false,Bool.false_and];done) | rfl
 ·skip
  revert hg
  generalize (decide (0≤a1))=b4
  intro hg
  cases b4
  ·skip
   first | exact (nomatch (hg:false=true)) | (simp only [cond_true,cond_false,Bool.and_true,Bool.true_and,Bool.and_false,Bool.false_and];done) | rfl
  ·skip
   revert hg
   generalize (((gcdW a0 a1) != 0))=b6
   intro hg
   cases b6
   ·skip
    first | exact (nomatch (hg:false=true)) | (simp only [cond_true,cond_false,Bool.and_true,Bool.true_and,Bool.and_false,Bool.false_and];done) | rfl
   ·skip
    first | (simp only [cond_true,cond_false,Bool.and_true,Bool.true_and,Bool.and_false,Bool.false_and];done) | rfl | exact (nomatch (hg:false=true))
noncomputable def spec_l02Share_con:Con:=fun args h=>match args,h with
 | [.i .i64 a0,.i .i64 a1],[]=>some (.a (.g #[.int .i64 (i64.wrap ((a0).tdiv (gcdW a0 a1))),.int .i64 (i64.wrap ((a1).tdiv (gcdW a0 a1)))] 41),.none,(spec_l02Share_gd a0 a1))
 | _,_=>none
theorem spec_l02Share_enter:EntX prog 93:=entX_ok (fn:=Tryd.f93) (by kernel_rfl) (by kernel_rfl) (by kernel_rfl)
theorem spec_l02Share_ok:ConOkX (md F) prog 93 spec_l02Share_con:=(ansX_ok (N:=1000) (by kernel_rfl) (mkΓ_consX (con_okX spec_l02Gcd_ok) spec_l02Gcd_enter mkΓ_nilX) (fn:=Tryd.f93) (by kernel_rfl) (by kernel_rfl) []).of (by
 intro ρ h w args vals r e hA hH hr
 unfold spec_l02Share_con at hr
 split at hr
 ·rename_i a0 a1
  obtain ⟨rfl,hg⟩:=Prod.mk.inj (Option.some.inj hr)
  obtain ⟨rfl,hg2⟩:=Prod.mk.inj hg
  exact spec_l02Share_main a0 a1 (hA.rng 0 rfl) (hA.rng 1 rfl) hg2
 ·cases hr)
noncomputable def impl_shareOf_G:Cons:=(mkΓ [(95,con impl_fraction_int64_lowest_con)])
theorem impl_shareOf_ans (N:Nat) (a0 a1:Int):ansV prog impl_shareOf_G N Tryd.f61 [] [.i .i64 (a0),.i .i64 (a1)] []=(bif (decide (0≤num (#[.int .i64 (a0),.int .i64 (a1)]:Array Value) 0)&&(decide (0≤num (#[.int .i64 (a0),.int .i64 (a1)]:Array Value) 1)&&(gcdW (num (#[.int .i64 (a0),.int .i64 (a1)]:Array Value) 1) (num (#[.int .i64 (a0),.int .i64 (a1)]:Array Value) 0) != 0))) then (some (.a (.g #[.int .i64 (i64.wrap ((num (#[.int .i64 (a0),.int .i64 (a1)]:Array Value) 0).tdiv (gcdW (num (#[.int .i64 (a0),.int .i64 (a1)]:Array Value) 1) (num (#[.int .i64 (a0),.int .i64 (a1)]:Array Value) 0)))),.int .i64 (i64.wrap ((num (#[.int .i64 (a0),.int .i64 (a1)]:Array Value) 1).tdiv (gcdW (num (#[.int .i64 (a0),.int .i64 (a1)]:Array Value) 1) (num (#[.int .i64 (a0),.int .i64 (a1)]:Array Value) 0))))] 41),.none,true))
  else (none)):=by kernel_rfl
noncomputable def impl_shareOf_v0 (a0 a1:Int):Array Value:=#[.int .i64 (i64.wrap ((num (#[.int .i64 (a0),.int .i64 (a1)]:Array Value) 0).tdiv (gcdW (num (#[.int .i64 (a0),.int .i64 (a1)]:Array Value) 1) (num (#[.int .i64 (a0),.int .i64 (a1)]:Array Value) 0)))),.int .i64 (i64.wrap ((num (#[.int .i64 (a0),.int .i64 (a1)]:Array Value) 1).tdiv (gcdW (num (#[.int .i64 (a0),.int .i64 (a1)]:Array Value) 1) (num (#[.int .i64 (a0),.int .i64 (a1)]:Array Value) 0))))]
noncomputable def impl_shareOf_gd (a0 a1:Int):Bool:=(decide (0≤num (#[.int .i64 (a0),.int .i64 (a1)]:Array Value) 0)&&(decide (0≤num (#[.int .i64 (a0),.int .i64 (a1)]:Array Value) 1)&&(gcdW (num (#[.int .i64 (a0),.int .i64 (a1)]:Array Value) 1) (num (#[.int .i64 (a0),.int .i64 (a1)]:Array Value) 0) != 0)))
theorem impl_shareOf_main (a0 a1:Int) (h_a0:i64.min≤a0∧a0≤i64.max) (h_a1:i64.min≤a1∧a1≤i64.max) (hg:((impl_shareOf_gd a0 a1))=true):ansV prog impl_shareOf_G 1000 Tryd.f61 [] [.i .i64 (a0),.i .i64 (a1)] []=some (.a (.g (impl_shareOf_v0 a0 a1) 41),.none,true):=by
 refine (impl_shareOf_ans 1000 a0 a1).trans ?_
 unfold impl_shareOf_gd at hg
 unfold impl_shareOf_v0
 revert hg
 generalize ((decide (0≤num (#[.int .i64 (a0),.int .i64 (a1)]:Array Value) 0)&&(decide (0≤num (#[.int .i64 (a0),.int .i64 (a1)]:Array Value) 1)&&(gcdW (num (#[.int .i64 (a0),.int .i64 (a1)]:Array Value) 1) (num (#[.int .i64 (a0),.int .i64 (a1)]:Array Value) 0) != 0))))=b2
 intro hg
 cases b2
 ·skip
  first | exact (nomatch (hg:false=true)) | (simp only [cond_true,cond_false,Bool.and_true,Bool.true_and,Bool.and_false,Bool.false_and];done) | rfl
 ·skip
  first | (simp only [cond_true,cond_false,Bool.and_true,Bool.true_and,Bool.and_false,Bool.false_and];done) | rfl | exact (nomatch (hg:false=true))
noncomputable def impl_shareOf_con:Con:=fun args h=>match args,h with
 | [.i .i64 a0,.i .i64 a1],[]=>some (.a (.g (impl_shareOf_v0 a0 a1) 41),.none,(impl_shareOf_gd a0 a1))
 | _,_=>none
theorem impl_shareOf_enter:EntX prog 61:=entX_ok (fn:=Tryd.f61) (by kernel_rfl) (by kernel_rfl) (by kernel_rfl)
theorem impl_shareOf_ok:ConOkX (md F) prog 61 impl_shareOf_con:=(ansX_ok (N:=1000) (by kernel_rfl) (mkΓ_consX (con_okX impl_fraction_int64_lowest_ok) impl_fraction_int64_lowest_enter mkΓ_nilX) (fn:=Tryd.f61) (by kernel_rfl) (by kernel_rfl) []).of (by
 intro ρ h w args vals r e hA hH hr
 unfold impl_shareOf_con at hr
 split at hr
 ·rename_i a0 a1
  obtain ⟨rfl,hg⟩:=Prod.mk.inj (Option.some.inj hr)
  obtain ⟨rfl,hg2⟩:=Prod.mk.inj hg
  exact impl_shareOf_main a0 a1 (hA.rng 0 rfl) (hA.rng 1 rfl) hg2
 ·cases hr)
theorem share_eq {p w:Int} (hp:0≤p) (hw:0<w):impl_shareOf_v0 p w=#[.int .i64 (i64.wrap (p.tdiv (gcdW p w))),.int .i64 (i64.wrap (w.tdiv (gcdW p w)))]∧impl_shareOf_gd p w=true∧spec_l02Share_gd p w=true:=by
 have hn:=gcdW_ne (a:=p) hw
 refine ⟨?_, ?_, ?_⟩
 ·unfold impl_shareOf_v0
  show #[_,_]=_
  rw [gcdW_comm p w];rfl
 ·unfold impl_shareOf_gd
  show (decide (0≤p)&&(decide (0≤w)&&(gcdW w p != 0)))=true
  rw [gcdW_comm w p,hn,decide_eq_true hp,decide_eq_true (Int.le_of_lt hw)];rfl
 ·unfold spec_l02Share_gd
  rw [hn,decide_eq_true hp,decide_eq_true (Int.le_of_lt hw)];rfl
noncomputable def shareW (p w:Int):Array Value:=#[.int .i64 (i64.wrap (p.tdiv (gcdW p w))),.int .i64 (i64.wrap (w.tdiv (gcdW p w)))]
end
end Go.Proofs.YtphmhgdedoeaeaaDoor
