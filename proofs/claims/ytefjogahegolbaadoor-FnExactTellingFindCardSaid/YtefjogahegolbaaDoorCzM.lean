/- What strands in an hour, exactly. -/
import Derived.Test.YtefjogahegolbaaDoorProg
import Derived.Test.YtefjogahegolbaaDoorCyA
set_option linter.unusedVariables false
set_option linter.unusedSimpArgs false
namespace Go.Proofs.YtefjogahegolbaaDoor
open Go.ChangeShapes Go.WideShapes Go.ChangeAt Go.RowKit Ve Vc
open Tryd (prog)
open IntKind (i64)
set_option maxRecDepth 100000
noncomputable section
variable {F:Vc.Fd}
theorem Zoa{f:Nat->Int}:∀n,(∀k,k<n->0<=f k)->0<=sumI f n
 |0,_=>Int.le_refl _
 |n+1,h=>by
  have h1:=Zoa n λk hk=>h k (by omega)
  have h2:=h n (by omega);rw[sumI];omega
theorem Zts{f:Nat->Int}{i:Nat}:∀n,i<n->(∀k,k<n->0<=f k)->f i<=sumI f n
 |0,hi,_=>by omega
 | n+1,hi,h=>by
  rw[sumI]
  by_cases e:i=n
  ·subst e;have:=Zoa i λk hk=>h k (by omega)
   omega
  ·have h1:=Zts (f:=f) (i:=i) n (by omega) λk hk=>h k (by omega)
   have h2:=h n (by omega);omega
theorem Yej(c:Int)(f:Nat->Int):∀n,sumI (λk=>c*f k) n=c*sumI f n
 |0=>(Int.mul_zero c).symm
 |n+1=>by rw[sumI,sumI,Yej c f n,Int.mul_add]
theorem Zud(m:Int){d o:Nat}:∀n,sumI (λi=>if d=o+i then m else 0) n=if o<=d/\d<o+n then m else 0
 |0=>by rw[if_neg (by omega)];rfl
 | n+1=>by
  rw[sumI,Zud m n]
  by_cases h:d=o+n
  ·rw[if_pos h,if_neg (by omega),if_pos (by omega)];omega
  ·rw[if_neg h]
   by_cases h2:o<=d/\d<o+n
   ·rw[if_pos h2,if_pos (by omega)];omega
   ·rw[if_neg h2,if_neg (by omega)];rfl
theorem Yix{a:Array Value}{f:Nat->Int}(hf:∀w,w<5->num a (w*1)=f w/\0<=f w/\f w<=255):∀n,n<=5->sumW a n=sumI f n/\0<=sumI f n/\sumI f n<=255*n
 |0,_=>⟨rfl,Int.le_refl _,Int.le_refl _⟩
 |n+1,hn=>by
  obtain⟨h1,h2,h3⟩:=Yix hf n (by omega);obtain⟨q1,q2,q3⟩:=hf n (by omega);rw[sumW,sumI,h1,q1,w64 (n:=f n) (by omega),IntWalk.i64_in _ (by omega)];refine⟨rfl,by omega,by omega⟩
def chP(S:Array Value)(t k w:Nat):Int:=num S (3+t*180+k*5+w)
theorem ch_sum{S:Array Value}(hS:WT prog 35 S)(hok:okS S=true){t k:Nat}(ht:t<2)(hk:k<36)(hw:(inC (num S 0) (num S 1) k && !(bitI (num S 2) k))=true):sumI (chP S t k) 5=12/\∀w,w<5->0<=chP S t k w/\chP S t k w<=12:=by
 have hr:∀w,w<5->0<=chP S t k w/\chP S t k w<=255:=λw hw=>by
  have:=(sea_u8 hS (i:=t*180+k*5+w) (by omega)).2;unfold chP;rw[show 3+t*180+k*5+w=3+(t*180+k*5+w) by omega];exact this
 have hf:=okS_fit hok ht hk;unfold fitS at hf;rw[hw,Q1]at hf;have hs:=(Yix (a:=chR S t k) (f:=chP S t k) (λw hw=>⟨by unfold chR chP;rw[num_sub (by omega),Nat.mul_one],hr w hw⟩) 5 (Nat.le_refl _)).1;have h12:sumI (chP S t k) 5=12:=by rw[<- hs];exact eq_of_beq hf
 refine⟨h12,λw hw=>⟨(hr w hw).1,?_⟩⟩;rw[<- h12];exact Zts (f:=chP S t k) 5 hw λq hq=>(hr q hq).1
def Mass(X:Array Value)(T:Int):Prop:=(∀i,i<37->0<=num X (3+i))/\sumI (λi=>num X (3+i)) 37=T
theorem Mass.le{X:Array Value}{T:Int}(h:Mass X T){i:Nat}(hi:i<37):0<=num X (3+i)/\num X (3+i)<=T:=⟨h.1 i hi,by rw[<- h.2];exact Zts (f:=λi=>num X (3+i)) 37 hi h.1⟩
def Ucy(S X:Array Value)(j k:Nat):Int:=if Zal (k:Int) S=true then sumI (λw=>if Udq (Zaf (k:Int) (w:Int) S)=j then muF S X (tdS X) k w else 0) 5 else if 3+k*1=j then num X (3+k*1)*12 else 0
theorem cell_sum{S X:Array Value}(hS:WT prog 35 S)(hok:okS S=true){T:Int}(hM:Mass X T)(hT:T*12<=9223372036854775807){t:Nat}(ht:t<2)(htd:tdS X=(t:Int)){k:Nat}(hk:k<36):(∀j,0<=Ucy S X j k)/\sumI (λi=>Ucy S X (3+i) k) 37=12*num X (3+k):=by
 obtain⟨x0,x1⟩:=hM.le (i:=k) (by omega);have hwet:=(Ybw hS hk).2;unfold Ucy;cases hw:Zal (k:Int) S with
 | false=>
  simp only[Bool.false_eq_true,if_false];refine⟨λj=> ?_,?_⟩
  ·split
   ·rw[show 3+k*1=3+k by omega];omega
   ·exact Int.le_refl _
  ·rw[Zud (num X (3+k*1)*12) (d:=3+k*1) (o:=3) 37,if_pos (by omega),show 3+k*1=3+k by omega,Int.mul_comm]
 | true=>
  rw[hw]at hwet;obtain⟨c1,c2⟩:=ch_sum hS hok ht hk hwet.symm;have hi:inC (num S 0) (num S 1) k=true:=(Bool.and_eq_true_iff.1 hwet.symm).1;have hmu:∀w,w<5->muF S X (tdS X) k w=num X (3+k)*chP S t k w/\0<=num X (3+k)*chP S t k w:=λw hw5=>by
   obtain⟨d1,d2⟩:=c2 w hw5;have hp:0<=num X (3+k)*chP S t k w:=Int.mul_nonneg x0 d1;have hq:num X (3+k)*chP S t k w<=T*12:=Int.mul_le_mul x1 d2 d1 (by omega);refine⟨?_,hp⟩;unfold muF chW;rw[htd,Q9,Q9,show 3+k*1=3+k by omega];have e:num S (((3+(t*180))+(k*5))+w)=chP S t k w:=rfl;rw[e,w64 (n:=chP S t k w) (by omega),IntWalk.i64_in _ (by omega)]
  simp only[if_true];refine⟨λj=>Zoa 5 λw hw5=> ?_,?_⟩
  ·split
   ·rw[(hmu w hw5).1];exact(hmu w hw5).2
   ·exact Int.le_refl _
  ·rw[Zuo (λi w=>if Udq (Zaf (k:Int) (w:Int) S)=3+i then muF S X (tdS X) k w else 0) 5 37];refine(Zhe 5 (g:=λw=>num X (3+k)*chP S t k w) λw hw5=> ?_).trans ?_
   ·rw[Zud (muF S X (tdS X) k w) (d:=Udq (Zaf (k:Int) (w:Int) S)) (o:=3) 37,if_pos,(hmu w hw5).1];unfold Udq
    by_cases hg:Zaf (k:Int) (w:Int) S<0
    ·rw[if_pos hg];omega
    ·rw[if_neg hg];obtain⟨r1,r2⟩:=Ydo (Zq1 hok) hk hi hw5 hg;omega
   ·rw[Yej,c1,Int.mul_comm]
theorem Yme{S X:Array Value}(hS:WT prog 35 S)(hX:WT prog 77 X)(hok:okS S=true){T:Int}(hM:Mass X T)(hT:T*12<=9223372036854775807){t:Nat}(ht:t<2)(htd:tdS X=(t:Int)):
  Mass (Ubk prog S X) (12*T)/\∀k:Nat,k<36->Zal (k:Int) S=false->12*num X (3+k)<=num (Ubk prog S X) (3+k):=by
 obtain⟨i1,i2⟩:=Zxm X;have o1:0<=num X 39/\num X 39<=T:=hM.le (i:=36) (by omega);have hcell:=λk hk=>cell_sum hS hok hM hT ht htd (k:=k) hk
 have hsum:sumI (λi=>(if 39=3+i then num X 39*12 else 0)+sumI (λk=>Ucy S X (3+i) k) 36) 37=12*T:=by rw[Zzr,Zud (num X 39*12) (d:=39) (o:=3) 37,if_pos (by omega),Zuo (λi k=>Ucy S X (3+i) k) 36 37,Zhe 36 (g:=λk=>12*num X (3+k)) λk hk=>(hcell k hk).2,Yej,<- hM.2];have e37:sumI (λi=>num X (3+i)) 37=sumI (λi=>num X (3+i)) 36+num X 39:=rfl;rw[e37,Int.mul_add];omega
 have hnn:∀i,i<37->0<=(if 39=3+i then num X 39*12 else 0)+sumI (λk=>Ucy S X (3+i) k) 36:=λi hi=>by
  have h1:=Zoa (f:=λk=>Ucy S X (3+i) k) 36 λk hk=>(hcell k hk).1 (3+i)
  split
  ·have:=o1.1;omega
  ·omega
 have hval:∀i,i<37->num (Ubk prog S X) (3+i)=(if 39=3+i then num X 39*12 else 0)+sumI (λk=>Ucy S X (3+i) k) 36:=λi hi=>by
  have hw:=(Zqu (S:=S) hX).int (o:=3+i) (k:=.i64) (Zlx (by omega) (by omega));have hle:(if 39=3+i then num X 39*12 else 0)+sumI (λk=>Ucy S X (3+i) k) 36<=12*T:=by rw[<- hsum];exact Zts (f:=λi=>(if 39=3+i then num X 39*12 else 0)+sumI (λk=>Ucy S X (3+i) k) 36) 37 hi hnn
  have:=hnn i hi;refine cg_eq ((Yfh i1 (j:=3+i) (by omega)).trans (((i2 (3+i) (by omega) (by omega)).add (.refl _)).trans (.of ?_))) hw.2 (by omega);rw[if_neg (show ¬3+i=2 by omega)]
  by_cases e:3+i=39
  ·rw[if_pos e,if_pos e.symm];rfl
  ·rw[if_neg e,if_neg (λh=>e h.symm)];rfl
 refine⟨⟨λi hi=>by rw[hval i hi];exact hnn i hi,?_⟩,λk hk hd=> ?_⟩
 ·rw[<- hsum];exact Zhe 37 hval
 ·rw[hval k (by omega)];have h1:=Zts (f:=λq=>Ucy S X (3+k) q) (i:=k) 36 hk λq hq=>(hcell q hq).1 (3+k)
  have h2:Ucy S X (3+k) k=num X (3+k)*12:=by unfold Ucy;rw[hd,if_neg (by simp),if_pos (by omega),show 3+k*1=3+k by omega]
  rw[if_neg (show ¬39=3+k by omega)];omega
theorem Zun:∀n:Nat,0<(12:Int)^n:=λn=>Int.pow_pos (by omega)
theorem Yir{n m:Nat}(h:n<=m):(12:Int)^n<=12^m:=by obtain⟨d,rfl⟩:=Nat.exists_eq_add_of_le h;rw[Int.pow_add];have h1:=Zun n;have h2:=Zun d;exact Int.le_trans (by omega) (Int.mul_le_mul_of_nonneg_left (show (1:Int)<=12^d by omega) (Int.le_of_lt h1))
theorem Yka:(12:Int)^14=1283918464548864:=by decide
theorem one_mass{c b:Int}(hc:0<=c/\c<=35)(hb:0<=b/\b<=1):Mass (oneX prog c b) 1:=by
 obtain⟨_,_,_,n3⟩:=Zum (c:=c) (b:=b) hb hc;have hv:∀i,i<37->num (oneX prog c b) (3+i)=if c.toNat=0+i then 1 else 0:=λi hi=>by
  by_cases h:i<36
  ·rw[n3 i h]
   by_cases e:i=c.toNat
   ·rw[if_pos e,if_pos (by omega)]
   ·rw[if_neg e,if_neg (by omega)]
  ·obtain rfl:i=36:=by omega
   rw[if_neg (by omega)];have hz:=Zl5.2 39 (by omega) (by omega);unfold oneX;rw[Zhn,if_neg (by omega),Zhn,if_neg (by omega),Zhn,if_neg (by omega)];exact hz
 refine⟨λi hi=>by rw[hv i hi];split<;>omega,?_⟩;rw[Zhe 37 hv,Zud 1 37,if_pos (by omega)]
theorem Zwc{S:Array Value}(hS:WT prog 35 S)(hok:okS S=true){c b:Int}(hc:Zac c S=true)(hb:Zaa b 0 1=true):∀n,n<=14->Mass (Uat prog S (oneX prog c b) n) (12^n) /\
  ∀m,m<n->∀k:Nat,k<36->Zal (k:Int) S=false->12*num (Uat prog S (oneX prog c b) m) (3+k)<=num (Uat prog S (oneX prog c b) (m+1)) (3+k)
 |0,_=>⟨one_mass (Zkk hc) (Zkf hb),λm hm=>by omega⟩
 | n+1,hn=>by
  obtain⟨h1,h2⟩:=Zwc hS hok hc hb n (by omega);have hl:=Ylv hc hb;have hp:=Yir (n:=n+1) (m:=14) hn;rw[Yka]at hp;have ht:=Yjj (S:=S) hl.1 hl.2 (n:=n) (by omega);obtain⟨q1,q2⟩:=Yme hS (Yj2 (S:=S) (Yl9 (Zkk hc)) n) hok h1 (by rw[<- Int.pow_succ];omega) (t:=(tdS (Uat prog S (oneX prog c b) n)).toNat) (by omega) (by omega);refine⟨by rw[Int.pow_succ,Int.mul_comm];exact q1,λm hm k hk hd=> ?_⟩
  by_cases e:m<n
  ·exact h2 m e k hk hd
  ·obtain rfl:m=n:=by omega
   exact q2 k hk hd
theorem Yd7{S:Array Value}(hS:WT prog 35 S)(hok:okS S=true){c b:Int}(hc:Zac c S=true)(hb:Zaa b 0 1=true){k:Nat}(hk:k<36)(hd:Zal (k:Int) S=false)(n:Nat):∀d,n+d<=14->num (Uat prog S (oneX prog c b) n) (3+k)*12^d<=num (Uat prog S (oneX prog c b) (n+d)) (3+k)
 |0,_=>by rw[Int.pow_zero,Int.mul_one];exact Int.le_refl _
 |d+1,h=>by
  have ih:=Yd7 hS hok hc hb hk hd n d (by omega);have h2:=(Zwc hS hok hc hb (n+d+1) (by omega)).2 (n+d) (by omega) k hk hd;rw[Int.pow_succ,<- Int.mul_assoc,show n+(d+1)=n+d+1 by omega];omega
theorem Yke(r:Array Value)(i j:Nat)(n:Int)(h:r.size=36)(hi:i<36):num (r.setIfInBounds (i*1) (.int .i64 n)) j=if i=j then n else num r j:=by
 unfold num;rw[Array.getElem?_setIfInBounds]
 by_cases e:i=j
 ·rw[if_pos (by omega),if_pos (by omega),if_pos e]
 ·rw[if_neg (by omega),if_neg e]
theorem Ym1{j:Nat}(hj:j<36):num (zc prog 60) j=0:=by
 have hc:(List.range 36).all (λj=>(num (zc prog 60) j==0))=true:=by kernel_rfl
 exact eq_of_beq (List.all_eq_true.1 hc j (List.mem_range.2 hj))
theorem Zql(S X:Array Value){k:Nat}(hk:k<36):num (Ub2 prog S X) k=if (inC (num S 0) (num S 1) k&&Zab S (k:Int))=true then num X (3+k) else 0:=by
 have key:∀ n,n≤36→(folds (fun r k=>if inC (num S 0) (num S 1) k&&Zab S (k:Int) then Uey X r k else r) (zc prog 60) n).size=36∧num (folds (fun r k=>if inC (num S 0) (num S 1) k&&Zab S (k:Int) then Uey X r k else r) (zc prog 60) n) k=if k<n∧(inC (num S 0) (num S 1) k&&Zab S (k:Int))=true then num X (3+k) else 0:=by
  intro n
  induction n with
  |zero=>intro _;exact⟨Zz2,by rw[if_neg (by omega)];exact Ym1 hk⟩
  | succ n ih=>
   intro hn;obtain⟨h1,h2⟩:=ih (by omega);rw[Zfm];generalize folds (λr k=>if inC (num S 0) (num S 1) k&&Zab S (k:Int) then Uey X r k else r) (zc prog 60) n=r at h1 h2|-
   by_cases hq:(inC (num S 0) (num S 1) n&&Zab S (n:Int))=true
   ·rw[if_pos hq];unfold Uey;refine⟨by rw[Array.size_setIfInBounds];exact h1,?_⟩;rw[Yke _ _ _ _ h1 (by omega),h2]
    by_cases e:n=k
    ·subst e;rw[if_pos rfl,if_pos ⟨by omega,hq⟩,show 3+n*1=3+n by omega]
    ·rw[if_neg e]
     by_cases hkn:k<n/\(inC (num S 0) (num S 1) k&&Zab S (k:Int))=true
     ·rw[if_pos hkn,if_pos ⟨by omega,hkn.2⟩]
     ·rw[if_neg hkn,if_neg (λh=>hkn ⟨by omega,h.2⟩)]
   ·rw[if_neg hq];refine⟨h1,?_⟩;rw[h2]
    by_cases hkn:k<n/\(inC (num S 0) (num S 1) k&&Zab S (k:Int))=true
    ·rw[if_pos hkn,if_pos ⟨by omega,hkn.2⟩]
    ·rw[if_neg hkn,if_neg (λh=>hkn ⟨by
      by_cases e:k=n
      ·subst e;exact absurd h.2 hq
      ·omega,h.2⟩)]
 have:=(key 36 (Nat.le_refl _)).2;unfold Ub2;rw[this]
 by_cases hq:(inC (num S 0) (num S 1) k&&Zab S (k:Int))=true
 ·rw[if_pos ⟨hk,hq⟩,if_pos hq]
 ·rw[if_neg (λh=>hq h.2),if_neg hq]
theorem subV_num(C D:Array Value)(m:Int)(hC:C.size=36){k:Nat}(hk:k<36):num (subV C D m) k=i64.wrap (num C k - i64.wrap (num D k*m)):=by
 have key:∀n,n<=36->(folds (subF D m) C n).size=36/\num (folds (subF D m) C n) k=if k<n then i64.wrap (num C k - i64.wrap (num D k*m)) else num C k:=by
  intro n
  induction n with
  |zero=>intro _;exact⟨hC,by rw[if_neg (by omega)];rfl⟩
  | succ n ih=>
   intro hn;obtain⟨h1,h2⟩:=ih (by omega);rw[Zfm];generalize folds (subF D m) C n=r at h1 h2|-
   unfold subF;refine⟨by rw[Array.size_setIfInBounds];exact h1,?_⟩;rw[Yke _ _ _ _ h1 (by omega),h2]
   by_cases e:n=k
   ·subst e;rw[if_pos rfl,if_pos (by omega),Nat.mul_one,h2,if_neg (by omega)]
   ·rw[if_neg e]
    by_cases hkn:k<n
    ·rw[if_pos hkn,if_pos (by omega)]
    ·rw[if_neg hkn,if_neg (by omega)]
 unfold subV;rw[(key 36 (Nat.le_refl _)).2,if_pos hk]
def Ue5(P:Program)(S:Array Value)(c b:Int)(k before d:Nat):Int:=num (byV P S c b (before+d)) k - num (byV P S c b before) k*12^d
theorem Yiv{S:Array Value}(hS:WT prog 35 S)(hok:okS S=true){c b:Int}(hc:Zac c S=true)(hb:Zaa b 0 1=true){k n:Nat}(hk:k<36)(hn:n<=14):0<=num (byV prog S c b n) k/\num (byV prog S c b n) k<=12^n:=by obtain⟨x0,x1⟩:=(Zwc hS hok hc hb n hn).1.le (i:=k) (by omega);have hp:=Zun n;unfold byV;rw[Zql _ _ hk];split<;>omega
theorem part_in{S:Array Value}(hS:WT prog 35 S)(hok:okS S=true){c b:Int}(hc:Zac c S=true)(hb:Zaa b 0 1=true){k before d:Nat}(hk:k<36)(hn:before+d<=14):0<=Ue5 prog S c b k before d/\Ue5 prog S c b k before d<=1283918464548864 /\
  i64.wrap (num (byV prog S c b (before+d)) k - i64.wrap (num (byV prog S c b before) k*12^d))=Ue5 prog S c b k before d:=by
 obtain⟨a0,a1⟩:=Yiv hS hok hc hb hk hn;obtain⟨b0,b1⟩:=Yiv hS hok hc hb hk (show before<=14 by omega);have hp:=Yir hn;rw[Yka]at hp;have hm0:0<=num (byV prog S c b before) k*12^d:=Int.mul_nonneg b0 (Int.le_of_lt (Zun d));have hle:num (byV prog S c b before) k*12^d<=num (byV prog S c b (before+d)) k:=by
  unfold byV;rw[Zql _ _ hk,Zql _ _ hk]
  by_cases hq:(inC (num S 0) (num S 1) k&&Zab S (k:Int))=true
  ·rw[if_pos hq,if_pos hq];refine Yd7 hS hok hc hb hk ?_ before d hn;rw[(Ybw hS hk).2];rw[Zq6 hk,Q7]at hq;rw[hq.2];simp
  ·rw[if_neg hq,if_neg hq];omega
 unfold Ue5;refine⟨by omega,by omega,?_⟩;rw[IntWalk.i64_in (num (byV prog S c b before) k*12^d) (by omega),IntWalk.i64_in _ (by omega)]
def inH(P:Program)(S:Array Value)(c b:Int)(n:Nat):Array Value:=subV (byV P S c b n) (byV P S c b (n - 1)) 12
theorem Ymd{S:Array Value}(hS:WT prog 35 S)(hok:okS S=true){c b:Int}(hc:Zac c S=true)(hb:Zaa b 0 1=true){k n:Nat}(hk:k<36)(hn:1<=n/\n<=14):
  num (inH prog S c b n) k=Ue5 prog S c b k (n - 1) 1/\0<=num (inH prog S c b n) k/\num (inH prog S c b n) k<=1283918464548864/\((inC (num S 0) (num S 1) k&&Zab S (k:Int))=false->num (inH prog S c b n) k=0):=by
 obtain⟨p0,p1,p2⟩:=part_in hS hok hc hb (k:=k) (before:=n - 1) (d:=1) hk (by omega);rw[show n - 1+1=n by omega,show (12:Int)^1=12 by decide]at p2;have e:num (inH prog S c b n) k=Ue5 prog S c b k (n - 1) 1:=by unfold inH;rw[subV_num _ _ _ (Zof S c b n) hk,p2]
 refine⟨e,by omega,by omega,λh=> ?_⟩;rw[e];unfold Ue5 byV;rw[Zql _ _ hk,Zql _ _ hk,h];simp
end
end Go.Proofs.YtefjogahegolbaaDoor
