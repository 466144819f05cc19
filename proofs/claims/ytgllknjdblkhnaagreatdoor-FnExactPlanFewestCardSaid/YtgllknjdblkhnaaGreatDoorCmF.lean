/- Going forward and going backward to some cells. -/
import Derived.Test.YtgllknjdblkhnaaGreatDoorProg
import Derived.Test.YtgllknjdblkhnaaGreatDoorCmE
set_option linter.unusedVariables false
set_option linter.unusedSimpArgs false
open _root_.Array renaming size_setIfInBounds->jA
namespace Go.Proofs.YtgllknjdblkhnaaGreatDoor
open Go.ChangeShapes Go.WideShapes Go.ChangeAt Go.RowKit Ve Vc
open Tryz renaming prog -> PZ
set_option maxRecDepth 100000
noncomputable section
variable {mn:Md}
theorem sumL_in(r:Array Value)(l:List (Int×Int)): -9223372036854775808<=sumL l r/\sumL l r<=9223372036854775807:=by
 have h:∀(l:List (Int×Int)) (c:Int),(-9223372036854775808<=c/\c<=9223372036854775807) -> -9223372036854775808<=l.foldl (sumF r) c/\l.foldl (sumF r) c<=9223372036854775807:=λl=>by
  induction l with
  |nil=>exact λc hc=>hc
  |cons p l ih=>exact λc _=>ih _ (Zhx .i64 _)
 exact h l 0 (by omega)
theorem sm_le{f g:Nat->Int}:∀n,(∀i,i<n->0<=f i/\f i<=g i)->0<=sm f n/\sm f n<=sumI g n
 |0,_=>⟨Int.le_refl _,Int.le_refl _⟩
 |n+1,h=>by
  obtain⟨h1,h2⟩:=sm_le n λi hi=>h i (by omega)
  have h3:=h n (by omega);rw[Zla,sumI];omega
theorem sm_pos{f:Nat->Int}:∀n,(∀i,i<n->0<=f i)->(0<sm f n ↔ ∃i,i<n/\0<f i)
 |0,_=>⟨λh=>absurd h (Int.lt_irrefl 0),λ⟨i,hi,_⟩=>absurd hi (Nat.not_lt_zero i)⟩
 | n+1,h=>by
  have ih:=sm_pos n λi hi=>h i (by omega)
  have h3:=h n (by omega);have h0:=(sm_le (g:=f) n λi hi=>⟨h i (by omega),Int.le_refl _⟩).1;rw[Zla];constructor
  ·intro hp
   by_cases c:0<sm f n
   ·obtain⟨i,hi,hf⟩:=ih.1 c;exact⟨i,by omega,hf⟩
   ·exact⟨n,by omega,by omega⟩
  ·rintro⟨i,hi,hf⟩
   by_cases c:i=n
   ·subst c;omega
   ·have:=ih.2 ⟨i,by omega,hf⟩;omega
theorem oneX_wt(c:Int){b:Int}:WT PZ 144 (oneX PZ c b):=by
 have e1:IntKind.i64.min=-9223372036854775808:=rfl;have e2:IntKind.i64.max=9223372036854775807:=rfl;have h0:WT PZ 144 ((zc PZ 144).setIfInBounds 0 (.int .i8 (IntKind.i8.wrap b))):=Zo4 (k:=.i8) (WT.zero (by kernel_rfl)) Yip.1 (Zhx .i8 b);have h1:=Zo4 (k:=.i64) (i:=2) (n:=1) h0 (Zwx (by omega) (by omega)) (by omega);unfold oneX
 by_cases hc:3+c.toNat*1<40
 ·exact Zo4 (k:=.i64) h1 (Zwx (by omega) hc) (by omega)
 ·have hz:((zc PZ 144).setIfInBounds 0 (.int .i8 (IntKind.i8.wrap b))).size=40:=by rw[jA];kernel_rfl
  have:(((zc PZ 144).setIfInBounds 0 (.int .i8 (IntKind.i8.wrap b))).setIfInBounds 2 (.int .i64 1)).setIfInBounds (3+c.toNat*1) (.int .i64 1)=((zc PZ 144).setIfInBounds 0 (.int .i8 (IntKind.i8.wrap b))).setIfInBounds 2 (.int .i64 1):=by
   refine Array.ext_getElem? λi=> ?_
   rw[Array.getElem?_setIfInBounds]
   by_cases e:3+c.toNat*1=i
   ·rw[if_pos e,if_neg (by rw[jA,hz];omega),Array.getElem?_eq_none (by rw[jA,hz];omega)]
   ·rw[if_neg e]
  rw[this];exact h1
theorem Yor{c b:Int}(hb:0<=b/\b<=1)(hc:0<=c/\c<=35):Mass (oneX PZ c b) 1:=by
 obtain⟨_,_,hz,hn⟩:=Ycg (c:=c) (b:=b) hb hc;have h39:num (oneX PZ c b) 39=0:=by
  have z:num (zc PZ 144) 39=0:=by
   have:(num (zc PZ 144) 39==0)=true:=by kernel_rfl
   exact eq_of_beq this
  unfold oneX;rw[Zef,if_neg (by omega),Zef,if_neg (by omega),Zef,if_neg (by omega),z]
 have hv:∀i,i<37->num (oneX PZ c b) (3+i)=if 3+c.toNat=3+i then 1 else 0:=λi hi=>by
  by_cases e:i=36
  ·subst e;rw[if_neg (by omega)];exact h39
  ·rw[hn i (by omega)]
   by_cases q:i=c.toNat
   ·rw[if_pos q,if_pos (by omega)]
   ·rw[if_neg q,if_neg (by omega)]
 refine⟨λi hi=>by rw[hv i hi];split<;>omega,?_⟩;rw[Zlt 37 hv,Zyq 1 (d:=3+c.toNat) (o:=3) 37,if_pos (by omega)]
theorem Zzk{S:Array Value}(hS:WT PZ 38 S)(hok:okS S=true){c b:Int}(hb:0<=b/\b<=1)(hc:0<=c/\c<=35):∀n,n<=8->Mass (Ua1 PZ S (oneX PZ c b) n) (12^n)
 |0,_=>Yor hb hc
 | n+1,hn=>by
  have ih:=Zzk hS hok hb hc n (by omega);obtain⟨n0,n1,_,_⟩:=Ycg (c:=c) (b:=b) hb hc;have htd:=Ymi (S:=S) (X:=oneX PZ c b) (by rw[n0];omega) (by rw[n1];omega) (show n<=14 by omega);rw[n0,n1]at htd;have hpow:(12:Int)^n<=429981696:=by
   have hl:∀n,n<=8->(12:Int)^n<=429981696:=by decide
   exact hl n (by omega)
  have h:=(Ypk hS (drift_wt (oneX_wt c (b:=b)) n) hok ih (by omega) (t:=((b+0+(n:Int)) % 2).toNat) (by omega) (by rw[htd];omega)).1;rw[Ua1,Int.pow_succ,Int.mul_comm];exact h
theorem row_dot{S:Array Value}(hS:WT PZ 38 S)(hok:okS S=true){k b c:Int}(hb:0<=b/\b<=1)(hk:0<=k/\k<=35)(hcs:Zac S c=true){h:Nat}(h1:1<=h/\h<=8):
  num (rowR PZ sumL S (rowC PZ c) b (h:Int) h) k.toNat=dot (Ua1 PZ S (oneX PZ k b) h) (rowC PZ c):=by
 have hz:∀j,j<36->inC (num S 0) (num S 1) j=false->num (rowC PZ c) j=0:=λj hj hi=>by
  rw[(Ztj c).2 j hj,if_neg];intro hbit;have:=(Zp4 (a:=c) (b:=Ua0 (num S 0) (num S 1) 36)).1 hcs j (by omega) hbit;rw[Zxa _ _ 36 (by omega),hi,Bool.and_false]at this;cases this
 have hf:=Yfh hS hok hz (c:=k) (b:=b) (h:=h) hb hk (by omega) h (Nat.le_refl _);rw[Nat.sub_self]at hf;have e0:rowR PZ sumL S (rowC PZ c) b (h:Int) 0=rowC PZ c:=rfl;rw[e0]at hf;obtain⟨_,_,_,hn⟩:=Ycg (c:=k) (b:=b) hb hk;have e2:dot (oneX PZ k b) (rowR PZ sumL S (rowC PZ c) b (h:Int) h)=num (rowR PZ sumL S (rowC PZ c) b (h:Int) h) k.toNat:=by unfold dot;rw[sm_one 36 (show k.toNat<36 by omega) (λi hi hne=>by rw[hn i hi,if_neg hne];omega),hn _ (by omega),if_pos rfl];omega
 rw[e2]at hf;have hM:=Zzk hS hok hb hk h (by omega);have hpow:(12:Int)^h<=429981696:=by
  have hl:∀n,n<=8->(12:Int)^n<=429981696:=by decide
  exact hl h (by omega)
 have hd:=sm_le (f:=λi=>num (Ua1 PZ S (oneX PZ k b) h) (3+i)*num (rowC PZ c) i) (g:=λi=>num (Ua1 PZ S (oneX PZ k b) h) (3+i)) 36 (λi hi=>by
  have:=hM.1 i (by omega);rw[(Ztj c).2 i hi];split<;>omega)
 have h37:sumI (λi=>num (Ua1 PZ S (oneX PZ k b) h) (3+i)) 37=sumI (λi=>num (Ua1 PZ S (oneX PZ k b) h) (3+i)) 36+num (Ua1 PZ S (oneX PZ k b) h) (3+36):=rfl;have h36:=hM.1 36 (by omega);have hs:=hM.2;refine(cg_eq hf ?_ ?_).symm
 ·unfold dot;omega
 ·obtain⟨m,rfl⟩:∃m,h=m+1:=⟨h - 1,by omega⟩;have:=Yky sumL S (rowR PZ sumL S (rowC PZ c) b ((m+1:Nat):Int) m) ((IntKind.i64.wrap (b+IntKind.i64.wrap (((m+1:Nat):Int) - ((m+1:Nat):Int)))).tmod 2) (show k.toNat<36 by omega);rw[Nat.mul_one]at this;rw[rowR,this];split
  ·exact sumL_in _ _
  ·omega
def orF(q:Nat->Bool)(acc:Int)(k:Nat):Int:=bif q k then orI acc (oneI k) else acc
theorem Yhv(q:Nat->Bool):∀n,n<=36->U64 (folds (orF q) 0 n)/\∀k,bitI (folds (orF q) 0 n) k=(decide (k<n)&&q k)
 |0,_=>⟨⟨Int.le_refl _,by rw[Zm0];omega⟩,λk=>by rw[Zm0,Zis];simp⟩
 | n+1,hn=>by
  obtain⟨hu,ih⟩:=Yhv q n (by omega);rw[Ze7];generalize folds (orF q) 0 n=a at hu ih|-
  unfold orF;cases hb:q n with
  | true=>
   rw[Q1];refine⟨Ve.u64_or _ _,λk=> ?_⟩;rw[Ylt,ih,Zs5 (by omega)]
   by_cases e:n=k
   ·subst e;simp[hb]
   ·have:decide (k<n+1)=decide (k<n):=decide_eq_decide.2 (by omega);rw[this];simp[e]
  | false=>
   rw[Q2];refine⟨hu,λk=> ?_⟩;rw[ih]
   by_cases e:n=k
   ·subst e;simp[hb]
   ·have:decide (k<n+1)=decide (k<n):=decide_eq_decide.2 (by omega);rw[this]
theorem Yo8(C:Array Value)(n:Nat)(hn:n<=36):U64 (folds (fbF C) 0 n)/\∀k,bitI (folds (fbF C) 0 n) k=(decide (k<n)&&decide (num C (k*1) > 0)):=by
 have e:fbF C=orF (λk=>decide (num C (k*1) > 0)):=by funext acc k;unfold fbF orF;rw[Zn0];rfl
 rw[e];exact Yhv _ n hn
theorem Yon{a b:Int}:(andI a b != 0)=true ↔ ∃k,k<64/\bitI a k=true/\bitI b k=true:=by
 rw[bne_iff_ne];constructor
 ·intro h
  by_cases q:∃k,k<64/\bitI a k=true/\bitI b k=true
  ·exact q
  ·refine absurd (Zwk (Ve.u64_and a b) ⟨Int.le_refl 0,by omega⟩ λk hk=> ?_) h;rw[Yau,Zis];cases ha:bitI a k with|false=>rfl|true=>cases hb:bitI b k with|false=>rfl|true=>exact absurd ⟨k,hk,ha,hb⟩ q
 ·rintro⟨k,hk,ha,hb⟩ e;have:=congrArg (λx=>bitI x k) e;simp only[Yau,Zis,ha,hb,Bool.and_self]at this;cases this
end
end Go.Proofs.YtgllknjdblkhnaaGreatDoor
