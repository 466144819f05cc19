/- Going forward and going backward, in company. -/
import Derived.Test.YtgllknjdblkhnaaGreatDoorProg
import Derived.Test.YtgllknjdblkhnaaGreatDoorCmC
set_option linter.unusedVariables false
set_option linter.unusedSimpArgs false
open _root_.Array renaming getElem?_setIfInBounds->jA
open _root_.Nat renaming mul_one->jB
namespace Go.Proofs.YtgllknjdblkhnaaGreatDoor
open Go.ChangeShapes Go.WideShapes Go.ChangeAt Go.RowKit Ve Vc
open Tryz renaming prog -> PZ
open IntKind (i64)
set_option maxRecDepth 100000
noncomputable section
variable {mn:Md}
theorem cg.of_eq{a b:Int}(h:a=b):cg a b:=⟨0,by omega⟩
theorem cg.mul{a b:Int}(h:cg a b)(c:Int):cg (a*c) (b*c):=by obtain⟨k,h⟩:=h;exact⟨k*c,by rw[h,Int.add_mul,Int.mul_assoc]⟩
theorem adN_eq{r:Array Value}{i:Nat}(m:Int)(h:i<r.size):num (adN r i m) i=i64.wrap (num r i+m):=by unfold adN num;rw[jA,if_pos rfl,if_pos h]
theorem dry_land{S:Array Value}(hS:WT PZ 38 S){k:Nat}(hk:k<36):Zdg (k:Int) S=Zbn S (k:Int):=(land_dry hS hk).symm
theorem wet_all{S:Array Value}(hS:WT PZ 38 S){k:Nat}(hk:k<36):Zbg (k:Int) S=true/\Zae (k:Int) S=(inC (num S 0) (num S 1) k && !(Zdg (k:Int) S)):=by rw[Yk8 hS hk];exact Zuy hS hk
theorem Yp3{r:Array Value}{k:Nat}(h:k<r.size)(kd:IntKind)(n:Int):num (r.setIfInBounds k (.int kd n)) k=n:=by unfold num;rw[jA,if_pos rfl,if_pos h]
theorem zc_at:∀k,k<36->(zc PZ 111)[k]?=some (.int .i64 0):=by
 have h:(List.range 36).all (λk=>match (zc PZ 111)[k]? with|some (.int .i64 0)=>true|_=>false)=true:=by kernel_rfl
 intro k hk;have:=List.all_eq_true.1 h k (List.mem_range.2 hk);split at this
 ·assumption
 ·cases this
theorem Yky(V:List (Int×Int)->Array Value->Int)(S L:Array Value)(t:Int){k:Nat}(hk:k<36):num (rowF PZ V S L t) (k*1)=if inC (num S 0) (num S 1) k then V (stL S t k) L else 0:=by
 have h:=Zjl (f:=λr k=>if inC (num S 0) (num S 1) k then r.setIfInBounds (k*1) (.int .i64 (V (stL S t k) L)) else r) (t:=zc PZ 111) (n:=36)
  (fun m (r:Array Value)=>r.size=36∧∀ i,i<36→num r i=if i<m∧inC (num S 0) (num S 1) i then V (stL S t i) L else 0) ⟨Yj5,fun i hi=>by
   unfold num;rw[zc_at i hi];simp⟩ (λm s hm hs=>by
   refine⟨by split<;>simp[hs.1],λi hi=> ?_⟩
   by_cases hmi:m=i
   ·subst hmi;cases hc:inC (num S 0) (num S 1) m with|true=>simp only[if_true];rw[jB,Yp3 (by omega),if_pos ⟨by omega,trivial⟩]|false=>simp only[Bool.false_eq_true,if_false,and_false];rw[hs.2 m hi,if_neg (by omega)]
   ·have hsame:num (if inC (num S 0) (num S 1) m then s.setIfInBounds (m*1) (.int .i64 (V (stL S t m) L)) else s) i=num s i:=by
     split
     ·unfold num;rw[jA,if_neg (by omega)]
     ·rfl
    show num (if inC (num S 0) (num S 1) m then s.setIfInBounds (m*1) (.int .i64 (V (stL S t m) L)) else s) i=_
    rw[hsame,hs.2 i hi]
    by_cases hi2:i<m
    ·simp[hi2,show i<m+1 by omega]
    ·simp[hi2,show ¬i<m+1 by omega]) 36 (Nat.le_refl _)
 unfold rowF;rw[jB,h.2 k hk];simp[hk]
def oneX(P:Program)(c b:Int):Array Value:=(((zc P 144).setIfInBounds 0 (.int .i8 (IntKind.i8.wrap b))).setIfInBounds 2 (.int .i64 1)).setIfInBounds (3+c.toNat*1) (.int .i64 1)
theorem Ycg{c b:Int}(hb:0<=b/\b<=1)(hc:0<=c/\c<=35):num (oneX PZ c b) 0=b/\num (oneX PZ c b) 1=0/\(oneX PZ c b).size=40/\∀i,i<36->num (oneX PZ c b) (3+i)=if i=c.toNat then 1 else 0:=by
 have hz:(zc PZ 144).size=40:=by kernel_rfl
 have hc0:(List.range 36).all (λk=>match (zc PZ 144)[3+k]? with|some (.int .i64 0)=>true|_=>false)=true:=by kernel_rfl
 have h1:(zc PZ 144)[1]?=some (.int .i8 0):=by kernel_rfl
 unfold oneX;refine⟨?_,?_,by simp[hz],λi hi=> ?_⟩
 ·unfold num;rw[jA,if_neg (by omega),jA,if_neg (by omega),jA,if_pos rfl,if_pos (by omega)];exact IntWalk.i8_in _ (by omega)
 ·unfold num;rw[jA,if_neg (by omega),jA,if_neg (by omega),jA,if_neg (by omega),h1]
 ·unfold num;rw[jA]
  by_cases e:i=c.toNat
  ·rw[if_pos (by omega),if_pos (by simp;omega),if_pos e]
  ·rw[if_neg (by omega),if_neg e,jA,if_neg (by omega),jA,if_neg (by omega)];have:=List.all_eq_true.1 hc0 i (List.mem_range.2 hi);split at this
   ·rename_i e2;rw[e2]
   ·cases this
def sm(f:Nat->Int)(n:Nat):Int:=folds (λs i=>s+f i) 0 n
theorem Zla(f:Nat->Int)(n:Nat):sm f (n+1)=sm f n+f n:=Ze7 _ _ _
theorem Zxn{f g:Nat->Int}:∀n,(∀i,i<n->f i=g i)->sm f n=sm g n
 |0,_=>rfl
 |n+1,h=>by rw[Zla,Zla,Zxn n λi hi=>h i (by omega),h n (by omega)]
theorem Yo3{f g:Nat->Int}{j:Nat}(h:∀i,i≠j->f i=g i):∀n,j<n->sm f n=sm g n+(f j - g j)
 |0,hj=>by omega
 | n+1,hj=>by
  rw[Zla,Zla]
  by_cases e:j=n
  ·subst e;rw[Zxn j λi hi=>h i (by omega)];omega
  ·rw[Yo3 h n (by omega),h n (λh=>e h.symm)];omega
theorem Ykp{f:Nat->Int}:∀n,(∀i,i<n->f i=0)->sm f n=0
 |0,_=>rfl
 |n+1,h=>by rw[Zla,Ykp n λi hi=>h i (by omega),h n (by omega)];rfl
theorem sm_one{f:Nat->Int}{j:Nat}(n:Nat)(hj:j<n)(h:∀i,i<n->i≠j->f i=0):sm f n=f j:=by
 have:=Yo3 (f:=λi=>if i<n then f i else 0) (g:=λ_=>0) (j:=j) (λi hi=>by
  by_cases c:i<n
  ·rw[if_pos c];exact h i c hi
  ·rw[if_neg c]) n hj
 rw[Ykp (f:=λ_=>(0:Int)) n λ_ _=>rfl]at this;rw[Zxn (g:=λi=>if i<n then f i else 0) n λi hi=>(if_pos hi).symm,this,if_pos hj];omega
def dot(X r:Array Value):Int:=sm (λi=>num X (3+i)*num r i) 36
theorem Yqf{Y r:Array Value}(hY:Y.size=40){j:Nat}(hj:j<36)(m:Int):cg (dot (adN Y (3+j) m) r) (dot Y r+m*num r j):=by
 have h:=Yo3 (f:=λi=>num (adN Y (3+j) m) (3+i)*num r i) (g:=λi=>num Y (3+i)*num r i) (j:=j) (λi hi=>by
  show num _ _*_=_
  rw[Ymj m (by omega)]) 36 hj
 have e:num (adN Y (3+j) m) (3+j)=i64.wrap (num Y (3+j)+m):=adN_eq m (by omega);unfold dot;rw[h];simp only[e];refine cg.add (cg.refl _) ?_;have:=(Zo5 (num Y (3+j)+m)).mul (num r j);obtain⟨k,hk⟩:=this;exact⟨k,by rw[hk,Int.add_mul];omega⟩
theorem dot_out{Y r:Array Value}(m:Int):dot (adN Y 39 m) r=dot Y r:=by
 unfold dot;refine Zxn 36 λi hi=> ?_
 rw[Ymj m (by omega)]
def twX(S r:Array Value)(t:Int)(k w:Nat):Int:=if gw S k w=-1 then 0 else chW S t (k:Int) w*num r (gw S k w).toNat
theorem way_dot{S X s r:Array Value}(h0:1<=num S 0/\num S 0<=6/\1<=num S 1/\num S 1<=6){k:Nat}(hk:k<36)(hi:inC (num S 0) (num S 1) k=true)(t:Int){w:Nat}(hw:w<5)(hs:s.size=40):
  cg (dot (wayF S X t k s w) r) (dot s r+num X (3+k)*twX S r t k w):=by
 unfold wayF twX;rw[Ycz h0 hk hi w hw]
 by_cases c:gw S k w=-1
 ·rw[c,if_pos rfl,Q3 (by omega),Q1,dot_out];exact cg.of_eq (by omega)
 ·have hr:=Ycc h0 hk hi w hw c;rw[if_neg c,Q4 (by omega),Q2,jB];refine(Yqf hs (by omega) _).trans (cg.add (cg.refl _) ?_);unfold muF;rw[jB,<- Int.mul_assoc];exact(Zo5 _).mul _
def lsum(l:List (Int×Int))(r:Array Value):Int:=(l.map λp=>p.2*Ucg r p.1).sum
theorem Ycr(l m:List (Int×Int))(r:Array Value):lsum (l++m) r=lsum l r+lsum m r:=by unfold lsum;rw[List.map_append,List.sum_append]
theorem sum_cg(r:Array Value):∀(l:List (Int×Int)) (c:Int),cg (l.foldl (sumF r) c) (c+lsum l r)
 |[],c=>cg.of_eq (by unfold lsum;simp)
 |p::l,c=>by
  rw[List.foldl_cons];refine(sum_cg r l _).trans ?_;have e:lsum (p::l) r=p.2*Ucg r p.1+lsum l r:=by unfold lsum;simp
  rw[e,<- Int.add_assoc];refine cg.add ?_ (cg.refl _);unfold sumF;exact(Zo5 _).trans (cg.add (cg.refl _) (Zo5 _))
theorem lay_cell{x:Nat}(h:x<360):(lay PZ 38)[3+x]?=some (kN .u8):=by rw[Yg6,show 3+x=x+1+1+1 by omega,List.getElem?_cons_succ,List.getElem?_cons_succ,List.getElem?_cons_succ,List.getElem?_replicate,if_pos h];rfl
theorem ch_pos{S:Array Value}(hS:WT PZ 38 S){t:Int}(ht:0<=t/\t<2){k w:Nat}(hk:k<36)(hw:w<5):0<=chW S t (k:Int) w:=by have h:=(hS.int (o:=3+(t.toNat*180+k*5+w)) (k:=.u8) (lay_cell (by omega))).2;have e1:IntKind.u8.min=0:=rfl;have e2:IntKind.u8.max=255:=rfl;unfold chW;rw[Q9,show 3+t.toNat*180+k*5+w=3+(t.toNat*180+k*5+w) by omega,w64 (by omega)];omega
theorem Yet{S:Array Value}(hS:WT PZ 38 S){t:Int}(ht:0<=t/\t<2){k w:Nat}(hk:k<36)(hw:w<5)(r:Array Value):lsum (Ube S t k w) r=twX S r t k w:=by
 have hp:=ch_pos hS ht hk hw;unfold Ube twX
 by_cases c:gw S k w=-1
 ·rw[if_pos c,c,show decide ((-1:Int) ≠ -1)=false from rfl,Bool.and_false];rfl
 ·rw[if_neg c,Q3 c,Bool.and_true]
  by_cases c2:chW S t (k:Int) w > 0
  ·rw[Q3 c2];unfold lsum Ucg;simp
  ·rw[Q4 c2,show chW S t (k:Int) w=0 by omega];unfold lsum;simp
theorem cell_dot{S:Array Value}(hS:WT PZ 38 S)(h0:1<=num S 0/\num S 0<=6/\1<=num S 1/\num S 1<=6){t:Int}(ht:0<=t/\t<2){r:Array Value}(hz:∀k,k<36->inC (num S 0) (num S 1) k=false->num r k=0)(X:Array Value){s:Array Value}(hs:s.size=40){k:Nat}(hk:k<36):
  cg (dot (Ucs S X t s k) r) (dot s r+num X (3+k)*num (rowF PZ sumL S r t) (k*1)):=by
 rw[Yky sumL S r t hk];unfold Ucs;rw[(wet_all hS hk).2];cases hi:inC (num S 0) (num S 1) k with
 |false=>simp only[Bool.false_and,Q2,Bool.false_eq_true,if_false,jB];refine(Yqf hs hk _).trans (cg.of_eq ?_);rw[hz k hk hi];omega
 | true=>
  simp only[Bool.true_and,if_true];unfold stL;rw[dry_land hS hk];cases hd:Zbn S (k:Int) with
  |true=>
   simp only[Bool.not_true,Q2,Q1,jB];refine(Yqf hs hk _).trans (cg.add (cg.refl _) ?_);have e:sumL [((k:Int),12)] r=i64.wrap (0+i64.wrap (12*Ucg r (k:Int))):=rfl;have e2:Ucg r (k:Int)=num r k:=by unfold Ucg;rw[Q9,jB]
   rw[e,e2];have h1:cg (i64.wrap (num X (3+k)*12)*num r k) (num X (3+k)*12*num r k):=(Zo5 _).mul _;have h2:cg (i64.wrap (0+i64.wrap (12*num r k))) (12*num r k):=(Zo5 _).trans ((cg.add (cg.refl 0) (Zo5 _)).trans (cg.of_eq (by omega)));have h3:=h2.mul (num X (3+k));rw[Int.mul_comm _ (num X (3+k)),Int.mul_comm (12*num r k)]at h3;refine h1.trans (cg.trans (cg.of_eq ?_) h3.symm);rw[Int.mul_assoc]
  | false=>
   simp only[Bool.not_false,Q1,Q2];have wsz:∀(s:Array Value) w,s.size=40->(wayF S X t k s w).size=40:=λs w h=>by unfold wayF;cases decide (Zad (k:Int) (w:Int) S<0)<;>(simp only[Q1,Q2];rw[Zy3];exact h)
   have hf:∀w,w<=5->(folds (wayF S X t k) s w).size=40/\cg (dot (folds (wayF S X t k) s w) r) (dot s r+num X (3+k)*sm (twX S r t k) w):=λw=>by
    induction w with
    |zero=>exact λ_=>⟨hs,cg.of_eq (by rw[Zm0,show sm (twX S r t k) 0=0 from rfl];omega)⟩
    |succ w ih=>intro hw;obtain⟨i1,i2⟩:=ih (by omega);rw[Ze7,Zla];refine⟨wsz _ _ i1,(way_dot h0 hk hi t (by omega) i1).trans ((cg.add i2 (cg.refl _)).trans (cg.of_eq ?_))⟩;rw[Int.mul_add];omega
   refine(hf 5 (Nat.le_refl _)).2.trans (cg.add (cg.refl _) ?_);have e5:sm (twX S r t k) 5=lsum (Ube S t k 1++Ube S t k 4++Ube S t k 0++Ube S t k 2++Ube S t k 3) r:=by rw[Ycr,Ycr,Ycr,Ycr,Yet hS ht hk (by omega),Yet hS ht hk (by omega),Yet hS ht hk (by omega),Yet hS ht hk (by omega),Yet hS ht hk (by omega)];rw[show (5:Nat)=4+1 from rfl,Zla,show (4:Nat)=3+1 from rfl,Zla,show (3:Nat)=2+1 from rfl,Zla,show (2:Nat)=1+1 from rfl,Zla,show (1:Nat)=0+1 from rfl,Zla,show sm (twX S r t k) 0=0 from rfl];omega
   rw[e5];have h2:=(sum_cg r (Ube S t k 1++Ube S t k 4++Ube S t k 0++Ube S t k 2++Ube S t k 3) 0).mul (num X (3+k));rw[Int.zero_add,Int.mul_comm _ (num X (3+k)),Int.mul_comm _ (num X (3+k))]at h2;exact h2.symm
theorem hour_dot{S:Array Value}(hS:WT PZ 38 S)(h0:1<=num S 0/\num S 0<=6/\1<=num S 1/\num S 1<=6){r:Array Value}(hz:∀k,k<36->inC (num S 0) (num S 1) k=false->num r k=0){X:Array Value}(ht:0<=tdS X/\tdS X<2):
  cg (dot (Ubr PZ S X) r) (dot X (rowF PZ sumL S r (tdS X))):=by
 have hsz:(Ubs PZ X).size=40:=by
  have hz:(zc PZ 144).size=40:=by kernel_rfl
  unfold Ubs;simp[hz]
 have h:=Zjl (f:=Ucs S X (tdS X)) (t:=Ubs PZ X) (n:=36) (λk (s:Array Value)=>s.size=40/\cg (dot s r) (sm (λi=>num X (3+i)*num (rowF PZ sumL S r (tdS X)) (i*1)) k)) ⟨hsz,cg.of_eq (by
  rw[show sm _ 0=0 from rfl];unfold dot;exact Ykp 36 λi hi=>by rw[(Zsj X).2.2 i hi];omega)⟩ (λk s hk hs=>by
  refine⟨Ynf (Q:=λr=>r.size=40) (λr i m h=>by rw[Zy3];exact h) S X _ s k hs.1,?_⟩;rw[Zla];exact(cell_dot hS h0 ht hz X hs.1 hk).trans (cg.add hs.2 (cg.refl _))) 36 (Nat.le_refl _)
 refine h.2.trans (cg.of_eq ?_);unfold dot;exact Zxn 36 λi hi=>by rw[jB]
theorem Yow{S L:Array Value}(hz:∀k,k<36->inC (num S 0) (num S 1) k=false->num L k=0)(b h:Int):∀j k,k<36->inC (num S 0) (num S 1) k=false->num (rowR PZ sumL S L b h j) k=0
 |0,k,hk,hn=>by rw[rowR];exact hz k hk hn
 |j+1,k,hk,hn=>by
  have:=Yky sumL S (rowR PZ sumL S L b h j) ((i64.wrap (b+i64.wrap (h - ((j+1:Nat):Int)))).tmod 2) hk;rw[jB]at this;rw[rowR,this,hn];rfl
theorem Yfh{S L:Array Value}(hS:WT PZ 38 S)(hok:okS S=true)(hz:∀k,k<36->inC (num S 0) (num S 1) k=false->num L k=0){c b:Int}{h:Nat}(hb:0<=b/\b<=1)(hc:0<=c/\c<=35)(hh:h<=14):
  ∀i,i<=h->cg (dot (Ua1 PZ S (oneX PZ c b) i) (rowR PZ sumL S L b (h:Int) (h - i))) (dot (oneX PZ c b) (rowR PZ sumL S L b (h:Int) h))
 |0,_=>cg.refl _
 | i+1,hi'=>by
  obtain⟨n0,n1,_,_⟩:=Ycg (c:=c) (b:=b) hb hc;have htd:=Ymi (S:=S) (X:=oneX PZ c b) (by rw[n0];omega) (by rw[n1];omega) (show i<=14 by omega);rw[n0,n1]at htd;refine cg.trans ?_ (Yfh hS hok hz hb hc hh i (by omega));have hd:=hour_dot hS (Zqr hok) (r:=rowR PZ sumL S L b (h:Int) (h - (i+1))) (Yow hz b (h:Int) _) (X:=Ua1 PZ S (oneX PZ c b) i) (by rw[htd];omega);have er:rowR PZ sumL S L b (h:Int) (h - i)=rowF PZ sumL S (rowR PZ sumL S L b (h:Int) (h - (i+1))) (tdS (Ua1 PZ S (oneX PZ c b) i)):=by rw[show h - i=(h - (i+1))+1 by omega,rowR,show (h - (i+1))+1=h - i by omega];congr 1;rw[htd,w64 (n:=(h:Int) - ((h - i:Nat):Int)) (by omega),w64 (n:=b+((h:Int) - ((h - i:Nat):Int))) (by omega),Int.tmod_eq_emod_of_nonneg (by omega)];omega
  rw[er];exact hd
end
end Go.Proofs.YtgllknjdblkhnaaGreatDoor
