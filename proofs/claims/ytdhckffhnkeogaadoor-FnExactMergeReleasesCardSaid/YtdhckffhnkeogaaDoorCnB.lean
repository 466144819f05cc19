/- Lists of releases made one. -/
import Derived.Test.YtdhckffhnkeogaaDoorProg
import Derived.Test.YtdhckffhnkeogaaDoorCnA
set_option linter.unusedVariables false
set_option linter.unusedSimpArgs false
open _root_.List renaming getElem?_eq_getElem→jA,getElem?_set→jB,getElem?_cons_zero→jC,getElem?_cons_succ→jD
namespace Go.Proofs.YtdhckffhnkeogaaDoor
open Tryd (f41 f42)
open Go.ChangeShapes Go.WideShapes Go.ChangeAt Go.RowKit Ve Vc
open Tryd (prog)
set_option maxRecDepth 100000
noncomputable section
variable {mn:Md}
abbrev R3:=Int×Int×Int
def kq (x r:R3):Bool:=(x.1==r.1)&&(x.2.1==r.2.1)
theorem Zqt {x r:R3}:kq x r=true ↔ x.1=r.1∧x.2.1=r.2.1:=by unfold kq;simp
def atQ (L:List R3) (r:R3) (j:Nat):Bool:=match L[j]? with | some x=>kq x r | none=>false
def ixL (L:List R3) (r:R3):Option Nat:=(List.range L.length).find? (atQ L r)
def addL (L:List R3) (r:R3):List R3:=match ixL L r with
 | some j=>(match L[j]? with | some x=>L.set j (x.1,x.2.1,x.2.2+r.2.2) | none=>L)
 | none=>L++[r]
def badR (L:List R3) (r:R3):Bool:=match ixL L r with
 | some j=>(match L[j]? with | some x=>decide (x.2.2+r.2.2 > 200) | none=>false)
 | none=>false
def mgL (r:Nat→R3):Nat→List R3
 | 0=>[]
 | k+1=>addL (mgL r k) (r k)
theorem Znp {L:List R3} {r:R3} {j:Nat} (h:ixL L r=some j):∃ x,L[j]? = some x∧kq x r=true∧j<L.length∧∀ i,i<j→atQ L r i=false:=by
 unfold ixL at h
 rw [List.find?_range_eq_some] at h
 obtain ⟨h1,h2,h3⟩:=h
 have hj:=List.mem_range.1 h2
 unfold atQ at h1
 rw [jA hj] at h1
 exact ⟨L[j],jA hj,h1,hj,fun i hi=>by simpa using h3 i hi⟩
theorem Yaz {L:List R3} {r:R3} (h:ixL L r=none):∀ i,atQ L r i=false:=by
 intro i
 unfold ixL at h
 rw [List.find?_range_eq_none] at h
 by_cases hi:i<L.length
 ·simpa using h i hi
 ·unfold atQ;rw [List.getElem?_eq_none (by omega)]
def Dis (L:List R3):Prop:=∀ (i j:Nat) (x y:R3),L[i]? = some x→L[j]? = some y→kq x y=true→i=j
theorem Zlp {L:List R3} {r x:R3} {j:Nat} (h:ixL L r=some j) (hx:L[j]? = some x):addL L r=L.set j (x.1,x.2.1,x.2.2+r.2.2):=by
 unfold addL;rw [h];dsimp only;rw [hx]
theorem Zlz {L:List R3} {r:R3} (h:ixL L r=none):addL L r=L++[r]:=by
 unfold addL;rw [h]
theorem Zui {L:List R3} {r:R3} (i:Nat) (y:R3) (h:(addL L r)[i]? = some y):(∃ x,L[i]? = some x∧y.1=x.1∧y.2.1=x.2.1∧(y=x∨(kq x r=true∧y.2.2=x.2.2+r.2.2)))∨(i=L.length∧y=r∧ixL L r=none):=by
 cases hi:ixL L r with
 | some j=>
  obtain ⟨x,hx,hk,hj,_⟩:=Znp hi
  rw [Zlp hi hx,jB] at h
  by_cases e:j=i
  ·subst e
   rw [if_pos rfl,if_pos hj] at h
   cases h
   exact .inl ⟨x,hx,rfl,rfl,.inr ⟨hk,rfl⟩⟩
  ·rw [if_neg e] at h
   exact .inl ⟨y,h,rfl,rfl,.inl rfl⟩
 | none=>
  rw [Zlz hi,List.getElem?_append] at h
  by_cases e:i<L.length
  ·rw [if_pos e] at h
   exact .inl ⟨y,h,rfl,rfl,.inl rfl⟩
  ·rw [if_neg e] at h
   have:i=L.length:=by
    by_cases e2:i=L.length
    ·exact e2
    ·rw [List.getElem?_eq_none (by simp;omega)] at h;cases h
   subst this
   rw [Nat.sub_self] at h
   cases h
   exact .inr ⟨rfl,rfl,rfl⟩
theorem add_dis {L:List R3} {r:R3} (h:Dis L):Dis (addL L r):=by
 intro i j x y hx hy hk
 rw [Zqt] at hk
 rcases Zui i x hx with ⟨x',h1,h2,h3,_⟩ | ⟨h1,h2,h3⟩
 ·rcases Zui j y hy with ⟨y',k1,k2,k3,_⟩ | ⟨k1,k2,k3⟩
  ·exact h i j x' y' h1 k1 (Zqt.2 ⟨by omega,by omega⟩)
  ·exfalso
   subst k2
   have:=Yaz k3 i
   unfold atQ at this
   rw [h1] at this
   dsimp only at this
   rw [Zqt.2 ⟨by omega,by omega⟩] at this
   cases this
 ·rcases Zui j y hy with ⟨y',k1,k2,k3,_⟩ | ⟨k1,k2,k3⟩
  ·exfalso
   subst h2
   have:=Yaz h3 j
   unfold atQ at this
   rw [k1] at this
   dsimp only at this
   rw [Zqt.2 ⟨by omega,by omega⟩] at this
   cases this
  ·omega
theorem mg_dis (r:Nat→R3):∀ k,Dis (mgL r k)
 | 0=>fun i j x y h=>by simp [mgL] at h
 | k+1=>add_dis (mg_dis r k)
theorem add_len (L:List R3) (r:R3):(addL L r).length≤L.length+1∧L.length≤(addL L r).length:=by
 cases hi:ixL L r with
 | some j=>
  obtain ⟨x,hx,_⟩:=Znp hi
  rw [Zlp hi hx,List.length_set];omega
 | none=>rw [Zlz hi];simp
theorem Zwb (r:Nat→R3):∀ k,(mgL r k).length≤k
 | 0=>Nat.le_refl _
 | k+1=>by
  have:=Zwb r k
  have:=(add_len (mgL r k) (r k)).1
  show (addL (mgL r k) (r k)).length≤k+1
  omega
theorem mg_all {r:Nat→R3} {Q:Int→Int→Prop} {n:Nat} (h:∀ k,k<n→Q (r k).1 (r k).2.1):∀ k,k≤n→∀ (i:Nat) (x:R3),(mgL r k)[i]? = some x→Q x.1 x.2.1
 | 0,_,i,x,hx=>by simp [mgL] at hx
 | k+1,hk,i,x,hx=>by
  rcases Zui i x hx with ⟨x',h1,h2,h3,_⟩ | ⟨_,h2,_⟩
  ·rw [h2,h3];exact mg_all h k (by omega) i x' h1
  ·rw [h2];exact h k (by omega)
theorem Zzw {r:Nat→R3} {n:Nat} (h:∀ k,k<n→1≤(r k).2.2):∀ k,k≤n→∀ (i:Nat) (x:R3),(mgL r k)[i]? = some x→1≤x.2.2
 | 0,_,i,x,hx=>by simp [mgL] at hx
 | k+1,hk,i,x,hx=>by
  have hr:=h k (by omega)
  rcases Zui i x hx with ⟨x',h1,h2,h3,h4⟩ | ⟨_,h2,_⟩
  ·have:=Zzw h k (by omega) i x' h1
   rcases h4 with rfl | ⟨_,h4⟩<;>omega
  ·rw [h2];exact hr
def sumB:List R3→Int
 | []=>0
 | x::l=>x.2.2+sumB l
theorem sumB_app (L:List R3) (r:R3):sumB (L++[r])=sumB L+r.2.2:=by
 induction L with
 | nil=>simp [sumB]
 | cons a l ih=>simp only [List.cons_append,sumB,ih];omega
theorem Yb3:∀ {L:List R3} {j:Nat} {x y:R3},L[j]? = some x→sumB (L.set j y)=sumB L - x.2.2+y.2.2
 | [],j,x,y,h=>by simp at h
 | a::l,0,x,y,h=>by
  simp only [jC,Q8] at h
  subst h
  simp only [List.set_cons_zero,sumB];omega
 | a::l,j+1,x,y,h=>by
  simp only [jD] at h
  simp only [List.set_cons_succ,sumB,Yb3 h];omega
theorem Yfb (L:List R3) (r:R3):sumB (addL L r)=sumB L+r.2.2:=by
 cases hi:ixL L r with
 | some j=>
  obtain ⟨x,hx,_⟩:=Znp hi
  rw [Zlp hi hx,Yb3 hx]
  show sumB L - x.2.2+(x.2.2+r.2.2)=_
  omega
 | none=>rw [Zlz hi,sumB_app]
theorem Yby {L:List R3} (h:∀ (i:Nat) (x:R3),L[i]? = some x→1≤x.2.2) {j:Nat} {x:R3} (hx:L[j]? = some x):x.2.2≤sumB L∧0≤sumB L:=by
 induction L generalizing j with
 | nil=>simp at hx
 | cons a l ih=>
  have h0:=h 0 a rfl
  have hl:∀ (i:Nat) (x:R3),l[i]? = some x→1≤x.2.2:=fun i x hx=>h (i+1) x (by simpa using hx)
  have nn:0≤sumB l:=by
   clear ih hx h h0 a
   induction l with
   | nil=>exact Int.le_refl _
   | cons a l ih=>
    have h0:=hl 0 a rfl
    have:=ih fun i x hx=>hl (i+1) x (by simpa using hx)
    simp only [sumB];omega
  simp only [sumB]
  match j,hx with
  | 0,hx=>simp only [jC,Q8] at hx;subst hx;omega
  | j+1,hx=>
   simp only [jD] at hx
   have:=(ih hl hx).1
   omega
def mxL (L:List R3):Bool:=L.any fun x=>decide (x.2.2 > 200)
theorem Ye6 {L:List R3}:mxL L=true ↔ ∃ (i:Nat) (x:R3),L[i]? = some x∧x.2.2 > 200:=by
 unfold mxL
 rw [List.any_eq_true]
 constructor
 ·rintro ⟨x,hx,h⟩
  obtain ⟨i,hi⟩:=List.mem_iff_getElem?.1 hx
  exact ⟨i,x,hi,of_decide_eq_true h⟩
 ·rintro ⟨i,x,hi,h⟩
  exact ⟨x,List.mem_of_getElem? hi,Q3 h⟩
theorem mx_add {L:List R3} {r:R3} (h0:0≤r.2.2) (h1:r.2.2≤200):mxL (addL L r)=(mxL L || badR L r):=by
 cases hi:ixL L r with
 | none=>
  have hb:badR L r=false:=by unfold badR;rw [hi]
  rw [Zlz hi,hb,Bool.or_false]
  unfold mxL
  rw [List.any_append,show (List.any [r] fun x=>decide (x.2.2 > 200))=false by simp;exact h1,Bool.or_false]
 | some j=>
  obtain ⟨x,hx,hk,hj,_⟩:=Znp hi
  have hb:badR L r=decide (x.2.2+r.2.2 > 200):=by unfold badR;rw [hi];dsimp only;rw [hx]
  rw [Zlp hi hx,hb,Bool.eq_iff_iff,Bool.or_eq_true,Ye6,Ye6,decide_eq_true_eq]
  constructor
  ·rintro ⟨i,y,hy,hg⟩
   rw [jB] at hy
   by_cases e:j=i
   ·subst e
    rw [if_pos rfl,if_pos hj] at hy
    cases hy
    exact .inr hg
   ·rw [if_neg e] at hy
    exact .inl ⟨i,y,hy,hg⟩
  ·rintro (⟨i,y,hy,hg⟩ | h)
   ·by_cases e:j=i
    ·subst e
     rw [hx] at hy
     cases hy
     exact ⟨j,_,by rw [jB,if_pos rfl,if_pos hj],show x.2.2+r.2.2 > 200 by omega⟩
    ·exact ⟨i,y,by rw [jB,if_neg e];exact hy,hg⟩
   ·exact ⟨j,_,by rw [jB,if_pos rfl,if_pos hj],h⟩
def bdL (r:Nat→R3) (n:Nat):Bool:=((List.range n).find? fun k=>badR (mgL r k) (r k)).isSome
theorem bd_succ (r:Nat→R3) (n:Nat):bdL r (n+1)=(bdL r n || badR (mgL r n) (r n)):=by
 unfold bdL
 rw [List.range_succ,List.find?_append]
 cases (List.range n).find? fun k=>badR (mgL r k) (r k) with
 | some k=>rfl
 | none=>cases h:badR (mgL r n) (r n)<;>simp [h]
theorem mx_bd {r:Nat→R3} {n:Nat} (h:∀ k,k<n→0≤(r k).2.2∧(r k).2.2≤200):∀ k,k≤n→mxL (mgL r k)=bdL r k
 | 0,_=>rfl
 | k+1,hk=>by
  rw [bd_succ,← mx_bd h k (by omega)]
  exact mx_add (h k (by omega)).1 (h k (by omega)).2
def Uct (L:List R3) (r:R3):Nat→Int
 | 0=> -1
 | k+1=>bif atQ L r k then (k:Int) else Uct L r k
theorem last_ix {L:List R3} {r:R3} (h:Dis L):Uct L r L.length=match ixL L r with | some j=>(j:Int) | none=> -1:=by
 cases hi:ixL L r with
 | none=>
  have key:∀ k,Uct L r k = -1:=fun k=>by
   induction k with
   | zero=>rfl
   | succ k ih=>rw [Uct,Yaz hi,Q2,ih]
  exact key _
 | some j=>
  obtain ⟨x,hx,hk,hj,_⟩:=Znp hi
  have key:∀ k,j<k→k≤L.length→Uct L r k=(j:Int):=fun k=>by
   induction k with
   | zero=>omega
   | succ k ih=>
    intro h1 h2
    rw [Uct]
    by_cases e:k=j
    ·subst e
     have:atQ L r k=true:=by unfold atQ;rw [hx];exact hk
     rw [this,Q1]
    ·have:atQ L r k=false:=by
      cases hq:atQ L r k with
      | false=>rfl
      | true=>
       exfalso
       unfold atQ at hq
       rw [jA (show k<L.length by omega)] at hq
       have:=h k j L[k] x (jA _) hx (Zqt.2 ⟨((Zqt.1 hq).1).trans (Zqt.1 hk).1.symm,((Zqt.1 hq).2).trans (Zqt.1 hk).2.symm⟩)
       omega
     rw [this,Q2]
     exact ih (by omega) (by omega)
  exact key _ hj (Nat.le_refl _)
def c3 (x:R3):List Value:=[.int .i8 x.1,.int .i8 x.2.1,.int .i16 x.2.2]
def arrL (L:List R3):Array Value:=⟨L.flatMap c3⟩
theorem fm_at:∀ (L:List R3) (i:Nat) (x:R3) (j:Nat),L[i]? = some x→j<3→(L.flatMap c3)[i*3+j]? = (c3 x)[j]?
 | [],i,x,j,h,_=>by simp at h
 | a::l,0,x,j,h,hj=>by
  simp only [jC,Q8] at h
  subst h
  rw [List.flatMap_cons,Nat.zero_mul,Nat.zero_add,List.getElem?_append_left (show j<3 from hj)]
 | a::l,i+1,x,j,h,hj=>by
  simp only [jD] at h
  rw [List.flatMap_cons,List.getElem?_append_right (show 3≤(i+1)*3+j by omega)]
  rw [show (i+1)*3+j - (c3 a).length=i*3+j by show (i+1)*3+j - 3=_;omega]
  exact fm_at l i x j h hj
theorem Yec {L:List R3} {i:Nat} {x:R3} (h:L[i]? = some x) {j:Nat} (hj:j<3):(arrL L)[i*3+j]? = (c3 x)[j]? := by
 rw [← fm_at L i x j h hj]
 simp [arrL]
theorem Zr2 {L:List R3} {i:Nat} {x:R3} (h:L[i]? = some x):num (arrL L) (i*3)=x.1∧num (arrL L) (i*3+1)=x.2.1∧num (arrL L) (i*3+2)=x.2.2:=by
 unfold num
 rw [show i*3=i*3+0 from rfl,Yec h (show 0<3 by decide),Yec h (show 1<3 by decide),Yec h (show 2<3 by decide)]
 exact ⟨rfl,rfl,rfl⟩
theorem arr_app (L:List R3) (x:R3):arrL (L++[x])=arrL L++(⟨c3 x⟩:Array Value):=by
 unfold arrL
 rw [List.flatMap_append]
 apply Array.ext'
 simp
theorem fm_set:∀ (L:List R3) (j:Nat) (x:R3) (v:Int),L[j]? = some x→(L.set j (x.1,x.2.1,v)).flatMap c3=(L.flatMap c3).set (j*3+2) (.int .i16 v)
 | [],j,x,v,h=>by simp at h
 | a::l,0,x,v,h=>by
  simp only [jC,Q8] at h
  subst h
  rfl
 | a::l,j+1,x,v,h=>by
  simp only [jD] at h
  rw [List.set_cons_succ,List.flatMap_cons,List.flatMap_cons,fm_set l j x v h,show (j+1)*3+2=(j*3+2)+3 by omega]
  rfl
theorem Yev {L:List R3} {j:Nat} {x:R3} {v:Int} (h:L[j]? = some x):arrL (L.set j (x.1,x.2.1,v))=(arrL L).setIfInBounds (j*3+2) (.int .i16 v):=by
 unfold arrL
 rw [fm_set L j x v h]
 apply Array.ext'
 simp
def rt (A:Array Value) (k:Nat):R3:=(num (A.extract (k*3) (k*3+3)) 0,num (A.extract (k*3) (k*3+3)) 1,num (A.extract (k*3) (k*3+3)) 2)
theorem Zx4:∀ {L:List R3},(∀ (i:Nat) (x:R3),L[i]? = some x→1≤x.2.2)→0≤sumB L
 | [],_=>Int.le_refl _
 | a::l,h=>by
  have h0:=h 0 a rfl
  have:=Zx4 (L:=l) fun i x hx=>h (i+1) x (by simpa using hx)
  simp only [sumB];omega
theorem Zy4 (L M:List R3):sumB (L++M)=sumB L+sumB M:=by
 induction L with
 | nil=>simp [sumB]
 | cons a l ih=>simp only [List.cons_append,sumB,ih];omega
theorem Zyu {L:List R3} (h:∀ (i:Nat) (x:R3),L[i]? = some x→1≤x.2.2) (j:Nat):0≤sumB (L.take j)∧sumB (L.take j)≤sumB L:=by
 have e:sumB L=sumB (L.take j)+sumB (L.drop j):=by rw [← Zy4,List.take_append_drop]
 have h1:0≤sumB (L.take j):=Zx4 fun i x hx=>by
  rw [List.getElem?_take] at hx
  split at hx
  ·exact h i x hx
  ·cases hx
 have h2:0≤sumB (L.drop j):=Zx4 fun i x hx=>by
  rw [List.getElem?_drop] at hx
  exact h (j+i) x hx
 omega
theorem Yd6 {L:List R3} {j:Nat} {x:R3} (h:L[j]? = some x):sumB (L.take (j+1))=sumB (L.take j)+x.2.2:=by
 rw [List.take_add_one,h,Zy4]
 simp [sumB]
theorem Zj8 (N:Nat) (a0:Array Value) (f0:Array Value):ansV prog (mkΓ []) N f42 [] [.g a0 57,.w 0] [.row f0 57]=(bif ((num a0 0)==(num f0 0)) then (some (.a (.b (((num a0 1)==(num f0 1)))),.none,true))
  else (some (.a (.b (false)),.none,true))):=by kernel_rfl
def Zav (a0:Array Value) (f0:Array Value):Bool:=(bif ((num a0 0)==(num f0 0)) then ((num a0 1)==(num f0 1)) else false)
theorem Zjq (a0:Array Value) (f0:Array Value) (h_a0:WT prog 57 a0) (h_f0:WT prog 57 f0) (hg:(true)=true):ansV prog (mkΓ []) 1000 f42 [] [.g a0 57,.w 0] [.row f0 57]=some (.a (.b ((Zav a0 f0))),.none,true):=by
 refine (Zj8 1000 a0 f0).trans ?_
 unfold Zav
 revert hg
 generalize (((num a0 0)==(num f0 0)))=b2
 intro hg
 cases b2
 ·skip
  first | (simp only [Q1,Q2,BQ6];done) | rfl | exact (nomatch (hg:false=true))
 ·skip
  first | (simp only [Q1,Q2,BQ6];done) | rfl | exact (nomatch (hg:false=true))
def Zej:Con:=fun args h=>match args,h with
 | [.g a0 57,.w 0],[.row f0 57]=>some (.a (.b ((Zav a0 f0))),.none,true)
 | _,_=>none
theorem Zjm:EntX prog 42:=Zap (fn:=f42)
theorem Zk1:Uab mn prog 42 Zej:=(ansY (N:=1000) mkΓ_nilX f42 []).of (by
 intro ρ h w args vals r e hA hH hr
 unfold Zej at hr
 split at hr
 ·rename_i a0 f0
  obtain ⟨rfl,rfl,hg2⟩:=BQi hr
  exact Zjq a0 f0 (hA.wt 0 rfl) (hH.wt 0 rfl) hg2
 ·cases hr)
def eqR (A X:Array Value) (k:Nat):Bool:=Zav (A.extract (k*3) (k*3+3)) X
def idxR (n:Nat) (A X:Array Value):Int:=match (List.range n).find? (eqR A X) with
 | some k=>(k:Int)
 | none=> -1
def Zaj:Cons:=(mkΓ [(42,con Zej)])
def Zae (b_a0:Option (Option Addr)) (n_a0:Nat) (a0:Array Value) (a1c0:Array Value):St:=(⟨.a (.l 0) :: .a (.c 42 [1]) :: .a (.u) :: .a (.u) :: .a (.i .i64 (0:Int)) :: .a (.u) :: .a (.l 0) :: .a (.i .i64 (n_a0:Int)) :: .a (.i .i64 (0:Int))::us 10 ([]),[.sl (.came b_a0) n_a0 a0 57,.row a1c0 57],[]⟩:St)
def Zah:Int×Int→LS
 | (y0_4,y0_8)=>([.a (.i .i64 (y0_4)),.a (.i .i64 (y0_8))],[])
def Zba:(Stp (Int×Int) (Int×Int))→Exit×LS
 | .more t=>(.ret,Zah t)
 | .done t=>((.exit 0),Zah t)
def Zac (P : Program) (b_a0 : Option (Option Addr)) (n_a0 : Nat) (a0 : Array Value) (a1c0 : Array Value) : Int × Int → Option (Stp (Int × Int) (Stp (Int × Int) (Int × Int)))
 | (y0_4, y0_8) => bif decide (y0_8 < (n_a0 : Int)) then (bif (decide (0 ≤ y0_8) && decide (y0_8 < (n_a0 : Int))) then (bif (Zav (a0.extract ((y0_8).toNat * 3) (((y0_8).toNat * 3) + 3)) a1c0) then (some (.done (.more (y0_8, y0_8))))
    else (some (.more (y0_4, (IntKind.i64.wrap (y0_8 + (1 : Int)))))))
   else (none))
  else (some (.done (.done (y0_4, y0_8))))
noncomputable abbrev cKCnB41:=codeOf f41
def Udi:=(Uaf cKCnB41 [([4,8],[])]).1
theorem Zen (N:Nat) (b_a0:Option (Option Addr)) (n_a0:Nat) (a0:Array Value) (a1c0:Array Value):∀ t:Int×Int,Uam prog Zaj N (cAt cKCnB41 [1,0,1,0,0]) (pAt Udi [1,0,1,0]) [4,8] [] (Zae b_a0 n_a0 a0 a1c0) (Zah t)=mapS Zah Zba (Zac prog b_a0 n_a0 a0 a1c0 t):=by
 rintro ⟨y0_4,y0_8⟩
 refine Eq.trans (b:=(bif decide (y0_8<(n_a0:Int)) then (bif (decide (0≤y0_8)&&decide (y0_8<(n_a0:Int))) then (bif (Zav (a0.extract ((y0_8).toNat*3) (((y0_8).toNat*3)+3)) a1c0) then (some (.done (.ret,([.a (.i .i64 (y0_8)),.a (.i .i64 (y0_8))],[]))))
    else (some (.more ([.a (.i .i64 (y0_4)),.a (.i .i64 (IntKind.i64.wrap (y0_8+(1:Int))))],[]))))
   else (none))
  else (some (.done ((.exit 0),([.a (.i .i64 (y0_4)),.a (.i .i64 (y0_8))],[])))))) (by kernel_rfl) ?_
 simp only [Zac,Zbp,Zbo,Zbm,Zbn,Zah,Zba]
def Za2 (P:Program) (N:Nat) (b_a0:Option (Option Addr)) (n_a0:Nat) (a0:Array Value) (a1c0:Array Value) (z0_4:Int) (z0_8:Int):Option (SV×Eff×Bool):=some (.a (.i .i64 (z0_4)),.none,true)
def Uc6 (N:Nat) (b_a0:Option (Option Addr)) (n_a0:Nat) (a0 a1c0:Array Value):=(Uaz 0 (kSeq (veC prog Zaj N (cAt cKCnB41 [1,1]) (pAt Udi [1,1]) (SV×Eff×Bool)) (finK prog [.sl (.came b_a0) n_a0 a0 57,.row a1c0 57] [.tmp 4])))
theorem Zd0 (N:Nat) (b_a0:Option (Option Addr)) (n_a0:Nat) (a0:Array Value) (a1c0:Array Value) (z0_4:Int) (z0_8:Int):(Uc6 N b_a0 n_a0 a0 a1c0) .ret (left (writes (cAt cKCnB41 [1,0,1,0,0])) [4,8] [] (Zae b_a0 n_a0 a0 a1c0) ([.a (.i .i64 (z0_4)),.a (.i .i64 (z0_8))],[]))=Za2 prog N b_a0 n_a0 a0 a1c0 z0_4 z0_8:=by
 refine Eq.trans (b:=(some (.a (.i .i64 (z0_4)),.none,true))) (by kernel_rfl) ?_
 rfl
def Za3 (P:Program) (N:Nat) (b_a0:Option (Option Addr)) (n_a0:Nat) (a0:Array Value) (a1c0:Array Value) (z0_4:Int) (z0_8:Int):Option (SV×Eff×Bool):=some (.a (.i .i64 (-1:Int)),.none,true)
theorem Zdz (N:Nat) (b_a0:Option (Option Addr)) (n_a0:Nat) (a0:Array Value) (a1c0:Array Value) (z0_4:Int) (z0_8:Int):(Uc6 N b_a0 n_a0 a0 a1c0) (.exit 0) (left (writes (cAt cKCnB41 [1,0,1,0,0])) [4,8] [] (Zae b_a0 n_a0 a0 a1c0) ([.a (.i .i64 (z0_4)),.a (.i .i64 (z0_8))],[]))=Za3 prog N b_a0 n_a0 a0 a1c0 z0_4 z0_8:=by
 refine Eq.trans (b:=(some (.a (.i .i64 (-1:Int)),.none,true))) (by kernel_rfl) ?_
 rfl
theorem Zem (N:Nat) (b_a0:Option (Option Addr)) (n_a0:Nat) (a0:Array Value) (a1c0:Array Value):Uak (Uaa (Uam prog Zaj N (cAt cKCnB41 [1,0,1,0,0]) (pAt Udi [1,0,1,0]) [4,8] [] (Zae b_a0 n_a0 a0 a1c0)) N ([.a (.i .i64 (0:Int)),.a (.i .i64 (0:Int))],[])) (fun e s=>(Uc6 N b_a0 n_a0 a0 a1c0) e (left (writes (cAt cKCnB41 [1,0,1,0,0])) [4,8] [] (Zae b_a0 n_a0 a0 a1c0) s))=Uan (Uaa (Zac prog b_a0 n_a0 a0 a1c0) N ((0:Int),(0:Int))) (st2 (fun x=>Za2 prog N b_a0 n_a0 a0 a1c0 x.1 x.2) (fun x=>Za3 prog N b_a0 n_a0 a0 a1c0 x.1 x.2)):=by
 refine Zby Zah Zba _ _ (Zen N b_a0 n_a0 a0 a1c0) N ((0:Int),(0:Int)) _ _ ?_
 intro x
 cases x with
 | more x=>exact Zd0 N b_a0 n_a0 a0 a1c0 x.1 x.2
 | done x=>exact Zdz N b_a0 n_a0 a0 a1c0 x.1 x.2
theorem Zek (N:Nat) (b_a0:Option (Option Addr)) (n_a0:Nat) (a0:Array Value) (a1c0:Array Value):ansV prog Zaj N f41 [([4,8],[])] [.l 0,.c 42 [1]] [.sl (.came b_a0) n_a0 a0 57,.row a1c0 57]=(Uan (Uaa (Zac prog b_a0 n_a0 a0 a1c0) N ((0:Int),(0:Int))) (st2 (fun x=>Za2 prog N b_a0 n_a0 a0 a1c0 x.1 x.2) (fun x=>Za3 prog N b_a0 n_a0 a0 a1c0 x.1 x.2))):=by
 refine Eq.trans (b:=(Uak (Uaa (Uam prog Zaj N (cAt cKCnB41 [1,0,1,0,0]) (pAt Udi [1,0,1,0]) [4,8] [] (Zae b_a0 n_a0 a0 a1c0)) N ([.a (.i .i64 (0:Int)),.a (.i .i64 (0:Int))],[])) (fun e s=>(Uc6 N b_a0 n_a0 a0 a1c0) e (left (writes (cAt cKCnB41 [1,0,1,0,0])) [4,8] [] (Zae b_a0 n_a0 a0 a1c0) s)))) (by kernel_rfl) ?_
 simp only [Zem N b_a0 n_a0 a0 a1c0]
theorem Zed (b_a0:Option (Option Addr)) (n_a0:Nat) (a0:Array Value) (a1c0:Array Value) (h_a0:a0.size=n_a0*(lay prog 57).length∧(∀ k,k<n_a0→WT prog 57 (a0.extract (k*(lay prog 57).length) (k*(lay prog 57).length+(lay prog 57).length)))∧n_a0≤9223372036854775807) (h_a1c0:WT prog 57 a1c0) (hg:((Nat.ble n_a0 2000000))=true):ansV prog Zaj 18446744073709551616 f41 [([4,8],[])] [.l 0,.c 42 [1]] [.sl (.came b_a0) n_a0 a0 57,.row a1c0 57]=some (.a (.i .i64 (idxR n_a0 a0 a1c0)),.none,true):=by
 have hn:n_a0≤2000000:=Nat.le_of_ble_eq_true hg
 have h:=Zn3 (g:=Zac prog b_a0 n_a0 a0 a1c0) (fun k=>((0:Int),(k:Int))) (eqR a0 a1c0) n_a0 (N:=18446744073709551616) (xd:=.done ((0:Int),(n_a0:Int))) (by omega) (fun k=>.more ((k:Int),(k:Int))) (fun k hk hp=>by
  have g1:decide ((k:Int)<(n_a0:Int))=true:=Q3 (by omega)
  have g0:decide (0≤(k:Int))=true:=Q3 (by omega)
  have g3:IntKind.i64.wrap ((k:Int)+1)=((k+1:Nat):Int):=by rw [IntWalk.i64_in _ (by omega)];omega
  have gp:Zav (a0.extract (k*3) (k*3+3)) a1c0=false:=hp
  simp only [Zac,g1,g0,g3,gp,Q9,Bool.and_self,Q1,Q2]) (fun k hk hp=>by
  have g1:decide ((k:Int)<(n_a0:Int))=true:=Q3 (by omega)
  have g0:decide (0≤(k:Int))=true:=Q3 (by omega)
  have gp:Zav (a0.extract (k*3) (k*3+3)) a1c0=true:=hp
  simp only [Zac,g1,g0,gp,Q9,Bool.and_self,Q1]) (by
  have g1:decide ((n_a0:Int)<(n_a0:Int))=false:=Q4 (by omega)
  simp only [Zac,g1,Q2])
 refine (Zek 18446744073709551616 b_a0 n_a0 a0 a1c0).trans ?_
 rw [show Uaa (Zac prog b_a0 n_a0 a0 a1c0) 18446744073709551616 ((0:Int),(0:Int))=_ from h]
 unfold idxR
 cases (List.range n_a0).find? (eqR a0 a1c0)<;>rfl
def Za7:Con:=fun args h=>match args,h with
 | [.l 0,.c 42 [1]],[.sl (.came b_a0) n_a0 a0 57,.row a1c0 57]=>some (.a (.i .i64 (idxR n_a0 a0 a1c0)),.none,(Nat.ble n_a0 2000000))
 | _,_=>none
theorem Zb1:EntX prog 41:=Zap (fn:=f41)
theorem Zcg:Uab mn prog 41 Za7:=(ansY (N:=18446744073709551616) (mkΓ_consX (Zam Zk1) Zjm mkΓ_nilX) f41 [([4,8],[])]).of (by
 intro ρ h w args vals r e hA hH hr
 unfold Za7 at hr
 split at hr
 ·rename_i b_a0 n_a0 a0 a1c0
  obtain ⟨rfl,rfl,hg2⟩:=BQi hr
  exact Zed b_a0 n_a0 a0 a1c0 (hH.slw 0 rfl) (hH.wt 1 rfl) hg2
 ·cases hr)
theorem Yeh {L:List R3} {A:Array Value} {k:Nat}:idxR L.length (arrL L) (A.extract (k*3) (k*3+3))=match ixL L (rt A k) with
  | some j=>(j:Int)
  | none=> -1:=by
 unfold idxR ixL
 rw [Yde (q:=atQ L (rt A k)) fun i hi=>by
  obtain ⟨h0,h1,-⟩:=Zr2 (jA hi)
  unfold eqR Zav atQ
  rw [jA hi]
  have e0:num ((arrL L).extract (i*3) (i*3+3)) 0=num (arrL L) (i*3+0):=Zpx (by omega)
  have e1:num ((arrL L).extract (i*3) (i*3+3)) 1=num (arrL L) (i*3+1):=Zpx (by omega)
  rw [e0,e1,h1,Nat.add_zero,h0]
  unfold kq rt
  dsimp only
  cases (L[i].1==num (A.extract (k*3) (k*3+3)) 0)<;>rfl]
def Ub0 (n:Nat) (A:Array Value):Bool:=Nat.ble n 12&&(List.range n).all fun k=>decide (1≤(rt A k).2.2∧(rt A k).2.2≤200)
theorem Zty {n:Nat} {A:Array Value}:Ub0 n A=true ↔ n≤12∧∀ k,k<n→1≤(rt A k).2.2∧(rt A k).2.2≤200:=by
 unfold Ub0
 rw [Q7,List.all_eq_true]
 exact ⟨fun h=>⟨Nat.le_of_ble_eq_true h.1,fun k hk=>of_decide_eq_true (h.2 k (List.mem_range.2 hk))⟩,fun h=>⟨Nat.ble_eq_true_of_le h.1,fun k hk=>Q3 (h.2 k (List.mem_range.1 hk))⟩⟩
theorem rel_c3 {X:Array Value} (hX:WT prog 57 X):X=(⟨c3 (num X 0,num X 1,num X 2)⟩:Array Value):=by
 have hz:X.size=3:=by rw [hX.layLen];kernel_rfl
 have e0:=(hX.int (o:=0) (k:=.i8) (by kernel_rfl)).1
 have e1:=(hX.int (o:=1) (k:=.i8) (by kernel_rfl)).1
 have e2:=(hX.int (o:=2) (k:=.i16) (by kernel_rfl)).1
 refine Zff fun i=> ?_
 match i with
 | 0=>exact e0
 | 1=>exact e1
 | 2=>exact e2
 | i+3=>rw [Array.getElem?_eq_none (by omega),Array.getElem?_eq_none (by simp [c3])]
theorem Zyw {n:Nat} {A:Array Value} (h:∀ k,k<n→1≤(rt A k).2.2∧(rt A k).2.2≤200):∀ k,k≤n→0≤sumB (mgL (rt A) k)∧sumB (mgL (rt A) k)≤200*k
 | 0,_=>⟨Int.le_refl _,Int.le_refl _⟩
 | k+1,hk=>by
  have ih:=Zyw h k (by omega)
  have:=h k (by omega)
  show 0≤sumB (addL (mgL (rt A) k) (rt A k))∧sumB (addL (mgL (rt A) k) (rt A k))≤_
  rw [Yfb]
  omega
theorem Yew {L:List R3} {A:Array Value} {k:Nat} (hX:WT prog 57 (A.extract (k*3) (k*3+3))) (hi:ixL L (rt A k)=none):arrL L++(spl (#[.int .i8 (0:Int),.int .i8 (0:Int),.int .i16 (0:Int)]:Array Value) 0 (A.extract (k*3) (k*3+3)).toList)=arrL (addL L (rt A k)):=by
 rw [Zxj (by rw [hX.layLen];kernel_rfl),Zlz hi,arr_app]
 exact congrArg _ (rel_c3 hX)
theorem Yah {L:List R3} {A:Array Value} {k j:Nat} {x:R3} (hi:ixL L (rt A k)=some j) (hx:L[j]? = some x) (hb:0≤x.2.2∧x.2.2≤20000) (hr:0≤(rt A k).2.2∧(rt A k).2.2≤200):(arrL L).setIfInBounds (j*3+2) (.int .i16 (IntKind.i16.wrap (num (arrL L) (j*3+2)+num (A.extract (k*3) (k*3+3)) 2)))=arrL (addL L (rt A k))∧num (arrL (addL L (rt A k))) (j*3+2)=x.2.2+(rt A k).2.2:=by
 obtain ⟨-,-,h2⟩:=Zr2 hx
 have e:num (A.extract (k*3) (k*3+3)) 2=(rt A k).2.2:=rfl
 have hj:j<L.length:=by
  obtain ⟨h,-⟩:=List.getElem?_eq_some_iff.1 hx
  exact h
 rw [h2,e,Zlp hi hx,IntWalk.i16_in _ (by omega),Yev hx]
 refine ⟨rfl, ?_⟩
 rw [← Yev hx]
 have hx':(L.set j (x.1,x.2.1,x.2.2+(rt A k).2.2))[j]? = some (x.1,x.2.1,x.2.2+(rt A k).2.2):=by
  rw [jB,if_pos rfl,if_pos hj]
 exact (Zr2 hx').2.2
theorem Yb9 {L:List R3} (h:∀ (i:Nat) (x:R3),L[i]? = some x→1≤x.2.2) (hs:sumB L≤20000):∀ j,j≤L.length→wsum (arrL L) j=sumB (L.take j)
 | 0,_=>rfl
 | j+1,hj=>by
  have hx:=jA (show j<L.length by omega)
  obtain ⟨-,-,h2⟩:=Zr2 hx
  have e:num ((arrL L).extract (j*3) (j*3+3)) 2=num (arrL L) (j*3+2):=Zpx (by omega)
  have b1:=Zyu h j
  have b2:=Zyu h (j+1)
  have b3:=Yd6 hx
  have b4:=h j _ hx
  rw [wsum,Yb9 h hs j (by omega),e,h2,IntWalk.i64_in (L[j].2.2) (by omega),IntWalk.i64_in _ (by omega),b3]
end
end Go.Proofs.YtdhckffhnkeogaaDoor
