/- An hour on is an hour. -/
import Derived.Test.YtefjogahegolbaaDoorProg
import Derived.Test.YtefjogahegolbaaDoorCxI
set_option linter.unusedVariables false
set_option linter.unusedSimpArgs false
namespace Go.Proofs.YtefjogahegolbaaDoor
open Go.ChangeShapes Go.WideShapes Go.ChangeAt Go.RowKit Ve Vc
open Tryd (prog)
set_option maxRecDepth 100000
noncomputable section
variable {mn:Md}
theorem Yge{S X:Array Value}(hz:(Ub4 prog X).size=40){j:Nat}(hj:j<40):cg (num (Ubz prog S X) j) (num (Ub4 prog X) j+sumI (λk=>if Zam (k:Int) S=true then sumI (λw=>if Ufs (Zai (k:Int) (w:Int) S)=j then muF S X (tdS X) k w else 0) 5 else if 3+k*1=j then num X (3+k*1)*12 else 0) 36):=by unfold Ubz;exact(Ztk 36 hz λk s _ hs=>cellF_cg S X (tdS X) hs k hj).2
theorem Ybf(X:Array Value):(Ub4 prog X).size=40/\∀j,2<=j->j<40->cg (num (Ub4 prog X) j) (if j=2 then num X 2 else if j=39 then num X 39*12 else 0):=by
 have hz:(zc prog 77).size=40:=Zmx.1;refine⟨by unfold Ub4;simp[hz],λj h2 hj=> ?_⟩
 by_cases e2:j=2
 ·subst e2;rw[if_pos rfl];unfold Ub4;rw[Zji,if_neg (by omega),Zji,if_pos ⟨rfl,by simp[hz]⟩];exact .refl _
 ·rw[if_neg e2]
  by_cases e9:j=39
  ·subst e9;rw[if_pos rfl];unfold Ub4;rw[Zji,if_pos ⟨rfl,by simp[hz]⟩];exact Zyz _
  ·rw[if_neg e9];have:=(Zoy X).2.2 (j - 3) (by omega);rw[show 3+(j - 3)=j by omega]at this;exact .of this
theorem Ykr{S X:Array Value}(hz:X.size=40):num (Ucd S X) 0=num X 0/\num (Ucd S X) 1=IntKind.i8.wrap (num X 1+1)/\(Ucd S X).size=40/\∀j,2<=j->j<40->cg (num (Ucd S X) j) ((if j=2 then num X 2 else if j=39 then num X 39*12 else 0)+(if 3<=j/\j<3+36 then (if Zae S ((j - 3:Nat):Int)=true then num X j*12 else 0) else 0)):=by
 obtain⟨h1,h2⟩:=Ya5 (S:=S) hz 36 (Nat.le_refl _);have e:Ucd S X=(Ucf (Udz S X 36)).setIfInBounds 1 (.int .i8 (IntKind.i8.wrap (num (Ucf (Udz S X 36)) 1+1))):=rfl;rw[e];generalize Udz S X 36=q at h1 h2|-
 have h39:∀j,j<39->num (Ucf q) j=num q j:=λj hj=>by unfold Ucf;rw[Zji,if_neg (by omega)]
 have hz9:(Ucf q).size=40:=by unfold Ucf;simp[h1]
 refine⟨?_,?_,by simp[hz9],λj h3 hj=> ?_⟩
 ·rw[Zji,if_neg (by omega),h39 0 (by omega),h2,if_neg (by omega)]
 ·rw[Zji,if_pos ⟨rfl,by omega⟩,h39 1 (by omega),h2,if_neg (by omega)]
 ·rw[Zji,if_neg (by omega)]
  by_cases e9:j=39
  ·subst e9;rw[if_neg (by omega),if_pos rfl,if_neg (by omega),Int.add_zero];unfold Ucf;rw[Zji,if_pos ⟨rfl,by omega⟩,h2,if_neg (by omega)];exact Zyz _
  ·rw[h39 j (by omega),h2]
   by_cases e2:j=2
   ·subst e2;rw[if_neg (by omega),if_pos rfl,if_neg (by omega),Int.add_zero];exact .refl _
   ·rw[if_pos (show 3<=j/\j<3+36 by omega),if_neg e2,if_neg e9,if_pos (show 3<=j/\j<3+36 by omega),Int.zero_add];cases Zae S ((j - 3:Nat):Int) with|true=>rw[if_pos rfl,if_pos rfl];exact Zyz _|false=>exact .refl _
theorem togV_low{N Y:Array Value}{j:Nat}(hj:j<2):num (togV N Y) j=num N j:=by unfold togV;rw[Yed _ (by omega)];refine(Zhi (λ_ (r:Array Value)=>num r j=num N j) (Yed _ (by omega)) (λk s _ hs=> ?_) 36 (Nat.le_refl _));unfold togF;rw[Yed _ (by omega)];exact hs
theorem drV_low{S X:Array Value}{j:Nat}(hj:j<2)(n:Nat):num (drV S X n) j=num (Ucd S X) j:=by induction n with|zero=>rfl|succ n ih=>have e:drV S X (n+1)=hopV (drV S X n) (Ubc prog S X n):=rfl;rw[e];unfold hopV;cases Ubg (Ubc prog S X n) (zc prog 77) with|true=>rw[Bool.not_true,Q2];exact ih|false=>rw[Bool.not_false,Q1,togV_low hj];exact ih
theorem Ygm{X:Array Value}(h0:0<=num X 0/\num X 0<2)(h1:0<=num X 1/\num X 1<=100):tdI X=tdS X:=by
 unfold tdI tdS;have e8:IntKind.i8.wrap (num X 0+num X 1)=num X 0+num X 1:=by simp[IntKind.wrap,IntKind.bits,IntKind.signed];omega
 rw[IntKind.wrap_i64,IntKind.wrap_i64,IntKind.wrap_i64,e8];congr 1;omega
theorem hour_eq{S X:Array Value}(hX:WT prog 77 X)(hok:okS S=true)(h0:0<=num X 0/\num X 0<2)(h1:0<=num X 1/\num X 1<=100)(ho:∀k,k<36->inC (num S 0) (num S 1) k=false->num X (3+k)=0)(hS:WT prog 35 S):drV S X 5=Ubz prog S X:=by
 have hz:=Zrs hX;obtain⟨r0,r1,r2,r3⟩:=Ykr (S:=S) hz;obtain⟨i1,i2⟩:=Ybf X;refine Yiy (drV_wt hX 5) (Zr5 hX) λj hj=> ?_
 by_cases h2:2<=j
 ·have w1:=(drV_wt (S:=S) hX 5).int (o:=j) (k:=.i64) (Zlc h2 hj);have w2:=(Zr5 (S:=S) hX).int (o:=j) (k:=.i64) (Zlc h2 hj);refine cg_eq ?_ w1.2 w2.2;refine(drV_cg (S:=S) (X:=X) (n:=5) r2 h2 hj).2.trans (cg.trans ?_ (Yge i1 hj).symm);refine(cg.add (r3 j h2 hj) (Ykz 5 λw hw=>(flowV_cg S X w h2 hj).2)).trans (cg.trans (.of ?_) ((i2 j h2 hj).symm.add (.refl _)));rw[<- Yex,Int.add_assoc];congr 1;rw[<- Yfs (λi=>if Zae S ((i - 3:Nat):Int)=true then num X i*12 else 0) j 36,<- Ycp];refine Zly 36 λk hk=> ?_
  have hd:=Ztn hok;have hwet:=(Yea hS hk).2;have hland:=Zuv (S:=S) hk;rw[hwet];have hwat:Zaf S (k:Int)=!(bitI (num S 2) k):=by unfold Zaf;rw[hland]
  rw[hwat,show 3+k*1 - 3=k by omega,hland];cases hin:inC (num S 0) (num S 1) k with
  | false=>
   have hb:bitI (num S 2) k=false:=by cases hb:bitI (num S 2) k with|false=>rfl|true=>rw[(okS_land hok (by omega) hb).2]at hin;exact hin
   rw[hb];simp only[Bool.false_and,Bool.false_eq_true,if_false,Zlz,Int.add_zero,ite_self];rw[show 3+k*1=3+k by omega,ho k hk hin];simp
  | true=>
   cases hb:bitI (num S 2) k with
   |true=>simp only[Bool.not_true,Bool.and_false,Bool.false_eq_true,if_false,Zlz,Int.add_zero,if_true]
   | false=>
    simp only[Bool.not_false,Bool.and_self,if_true,Bool.false_eq_true,if_false,ite_self,Int.zero_add];refine Zly 5 λw hw=> ?_
    have hgo:=Zy7 hd hk hin w hw;have hle:=Ykk hd hk hin w hw;rw[hgo,hle,Ygm h0 h1];unfold Ufs
    by_cases hg:gw S k w=-1
    ·rw[hg];rfl
    ·have:=Zxq hd hk hin w hw hg;rw[if_pos (show gw S k w ≠ -1 from hg),if_neg (show ¬gw S k w<0 by omega)]
 ·rw[drV_low (by omega),Zxx S X (by omega)]
  match j,h2 with|0,_=>rw[r0,(Zoy X).1]|1,_=>rw[r1,(Zoy X).2.1]|_+2,h=>omega
end
end Go.Proofs.YtefjogahegolbaaDoor
