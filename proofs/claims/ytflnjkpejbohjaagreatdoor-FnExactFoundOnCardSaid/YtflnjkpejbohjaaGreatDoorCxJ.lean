/- An hour on is an hour. -/
import Derived.Test.YtflnjkpejbohjaaGreatDoorProg
import Derived.Test.YtflnjkpejbohjaaGreatDoorCxI
namespace Go.Proofs.YtflnjkpejbohjaaGreatDoor
open Go.ChangeShapes Go.WideShapes Go.ChangeAt Go.RowKit Ve Vc
set_option linter.unusedVariables false
set_option linter.unusedSimpArgs false
set_option maxRecDepth 100000
noncomputable section
variable {mn:Md}
theorem Yew {S X:Array Value} (hz:(hourI Tryz.prog X).size=40) {j:Nat} (hj:j<40):cg (num (hourV Tryz.prog S X) j) (num (hourI Tryz.prog X) j+sumI (fun k=>if Zae (k:Int) S=true then sumI (fun w=>if destW (Zac (k:Int) (w:Int) S)=j then muF S X (tdS X) k w else 0) 5 else if 3+k*1=j then num X (3+k*1)*12 else 0) 36):=by
 unfold hourV
 exact (Zto 36 hz fun k s _ hs=>cellF_cg S X (tdS X) hs k hj).2
theorem Zqt (X:Array Value):(hourI Tryz.prog X).size=40∧∀ j,2≤j→j<40→cg (num (hourI Tryz.prog X) j) (if j=2 then num X 2 else if j=39 then num X 39*12 else 0):=by
 have hz:(zc Tryz.prog 60).size=40:=Zna.1
 refine ⟨by unfold hourI;simp [hz],fun j h2 hj=> ?_⟩
 by_cases e2:j=2
 ·subst e2
  rw [if_pos rfl];unfold hourI
  rw [Zbt,if_neg (by omega),Zbt,if_pos ⟨rfl,by simp [hz]⟩]
  exact .refl _
 ·rw [if_neg e2]
  by_cases e9:j=39
  ·subst e9
   rw [if_pos rfl];unfold hourI
   rw [Zbt,if_pos ⟨rfl,by simp [hz]⟩]
   exact Ybh _
  ·rw [if_neg e9]
   have:=(Zp2 X).2.2 (j - 3) (by omega)
   rw [show 3+(j - 3)=j by omega] at this
   exact .of this
theorem Yk0 {S X:Array Value} (hz:X.size=40):num (restV S X) 0=num X 0∧num (restV S X) 1=IntKind.i8.wrap (num X 1+1)∧(restV S X).size=40∧∀ j,2≤j→j<40→cg (num (restV S X) j) ((if j=2 then num X 2 else if j=39 then num X 39*12 else 0)+(if 3≤j∧j<3+36 then (if Zas S ((j - 3:Nat):Int)=true then num X j*12 else 0) else 0)):=by
 obtain ⟨h1,h2⟩:=Yde (S:=S) hz 36 (Nat.le_refl _)
 have e:restV S X=(rest39 (restG S X 36)).setIfInBounds 1 (.int .i8 (IntKind.i8.wrap (num (rest39 (restG S X 36)) 1+1))):=rfl
 rw [e]
 generalize restG S X 36=q at h1 h2⊢
 have h39:∀ j,j<39→num (rest39 q) j=num q j:=fun j hj=>by unfold rest39;rw [Zbt,if_neg (by omega)]
 have hz9:(rest39 q).size=40:=by unfold rest39;simp [h1]
 refine ⟨?_, ?_,by simp [hz9],fun j h3 hj=> ?_⟩
 ·rw [Zbt,if_neg (by omega),h39 0 (by omega),h2,if_neg (by omega)]
 ·rw [Zbt,if_pos ⟨rfl,by omega⟩,h39 1 (by omega),h2,if_neg (by omega)]
 ·rw [Zbt,if_neg (by omega)]
  by_cases e9:j=39
  ·subst e9
   rw [if_neg (by omega),if_pos rfl,if_neg (by omega),Int.add_zero]
   unfold rest39
   rw [Zbt,if_pos ⟨rfl,by omega⟩,h2,if_neg (by omega)]
   exact Ybh _
  ·rw [h39 j (by omega),h2]
   by_cases e2:j=2
   ·subst e2
    rw [if_neg (by omega),if_pos rfl,if_neg (by omega),Int.add_zero]
    exact .refl _
   ·rw [if_pos (show 3≤j∧j<3+36 by omega),if_neg e2,if_neg e9,if_pos (show 3≤j∧j<3+36 by omega),Int.zero_add]
    cases Zas S ((j - 3:Nat):Int) with
    | true=>rw [if_pos rfl,if_pos rfl];exact Ybh _
    | false=>exact .refl _
theorem togV_low {N Y:Array Value} {j:Nat} (hj:j<2):num (togV N Y) j=num N j:=by
 unfold togV
 rw [Ye3 _ (by omega)]
 refine (Zh7 (fun _ (r:Array Value)=>num r j=num N j) (Ye3 _ (by omega)) (fun k s _ hs=> ?_) 36 (Nat.le_refl _))
 unfold togF
 rw [Ye3 _ (by omega)];exact hs
theorem drV_low {S X:Array Value} {j:Nat} (hj:j<2) (n:Nat):num (drV S X n) j=num (restV S X) j:=by
 induction n with
 | zero=>rfl
 | succ n ih=>
  have e:drV S X (n+1)=hopV (drV S X n) (flowV Tryz.prog S X n):=rfl
  rw [e];unfold hopV
  cases sameB (flowV Tryz.prog S X n) (zc Tryz.prog 60) with
  | true=>rw [Bool.not_true,cond_false];exact ih
  | false=>rw [Bool.not_false,cond_true,togV_low hj];exact ih
theorem Yi3 {X:Array Value} (h0:0≤num X 0∧num X 0<2) (h1:0≤num X 1∧num X 1≤100):tdI X=tdS X:=by
 unfold tdI tdS
 have e8:IntKind.i8.wrap (num X 0+num X 1)=num X 0+num X 1:=by simp [IntKind.wrap,IntKind.bits,IntKind.signed];omega
 rw [IntKind.wrap_i64,IntKind.wrap_i64,IntKind.wrap_i64,e8]
 congr 1;omega
theorem hour_eq {S X:Array Value} (hX:WT Tryz.prog 60 X) (hok:okS S=true) (h0:0≤num X 0∧num X 0<2) (h1:0≤num X 1∧num X 1≤100) (ho:∀ k,k<36→inC (num S 0) (num S 1) k=false→num X (3+k)=0) (hS:WT Tryz.prog 41 S):drV S X 5=hourV Tryz.prog S X:=by
 have hz:=Zsj hX
 obtain ⟨r0,r1,r2,r3⟩:=Yk0 (S:=S) hz
 obtain ⟨i1,i2⟩:=Zqt X
 refine Yj3 (drV_wt hX 5) (Znt hX) fun j hj=> ?_
 by_cases h2:2≤j
 ·have w1:=(drV_wt (S:=S) hX 5).int (o:=j) (k:=.i64) (Zjo h2 hj)
  have w2:=(Znt (S:=S) hX).int (o:=j) (k:=.i64) (Zjo h2 hj)
  refine cg_eq ?_ w1.2 w2.2
  refine (drV_cg (S:=S) (X:=X) (n:=5) r2 h2 hj).2.trans (cg.trans ?_ (Yew i1 hj).symm)
  refine (cg.add (r3 j h2 hj) (Yl2 5 fun w hw=>(flowV_cg S X w h2 hj).2)).trans (cg.trans (.of ?_) ((i2 j h2 hj).symm.add (.refl _)))
  rw [← Ztr,Int.add_assoc]
  congr 1
  rw [← Yhu (fun i=>if Zas S ((i - 3:Nat):Int)=true then num X i*12 else 0) j 36,← Zzc]
  refine Zg2 36 fun k hk=> ?_
  have hd:=Zno hok
  have hwet:=(Yc0 hS hk).2
  have hland:=Zwi (S:=S) hk
  rw [hwet]
  have hwat:Zab S (k:Int) = !(bitI (num S 2) k):=by unfold Zab;rw [hland]
  rw [hwat,show 3+k*1 - 3=k by omega,hland]
  cases hin:inC (num S 0) (num S 1) k with
  | false=>
   have hb:bitI (num S 2) k=false:=by
    cases hb:bitI (num S 2) k with
    | false=>rfl
    | true=>rw [(okS_land hok (by omega) hb).2] at hin;exact hin
   rw [hb]
   simp only [Bool.false_and,Bool.false_eq_true,if_false,Zk4,Int.add_zero,ite_self]
   rw [show 3+k*1=3+k by omega,ho k hk hin]
   simp
  | true=>
   cases hb:bitI (num S 2) k with
   | true=>
    simp only [Bool.not_true,Bool.and_false,Bool.false_eq_true,if_false,Zk4,Int.add_zero,if_true]
   | false=>
    simp only [Bool.not_false,Bool.and_self,if_true,Bool.false_eq_true,if_false,ite_self,Int.zero_add]
    refine Zg2 5 fun w hw=> ?_
    have hgo:=Yan hd hk hin w hw
    have hle:=Ykz hd hk hin w hw
    rw [hgo,hle,Yi3 h0 h1]
    unfold destW
    by_cases hg:gw S k w = -1
    ·rw [hg];rfl
    ·have:=Zzb hd hk hin w hw hg
     rw [if_pos (show gw S k w ≠ -1 from hg),if_neg (show ¬ gw S k w<0 by omega)]
 ·rw [drV_low (by omega),Zt7 S X (by omega)]
  match j,h2 with
  | 0,_=>rw [r0,(Zp2 X).1]
  | 1,_=>rw [r1,(Zp2 X).2.1]
  | _+2,h=>omega
end
end Go.Proofs.YtflnjkpejbohjaaGreatDoor
