/- What flows and what rests, summed up. -/
import Derived.Test.YtefjogahegolbaaDoorProg
import Derived.Test.YtefjogahegolbaaDoorCxDrift
set_option linter.unusedVariables false
set_option linter.unusedSimpArgs false
namespace Go.Proofs.YtefjogahegolbaaDoor
open Go.ChangeShapes Go.WideShapes Go.ChangeAt Go.RowKit Ve Vc
open Tryd (prog)
set_option maxRecDepth 100000
noncomputable section
variable {mn:Md}
def sumI(f:Nat->Int):Nat->Int
 |0=>0
 |n+1=>sumI f n+f n
theorem Zly{f g:Nat->Int}:∀n,(∀k,k<n->f k=g k)->sumI f n=sumI g n
 |0,_=>rfl
 |n+1,h=>by rw[sumI,sumI,Zly n λk hk=>h k (by omega),h n (by omega)]
theorem Ycp(f g:Nat->Int):∀n,sumI (λk=>f k+g k) n=sumI f n+sumI g n
 |0=>rfl
 |n+1=>by rw[sumI,sumI,sumI,Ycp f g n];omega
theorem Zlz:∀n,sumI (λ_=>0) n=0
 |0=>rfl
 |n+1=>by rw[sumI,Zlz n];rfl
theorem Yex(f:Nat->Nat->Int)(m:Nat):∀n,sumI (λk=>sumI (λw=>f k w) m) n=sumI (λw=>sumI (λk=>f k w) n) m
 |0=>by show (0:Int)=_;exact(Zlz m).symm
 |n+1=>by
  rw[sumI,Yex f m n];exact(Ycp _ _ m).symm
theorem Yfs(g:Nat->Int)(j:Nat):∀n,sumI (λk=>if 3+k*1=j then g (3+k*1) else 0) n=if 3<=j/\j<3+n then g j else 0
 |0=>by rw[if_neg (by omega)];rfl
 | n+1=>by
  rw[sumI,Yfs g j n]
  by_cases h:3+n*1=j
  ·rw[if_pos h,h,if_neg (by omega),if_pos (by omega)];omega
  ·rw[if_neg h]
   by_cases h2:3<=j/\j<3+n
   ·rw[if_pos h2,if_pos (by omega)];omega
   ·rw[if_neg h2,if_neg (by omega)];rfl
def cg(a b:Int):Prop:=∃q:Int,a=b+18446744073709551616*q
theorem cg.refl(a:Int):cg a a:=⟨0,by omega⟩
theorem cg.of{a b:Int}(h:a=b):cg a b:=h ▸ .refl a
theorem cg.trans{a b c:Int}(h:cg a b)(k:cg b c):cg a c:=by obtain⟨q,h⟩:=h;obtain⟨p,k⟩:=k;exact⟨q+p,by omega⟩
theorem cg.symm{a b:Int}(h:cg a b):cg b a:=by obtain⟨q,h⟩:=h;exact⟨-q,by omega⟩
theorem cg.add{a b c d:Int}(h:cg a b)(k:cg c d):cg (a+c) (b+d):=by obtain⟨q,h⟩:=h;obtain⟨p,k⟩:=k;exact⟨q+p,by omega⟩
theorem Zyz(x:Int):cg (IntKind.i64.wrap x) x:=⟨(IntKind.i64.wrap x - x) / 18446744073709551616,by rw[IntKind.wrap_i64];omega⟩
theorem cg_eq{a b:Int}(h:cg a b)(ha: -9223372036854775808<=a/\a<=9223372036854775807)(hb: -9223372036854775808<=b/\b<=9223372036854775807):a=b:=by obtain⟨q,h⟩:=h;omega
theorem Zv4{r:Array Value}(hz:r.size=40){i j:Nat}(hj:j<40)(m:Int):cg (num (adN r i m) j) (num r j+if i=j then m else 0):=by
 by_cases h:i=j
 ·subst h;rw[if_pos rfl];have:num (adN r i m) i=IntKind.i64.wrap (num r i+m):=by unfold adN num;rw[Array.getElem?_setIfInBounds,if_pos rfl,if_pos (by omega)]
  rw[this];exact Zyz _
 ·rw[if_neg h];refine .of ?_;unfold adN num;rw[Array.getElem?_setIfInBounds,if_neg h];omega
theorem Zlg(r:Array Value)(i:Nat)(m:Int):(adN r i m).size=r.size:=by unfold adN;simp
theorem Ztk{f:Array Value->Nat->Array Value}{j:Nat}{c:Nat->Int}:∀(n:Nat) {r:Array Value},r.size=40->(∀k s,k<n->s.size=40->(f s k).size=40/\cg (num (f s k) j) (num s j+c k))->(folds f r n).size=40/\cg (num (folds f r n) j) (num r j+sumI c n)
 |0,r,hz,_=>⟨hz,.of (by show num r j=num r j+0;omega)⟩
 |n+1,r,hz,h=>by
  obtain⟨h1,h2⟩:=Ztk n hz λk s hk=>h k s (by omega)
  obtain⟨h3,h4⟩:=h n (folds f r n) (by omega) h1;rw[Zi6];refine⟨h3,h4.trans ?_⟩;rw[sumI,<- Int.add_assoc];exact h2.add (.refl _)
def Ufs(g:Int):Nat:=if g<0 then 39 else 3+g.toNat*1
theorem wayF_cg(S X:Array Value)(t:Int)(k:Nat){r:Array Value}(hz:r.size=40)(w:Nat){j:Nat}(hj:j<40):(wayF S X t k r w).size=40/\cg (num (wayF S X t k r w) j) (num r j+if Ufs (Zai (k:Int) (w:Int) S)=j then muF S X t k w else 0):=by
 unfold wayF Ufs
 by_cases h:Zai (k:Int) (w:Int) S<0
 ·rw[Q3 h,Q1,if_pos h];exact⟨by rw[Zlg];exact hz,Zv4 hz hj _⟩
 ·rw[Q4 h,Q2,if_neg h];exact⟨by rw[Zlg];exact hz,Zv4 hz hj _⟩
theorem cellF_cg(S X:Array Value)(t:Int){r:Array Value}(hz:r.size=40)(k:Nat){j:Nat}(hj:j<40):(Ues S X t r k).size=40/\cg (num (Ues S X t r k) j) (num r j+if Zam (k:Int) S=true then sumI (λw=>if Ufs (Zai (k:Int) (w:Int) S)=j then muF S X t k w else 0) 5 else if 3+k*1=j then num X (3+k*1)*12 else 0):=by
 unfold Ues;cases hw:Zam (k:Int) S with
 |true=>rw[Q1,if_pos rfl];exact Ztk 5 hz λw s _ hs=>wayF_cg S X t k hs w hj
 |false=>
  rw[Q2,if_neg (by simp)];refine⟨by rw[Zlg];exact hz,(Zv4 hz hj _).trans ((cg.refl _).add ?_)⟩;split
  ·exact Zyz _
  ·exact .refl _
theorem flowF_cg(S X:Array Value)(t:Int)(w:Nat){r:Array Value}(hz:r.size=40)(k:Nat){j:Nat}(hj:j<40):(Ueq S X t w r k).size=40/\cg (num (Ueq S X t w r k) j) (num r j+if (if Ua3 S (k:Int) w ≠ -1 then 3+(Ua3 S (k:Int) w).toNat*1 else 39)=j then muF S X t k w else 0):=by
 unfold Ueq
 by_cases h:Ua3 S (k:Int) w=-1
 ·rw[show (Ua3 S (k:Int) w != -1)=false by rw[h];rfl,Q2,if_neg (show ¬(Ua3 S (k:Int) w ≠ -1) from λhn=>hn h)];exact⟨by rw[Zlg];exact hz,Zv4 hz hj _⟩
 ·rw[show (Ua3 S (k:Int) w != -1)=true by simpa using h,Q1,if_pos (show Ua3 S (k:Int) w ≠ -1 from h)];exact⟨by rw[Zlg];exact hz,Zv4 hz hj _⟩
theorem Zmx:(zc prog 77).size=40/\∀j,2<=j->j<40->num (zc prog 77) j=0:=by
 have hc:(List.range 40).all (λj=>decide (j<2)||(num (zc prog 77) j==0))=true:=by kernel_rfl
 refine⟨by kernel_rfl,λj h2 hj=> ?_⟩;have:=List.all_eq_true.1 hc j (List.mem_range.2 hj);rw[Bool.or_eq_true,decide_eq_true_eq,beq_iff_eq]at this;omega
theorem flowV_cg(S X:Array Value)(w:Nat){j:Nat}(h2:2<=j)(hj:j<40):(Ubc prog S X w).size=40/\cg (num (Ubc prog S X w) j) (sumI (λk=>if (inC (num S 0) (num S 1) k&&Zaf S (k:Int))=true then (if (if Ua3 S (k:Int) w ≠ -1 then 3+(Ua3 S (k:Int) w).toNat*1 else 39)=j then muF S X (tdI X) k w else 0) else 0) 36):=by
 unfold Ubc;obtain⟨q1,q2⟩:=Ztk (f:=λr k=>if inC (num S 0) (num S 1) k&&Zaf S (k:Int) then Ueq S X (tdI X) w r k else r) (j:=j) (c:=λk=>if (inC (num S 0) (num S 1) k&&Zaf S (k:Int))=true then (if (if Ua3 S (k:Int) w ≠ -1 then 3+(Ua3 S (k:Int) w).toNat*1 else 39)=j then muF S X (tdI X) k w else 0) else 0) 36 Zmx.1 (λk s _ hs=>by
  by_cases h:(inC (num S 0) (num S 1) k&&Zaf S (k:Int))=true
  ·rw[if_pos h,if_pos h];exact flowF_cg S X (tdI X) w hs k hj
  ·rw[if_neg h,if_neg h];exact⟨hs,.of (by omega)⟩)
 rw[Zmx.2 j h2 hj,Int.zero_add]at q2;exact⟨q1,q2⟩
theorem togV_cg{N Y:Array Value}(hN:N.size=40){j:Nat}(h2:2<=j)(hj:j<40):(togV N Y).size=40/\cg (num (togV N Y) j) (num N j+num Y j):=by
 unfold togV;have ha:(adN N 2 (num Y 2)).size=40:=by rw[Zlg];exact hN
 obtain⟨q1,q2⟩:=Ztk (f:=togF Y) (j:=j) (c:=λk=>if 3+k*1=j then num Y (3+k*1) else 0) 36 ha (λk s _ hs=>⟨by unfold togF;rw[Zlg];exact hs,by unfold togF;exact Zv4 hs hj _⟩);refine⟨by rw[Zlg];exact q1,(Zv4 q1 hj _).trans ((q2.add (.refl _)).trans ((((Zv4 hN hj _).add (.refl _)).add (.refl _)).trans (.of ?_)))⟩;rw[Yfs (num Y) j 36]
 by_cases e2:2=j
 ·subst e2;rw[if_pos rfl,if_neg (by omega),if_neg (by omega)];omega
 ·rw[if_neg e2]
  by_cases e9:39=j
  ·subst e9;rw[if_neg (by omega),if_pos rfl];omega
  ·rw[if_neg e9,if_pos (by omega)];omega
theorem hopV_cg{N:Array Value}(hN:N.size=40)(Y:Array Value){j:Nat}(h2:2<=j)(hj:j<40):(hopV N Y).size=40/\cg (num (hopV N Y) j) (num N j+num Y j):=by unfold hopV;cases h:Ubg Y (zc prog 77) with|true=>rw[Bool.not_true,Q2];refine⟨hN,.of ?_⟩;rw[Zt7.1 h,Zmx.2 j h2 hj];omega|false=>rw[Bool.not_false,Q1];exact togV_cg hN h2 hj
theorem drV_cg{S X:Array Value}{n:Nat}(hr:(Ucd S X).size=40){j:Nat}(h2:2<=j)(hj:j<40):(drV S X n).size=40/\cg (num (drV S X n) j) (num (Ucd S X) j+sumI (λw=>num (Ubc prog S X w) j) n):=by induction n with|zero=>exact⟨hr,.of (by show _=num (Ucd S X) j+0;rw[Int.add_zero];rfl)⟩|succ n ih=>obtain⟨h1,h3⟩:=ih;obtain⟨q1,q2⟩:=hopV_cg h1 (Ubc prog S X n) h2 hj;refine⟨q1,q2.trans ?_⟩;rw[sumI,<- Int.add_assoc];exact h3.add (.refl _)
end
end Go.Proofs.YtefjogahegolbaaDoor
