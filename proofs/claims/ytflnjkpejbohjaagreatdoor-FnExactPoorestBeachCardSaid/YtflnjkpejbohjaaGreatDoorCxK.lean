/- An hour on, in company, is an hour; hours as they are asked. -/
import Derived.Test.YtflnjkpejbohjaaGreatDoorProg
import Derived.Test.YtflnjkpejbohjaaGreatDoorCxJ
namespace Go.Proofs.YtflnjkpejbohjaaGreatDoor
open Go.ChangeShapes Go.WideShapes Go.ChangeAt Go.RowKit Ve Vc
open Tryz renaming prog → PZ
set_option linter.unusedVariables false
set_option linter.unusedSimpArgs false
set_option maxRecDepth 100000
noncomputable section
variable {F:Vc.Fd}
theorem Yjc {w h:Int} {k:Nat} (h1:((k % 6:Nat):Int)<w) (h2:((k / 6:Nat):Int)<h):inC w h k=true:=by
 unfold inC;rw [decide_eq_true h1,decide_eq_true h2];rfl
theorem gw_in {S:Array Value} (h0:1≤num S 0∧num S 0≤6∧1≤num S 1∧num S 1≤6) {k:Nat} (hk:k<36) (hi:inC (num S 0) (num S 1) k=true) (w:Nat) (hw:w<5) (hn:gw S k w ≠ -1):inC (num S 0) (num S 1) (gw S k w).toNat=true:=by
 obtain ⟨hx,hy⟩:=Yj1 hi
 obtain ⟨a1,a2,a3,a4⟩:=h0
 match w,hw with
 | 0,_=>exact hi
 | 1,_=>
  simp only [gw] at hn⊢
  by_cases c:6≤k
  ·simp only [c,decide_true,cond_true]
   rw [show ((k:Int) - 6).toNat=k - 6 by omega]
   exact Yjc (by omega) (by omega)
  ·simp [c] at hn
 | 2,_=>
  simp only [gw] at hn⊢
  by_cases c:((k % 6:Nat):Int)+1<num S 0
  ·simp only [decide_eq_true c,cond_true]
   rw [show ((k:Int)+1).toNat=k+1 by omega]
   exact Yjc (by omega) (by omega)
  ·simp only [decide_eq_false c,cond_false] at hn;exact absurd rfl hn
 | 3,_=>
  simp only [gw] at hn⊢
  by_cases c:((k / 6:Nat):Int)+1<num S 1
  ·simp only [decide_eq_true c,cond_true]
   rw [show ((k:Int)+6).toNat=k+6 by omega]
   exact Yjc (by omega) (by omega)
  ·simp only [decide_eq_false c,cond_false] at hn;exact absurd rfl hn
 | 4,_=>
  simp only [gw] at hn⊢
  by_cases c:1≤k % 6
  ·simp only [decide_eq_true c,cond_true]
   rw [show ((k:Int) - 1).toNat=k - 1 by omega]
   exact Yjc (by omega) (by omega)
  ·simp only [decide_eq_false c,cond_false] at hn;exact absurd rfl hn
def ZO (S X:Array Value):Prop:=∀ k,k<36→inC (num S 0) (num S 1) k=false→num X (3+k)=0
def zo (S X:Array Value):Bool:=(List.range 36).all fun k=>inC (num S 0) (num S 1) k || (num X (3+k)==0)
theorem zo_iff {S X:Array Value}:zo S X=true ↔ ZO S X:=by
 unfold zo ZO
 rw [List.all_eq_true]
 constructor
 ·intro h k hk hf
  have:=h k (List.mem_range.2 hk)
  rw [hf,Bool.false_or,beq_iff_eq] at this
  exact this
 ·intro h k hk
  cases hf:inC (num S 0) (num S 1) k with
  | true=>rfl
  | false=>rw [Bool.false_or,beq_iff_eq];exact h k (List.mem_range.1 hk) hf
theorem Yko {S X:Array Value} (hX:WT PZ 60 X) (hok:okS S=true) (hS:WT PZ 41 S) (h:ZO S X):ZO S (Ubf PZ S X):=by
 intro k hk hf
 obtain ⟨i1,i2⟩:=Zq8 X
 have hd:=Zog hok
 have w:=(Zof (S:=S) hX).int (o:=3+k) (k:=.i64) (Zj3 (by omega) (by omega))
 refine cg_eq ((Yex i1 (j:=3+k) (by omega)).trans (.of ?_)) w.2 (by omega)
 rw [(Zpf X).2.2 k hk,Int.zero_add]
 refine (Zhe 36 (g:=fun _=>0) fun i hi=> ?_).trans (Zlt 36)
 rw [(Ydk hS hi).2]
 cases hin:inC (num S 0) (num S 1) i with
 | false=>
  rw [Bool.false_and,if_neg (by simp),show 3+i*1=3+i by omega,h i hi hin]
  simp
 | true=>
  have hik:i≠k:=fun e=>by rw [e,hf] at hin;cases hin
  cases bitI (num S 2) i with
  | true=>rw [Bool.not_true,Bool.and_false,if_neg (by simp),if_neg (by omega)]
  | false=>
   rw [Bool.not_false,Bool.and_self,if_pos rfl]
   refine (Zhe 5 (g:=fun _=>0) fun w hw=> ?_).trans (Zlt 5)
   rw [Zzz hd hi hin w hw,if_neg]
   unfold Udc
   by_cases hg:gw S i w = -1
   ·rw [hg,if_pos (by omega)];omega
   ·have:=Zzl hd hi hin w hw hg
    rw [if_neg (show ¬ gw S i w<0 by omega)]
    intro e
    have e':(gw S i w).toNat=k:=by omega
    have:=gw_in hd hi hin w hw hg
    rw [e',hf] at this
    cases this
def goG (S X:Array Value):Bool:=okS S&&((decide (0≤num X 0)&&decide (num X 0<2))&&((decide (0≤num X 1)&&decide (num X 1≤100))&&zo S X))
theorem Ylo {S X:Array Value}:goG S X=true ↔ okS S=true∧(0≤num X 0∧num X 0<2)∧(0≤num X 1∧num X 1≤100)∧ZO S X:=by
 unfold goG
 rw [← zo_iff]
 simp only [Bool.and_eq_true,decide_eq_true_eq]
def Zkn:Con:=fun args h=>match args,h with
 | [.g a0 41,.g a1 60],[]=>some (.a (.g (Ubf PZ a0 a1) 60),.none,goG a0 a1)
 | _,_=>none
theorem Zt0:EntX PZ 50:=Zaf (fn:=Tryz.f50) (by kernel_rfl) (by kernel_rfl) (by kernel_rfl)
theorem Ya3:Uad (md F) PZ 50 Zkn:=by
 intro ρ h v args vals r ef hno hr hA hH
 unfold Zkn at hr
 split at hr
 ·rename_i a0 a1
  obtain ⟨rfl,hg⟩:=Prod.mk.inj (Option.some.inj hr)
  obtain ⟨rfl,hg2⟩:=Prod.mk.inj hg
  obtain ⟨hok,h0,h1,hz⟩:=Ylo.1 hg2
  have wS:WT PZ 41 a0:=hA.wt 0 rfl
  have wX:WT PZ 60 a1:=hA.wt 1 rfl
  have ht:tdS a1=(num a1 0+num a1 1) % 2:=by
   unfold tdS
   rw [IntWalk.i8_in _ (by omega),Int.tmod_eq_emod_of_nonneg (by omega)]
  have hG:Ufc a0 a1=true:=by
   unfold Ufc
   rw [hok,Bool.true_and,Yjs h0 h1]
   exact dec2 (by rw [ht];omega) (by rw [ht];omega)
  have e:vals=[.agg a0,.agg a1]:=by
   obtain ⟨hl,hv⟩:=hA
   match vals,hl,hv with
   | [x,y],_,hv=>
    have q0:x = .agg a0:=(hv 0 _ x rfl rfl).1
    have q1:y = .agg a1:=(hv 1 _ y rfl rfl).1
    rw [q0,q1]
  subst e
  have hh:=hour_eq wX hok h0 h1 hz wS
  exact (Ymc wS wX hG F v).mono fun r v' h=>⟨⟨h.1.trans (by rw [hh]),Zof wX⟩,h.2⟩
 ·cases hr
end
end Go.Proofs.YtflnjkpejbohjaaGreatDoor
