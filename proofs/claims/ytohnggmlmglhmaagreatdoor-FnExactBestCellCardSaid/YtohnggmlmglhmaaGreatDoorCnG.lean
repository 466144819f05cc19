/- BestHour, both sides. -/
import Derived.Test.YtohnggmlmglhmaaGreatDoorProg
import Derived.Test.YtohnggmlmglhmaaGreatDoorCnF
namespace Go.Proofs.YtohnggmlmglhmaaGreatDoor
open Go.ChangeShapes Go.WideShapes Go.ChangeAt Go.RowKit Ve Vc
open Tryz renaming prog → PZ
open IntKind (i64)
set_option linter.unusedVariables false
set_option linter.unusedSimpArgs false
set_option maxRecDepth 100000
noncomputable section
variable {mn:Md}
theorem Zwo {p:Array Value} (hp:WT PZ 45 p):i64.wrap (num p 0)=num p 0∧i64.wrap (num p 1)=num p 1:=by
 obtain ⟨-,b0⟩:=hp.int (o:=0) (k:=.i8) (by kernel_rfl)
 obtain ⟨-,b1⟩:=hp.int (o:=1) (k:=.i8) (by kernel_rfl)
 have m8:IntKind.i8.min = -128∧IntKind.i8.max=127:=⟨rfl,rfl⟩
 exact ⟨IntWalk.i64_in _ (by omega),IntWalk.i64_in _ (by omega)⟩
theorem Zq9 {S p A:Array Value} {n:Nat} (hp:WT PZ 45 p) (h:Ua7 S p n A=true):(0≤num p 0∧num p 0≤1)∧1≤num p 1∧num p 1≤8:=by
 unfold Ua7 at h
 rw [(Zwo hp).1,(Zwo hp).2] at h
 simp only [Q7] at h
 exact ⟨Ylu h.1,Ylu h.2.1⟩
theorem Zs1 {S p:Array Value} (hS:WT PZ 41 S) (hp:WT PZ 45 p):(voyV PZ S p).extract 2 (2+363)=S∧num (voyV PZ S p) 0=num p 0∧num (voyV PZ S p) 1=num p 1:=by
 obtain ⟨h1,h2⟩:=Yh8 (S:=S) (p:=p) (Yo8 hS)
 have e0:∀ i,i<2→num (voyV PZ S p) i=num ((voyV PZ S p).extract 0 (0+2)) i:=fun i hi=>by rw [Ydx (by omega),Nat.zero_add]
 refine ⟨h1, ?_, ?_⟩
 ·rw [e0 0 (by omega)]
  show num ((voyV PZ S p).extract 0 (0+2)) 0=_
  unfold voyV
  rw [h2]
  exact (Zwo hp).1
 ·rw [e0 1 (by omega)]
  unfold voyV
  rw [h2]
  exact (Zwo hp).2
theorem dec2le {x a b:Int} (h1:a≤x) (h2:x≤b):(decide (a≤x)&&decide (x≤b))=true:=by rw [Q3 h1,Q3 h2];rfl
theorem Yn1 {T:TypeId} {r:Array Value} (h:WT PZ T r) {i:Nat} {k:IntKind} {n:Int} (hi:(lay PZ T)[i]? = some (kN k)) (hn:k.min≤n∧n≤k.max):WT PZ T (r.setIfInBounds i (.int k n)):=by
 constructor
 ·rw [Array.toList_setIfInBounds,List.map_set,h.1]
  refine List.ext_getElem? fun j=> ?_
  by_cases hij:i=j
  ·subst hij
   rw [List.getElem?_set_self (List.getElem?_eq_some_iff.1 hi).1,hi];rfl
  ·rw [List.getElem?_set_ne hij]
 ·intro v hv
  rw [Array.toList_setIfInBounds] at hv
  rcases List.mem_or_eq_of_mem_set hv with h1 | rfl
  ·exact h.2 v h1
  ·exact hn
theorem Ypb {S p:Array Value} (hS:WT PZ 41 S) (hp:WT PZ 45 p):WT PZ 73 (voyV PZ S p):=by
 have hz:WT PZ 73 (zc PZ 73):=WT.zero (by kernel_rfl)
 have hy:WT PZ 71 (#[.int .i64 (i64.wrap (num p 0)),.int .i64 (i64.wrap (num p 1))]:Array Value):=by
  have h0:WT PZ 71 (#[.int .i64 0,.int .i64 0]:Array Value):=WT.zero (P:=PZ) (T:=71) (by kernel_rfl)
  exact Yn1 (i:=1) (Yn1 (i:=0) h0 (by kernel_rfl) (Zh7 .i64 (num p 0))) (by kernel_rfl) (Zh7 .i64 (num p 1))
 have h1:=WT.spl (o:=0) hz (Zjh rfl (by kernel_rfl)) hy
 have h2:=WT.spl (o:=2) h1 (Zjh rfl (by kernel_rfl)) hS
 have hn:=h2.nil (o:=365) (by kernel_rfl)
 unfold voyV
 rw [show ((spl (spl (zc PZ 73) 0 (#[.int .i64 (i64.wrap (num p 0)),.int .i64 (i64.wrap (num p 1))]:Array Value).toList) 2 S.toList).setIfInBounds 365 (.slice none 0 0))=spl (spl (zc PZ 73) 0 (#[.int .i64 (i64.wrap (num p 0)),.int .i64 (i64.wrap (num p 1))]:Array Value).toList) 2 S.toList from ?_]
 ·exact h2
 ·refine Array.ext_getElem? fun i=> ?_
  rw [Array.getElem?_setIfInBounds]
  split
  ·rename_i e
   subst e
   rw [hn]
   split
   ·rfl
   ·rename_i h3
    have:=Array.getElem?_eq_none (Nat.le_of_not_lt h3)
    rw [hn] at this
    cases this
  ·rfl
def worS (P:Program) (S p:Array Value) (c:Int) (q:Nat×Nat):Int:=worW P S (num p 0) (num p 1) (q.1:Int) (q.2:Int) c
theorem Ymn {S p:Array Value} (hS:WT PZ 41 S) (hp:WT PZ 45 p) (c:Int):worQ PZ (voyV PZ S p) c=worS PZ S p c:=by
 obtain ⟨e1,e2,e3⟩:=Zs1 hS hp
 funext q
 unfold worQ worS
 rw [e1,e2,e3]
theorem Yl7 {S p A:Array Value} {n:Nat} {c:Int} (hS:WT PZ 41 S) (hp:WT PZ 45 p) (hok:okS S=true) (hpl:Ua7 S p n A=true) (hU:U64 c) (hcs:Zaf S c=true):Uce (voyV PZ S p) c=true∧prsG (voyV PZ S p) c=true:=by
 obtain ⟨e1,e2,e3⟩:=Zs1 hS hp
 obtain ⟨h0,h1⟩:=Zq9 hp hpl
 have hl:=low_of hU (Ynr hcs)
 constructor
 ·rw [Zor,e1,e2,e3]
  exact ⟨⟨hok,by omega⟩,by omega,hcs⟩
 ·unfold prsG
  rw [e1,e2,e3,hok,dec2 h0.1 (show num p 0<2 by omega),Q3 (show 0≤num p 1 by omega),Q3 (show num p 1≤14 by omega),Q3 hl]
  rfl
theorem sha_eq {V:Array Value} (hz:2≤V.size) (hS:WT PZ 41 (V.extract 2 (2+363))) {c a1:Int} (hv:Uce V c=true) {q:Nat×Nat} (h1:q.1<36) (h2:(q.2:Int)<num V 1) (hcl:clM (worQ PZ V c) a1 (num V 1).toNat 36=(((q.1:Int),(q.2:Int)),worQ PZ V c q)):shaM PZ V a1 c=Ud5 (worQ PZ V c q) (12^(num V 1).toNat):=by
 have h8:=(Zor.1 hv).2.1
 have hot:=Ydw.1 (Ycw hz hS hv ⟨h1,h2⟩).1
 rw [Ufe hz h1 h2 h8.2] at hot
 have hr:=hot.2.2.2.1
 unfold shaM rowM
 rw [hcl]
 dsimp only
 rw [Q9,(Zx1 hr (Int.pow_pos (by omega))).1]
 have e:(12:Int)^(num V 1).toNat=12^q.2*12^(num V 1 - (q.2:Int)).toNat:=by rw [← Int.pow_add];congr 1;omega
 have e2:worQ PZ V c q=12^q.2*num (rowR PZ sumL (V.extract 2 (2+363)) (rowC PZ c) (num V 0) (num V 1) (num V 1 - (q.2:Int)).toNat) q.1:=by
  unfold worQ worW
  rw [Q9,Q9]
 rw [e,e2,Yn7 (Int.pow_pos (by omega)) hr (Int.pow_pos (by omega))]
 rfl
theorem Yn8 {S p A:Array Value} {n:Nat} {k c:Int} (hS:WT PZ 41 S) (hp:WT PZ 45 p) (hok:okS S=true) (hpl:Ua7 S p n A=true) (hcs:Zaf S c=true) (hk:0≤k∧k≤35) :
  Uc6 S p k c=true∧∃ t:Nat,(t:Int)<num p 1∧hrM (worH PZ S p k c) (num p 1).toNat=((t:Int),worH PZ S p k c t)∧0≤worH PZ S p k c t:=by
 obtain ⟨h0,h1⟩:=Zq9 hp hpl
 refine ⟨Ygd.2 ⟨⟨hok,h0⟩,by omega,hk,hcs⟩, ?_⟩
 have hw:∀ t:Nat,t<(num p 1).toNat→0≤worH PZ S p k c t:=fun t ht=>(Ynv hS hok h0 hk hcs (h:=(t:Int)) (by omega) h1.2).1
 obtain ⟨t,ht,e⟩:=(hrM_in (num p 1).toNat hw).2 (by omega)
 exact ⟨t,by omega,e,hw t ht⟩
end
end Go.Proofs.YtohnggmlmglhmaaGreatDoor
