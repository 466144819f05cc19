/- BestHour, both sides. -/
import Derived.Test.YtohnggmlmglhmaaGreatDoorProg
import Derived.Test.YtohnggmlmglhmaaGreatDoorCnF
namespace Go.Proofs.YtohnggmlmglhmaaGreatDoor
open Go.ChangeShapes Go.WideShapes Go.ChangeAt Go.RowKit Ve Vc
open Tryz renaming prog → PZ
open IntKind (i64)
set_option linter.unusedVariables false
set_option linter.unusedSimpArgs false
set_option maxRecDepth 100000
noncomputable section
variable {mn:Md}
theorem Zt6 {p:Array Value} (hp:WT PZ 45 p):i64.wrap (num p 0)=num p 0∧i64.wrap (num p 1)=num p 1:=by
 obtain ⟨-,b0⟩:=hp.int (o:=0) (k:=.i8) (by kernel_rfl)
 obtain ⟨-,b1⟩:=hp.int (o:=1) (k:=.i8) (by kernel_rfl)
 have m8:IntKind.i8.min = -128∧IntKind.i8.max=127:=⟨rfl,rfl⟩
 exact ⟨IntWalk.i64_in _ (by omega),IntWalk.i64_in _ (by omega)⟩
theorem Zpd {S p A:Array Value} {n:Nat} (hp:WT PZ 45 p) (h:Uay S p n A=true):(0≤num p 0∧num p 0≤1)∧1≤num p 1∧num p 1≤8:=by
 unfold Uay at h
 rw [(Zt6 hp).1,(Zt6 hp).2] at h
 simp only [Q7] at h
 exact ⟨Zoc h.1,Zoc h.2.1⟩
theorem Zpq {S p:Array Value} (hS:WT PZ 41 S) (hp:WT PZ 45 p):(voyV PZ S p).extract 2 (2+363)=S∧num (voyV PZ S p) 0=num p 0∧num (voyV PZ S p) 1=num p 1:=by
 obtain ⟨h1,h2⟩:=Yj7 (S:=S) (p:=p) (Yo0 hS)
 have e0:∀ i,i<2→num (voyV PZ S p) i=num ((voyV PZ S p).extract 0 (0+2)) i:=fun i hi=>by rw [Zz5 (by omega),Nat.zero_add]
 refine ⟨h1, ?_, ?_⟩
 ·rw [e0 0 (by omega)]
  show num ((voyV PZ S p).extract 0 (0+2)) 0=_
  unfold voyV
  rw [h2]
  exact (Zt6 hp).1
 ·rw [e0 1 (by omega)]
  unfold voyV
  rw [h2]
  exact (Zt6 hp).2
theorem Yqi {T:TypeId} {r:Array Value} (h:WT PZ T r) {i:Nat} {k:IntKind} {n:Int} (hi:(lay PZ T)[i]? = some (kN k)) (hn:k.min≤n∧n≤k.max):WT PZ T (r.setIfInBounds i (.int k n)):=by
 constructor
 ·rw [Array.toList_setIfInBounds,List.map_set,h.1]
  refine List.ext_getElem? fun j=> ?_
  by_cases hij:i=j
  ·subst hij
   rw [List.getElem?_set_self (List.getElem?_eq_some_iff.1 hi).1,hi];rfl
  ·rw [List.getElem?_set_ne hij]
 ·intro v hv
  rw [Array.toList_setIfInBounds] at hv
  rcases List.mem_or_eq_of_mem_set hv with h1 | rfl
  ·exact h.2 v h1
  ·exact hn
theorem voyV_wt {S p:Array Value} (hS:WT PZ 41 S) (hp:WT PZ 45 p):WT PZ 73 (voyV PZ S p):=by
 have hz:WT PZ 73 (zc PZ 73):=WT.zero (by kernel_rfl)
 have hy:WT PZ 71 (#[.int .i64 (i64.wrap (num p 0)),.int .i64 (i64.wrap (num p 1))]:Array Value):=by
  have h0:WT PZ 71 (#[.int .i64 0,.int .i64 0]:Array Value):=WT.zero (P:=PZ) (T:=71) (by kernel_rfl)
  exact Yqi (i:=1) (Yqi (i:=0) h0 (by kernel_rfl) (Zjk .i64 (num p 0))) (by kernel_rfl) (Zjk .i64 (num p 1))
 have h1:=WT.spl (o:=0) hz (Zj7 rfl (by kernel_rfl)) hy
 have h2:=WT.spl (o:=2) h1 (Zj7 rfl (by kernel_rfl)) hS
 have hn:=h2.nil (o:=365) (by kernel_rfl)
 unfold voyV
 rw [show ((spl (spl (zc PZ 73) 0 (#[.int .i64 (i64.wrap (num p 0)),.int .i64 (i64.wrap (num p 1))]:Array Value).toList) 2 S.toList).setIfInBounds 365 (.slice none 0 0))=spl (spl (zc PZ 73) 0 (#[.int .i64 (i64.wrap (num p 0)),.int .i64 (i64.wrap (num p 1))]:Array Value).toList) 2 S.toList from ?_]
 ·exact h2
 ·refine Array.ext_getElem? fun i=> ?_
  rw [Array.getElem?_setIfInBounds]
  split
  ·rename_i e
   subst e
   rw [hn]
   split
   ·rfl
   ·rename_i h3
    have:=Array.getElem?_eq_none (Nat.le_of_not_lt h3)
    rw [hn] at this
    cases this
  ·rfl
theorem voy_good {S p A:Array Value} {n:Nat} {c:Int} (hS:WT PZ 41 S) (hp:WT PZ 45 p) (hok:okS S=true) (hpl:Uay S p n A=true) (hU:U64 c) (hcs:Zad S c=true):voyOk (voyV PZ S p) c=true∧prsG (voyV PZ S p) c=true:=by
 obtain ⟨e1,e2,e3⟩:=Zpq hS hp
 obtain ⟨h0,h1⟩:=Zpd hp hpl
 have hl:=low_of hU (Yqe hcs)
 constructor
 ·rw [Yea,e1,e2,e3]
  exact ⟨⟨hok,by omega⟩,by omega,hcs⟩
 ·unfold prsG
  rw [e1,e2,e3,hok,dec2 h0.1 (show num p 0<2 by omega),Q3 (show 0≤num p 1 by omega),Q3 (show num p 1≤14 by omega),Q3 hl]
  rfl
end
end Go.Proofs.YtohnggmlmglhmaaGreatDoor
