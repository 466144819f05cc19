/- The spread of a plan, and what it reaches: both sides. -/
import Derived.Test.YtflnjkpejbohjaaGreatDoorProg
import Derived.Test.YtflnjkpejbohjaaGreatDoorCpC
namespace Go.Proofs.YtflnjkpejbohjaaGreatDoor
open Go.ChangeShapes Go.WideShapes Go.ChangeAt Go.RowKit Ve Vc
open Tryz renaming prog → PZ
open IntKind (i64)
set_option linter.unusedVariables false
set_option linter.unusedSimpArgs false
set_option maxRecDepth 100000
noncomputable section
variable {F:Vc.Fd}
def askC (S p:Array Value) (n:Nat) (A:Array Value) (c:Int):Int:=bif (okS S&&Uar S p n A) then (bif Zag S c then 0 else 2) else 1
theorem Yml (S p:Array Value) (bb:Option (Option Addr)) (n:Nat) (A:Array Value) (c:Int):Zh1 c S p bb n A=askC S p n A c:=by
 unfold Zh1 askC Zag
 simp only [bne]
 cases okS S<;>cases Uar S p n A<;>cases ((IntKind.u64.wrap (BitVec.ofInt IntKind.u64.bits c &&& ~~~(BitVec.ofInt IntKind.u64.bits (Uat (num S 0) (num S 1) 36))).toNat)==(0:Int))<;>rfl
theorem voy_num {S p:Array Value} (hS:S.size=363):num ((spl (spl (zc PZ 71) 0 (#[.int .i64 (i64.wrap (num p 0)),.int .i64 (i64.wrap (num p 1))]:Array Value).toList) 2 S.toList).setIfInBounds 365 (.slice none 0 0)) 0=i64.wrap (num p 0)∧num ((spl (spl (zc PZ 71) 0 (#[.int .i64 (i64.wrap (num p 0)),.int .i64 (i64.wrap (num p 1))]:Array Value).toList) 2 S.toList).setIfInBounds 365 (.slice none 0 0)) 1=i64.wrap (num p 1):=by
 have h:=(Yb4 (p:=p) hS).2
 generalize ((spl (spl (zc PZ 71) 0 (#[.int .i64 (i64.wrap (num p 0)),.int .i64 (i64.wrap (num p 1))]:Array Value).toList) 2 S.toList).setIfInBounds 365 (.slice none 0 0))=V at h⊢
 have e:∀ i,i<2→num V i=num (V.extract 0 (0+2)) i:=fun i hi=>by
  have hz:(V.extract 0 (0+2)).size=2:=by rw [h];rfl
  rw [Array.size_extract] at hz
  unfold num
  rw [Array.getElem?_extract,if_pos (by omega),Nat.zero_add]
 exact ⟨(e 0 (by omega)).trans (by rw [h];rfl),(e 1 (by omega)).trans (by rw [h];rfl)⟩
def endV (P:Program) (S p:Array Value) (n:Nat) (A:Array Value):Array Value:=Uae P S (num p 0) n A (num p 1).toNat
theorem voy_end {S p:Array Value} (hS:WT PZ 41 S) (h0:IntKind.i8.min≤num p 0∧num p 0≤IntKind.i8.max) (h1:IntKind.i8.min≤num p 1∧num p 1≤IntKind.i8.max) {n:Nat} {A:Array Value} (hp:(okS S&&Uar S p n A)=true) :
  (okS (((spl (spl (zc PZ 71) 0 (#[.int .i64 (i64.wrap (num p 0)),.int .i64 (i64.wrap (num p 1))]:Array Value).toList) 2 S.toList).setIfInBounds 365 (.slice none 0 0)).extract 2 (2+363))&&spB (((spl (spl (zc PZ 71) 0 (#[.int .i64 (i64.wrap (num p 0)),.int .i64 (i64.wrap (num p 1))]:Array Value).toList) 2 S.toList).setIfInBounds 365 (.slice none 0 0)).extract 2 (2+363)) (num ((spl (spl (zc PZ 71) 0 (#[.int .i64 (i64.wrap (num p 0)),.int .i64 (i64.wrap (num p 1))]:Array Value).toList) 2 S.toList).setIfInBounds 365 (.slice none 0 0)) 0) (num ((spl (spl (zc PZ 71) 0 (#[.int .i64 (i64.wrap (num p 0)),.int .i64 (i64.wrap (num p 1))]:Array Value).toList) 2 S.toList).setIfInBounds 365 (.slice none 0 0)) 1) n A)=true∧Uae PZ (((spl (spl (zc PZ 71) 0 (#[.int .i64 (i64.wrap (num p 0)),.int .i64 (i64.wrap (num p 1))]:Array Value).toList) 2 S.toList).setIfInBounds 365 (.slice none 0 0)).extract 2 (2+363)) (IntKind.i8.wrap (num ((spl (spl (zc PZ 71) 0 (#[.int .i64 (i64.wrap (num p 0)),.int .i64 (i64.wrap (num p 1))]:Array Value).toList) 2 S.toList).setIfInBounds 365 (.slice none 0 0)) 0)) n A (num ((spl (spl (zc PZ 71) 0 (#[.int .i64 (i64.wrap (num p 0)),.int .i64 (i64.wrap (num p 1))]:Array Value).toList) 2 S.toList).setIfInBounds 365 (.slice none 0 0)) 1).toNat=endV PZ S p n A:=by
 have hz:S.size=363:=by rw [hS.layLen];kernel_rfl
 have m8:IntKind.i8.min = -128∧IntKind.i8.max=127:=⟨rfl,rfl⟩
 obtain ⟨e0,e1⟩:=voy_num (p:=p) hz
 have e2:=(Yb4 (p:=p) hz).1
 rw [e0,e1,e2]
 rw [Bool.and_eq_true] at hp
 obtain ⟨hok,hp⟩:=hp
 unfold Uar at hp
 simp only [Bool.and_eq_true] at hp
 obtain ⟨g0,g1,-,g2,-⟩:=hp
 have w0:i64.wrap (num p 0)=num p 0:=IntWalk.i64_in _ (by omega)
 have w1:i64.wrap (num p 1)=num p 1:=IntWalk.i64_in _ (by omega)
 refine ⟨?_, ?_⟩
 ·unfold spB
  rw [hok,g0,g1,g2];rfl
 ·unfold endV
  rw [w0,w1,IntWalk.i8_in (num p 0) (by omega)]
end
end Go.Proofs.YtflnjkpejbohjaaGreatDoor
