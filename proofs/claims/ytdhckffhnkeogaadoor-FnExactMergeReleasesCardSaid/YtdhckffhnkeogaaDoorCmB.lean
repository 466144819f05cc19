/- What a plan spreads and reaches, as it is asked, in company. -/
import Derived.Test.YtdhckffhnkeogaaDoorProg
import Derived.Test.YtdhckffhnkeogaaDoorCmA
set_option linter.unusedVariables false
set_option linter.unusedSimpArgs false
namespace Go.Proofs.YtdhckffhnkeogaaDoor
open Go.ChangeShapes Go.WideShapes Go.ChangeAt Go.RowKit Ve Vc
open IntKind (i64)
set_option maxRecDepth 100000
noncomputable section
variable {mn:Md}
def wsum (A:Array Value):Nat→Int
 | 0=>0
 | k+1=>i64.wrap (wsum A k+i64.wrap (num (A.extract (k*3) (k*3+3)) 2))
def relB (S:Array Value) (h:Int) (X:Array Value):Bool:=Zaq (i64.wrap (num X 0)) S&&(Zab (i64.wrap (num X 1)) 0 (i64.wrap (h - 1))&&Zab (i64.wrap (num X 2)) 1 200)
def Ucc (S:Array Value) (h:Int) (n:Nat) (A:Array Value):Bool:=(List.range n).all (fun k=>relB S h (A.extract (k*3) (k*3+3)))
theorem Zn8 (S:Array Value) (h:Int) (n:Nat) (A:Array Value):Ucc S h n A=true ↔ ∀ k,k<n→(fun k=>relB S h (A.extract (k*3) (k*3+3))) k=true:=by
 unfold Ucc
 rw [List.all_eq_true]
 exact ⟨fun h k hk=>h k (List.mem_range.2 hk),fun h k hk=>h k (List.mem_range.1 hk)⟩
def Ua0 (S p:Array Value) (n:Nat) (A:Array Value):Bool:=Zab (i64.wrap (num p 0)) 0 1&&(Zab (i64.wrap (num p 1)) 1 8&&(!decide ((n:Int) > 12)&&(Ucc S (i64.wrap (num p 1)) n A&&decide (wsum A n≤1000))))
theorem land_all {S:Array Value} (hS:WT Tryd.prog 42 S) {c:Int} (hc:0≤c∧c≤35):Zdb S c=Zcn c S:=by
 obtain ⟨k,rfl⟩:=Int.eq_ofNat_of_zero_le hc.1
 exact land_dry hS (by omega)
def put2 (X:Array Value) (c:Nat) (b m:Int):Array Value:=(X.setIfInBounds 2 (.int .i64 (i64.wrap (num X 2+b)))).setIfInBounds (3+c*1) (.int .i64 (i64.wrap (num (X.setIfInBounds 2 (.int .i64 (i64.wrap (num X 2+b)))) (3+c*1)+m)))
def putR (h:Int) (A X:Array Value) (k:Nat):Array Value:=bif (i64.wrap (num (A.extract (k*3) (k*3+3)) 1)==h) then put2 X (num (A.extract (k*3) (k*3+3)) 0).toNat (i64.wrap (num (A.extract (k*3) (k*3+3)) 2)) (i64.wrap (i64.wrap (num (A.extract (k*3) (k*3+3)) 2)*12^h.toNat)) else X
def fbF (C:Array Value) (acc:Int) (k:Nat):Int:=bif decide (num C (k*1) > (0:Int)) then IntKind.u64.wrap (BitVec.ofInt IntKind.u64.bits acc ||| BitVec.ofInt IntKind.u64.bits (Zc8 (k:Int))).toNat else acc
end
end Go.Proofs.YtdhckffhnkeogaaDoor
