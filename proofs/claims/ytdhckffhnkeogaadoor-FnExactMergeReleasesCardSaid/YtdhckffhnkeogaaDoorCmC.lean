/- Steps, and rows of numbers that go back, in company. -/
import Derived.Test.YtdhckffhnkeogaaDoorProg
import Derived.Test.YtdhckffhnkeogaaDoorCmB
import Derived.Test.YtdhckffhnkeogaaDoorTzX
set_option linter.unusedVariables false
set_option linter.unusedSimpArgs false
namespace Go.Proofs.YtdhckffhnkeogaaDoor
open Go.ChangeShapes Go.WideShapes Go.ChangeAt Go.RowKit Ve Vc
open IntKind (i64)
set_option maxRecDepth 100000
noncomputable section
variable {mn:Md}
def pl (c:Int):Nat→Array Value
 | 0=>#[.int .i64 (c.tmod 6),.int .i64 (i64.wrap (c.tdiv 6))]
 | 1=>#[.int .i64 (c.tmod 6),.int .i64 (i64.wrap (i64.wrap (c.tdiv 6) - 1))]
 | 2=>#[.int .i64 (i64.wrap (c.tmod 6+1)),.int .i64 (i64.wrap (c.tdiv 6))]
 | 3=>#[.int .i64 (c.tmod 6),.int .i64 (i64.wrap (i64.wrap (c.tdiv 6)+1))]
 | _=>#[.int .i64 (i64.wrap (c.tmod 6 - 1)),.int .i64 (i64.wrap (c.tdiv 6))]
def Uf2 (S:Array Value) (t:Int) (k w:Nat):List (Int×Int):=bif decide (chW S t (k:Int) w > 0)&&decide (gw S k w ≠ -1) then [(gw S k w,chW S t (k:Int) w)] else []
def stL (S:Array Value) (t:Int) (k:Nat):List (Int×Int):=bif Zdb S (k:Int) then [((k:Int),12)] else Uf2 S t k 1++Uf2 S t k 4++Uf2 S t k 0++Uf2 S t k 2++Uf2 S t k 3
theorem Zpx {C:Array Value} {b m o:Nat} (ho:o<m):num (C.extract b (b+m)) o=num C (b+o):=by
 have e2:(C.extract b (b+m))[o]? = C[b+o]? := by
  simp only [Array.getElem?_extract]
  by_cases h:b+o<C.size
  ·rw [if_pos (by omega)]
  ·rw [if_neg (by omega),Array.getElem?_eq_none (by omega)]
 unfold num;rw [e2]
def laterOf (L:Array Value) (c:Int):Int:=num L (c.toNat*1)
def sumF (L:Array Value) (s:Int) (p:Int×Int):Int:=i64.wrap (s+i64.wrap (p.2*laterOf L p.1))
def sumL (l:List (Int×Int)) (L:Array Value):Int:=l.foldl (sumF L) 0
def rowF (P:Program) (V:List (Int×Int)→Array Value→Int) (S L:Array Value) (t:Int):Array Value:=folds (fun r k=>if inC (num S 0) (num S 1) k then r.setIfInBounds (k*1) (.int .i64 (V (stL S t k) L)) else r) (zc P 133) 36
def rowR (P:Program) (V:List (Int×Int)→Array Value→Int) (S L:Array Value) (b h:Int):Nat→Array Value
 | 0=>L
 | j+1=>rowF P V S (rowR P V S L b h j) ((i64.wrap (b+i64.wrap (h - ((j+1:Nat):Int)))).tmod 2)
end
end Go.Proofs.YtdhckffhnkeogaaDoor
