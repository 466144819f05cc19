/- A row of numbers, made of the later one. -/
import Derived.Test.YtnhilgpdgicgfaaProg
import Derived.Test.YtnhilgpdgicgfaaLpB
namespace Go.Proofs.Ytnhilgpdgicgfaa
open Go.ChangeShapes Go.WideShapes Go.ChangeAt Go.RowKit Ve Vc
set_option linter.unusedVariables false
set_option linter.unusedSimpArgs false
set_option maxRecDepth 100000
noncomputable section
variable {mn:Md}
theorem oneSt_range{S:Array Value}(h0:1<=num S 0/\num S 0<=6/\1<=num S 1/\num S 1<=6){k:Nat}(hk:k<36)(hi:inC (num S 0) (num S 1) k=true)(t:Int)(w:Nat)(hw:w<5):∀p∈oneSt S t k w,0<=p.1/\p.1<36:=by intro p hp;unfold oneSt at hp;cases hc:decide (chW S t (k:Int) w > 0)&&decide (gw S k w ≠ -1) with|false=>rw[hc]at hp;simp at hp|true=>rw[hc]at hp;simp only[cond_true,List.mem_singleton]at hp;subst hp;rw[Bool.and_eq_true]at hc;exact gw_range h0 hk hi w hw (of_decide_eq_true hc.2)
theorem stL_range{S:Array Value}(h0:1<=num S 0/\num S 0<=6/\1<=num S 1/\num S 1<=6){k:Nat}(hk:k<36)(hi:inC (num S 0) (num S 1) k=true)(t:Int):∀p∈stL S t k,0<=p.1/\p.1<36:=by
 intro p hp;unfold stL at hp;cases hl:impl_isLand_v0 S (k:Int) with
 |true=>rw[hl]at hp;simp only[cond_true,List.mem_singleton]at hp;subst hp;exact⟨by show 0<=(k:Int);omega,by show (k:Int)<36;omega⟩
 |false=>
  rw[hl]at hp;simp only[cond_false,List.mem_append]at hp;rcases hp with (((hp|hp)|hp)|hp)|hp
  ·exact oneSt_range h0 hk hi t 1 (by omega) p hp
  ·exact oneSt_range h0 hk hi t 4 (by omega) p hp
  ·exact oneSt_range h0 hk hi t 0 (by omega) p hp
  ·exact oneSt_range h0 hk hi t 2 (by omega) p hp
  ·exact oneSt_range h0 hk hi t 3 (by omega) p hp
noncomputable def rowF(P:Program)(V:List (Int×Int)->Array Value->Int)(S L:Array Value)(t:Int):Array Value:=folds (λr k=>if inC (num S 0) (num S 1) k then r.setIfInBounds (k*1) (.int .i64 (V (stL S t k) L)) else r) (zc P 42) 36
end
end Go.Proofs.Ytnhilgpdgicgfaa
