/- Laws whose rows list variables of the program's that hold errors. -/
import Derived.Stop.LaidErr
import Derived.OpenVars
import Derived.Deep.DeepHandedRow
import Derived.Test.YtnhilgpdgicgfaaVeD
namespace Go.Proofs.Ytnhilgpdgicgfaa.Ve
open Go.ChangeShapes Go.WideShapes Go.ChangeAt Go.RowKit
section
set_option linter.unusedVariables false
theorem trodAll_below{H:Type}{enc:TypeId×Value->H}{P:Program}(hl:laidOutB P=true){W W':World}(hb:Below W.heap.size W W'):
  ∀{ts:List TypeId} {vs:List Value} {ds:List (DataW H)} {ps:List MemPlace},
   (∀t∈ts,P.readableRec t=true/\t<P.types.size) ->
   DataW.TrodAll enc P W 0 (λ_=>true) true ts vs ds ps ->
   DataW.TrodAll enc P W' 0 (λb=>decide (b<W.heap.size)) true ts vs ds ps
 |[],[],[],ps,_,h=>h
 | t::ts,v::vs,d::ds,ps,hr,h=>by
  obtain⟨p,q,h1,h2,e⟩:=h;have hp:∀x∈p,x.block<W.heap.size:=by obtain⟨m,hm⟩:=h1;exact DataW.trod_lt m _ _ _ hm
  exact⟨p,q,Below.trod hl (hr t (List.mem_cons_self ..)).1 (hr t (List.mem_cons_self ..)).2 h1 hb hp,
   trodAll_below hl hb (λt' ht'=>hr t' (List.mem_cons_of_mem _ ht')) h2,e⟩
 |[],[],_::_,_,_,h=>h.elim
 |[],_::_,_,_,_,h=>h.elim
 |_::_,[],_,_,_,h=>h.elim
 |_::_,_::_,[],_,_,h=>h.elim
theorem trodAll_lengths{H:Type}{enc:TypeId×Value->H}{P:Program}{W:World}{b:Nat}{sp:Nat->Bool}{hd:Bool}:
  ∀{ts:List TypeId} {vs:List Value} {ds:List (DataW H)} {ps:List MemPlace},
   DataW.TrodAll enc P W b sp hd ts vs ds ps->ds.length=ts.length/\vs.length=ts.length
 |[],[],[],_,_=>⟨rfl,rfl⟩
 |_::_,_::_,_::_,_,h=>by
  obtain⟨p,q,_,h2,_⟩:=h;have:=trodAll_lengths h2;simp[this.1,this.2]
 |[],[],_::_,_,h=>h.elim
 |[],_::_,_,_,h=>h.elim
 |_::_,[],_,_,h=>h.elim
 |_::_,_::_,[],_,h=>h.elim
end
section
set_option linter.unusedVariables false
open Go.RowKit
end
end Go.Proofs.Ytnhilgpdgicgfaa.Ve
