/- Laws whose rows list variables of the program's that hold errors. -/
import Derived.Stop.LaidErr
import Derived.OpenVars
import Derived.Deep.DeepHandedRow
import Derived.Test.YtdhckffhnkeogaaDoorVeD
set_option linter.unusedVariables false
set_option linter.unusedSimpArgs false
namespace Go.Proofs.YtdhckffhnkeogaaDoor.Ve
open Go.ChangeShapes Go.WideShapes Go.ChangeAt Go.RowKit
theorem Yai {P:Program} {n:String} {nm:List UInt8} {d:DataW Unit} {hs:List (String×DataW Unit)} {W:World} {g u E NG:Nat} (h:handlesMet P hs W) (hx:(n,d) ∈ hs) (hd:d.funcsIn? = none) (hh:d.handleName? = some nm)
  (hu : (P.cutTypes.find? (·.1 == "internal/reflectlite.rtype")).map (·.2) = some u) (hrow : (List.range P.types.size).all (fun ty => !(P.rowNamed ty nm) || Nat.beq ty E) = true) (hg : P.globalNamed n = some g) (hG : P.globals.size = NG) (hE : E < 1000000) (hN : NG < 900) :
  BIs P idA [] W ⟨0,0⟩ (.gl g u ⟨g,0,none⟩ ((NG+1)*1000000+E)):=by
 have hm:=h _ hx
 dsimp only at hm
 rw [hd] at hm
 obtain ⟨name,u',ty,h1,h2,h3,h4,h5⟩:=hm
 obtain rfl:=Q5 (hh.symm.trans h1)
 obtain rfl:=Q5 (hu.symm.trans h2)
 have h6:=List.all_eq_true.1 hrow ty (List.mem_range.2 h3)
 rw [h4] at h6
 obtain rfl:ty=E:=by simpa using h6
 refine .inr ⟨by omega,rfl,.inl ⟨by omega, ?_⟩⟩
 have h7:W.cell? ⟨g,0,none⟩=some (.iface u (.agg #[typeHandle P ty])):=by simpa using World.var?_cell hg h5 0
 rw [h7,← hG]
 rw [show ((P.globals.size+1)*1000000+ty) / 1000000 - 1=P.globals.size by omega,show ((P.globals.size+1)*1000000+ty) % 1000000=ty by omega]
 rfl
theorem Zsw {H:Type} {enc:TypeId×Value→H} {P:Program} {W:World} {sp:Nat→Bool}:∀ {ns:List String} {gs:List (DataW H)} {ps:List MemPlace},DataW.TrodVars enc P W sp ns gs ps→gs.length=ns.length
 | [],[],_,_=>rfl
 | [],_::_,_,h=>h.elim
 | _::_,[],_,h=>h.elim
 | _::_,_::_,_,h=>by
  obtain ⟨_,_,_,_,_,_,_,_,_,_,hs,_⟩:=h
  simp [Zsw hs]
theorem Zqz {H:Type} {enc:TypeId×Value→H} {P:Program} (hl:laidOutB P=true) {W W':World} (hb:Below W.heap.size W W') :
  ∀ {ts:List TypeId} {vs:List Value} {ds:List (DataW H)} {ps:List MemPlace},
   (∀ t ∈ ts,P.readableRec t=true∧t<P.types.size) →
   DataW.TrodAll enc P W 0 (fun _=>true) true ts vs ds ps →
   DataW.TrodAll enc P W' 0 (fun b=>decide (b<W.heap.size)) true ts vs ds ps
 | [],[],[],ps,_,h=>h
 | t::ts,v::vs,d::ds,ps,hr,h=>by
  obtain ⟨p,q,h1,h2,e⟩:=h
  have hp:∀ x ∈ p,x.block<W.heap.size:=by
   obtain ⟨m,hm⟩:=h1
   exact DataW.trod_lt m _ _ _ hm
  exact ⟨p,q,Below.trod hl (hr t (List.mem_cons_self ..)).1 (hr t (List.mem_cons_self ..)).2 h1 hb hp,
   Zqz hl hb (fun t' ht'=>hr t' (List.mem_cons_of_mem _ ht')) h2,e⟩
 | [],[],_::_,_,_,h=>h.elim
 | [],_::_,_,_,_,h=>h.elim
 | _::_,[],_,_,_,h=>h.elim
 | _::_,_::_,[],_,_,h=>h.elim
theorem Znq {H:Type} {enc:TypeId×Value→H} {P:Program} {W:World} {b:Nat} {sp:Nat→Bool} {hd:Bool} :
  ∀ {ts:List TypeId} {vs:List Value} {ds:List (DataW H)} {ps:List MemPlace},
   DataW.TrodAll enc P W b sp hd ts vs ds ps→ds.length=ts.length∧vs.length=ts.length
 | [],[],[],_,_=>⟨rfl,rfl⟩
 | _::_,_::_,_::_,_,h=>by
  obtain ⟨p,q,_,h2,_⟩:=h
  have:=Znq h2
  simp [this.1,this.2]
 | [],[],_::_,_,h=>h.elim
 | [],_::_,_,_,h=>h.elim
 | _::_,[],_,_,h=>h.elim
 | _::_,_::_,[],_,h=>h.elim
end Go.Proofs.YtdhckffhnkeogaaDoor.Ve
/- The least bit of a number, by the table of package math/bits; its bits one behind the other. No program is named. -/
namespace Go.Proofs.YtdhckffhnkeogaaDoor.Ve
open Go.RowKit
end Go.Proofs.YtdhckffhnkeogaaDoor.Ve
