/- A law in company: it is enough that its run ends. No program is named. -/
import Derived.Conc.LeavingOf
import Derived.Test.YtnhilgpdgicgfaaVcF
namespace Go.Proofs.Ytnhilgpdgicgfaa.Vc
open Go.ChangeShapes Go.WideShapes Go.ChangeAt Go.RowKit Go.Conc Go.Proofs.Ytnhilgpdgicgfaa.Ve
set_option linter.unusedVariables false
set_option linter.unusedSimpArgs false
theorem start_cells{W:World}{k:Nat}{C:Array Value}{t:TypeId}{fr:Nat×Nat}(h:W.heap[k]?=some (.cells C t fr)):(view (start W) W).heap[k]?=some (.cells C t (frzR C fr)):=by
 have hlt:k<W.heap.size:=(Array.getElem?_eq_some_iff.1 h).1;rw[view_get,h]
 show some (Gh.see (start W) k (.cells C t fr))=_
 unfold Gh.see start;rw[if_neg (λh=>h),if_pos hlt];rfl
theorem start_cell{W:World}{a:Addr}{x:Value}(h:W.cell? a=some x):(view (start W) W).cell? a=some x:=by
 unfold World.cell? at h|-
 cases hb:W.heap[a.block]? with
 |none=>rw[hb]at h;cases h
 |some o=>cases o with|cells C t fr=>rw[start_cells hb];rw[hb]at h;exact h|_=>rw[hb]at h;cases h
def glX:VB->VB
 |.gl g t a x=>.gl g t a (bif Nat.ble 1000000 x then x else x+65521)
 |b=>b
def glSmall:VB->Bool
 |.gl _ _ _ x=>Nat.blt x 65521||Nat.ble 1000000 x
 |_=>true
theorem codeB_lt(s:ByteArray):codeB s<65521:=by
 unfold codeB;generalize s.data.toList=l;have h:∀(l:List UInt8) (n:Nat),n<65521->l.foldl (λn b=>(n*257+b.toNat) % 65521) n<65521:=by
  intro l
  induction l with
  |nil=>exact λn h=>h
  |cons b l ih=>exact λn _=>ih _ (Nat.mod_lt _ (by omega))
 exact h l 0 (by omega)
theorem SlL.start{P:Program}{W:World}{l:List VB}(h:SlL P W l)(ho:l.all glSmall=true):SlL P (view (start W) W) (l.map glX):=by
 induction h with
 |nil=>exact .nil
 |cons h t ih=>
  refine .cons ⟨h.1,h.2.1,h.2.2.1,?_⟩ (ih (by simp only[List.all_cons,Bool.and_eq_true]at ho;exact ho.2));rcases h.2.2.2 with h0 | ⟨g,o,e,hr,hlt⟩
  ·exact .inl h0
  ·exact .inr ⟨g,o,e,λj v hj=>start_cell (hr j v hj),by simpa using hlt⟩
 | @gl g0 t0 a0 x l0 h t ih=>
  simp only[List.all_cons,Bool.and_eq_true]at ho;obtain⟨ho1,ho2⟩:=ho;simp only[glSmall,Bool.or_eq_true]at ho1;rcases h with ⟨h1,s,C,T,fr,h2,h4,h3⟩ | ⟨hbig,h1,h2⟩
  case inr=>
   refine .gl ?_ (ih ho2);rw[show Nat.ble 1000000 _=true from Nat.ble_eq_true_of_le hbig];exact .inr ⟨hbig,h1,h2.imp (λq=>⟨q.1,start_cell q.2⟩) λq=>⟨q.1,λi hi=>start_cell (q.2 i hi)⟩⟩
  have hs:=codeB_lt s;have hx:x<65521:=by
   rcases ho1 with h|h
   ·exact Nat.lt_of_lt_of_eq (Nat.lt_of_le_of_lt (Nat.le_refl _) (Nat.blt_eq ▸ h:_<65521)) rfl
   ·have:=Nat.le_of_ble_eq_true h;exfalso;rcases h3 with ⟨-,h3⟩ | ⟨-,h3⟩<;>omega
  refine .gl ?_ (ih ho2);rw[show Nat.ble 1000000 _=false from Bool.eq_false_iff.2 λh=>by have:=Nat.le_of_ble_eq_true h;omega];refine .inl ⟨start_cell h1,s,C,T,_,start_cell h2,start_cells h4,.inr ?_⟩;rcases h3 with ⟨rfl,h3⟩ | ⟨-,h3⟩
  ·exact⟨rfl,by rw[h3];rfl⟩
  ·omega
end Go.Proofs.Ytnhilgpdgicgfaa.Vc
