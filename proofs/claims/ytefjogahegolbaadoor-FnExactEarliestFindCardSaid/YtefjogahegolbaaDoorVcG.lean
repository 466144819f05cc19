/- A law in company: it is enough that its run ends. No program is named. -/
import Derived.Conc.LeavingOf
import Derived.Test.YtefjogahegolbaaDoorVcF
set_option linter.unusedVariables false
set_option linter.unusedSimpArgs false
namespace Go.Proofs.YtefjogahegolbaaDoor.Vc
open Go.ChangeShapes Go.WideShapes Go.ChangeAt Go.RowKit Go.Conc Go.Proofs.YtefjogahegolbaaDoor.Ve
theorem Zwu{C:Checked}{F:FuncId}{fn:Func}{s:ChangeSpec}{tb:TypeId}{laid:List (String×DataW Unit)}
  (own:ownKnob C.prog.godebug=none) (laidOut:laidOutB C.prog=true) (hfn:C.prog.funcs[F]?=some fn)
  (hres:fn.resultTypes=#[tb]) (htb:C.prog.underlying tb=some .bool)
  (hread:∀t∈fn.params.toList,C.prog.readableRec t=true/\t<C.prog.types.size)
  (hvars:varsRowed C.prog s.vars=true)
  (hspec:∀(H:Type) (ds gs:List (DataW H)),ds.length=fn.params.toList.length->gs.length=s.vars.length->s.fn H (ds++gs)={ results:=[.lit (.bool true)],args:=ds,vars:=gs })
  (os:Os) (started:os.Started) (H:Type) (enc:TypeId×Value->H)
  (witness:∃ (w:World) (tape:Tape) (i:Input),w.os=os∧(w.forCall tape i).Shaped C.prog∧i.vars=[]∧Input.okWide C.prog (w.forCall tape i) .any w.heap.size F i ∧
   (OpenSpec.ofChange s).preRow enc C.prog fn [] false laid (w.forCall tape i).memory i.args/\({}:Assume).holds C.prog (lone (Frame.enter C.prog F i.args .normal) [] (w.forCall tape i)))
  (walk:∀ (W:World) (base:Nat) (args:Array Value) (ds:List (DataW H)) (ps:List MemPlace),
   (∀(j:Nat) t v,fn.params[j]?=some t->args[j]?=some v->Value.okWide C.prog W .any base t v) ->
   DataW.TrodAll enc C.prog W 0 (λ_=>true) true fn.params.toList args.toList ds ps->laidMetH C.prog laid W ->
   Ends C.prog (λv W'=>v=.bool true/\Below W.heap.size W W') (crowd #[gr (Frame.enter C.prog F args .normal) []] W none) #[]) :
  ReturnsInLeavingWide {} C os F .any ((OpenSpec.ofChange s).preRow enc C.prog fn [] false laid) (s.post enc C.prog fn false true false false):=by
 refine returnsInLeavingWide_of_good own started witness ?_;intro w tape i _ _ _ hok hpre hholds;obtain⟨_,_,_,fn',hfn',_,_,_,_,hval⟩:=hok;have e:fn'=fn:=Q5 (hfn'.symm.trans hfn);subst e;obtain⟨⟨hp,hl⟩,hz⟩:=hpre;obtain⟨ds,gs,before,hw,hc,hk⟩:=OpenSpec.pre_parts hp;have hW:=DataW.Whole.of_heap (w':=w.forCall tape i) (by rfl) hw;have hW':=hW;obtain⟨p,q,hA,hV,hbef,hfz,hnd⟩:=hW;obtain⟨M,last,o,w',t',h1,h2,h3,h4⟩:=walk (w.forCall tape i) w.heap.size i.args ds p hval hA (hl.of_heap (by rfl));refine⟨M,last,o,w',t',h1,h2,h3,h4.mono λv ⟨he,bel⟩=> ?_⟩;subst he;have hs:s.fn H (ds++gs)={ results:=[.lit (.bool true)],args:=ds,vars:=gs }:=hspec H ds gs (Zn5 hA).1 (Zv3 hV);refine ChangeSpec.post_blind ?_;refine⟨ds,gs,before,[],p,q,hW',?_,?_,?_,bel.frame _,λh=>by cases h⟩
 ·rw[hs,hres];exact trodAll_mk1 (shut_bool htb _)
 ·rw[hs];exact Zt1 laidOut bel hread hA
 ·rw[hs];exact Below.trodVars laidOut bel hvars hV
theorem Zx7{W:World}{k:Nat}{C:Array Value}{t:TypeId}{fr:Nat×Nat}(h:W.heap[k]?=some (.cells C t fr)):(view (start W) W).heap[k]?=some (.cells C t (frzR C fr)):=by
 have hlt:k<W.heap.size:=(Array.getElem?_eq_some_iff.1 h).1;rw[Zec,h]
 show some (Gh.see (start W) k (.cells C t fr))=_
 unfold Gh.see start;rw[if_neg (λh=>h),if_pos hlt];rfl
theorem Zl5{W:World}{a:Addr}{x:Value}(h:W.cell? a=some x):(view (start W) W).cell? a=some x:=by
 unfold World.cell? at h|-
 cases hb:W.heap[a.block]? with
 |none=>rw[hb]at h;cases h
 |some o=>cases o with|cells C t fr=>rw[Zx7 hb];rw[hb]at h;exact h|_=>rw[hb]at h;cases h
def glX:VB->VB
 |.gl g t a x=>.gl g t a (bif Nat.ble 1000000 x then x else x+65521)
 |b=>b
def Ue4:VB->Bool
 |.gl _ _ _ x=>Nat.blt x 65521||Nat.ble 1000000 x
 |_=>true
theorem Ybs(s:ByteArray):Ufx s<65521:=by
 unfold Ufx;generalize s.data.toList=l;have h:∀(l:List UInt8) (n:Nat),n<65521->l.foldl (λn b=>(n*257+b.toNat) % 65521) n<65521:=by
  intro l
  induction l with
  |nil=>exact λn h=>h
  |cons b l ih=>exact λn _=>ih _ (Nat.mod_lt _ (by omega))
 exact h l 0 (by omega)
theorem SlL.start{P:Program}{W:World}{l:List VB}(h:SlL P W l)(ho:l.all Ue4=true):SlL P (view (start W) W) (l.map glX):=by
 induction h with
 |nil=>exact .nil
 |cons h t ih=>
  refine .cons ⟨h.1,h.2.1,h.2.2.1,?_⟩ (ih (by simp only[List.all_cons,Q7]at ho;exact ho.2));rcases h.2.2.2 with h0 | ⟨g,o,e,hr,hlt⟩
  ·exact .inl h0
  ·exact .inr ⟨g,o,e,λj v hj=>Zl5 (hr j v hj),by simpa using hlt⟩
 | @gl g0 t0 a0 x l0 h t ih=>
  simp only[List.all_cons,Q7]at ho;obtain⟨ho1,ho2⟩:=ho;simp only[Ue4,Bool.or_eq_true]at ho1;rcases h with ⟨h1,s,C,T,fr,h2,h4,h3⟩ | ⟨hbig,h1,h2⟩
  case inr=>
   refine .gl ?_ (ih ho2);rw[show Nat.ble 1000000 _=true from Nat.ble_eq_true_of_le hbig];exact .inr ⟨hbig,h1,h2.imp (λq=>⟨q.1,Zl5 q.2⟩) λq=>⟨q.1,λi hi=>Zl5 (q.2 i hi)⟩⟩
  have hs:=Ybs s;have hx:x<65521:=by
   rcases ho1 with h|h
   ·exact Nat.lt_of_lt_of_eq (Nat.lt_of_le_of_lt (Nat.le_refl _) (Nat.blt_eq ▸ h:_<65521)) rfl
   ·have:=Nat.le_of_ble_eq_true h;exfalso;rcases h3 with ⟨-,h3⟩ | ⟨-,h3⟩<;>omega
  refine .gl ?_ (ih ho2);rw[show Nat.ble 1000000 _=false from Bool.eq_false_iff.2 λh=>by have:=Nat.le_of_ble_eq_true h;omega];refine .inl ⟨Zl5 h1,s,C,T,_,Zl5 h2,Zx7 h4,.inr ?_⟩;rcases h3 with ⟨rfl,h3⟩ | ⟨-,h3⟩
  ·exact⟨rfl,by rw[h3];rfl⟩
  ·omega
theorem Yjs{P:Program}{f:FuncId}{G:Con}(hi:P.inits.idxOf? f=none)(hG:Uad topMd P f G){args:List SA}{vals:List Value}{r:Bool}{hh:List VB}(ho:hh.all Ue4=true)(hr:G args (hh.map glX)=some (.a (.b r),.none,true))(W:World)(hl:SlL P W hh)(hA:Uav P idA (hh.map glX) args vals):
  Ends P (λv W'=>v=.bool r/\Below W.heap.size W W') (crowd #[gr (Frame.enter P f vals.toArray .normal) []] W none) #[]:=by
 refine Ybw hi (hG _ (hh.map glX) _ args vals _ _ (SlL.no (SlL.start hl ho)) hr hA (SlL.his (SlL.start hl ho))) ?_;rintro v G' w' hf ⟨h1,-⟩ hb;have h1:v=.bool r:=h1;exact⟨h1,Yfg hb⟩
end Go.Proofs.YtefjogahegolbaaDoor.Vc
