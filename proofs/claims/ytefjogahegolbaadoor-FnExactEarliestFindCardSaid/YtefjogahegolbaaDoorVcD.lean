/- The machine of a starter and its workers: (1) measures; (2) what of the trace each must know. No program is named. -/
import Derived.Conc.CrowdComm
import Derived.Conc.Beside
import Derived.Test.YtefjogahegolbaaDoorVcC
set_option linter.unusedVariables false
set_option linter.unusedSimpArgs false
open _root_.Array renaming getElem?_eq_getElem->jA,getElem?_setIfInBounds_ne->jB,getElem?_eq_some_iff->jC,mem_append->jE,getElem?_append_right->jG
open _root_.Nat renaming le_refl->jD,eq_zero_or_pos->jF
namespace Go.Proofs.YtefjogahegolbaaDoor.Vc
open Go.RowKit Go.Conc Go.Proofs.YtefjogahegolbaaDoor.Ve
section
section
variable {α:Type} {r:α->α->Prop}
def LtN(r:α->α->Prop)(n:Nat)(f' f:Nat->α):Prop:=∃i,i<n/\r (f' i) (f i)/\∀j,j≠i->f' j=f j
theorem Ue8:∀(n:Nat) (f:Nat->α),(∀i,i<n->Acc r (f i))->Acc (LtN r n) f
 |0,f,_=>⟨_,λf' ⟨i,hi,_⟩=>by omega⟩
 | n+1,f,hf=>by
  have key:∀x,Acc r x->∀f,Acc (LtN r n) f->(∀i,i<n->Acc r (f i))->f n=x->Acc (LtN r (n+1)) f:=by
   intro x hx
   induction hx with
   | intro x hx ihx=>
    intro f hf
    induction hf with
    | intro f hf ihf=>
     intro hall hn;refine⟨_,λf' ⟨i,hi,hlt,hsame⟩=> ?_⟩
     by_cases hin:i=n
     ·subst hin;have hall':∀j,j<i->Acc r (f' j):=λj hj=>by rw[hsame j (by omega)];exact hall j hj
      exact ihx (f' i) (hn ▸ hlt) f' (Ue8 i f' hall') hall' rfl
     ·refine ihf f' ⟨i,by omega,hlt,hsame⟩ (λj hj=> ?_) ((hsame n (Ne.symm hin)).trans hn)
      by_cases hj':j=i
      ·subst hj';exact(hall j hj).inv hlt
      ·rw[hsame j hj'];exact hall j hj
  exact key (f n) (hf n (by omega)) f (Ue8 n f λi hi=>hf i (by omega)) (λi hi=>hf i (by omega)) rfl
end
inductive Item
 |run (c:Nat) (v:Value) (G:Gh) (w:World) (g:Goroutine)
 |rest (q:Nat)
inductive Less (P:Program):Item->Item->Prop
 |step {c:Nat} {v:Value} {G:Gh} {w w₁ w':World} {g g':Goroutine} {es:Array Event}:Rely G w w₁->stepG P false g w₁=.go g' w' es->Less P (.run c v (G.grow w₁.heap.size w'.heap.size) w' g') (.run c v G w g)
 |park {c:Nat} {v:Value} {G:Gh} {w:World} {g:Goroutine} {q:Nat}:Less P (.rest q) (.run c v G w g)
 |less {q q':Nat}:q<q'->Less P (.rest q) (.rest q')
theorem Zth(P:Program):∀q,Acc (Less P) (.rest q):=by
 intro q
 induction q using Nat.strongRecOn with|_ q ih=>exact⟨_,λy hy=>by cases hy with|less h=>exact ih _ h⟩
theorem GoW.acc{P:Program}{c:Nat}{v:Value}{G:Gh}{w:World}{g:Goroutine}(h:GoW P c v G w g):Acc (Less P) (.run c v G w g):=by
 induction h with
 |step G w g hf hr h1 h2 ih=>refine⟨_,λy hy=> ?_⟩;cases hy with|step hw hs=>exact ih _ hw _ _ _ hs|park=>exact Zth P _
 | stop G w g hf hs=>
  refine⟨_,λy hy=> ?_⟩;cases hy with
  |step hw hg=>obtain⟨g₂,z,q,hq,hall⟩:=hs.go;obtain⟨es,he,_⟩:=hall _ hw;rw[he]at hg;cases hg
  |park=>exact Zth P _
def blk:Loc->Option Nat
 |.cell a=>some a.block
 |.obj r=>some r
 |_=>none
structure Kn (t:Trace) (i:Nat) (G:Gh):Prop where
 m:∀j x b,touchAt t j=some x->blk x.loc=some b->G.M b->Knows t i j
 s:∀j x b,touchAt t j=some x->blk x.loc=some b->G.S b->Knows t i j\/(x.write=false/\x.kind=.plain)
theorem Kn.app{t u:Trace}{i:Nat}{G:Gh}(h:Kn t i G)(hu:∀op∈u,∀x,op.act.touch?=some x->∀b,blk x.loc=some b->(G.M b->op.g=i)/\(G.S b->op.g=i\/(x.write=false/\x.kind=.plain))):Kn (t++u) i G:=by
 constructor
 ·intro j x b hx hb hm;obtain⟨op,hop,hxo⟩:=touch_of hx;rcases getElem?_append_cases hop with ⟨hi,hop'⟩ | ⟨_,hou⟩
  ·exact(h.m j x b (by rw[touchAt_of hop'];exact hxo) hb hm).app u
  ·have:=knows_own hop
   rwa [(hu op hou x hxo b hb).1 hm]at this
 ·intro j x b hx hb hm;obtain⟨op,hop,hxo⟩:=touch_of hx;rcases getElem?_append_cases hop with ⟨hi,hop'⟩ | ⟨_,hou⟩
  ·exact(h.s j x b (by rw[touchAt_of hop'];exact hxo) hb hm).imp (·.app u) id
  ·rcases(hu op hou x hxo b hb).2 hm with h|h
   ·have:=knows_own hop;rw[h]at this;exact .inl this
   ·exact .inr h
theorem low_blk{x:Touch}{act:MemAct}{n b:Nat}(h:act.low n)(hx:act.touch?=some x)(hb:blk x.loc=some b):b<n:=by
 cases act with
 |access e=>simp only[MemAct.touch?,Q8]at hx;subst hx;simp only[MemAct.low]at h;cases hl:e.loc with|cell a=>simp only[hl,blk,Q8]at hb;subst hb;simpa [hl,Loc.low] using h|obj r=>simp only[hl,blk,Q8]at hb;subst hb;simpa [hl,Loc.low] using h|_=>simp[hl,blk]at hb
 |mark m=>cases m<;>simp only[MemAct.touch?,Q8]at hx<;>first | (cases hx;done) | (subst hx;simp only[blk,Q8]at hb;subst hb;exact h)
 |_=>simp only[MemAct.touch?]at hx;cases hx
theorem Kn.grow{t:Trace}{i n n':Nat}{G:Gh}(h:Kn t i G)(hl:∀op∈t,op.act.low n):Kn t i (G.grow n n'):=by
 refine⟨λj x b hx hb hm=> ?_,h.s⟩;rcases hm with hm|hm
 ·exact h.m j x b hx hb hm
 ·exfalso;obtain⟨op,hop,hxo⟩:=touch_of hx;have:=low_blk (hl op (mem_of_getElem? hop)) hxo hb;omega
def Ucz(t:Trace):Prop:=∀op∈t,∀m,op.act=.mark m->NeuX m
theorem Ucz.append{t u:Trace}(ht:Ucz t)(hu:Ucz u):Ucz (t++u):=by
 intro op hop;rcases jE.1 hop with h|h
 ·exact ht op h
 ·exact hu op h
theorem Ucz.deaf{t:Trace}(h:Ucz t)(g:Nat):∀i,t.deaf g i=0:=by
 intro i
 induction i with
 |zero=>rfl
 |succ i ih=>
  unfold Trace.deaf;split
  ·rename_i hh _ _ heq;rcases h _ (mem_of_getElem? heq) .disable rfl with e | ⟨_,e⟩<;>cases e
  ·rename_i hh _ _ heq;rcases h _ (mem_of_getElem? heq) .enable rfl with e | ⟨_,e⟩<;>cases e
  ·exact ih
theorem Ucz.heard{t:Trace}(h:Ucz t){i:Nat}{op:MemOp}(hi:t[i]?=some op):t.heard i:=⟨op.g,by simp[Trace.g?,hi],h.deaf _ _⟩
structure OpOk (G:Gh) (i:Nat) (B:Nat) (op:MemOp):Prop where
 g:op.g=i
 t:∀x,op.act.touch?=some x->x.kind=.plain/\∃b,blk x.loc=some b/\(G.M b\/(x.write=false/\G.S b))
 low:op.act.low B
 word:∀m,op.act=.mark m->NeuX m
theorem Yfe{G:Gh}{i B:Nat}{fn:FuncId}{pos:String}{es:Array Event}(h:∀e∈es,EvOk G e)(hB:∀k,G.M k\/G.S k->k<B):∀op∈MemOp.ofEvents i fn pos es,OpOk G i B op:=by
 intro op hop;obtain⟨e,he,rfl⟩:=Conc.mem_ofEvents hop;rcases h e he with ⟨a,rfl,hm⟩ | ⟨a,rfl,hm⟩ | ⟨m,rfl,hn⟩ | ⟨r,b,rfl,hm⟩
 ·refine⟨rfl,λx hx=> ?_,hB _ (.inl hm),λm hm=>by cases hm⟩;simp only[MemAct.ofEvent,MemAct.touch?,Q8]at hx;subst hx;exact⟨rfl,_,rfl,.inl hm⟩
 ·refine⟨rfl,λx hx=> ?_,hB _ hm,λm hm=>by cases hm⟩;simp only[MemAct.ofEvent,MemAct.touch?,Q8]at hx;subst hx;exact⟨rfl,_,rfl,hm.imp id λh=>⟨rfl,h⟩⟩
 ·have et:MemAct.ofEvent ⟨.mark m,false,true⟩=.mark m:=by cases m<;>rfl
  refine⟨rfl,λx hx=> ?_,?_,λm' hm=> ?_⟩
  ·have hx':(MemAct.ofEvent ⟨.mark m,false,true⟩).touch?=some x:=hx;rw[et,hn.touch]at hx';cases hx'
  rotate_left
  ·have hm':MemAct.ofEvent ⟨.mark m,false,true⟩=.mark m':=hm;rw[et]at hm';cases hm';exact hn
  show (MemAct.ofEvent ⟨.mark m,false,true⟩).low B
  rw[et];rcases hn with rfl | ⟨f,rfl⟩<;>trivial
 ·have e1:MemAct.ofEvent ⟨.obj r,b,false⟩=.access ⟨.obj r,b,false⟩:=by cases b<;>rfl
  refine⟨rfl,λx hx=> ?_,?_,λm hm=>by simp only[e1]at hm;cases hm⟩
  ·simp only[e1,MemAct.touch?,Q8]at hx;subst hx;exact⟨rfl,_,rfl,.inl hm⟩
  ·show (MemAct.ofEvent ⟨.obj r,b,false⟩).low B
   rw[e1];exact hB _ (.inl hm)
theorem Zus{t u:Trace}{i n n':Nat}{G:Gh}(h:∀said,¬Race said t)(hk:Kn t i G)(hl:∀op∈t,op.act.low n)(hu:∀op∈u,OpOk (G.grow n n') i n' op)(said:Bool):¬Race said (t++u):=by
 refine noRace_append (h said) (λop hop=>(hu op hop).g) λj a ha op hop b hb hc=> ?_
 obtain⟨hkind,k,hkb,hown⟩:=(hu op hop).t b hb;obtain⟨hloc,_,hw,_⟩:=hc;have hka:blk a.loc=some k:=by rw[hloc];exact hkb
 have hk':=hk.grow (n':=n') hl;rcases hown with hm | ⟨hr,hs⟩
 ·exact hk'.m j a k ha hka hm
 ·rcases hk'.s j a k ha hka hs with h | ⟨h1,h2⟩
  ·exact h
  ·rcases hw with hw|hw
   ·rw[h1]at hw;cases hw
   ·rw[hr]at hw;cases hw
theorem Zx3{t u:Trace}(h:∀said,¬Race said t)(hu:∀op∈u,op.act.touch?=none)(said:Bool):¬Race said (t++u):=by
 rintro⟨i,j,hij,⟨a,b,ha,hb,hc⟩,n1,n2⟩;obtain⟨x,hx,hxa⟩:=touch_of ha;obtain⟨y,hy,hyb⟩:=touch_of hb;rcases getElem?_append_cases hy with ⟨hj,hy'⟩ | ⟨hj,hyu⟩
 ·have hi:i<t.size:=Nat.lt_trans hij hj;have hx':t[i]?=some x:=by rw[<- getElem?_append_old (u:=u) hi];exact hx
  exact h said ⟨i,j,hij,⟨a,b,by simp[Trace.act?,hx',hxa],by simp[Trace.act?,hy',hyb],hc⟩,λe=>n1 (hb_app u e),λe=>n2 (hb_app u e)⟩
 ·rw[hu y hyu]at hyb;cases hyb
end
section
open Go.ConcN (upd upd_ne upd_same)
inductive Tag
 |none|main|kid (i:Nat)|shared|chan
inductive Kid
 |work (G:Gh) (w:World) (c:Nat) (v:Value)
 |wait (c:Nat) (v:Value)
 |gone (q:Nat)
def Kid.on:Kid->Option (Nat×Value)
 |.work _ _ c v=>some (c,v)
 |.wait c v=>some (c,v)
 |.gone _=>Option.none
def Ued(P:Program)(G:Gh)(T:Nat->Tag)(t:Trace)(w:World)(i:Nat)(g:Goroutine):Kid->Prop
 |.work Gi wi c v=>GoW P c v Gi wi g/\Rely Gi wi w/\(∀k,Gi.M k->T k=.kid i)/\(∀k,Gi.S k->T k=.shared)/\G.F c=some v/\Kn t i Gi
 |.wait c v=>G.F c=some v/\∃g₂ z q,g=Conc.parked g₂ #[Conc.scase c v z] .send/\Conc.QuitsIn P q (Conc.served g₂ undef)/\∀j op x,t[j]?=some op->op.g=i->op.act.touch?=some x->Knows t i j
 |.gone q=>Conc.QuitsIn P q g/\∀j op x,t[j]?=some op->op.g=i->op.act.touch?=some x->Knows t 0 j
structure Com (P:Program) (G:Gh) (g0:Goroutine) (gs:Array Goroutine) (w:World) (t:Trace) (D:Nat->Kid) (T:Nat->Tag):Prop where
 main:gs[0]?=some g0
 fit:Fit G w
 tm:∀k,G.M k->T k=.main
 ts:∀k,G.S k->T k=.shared
 tf:∀k v,G.F k=some v->T k=.chan
 new:∀k,w.heap.size<=k->T k=.none
 kids:∀i g,0<i->gs[i]?=some g->Ued P G T t w i g (D i)
 chan:∀c v,G.F c=some v->(∃s tm,w.heap[c]?=some (.chan 0 #[] false s s tm))/\∃i v',0<i/\i<gs.size/\(D i).on=some (c,v')
 one:∀i j c v v',0<i->i<gs.size->0<j->j<gs.size->(D i).on=some (c,v)->(D j).on=some (c,v')->i=j
 clean:∀said,¬Race said t
 low:∀op∈t,op.act.low w.heap.size
 word:Ucz t
 kn:Kn t 0 G
 few:∀op∈t,op.g<gs.size
structure Put (gs gs':Array Goroutine) (i:Nat) (g':Goroutine):Prop where
 size:gs'.size=gs.size
 here:gs'[i]?=some g'
 other:∀j,j≠i->gs'[j]?=gs[j]?
theorem Put.self{gs:Array Goroutine}{i:Nat}{g:Goroutine}(h:gs[i]?=some g):Put gs gs i g:=⟨rfl,h,λ_ _=>rfl⟩
theorem Put.set{gs:Array Goroutine}{i:Nat}(h:i<gs.size)(g':Goroutine):Put gs (gs.setIfInBounds i g') i g':=
 ⟨by simp,by simp[h],λj hj=>by rw[jB (Ne.symm hj)]⟩
theorem Rely.at{G:Gh}{w w':World}(h:Rely G w w')(d:Nat):Rely G w (w'.at d):=⟨h.os,h.tape,h.output,h.size,h.same⟩
theorem Fit.at{G:Gh}{w:World}(h:Fit G w)(d:Nat):Fit G (w.at d):=⟨h.m,h.s,h.f⟩
theorem GoW.running{P:Program}{c:Nat}{v:Value}{G:Gh}{w:World}{g:Goroutine}(h:GoW P c v G w g):g.status=.running:=by cases h with|step _ _ _ _ hr _ _=>exact hr|stop _ _ _ _ hs=>exact hs.run
section
variable {P:Program} {G G':Gh} {g0 g0':Goroutine} {gs gs':Array Goroutine} {w w':World} {t u:Trace} {D:Nat->Kid} {T T':Nat->Tag} {i:Nat} {g g':Goroutine}
theorem Ued.on{K:Kid}{c:Nat}{v:Value}(h:Ued P G T t w i g K)(ho:K.on=some (c,v)):G.F c=some v:=by
 cases K with
 |work Gi wi c' v'=>cases ho;exact h.2.2.2.2.1
 |wait c' v'=>cases ho;exact h.1
 |gone q=>cases ho
theorem Ued.keep{K:Kid}(h:Ued P G T t w i g K)(hF:∀c v,K.on=some (c,v)->G.F c=some v->G'.F c=some v)(hT:∀k,T k=.kid i->T' k=.kid i)(hS:∀k,T k=.shared->T' k=.shared)
  (hw:∀Gi wi,(∀k,Gi.M k->T k=.kid i)->(∀k,Gi.S k->T k=.shared)->Rely Gi wi w->Rely Gi wi w')
  (hu:∀op∈u,op.g≠i/\∀x,op.act.touch?=some x->∀b,blk x.loc=some b->T' b ≠ .kid i/\(T' b=.shared->x.write=false/\x.kind=.plain)):Ued P G' T' (t++u) w' i g K:=by
 have hold:∀{m:Nat},(∀j op x,t[j]?=some op->op.g=i->op.act.touch?=some x->Knows t m j)->∀j op x,(t++u)[j]?=some op->op.g=i->op.act.touch?=some x->Knows (t++u) m j:=by
  intro m h j op x hop hg hx;rcases getElem?_append_cases hop with ⟨_,hop'⟩ | ⟨_,hou⟩
  ·exact(h j op x hop' hg hx).app u
  ·exact absurd hg (hu op hou).1
 cases K with
 | work Gi wi c v=>
  obtain⟨h1,h2,h3,h4,h5,h6⟩:=h;exact⟨h1,hw _ _ h3 h4 h2,λk hk=>hT k (h3 k hk),λk hk=>hS k (h4 k hk),hF c v rfl h5,h6.app λop hop x hx b hb=>
   ⟨λhm=>absurd (hT b (h3 b hm)) ((hu op hop).2 x hx b hb).1,λhs=>.inr (((hu op hop).2 x hx b hb).2 (hS b (h4 b hs)))⟩⟩
 |wait c v=>obtain⟨h1,g₂,z,q,h2,h3,h4⟩:=h;exact⟨hF c v rfl h1,g₂,z,q,h2,h3,hold h4⟩
 |gone q=>exact⟨h.1,hold h.2⟩
theorem Com.at(h:Com P G g0 gs w t D T)(d:Nat):Com P G g0 gs (w.at d) t D T:=
 { h with
  fit:=h.fit.at d
  kids:=λi g hi hg=>by
   have:=(h.kids i g hi hg).keep (G':=G) (T':=T) (w':=w.at d) (u:=#[]) (λ_ _ _ h=>h) (λ_ h=>h) (λ_ h=>h) (λ_ _ _ _ h=>h.at d) (λop hop=>by simp at hop)
   simpa using this }
theorem Com.woken(h:Com P G g0 gs w t D T){j:Nat}{x:Goroutine}(hj:0<j)(hx:gs[j]?=some x)(a a':Goroutine)(hF:∀c v,G.F c=some v->w'.heap[c]?=w.heap[c]?):Conc.woken P a a' w' x=x:=by
 have hk:=h.kids j x hj hx;cases hD:D j with
 |work Gi wi c v=>rw[hD]at hk;exact woken_run hk.1.running
 |wait c v=>rw[hD]at hk;obtain⟨h1,g₂,z,q,rfl,-⟩:=hk;obtain⟨⟨s,tm,hc⟩,-⟩:=h.chan c v h1;exact woken_send_open a a' (by rw[hF c v h1];exact hc)
 |gone q=>rw[hD]at hk;exact woken_quits hk.1
theorem Com.runs_go(h:Com P G g0 gs w t D T){sl:Option (Nat×Nat)}{es:Array Event}(hi:gs[i]?=some g)(hs:stepG P (i==0) g w=.go g' w' es)(hF:∀c v,G.F c=some v->w'.heap[c]?=w.heap[c]?)
  (h0:i≠0->∀a a',Conc.woken P a a' w' g0=g0):∃gs',runT P (crowd gs w sl) i=(.next (crowd gs' w' sl),MemOp.ofEvents i g.frame.fn g.frame.place es)/\Put gs gs' i g':=by
 have hlt:i<gs.size:=(jC.1 hi).1;refine⟨_,runT_crowd_go hi hs,by simp,by simp[hlt],λj hj=> ?_⟩;rw[jB (Ne.symm hj),Array.getElem?_map];cases hx:gs[j]? with
 |none=>rfl
 | some x=>
  simp only[Option.map_some];rcases jF j with rfl|hpos
  ·rw[h.main]at hx;cases hx;rw[h0 (Ne.symm hj)]
  ·rw[h.woken hpos hx g g' hF]
theorem OpOk.tags{τ:Tag}{B:Nat}{op:MemOp}{Gi:Gh}(h:OpOk Gi i B op)(hM:∀k,Gi.M k->T' k=τ)(hS:∀k,Gi.S k->T' k=.shared){x:Touch}(hx:op.act.touch?=some x){b:Nat}(hb:blk x.loc=some b):
  x.kind=.plain/\(T' b=τ\/(x.write=false/\T' b=.shared)):=by
 obtain⟨h1,b',hb',h2⟩:=h.t x hx;rw[hb]at hb';cases hb';exact⟨h1,h2.imp (hM b) λh=>⟨h.1,hS b h.2⟩⟩
theorem Com.kid_go(h:Com P G g0 gs w t D T)(hi0:0<i)(hi:gs[i]?=some g){Gi wi c v}(hD:D i=.work Gi wi c v){es:Array Event}(hd:Did Gi w w' es)(hput:Put gs gs' i g')(hnext:GoW P c v (Gi.grow w.heap.size w'.heap.size) w' g')(fn:FuncId)(pos:String):
  Com P G g0 gs' w' (t++MemOp.ofEvents i fn pos es) (upd D i (.work (Gi.grow w.heap.size w'.heap.size) w' c v)) (λk=>if w.heap.size<=k/\k<w'.heap.size then .kid i else T k)/\Rely G w w':=by
 have hlt:i<gs.size:=(jC.1 hi).1;have hk:=h.kids i g hi0 hi;rw[hD]at hk;obtain⟨h1,h2,h3,h4,h5,h6⟩:=hk;have hnone:∀k,T k ≠ .none->k<w.heap.size:=λk hk=>Nat.lt_of_not_le λhle=>hk (h.new k hle)
 have hold:∀k,T k ≠ .none->(if w.heap.size<=k/\k<w'.heap.size then Tag.kid i else T k)=T k:=λk hk=>if_neg λx=>by have:=hnone k hk;omega
 have hrely:∀Gj wj τ,(∀k,Gj.M k->T k=τ)->(∀k,Gj.S k->T k=.shared)->τ ≠ .kid i->τ ≠ .none->Rely Gj wj w->Rely Gj wj w':=λGj wj τ hM hS hτ hn hr=>
  hr.trans ⟨hd.os,hd.tape,hd.output,hd.size,λk hk=>by
   have hT:T k ≠ .none/\T k ≠ .kid i:=hk.elim (λx=>by rw[hM k x];exact⟨hn,hτ⟩) (λx=>by rw[hS k x];exact⟨(by intro e;cases e),by intro e;cases e⟩);exact hd.same k (hnone k hT.1) λhm=>hT.2 (h3 k hm)⟩
 have hR:Rely G w w':=hrely G w .main h.tm h.ts (by intro e;cases e) (by intro e;cases e) (.refl _ _);have hM':∀k,(Gi.grow w.heap.size w'.heap.size).M k->(if w.heap.size<=k/\k<w'.heap.size then Tag.kid i else T k)=.kid i:=λk hk=>by
  rcases hk with hk|hk
  ·rw[hold k (by rw[h3 k hk];intro e;cases e)];exact h3 k hk
  ·exact if_pos hk
 have hS':∀k,Gi.S k->(if w.heap.size<=k/\k<w'.heap.size then Tag.kid i else T k)=.shared:=λk hk=>by
  rw[hold k (by rw[h4 k hk];intro e;cases e)];exact h4 k hk
 have hB:∀k,(Gi.grow w.heap.size w'.heap.size).M k\/(Gi.grow w.heap.size w'.heap.size).S k->k<w'.heap.size:=λk hk=>by
  rcases hk with (hk|hk)|hk
  ·have:=hnone k (by rw[h3 k hk];intro e;cases e);have:=hd.size;omega
  ·exact hk.2
  ·have:=hnone k (by rw[h4 k hk];intro e;cases e);have:=hd.size;omega
 have hu:=Yfe (i:=i) (fn:=fn) (pos:=pos) hd.evs hB;have hon:∀j,((upd D i (.work (Gi.grow w.heap.size w'.heap.size) w' c v)) j).on=(D j).on:=λj=>by
  by_cases hj:j=i
  ·subst hj;rw[upd_same,hD];rfl
  ·rw[upd_ne D _ hj]
 refine⟨{ main:=(hput.other 0 (by omega)).trans h.main,fit:=h.fit.rely hR,tm:=λk hk=> ?_,ts:=λk hk=> ?_,tf:=λk v hk=> ?_,new:=λk hk=> ?_,kids:=λj x hj hx=> ?_,chan:=λc' v' hc=> ?_,one:= ?_,clean:= ?_,low:= ?_,word:= ?_,kn:= ?_,few:= ?_ },hR⟩
 ·rw[hold k (by rw[h.tm k hk];intro e;cases e)];exact h.tm k hk
 ·rw[hold k (by rw[h.ts k hk];intro e;cases e)];exact h.ts k hk
 ·rw[hold k (by rw[h.tf k v hk];intro e;cases e)];exact h.tf k v hk
 ·rw[if_neg (by omega)];exact h.new k (by have:=hd.size;omega)
 ·by_cases hj':j=i
  ·subst hj';rw[hput.here]at hx;cases hx;rw[upd_same];exact⟨hnext,.refl _ _,hM',hS',h5,(h6.grow h.low).app λop hop x hx b hb=>⟨λ_=>(hu op hop).g,λ_=>.inl (hu op hop).g⟩⟩
  ·rw[hput.other j hj']at hx;rw[upd_ne D _ hj'];refine(h.kids j x hj hx).keep (λ_ _ _ h=>h) (λk hk=> ?_) (λk hk=> ?_) (λGj wj hM hS hr=>hrely Gj wj (.kid j) hM hS (by intro e;cases e;exact hj' rfl) (by intro e;cases e) hr) λop hop=>⟨by rw[(hu op hop).g];exact Ne.symm hj',λx hx b hb=> ?_⟩
   ·rw[hold k (by rw[hk];intro e;cases e)];exact hk
   ·rw[hold k (by rw[hk];intro e;cases e)];exact hk
   ·obtain⟨hkd,hor⟩:=(hu op hop).tags hM' hS' hx hb;rcases hor with e | ⟨hr,e⟩
    ·exact⟨(λe'=>by have:=e.symm.trans e';cases this;exact hj' rfl),(λe'=>by have:=e.symm.trans e';cases this)⟩
    ·exact⟨(λe'=>by have:=e.symm.trans e';cases this),λ_=>⟨hr,hkd⟩⟩
 ·obtain⟨⟨s,tm,hc1⟩,j,v'',hj⟩:=h.chan c' v' hc;have hT:=h.tf c' v' hc;refine⟨⟨s,tm,?_⟩,j,v'',hj.1,by rw[hput.size];exact hj.2.1,by rw[hon];exact hj.2.2⟩;rw[hd.same c' (hnone c' (by rw[hT];intro e;cases e)) λhm=>by rw[h3 c' hm]at hT;cases hT];exact hc1
 ·intro j k c' v1 v2 hj hj' hk hk' e1 e2;rw[hput.size]at hj' hk';rw[hon]at e1 e2;exact h.one j k c' v1 v2 hj hj' hk hk' e1 e2
 ·exact Zus h.clean h6 h.low hu
 ·exact seen_app (λop hop=>MemAct.low_mono hd.size (h.low op hop)) λop hop=>(hu op hop).low
 ·exact h.word.append λop hop=>(hu op hop).word
 ·refine h.kn.app λop hop x hx b hb=> ?_
  obtain⟨hkd,hor⟩:=(hu op hop).tags hM' hS' hx hb;constructor
  ·intro hm;exfalso;have:=h.tm b hm;have e0:=hold b (by rw[this];intro e;cases e);rcases hor with e | ⟨_,e⟩<;>(have e1:=this.symm.trans (e0.symm.trans e);cases e1)
  ·intro hs;have:=h.ts b hs;have e0:=hold b (by rw[this];intro e;cases e);rcases hor with e | ⟨hr,e⟩
   ·have e1:=this.symm.trans (e0.symm.trans e);cases e1
   ·exact .inr ⟨hr,hkd⟩
 ·intro op hop;rw[hput.size];rcases jE.1 hop with hop|hop
  ·exact h.few op hop
  ·rw[(hu op hop).g];exact hlt
theorem Com.main_go(h:Com P G g0 gs w t D T){es:Array Event}(hd:Did G w w' es)(hput:Put gs gs' 0 g')(fn:FuncId)(pos:String):
  Com P (G.grow w.heap.size w'.heap.size) g' gs' w' (t++MemOp.ofEvents 0 fn pos es) D (λk=>if w.heap.size<=k/\k<w'.heap.size then .main else T k):=by
 have hlt:0<gs.size:=(jC.1 h.main).1;have hnone:∀k,T k ≠ .none->k<w.heap.size:=λk hk=>Nat.lt_of_not_le λhle=>hk (h.new k hle)
 have hold:∀k,T k ≠ .none->(if w.heap.size<=k/\k<w'.heap.size then Tag.main else T k)=T k:=λk hk=>if_neg λx=>by have:=hnone k hk;omega
 have hrely:∀Gj wj τ,(∀k,Gj.M k->T k=τ)->(∀k,Gj.S k->T k=.shared)->τ ≠ .main->τ ≠ .none->Rely Gj wj w->Rely Gj wj w':=λGj wj τ hM hS hτ hn hr=>
  hr.trans ⟨hd.os,hd.tape,hd.output,hd.size,λk hk=>by
   have hT:T k ≠ .none/\T k ≠ .main:=hk.elim (λx=>by rw[hM k x];exact⟨hn,hτ⟩) (λx=>by rw[hS k x];exact⟨(by intro e;cases e),by intro e;cases e⟩);exact hd.same k (hnone k hT.1) λhm=>hT.2 (h.tm k hm)⟩
 have hM':∀k,(G.grow w.heap.size w'.heap.size).M k->(if w.heap.size<=k/\k<w'.heap.size then Tag.main else T k)=.main:=λk hk=>by
  rcases hk with hk|hk
  ·rw[hold k (by rw[h.tm k hk];intro e;cases e)];exact h.tm k hk
  ·exact if_pos hk
 have hS':∀k,G.S k->(if w.heap.size<=k/\k<w'.heap.size then Tag.main else T k)=.shared:=λk hk=>by
  rw[hold k (by rw[h.ts k hk];intro e;cases e)];exact h.ts k hk
 have hf':Fit (G.grow w.heap.size w'.heap.size) w':=h.fit.grow hd.size;have hu:=Yfe (i:=0) (fn:=fn) (pos:=pos) hd.evs λk hk=>hk.elim (hf'.m k) λx=>(hf'.s k x).1
 refine { main:=hput.here,fit:=hf',tm:=hM',ts:=hS',tf:=λk v hk=> ?_,new:=λk hk=> ?_,kids:=λj x hj hx=> ?_,chan:=λc' v' hc=> ?_,one:= ?_,clean:= ?_,low:= ?_,word:= ?_,kn:= ?_,few:= ?_ }
 ·rw[hold k (by rw[h.tf k v hk];intro e;cases e)];exact h.tf k v hk
 ·rw[if_neg (by omega)];exact h.new k (by have:=hd.size;omega)
 ·rw[hput.other j (by omega)]at hx;refine(h.kids j x hj hx).keep (λ_ _ _ h=>h) (λk hk=> ?_) (λk hk=> ?_) (λGj wj hM hS hr=>hrely Gj wj (.kid j) hM hS (by intro e;cases e) (by intro e;cases e) hr) λop hop=>⟨by rw[(hu op hop).g];omega,λx hx b hb=> ?_⟩
  ·rw[hold k (by rw[hk];intro e;cases e)];exact hk
  ·rw[hold k (by rw[hk];intro e;cases e)];exact hk
  ·obtain⟨hkd,hor⟩:=(hu op hop).tags hM' hS' hx hb;rcases hor with e | ⟨hr,e⟩
   ·exact⟨(λe'=>by have:=e.symm.trans e';cases this),(λe'=>by have:=e.symm.trans e';cases this)⟩
   ·exact⟨(λe'=>by have:=e.symm.trans e';cases this),λ_=>⟨hr,hkd⟩⟩
 ·obtain⟨⟨s,tm,hc1⟩,j,v'',hj⟩:=h.chan c' v' hc;have hT:=h.tf c' v' hc;refine⟨⟨s,tm,?_⟩,j,v'',hj.1,by rw[hput.size];exact hj.2.1,hj.2.2⟩;rw[hd.same c' (hnone c' (by rw[hT];intro e;cases e)) λhm=>by rw[h.tm c' hm]at hT;cases hT];exact hc1
 ·intro j k c' v1 v2 hj hj' hk hk' e1 e2;rw[hput.size]at hj' hk';exact h.one j k c' v1 v2 hj hj' hk hk' e1 e2
 ·exact Zus h.clean h.kn h.low hu
 ·exact seen_app (λop hop=>MemAct.low_mono hd.size (h.low op hop)) λop hop=>(hu op hop).low
 ·exact h.word.append λop hop=>(hu op hop).word
 ·exact(h.kn.grow h.low).app λop hop x hx b hb=>⟨λ_=>(hu op hop).g,λ_=>.inl (hu op hop).g⟩
 ·intro op hop;rw[hput.size];rcases jE.1 hop with hop|hop
  ·exact h.few op hop
  ·rw[(hu op hop).g];exact hlt
end
end
section
open Go.ConcN (upd upd_ne upd_same)
section
variable {P:Program} {G G':Gh} {g0 g0':Goroutine} {gs gs':Array Goroutine} {w w':World} {t u:Trace} {D:Nat->Kid} {T T':Nat->Tag} {i:Nat} {g g':Goroutine}
theorem Com.main_put(h:Com P G g0 gs w t D T)(hput:Put gs gs' 0 g'):Com P G g' gs' w t D T:=
 { h with
  main:=hput.here
  kids:=λj x hj hx=>h.kids j x hj (by rw[<- hput.other j (by omega)];exact hx)
  chan:=λc v hc=>by rw[hput.size];exact h.chan c v hc
  one:=by rw[hput.size];exact h.one
  few:=by rw[hput.size];exact h.few }
theorem Com.kid_put(h:Com P G g0 gs w t D T)(hi0:0<i)(hput:Put gs gs' i g')(K:Kid)(hon:K.on=(D i).on)(hk:Ued P G T t w i g' K):Com P G g0 gs' w t (upd D i K) T:=by
 have hon':∀j,(upd D i K j).on=(D j).on:=λj=>by
  by_cases hj:j=i
  ·subst hj;rw[upd_same,hon]
  ·rw[upd_ne D _ hj]
 exact { h with
  main:=(hput.other 0 (by omega)).trans h.main
  kids:=λj x hj hx=>by
   by_cases hj':j=i
   ·subst hj';rw[hput.here]at hx;cases hx;rw[upd_same];exact hk
   ·rw[upd_ne D _ hj'];exact h.kids j x hj (by rw[<- hput.other j hj'];exact hx)
  chan:=λc v hc=>by
   obtain⟨h1,j,v',h2,h3,h4⟩:=h.chan c v hc;exact⟨h1,j,v',h2,by rw[hput.size];exact h3,by rw[hon'];exact h4⟩
  one:=λj k c v v' hj hj' hk hk' e1 e2=>by
   rw[hput.size]at hj' hk';rw[hon']at e1 e2;exact h.one j k c v v' hj hj' hk hk' e1 e2
  few:=by rw[hput.size];exact h.few }
theorem Com.spawn(h:Com P G g0 gs w t D T){c:Nat}{v:Value}{K:Nat->Prop}(hm:G.M c)(hc:¬K c)(hK:∀k,K k->G.M k){es:Array Event}(hes:∀e∈es,EvOk G e)(hch:∃s tm,w.heap[c]?=some (.chan 0 #[] false s s tm)){child:Goroutine}
  (hgo:GoW P c v (G.kid K) w child) (fn fn1 fn2:FuncId) (pos pos1 pos2:String):∃T',
  Com P (G.lend c v K) g' ((gs.setIfInBounds 0 g').push child) w
   (t++(((MemOp.ofEvents 0 fn pos es).push { g:=0,fn:=fn1,pos:=pos1,act:=.go gs.size }).push { g:=gs.size,fn:=fn2,pos:=pos2,act:=.start })) (upd D gs.size (.work (G.kid K) w c v)) T':=by
 have hlt:0<gs.size:=(jC.1 h.main).1;have hu:=Yfe (i:=0) (fn:=fn) (pos:=pos) hes λk hk=>hk.elim (h.fit.m k) λx=>(h.fit.s k x).1
 have hTc:T c=.main:=h.tm c hm
 -- the trace
 have hkn1:Kn (t++MemOp.ofEvents 0 fn pos es) 0 G:=h.kn.app λop hop x hx b hb=>⟨λ_=>(hu op hop).g,λ_=>.inl (hu op hop).g⟩
 have hcl1:∀said,¬Race said (t++MemOp.ofEvents 0 fn pos es):=λsaid=>Zus (n:=w.heap.size) (n':=w.heap.size) h.clean h.kn h.low (by rw[Gh.grow_self];exact hu) said
 have hw1:Ucz (t++MemOp.ofEvents 0 fn pos es):=h.word.append λop hop=>(hu op hop).word
 have hlow1:=seen_app h.low λop hop=>(hu op hop).low
 have hfew1:∀op∈t++MemOp.ofEvents 0 fn pos es,op.g<gs.size:=λop hop=>(jE.1 hop).elim (h.few op) λx=>by rw[(hu op x).g];exact hlt
 have ht:t++(((MemOp.ofEvents 0 fn pos es).push { g:=0,fn:=fn1,pos:=pos1,act:=.go gs.size }).push { g:=gs.size,fn:=fn2,pos:=pos2,act:=.start }) =
   (t++MemOp.ofEvents 0 fn pos es)++#[{ g:=0,fn:=fn1,pos:=pos1,act:=.go gs.size },{ g:=gs.size,fn:=fn2,pos:=pos2,act:=.start }]:=by
  apply Array.ext';simp
 rw[ht];have hkids1:∀j x,0<j->gs[j]?=some x->Ued P G T (t++MemOp.ofEvents 0 fn pos es) w j x (D j):=λj x hj hx=>
  (h.kids j x hj hx).keep (fun _ _ _ h=>h) (fun _ h=>h) (fun _ h=>h) (fun _ _ _ _ h=>h) fun op hop=>⟨by rw [(hu op hop).g];omega,fun x hx b hb=>by
   obtain⟨hkd,hor⟩:=(hu op hop).tags h.tm h.ts hx hb;rcases hor with e | ⟨hr,e⟩
   ·exact⟨(λe'=>by have:=e.symm.trans e';cases this),(λe'=>by have:=e.symm.trans e';cases this)⟩
   ·exact⟨(λe'=>by have:=e.symm.trans e';cases this),λ_=>⟨hr,hkd⟩⟩⟩
 generalize t++MemOp.ofEvents 0 fn pos es=t1 at *;generalize hop1:({ g:=0,fn:=fn1,pos:=pos1,act:=.go gs.size }:MemOp)=op1;generalize hop2:({ g:=gs.size,fn:=fn2,pos:=pos2,act:=.start }:MemOp)=op2;have ho1:op1.g=0/\op1.act=.go gs.size:=by subst hop1;exact⟨rfl,rfl⟩
 have ho2:op2.g=gs.size/\op2.act=.start:=by subst hop2;exact⟨rfl,rfl⟩
 have hmem:∀op∈(#[op1,op2]:Array MemOp),op=op1\/op=op2:=λop hop=>by simpa using hop
 have hmute:∀op∈(#[op1,op2]:Array MemOp),op.act.touch?=none:=λop hop=>by
  rcases hmem op hop with rfl|rfl
  ·rw[ho1.2];rfl
  ·rw[ho2.2];rfl
 have hword:Ucz (t1++#[op1,op2]):=hw1.append λop hop m hm=>by
  rcases hmem op hop with rfl|rfl
  ·rw[ho1.2]at hm;cases hm
  ·rw[ho2.2]at hm;cases hm
 have hat1:(t1++#[op1,op2])[t1.size]?=some op1:=by rw[jG (jD _)];simp
 have hat2:(t1++#[op1,op2])[t1.size+1]?=some op2:=by rw[jG (by omega)];simp
 have hchild:∀j,Knows t1 0 j->Knows (t1++#[op1,op2]) gs.size j:=λj hj=>by
  have e1:HappensBefore (t1++#[op1,op2]) j t1.size:=hj.hb_new (jD _) hat1 ho1.1;have e2:HappensBefore (t1++#[op1,op2]) t1.size (t1.size+1):=.single (.inr ⟨.spawn (child:=gs.size) (by simp[Trace.act?,hat1,ho1.2]) (by simp[Trace.act?,hat2,ho2.2]) (by simp[Trace.g?,hat2,ho2.1]),hword.heard hat1,hword.heard hat2⟩);exact⟨_,op2,hat2,ho2.1,.inr (e1.trans e2)⟩
 have hold:∀j x,touchAt (t1++#[op1,op2]) j=some x->touchAt t1 j=some x:=λj x hx=>by
  obtain⟨op,hop,hxo⟩:=touch_of hx;rcases getElem?_append_cases hop with ⟨_,hop'⟩ | ⟨_,hou⟩
  ·rw[touchAt_of hop'];exact hxo
  ·rw[hmute op hou]at hxo;cases hxo
 -- the blocks
 have hKc:∀k,K k->k≠c:=λk hk e=>hc (e ▸ hk)
 have hT':∃T':Nat->Tag,T' c=.chan/\(∀k,K k->T' k=.shared)/\∀k,k≠c->¬K k->T' k=T k:=by
  classical
  exact⟨λk=>if k=c then .chan else if K k then .shared else T k,if_pos rfl,λk hk=>by simp only[if_neg (hKc k hk),if_pos hk],λk h1 h2=>by simp only[if_neg h1,if_neg h2]⟩
 obtain⟨T',hT1,hT2,hT3⟩:=hT';have hnoF:G.F c=none:=by cases e:G.F c with|none=>rfl|some v=>exact absurd hm (h.fit.f c v e).2.1
 have hne:∀k,T k ≠ .main->k≠c/\¬K k:=λk hk=>⟨λe=>hk (e ▸ hTc),λx=>hk (h.tm k (hK k x))⟩
 have hsz:((gs.setIfInBounds 0 g').push child).size=gs.size+1:=by simp
 have hget:∀j,j<gs.size->j≠0->((gs.setIfInBounds 0 g').push child)[j]?=gs[j]?:=λj hj hj0=>by
  rw[Array.getElem?_push,if_neg (by simp;omega),jB (Ne.symm hj0)]
 have hon:∀j,j<gs.size->(upd D gs.size (.work (G.kid K) w c v)) j=D j:=λj hj=>upd_ne D _ (by omega)
 have honc:∀j c' v',0<j->j<gs.size->(D j).on=some (c',v')->G.F c'=some v':=λj c' v' hj hj' e=>(h.kids j _ hj (jA hj')).on e
 refine⟨T',{ main:= ?_,fit:=⟨?_,?_,?_⟩,tm:= ?_,ts:= ?_,tf:= ?_,new:= ?_,kids:= ?_,chan:= ?_,one:= ?_,clean:= ?_,low:= ?_,word:=hword,kn:= ?_,few:= ?_ }⟩
 ·rw[Array.getElem?_push,if_neg (by simp;omega)];simp[hlt]
 ·exact λk hk=>h.fit.m k hk.1
 ·intro k hk;rcases hk with hk|hk
  ·exact⟨(h.fit.s k hk).1,λx=>(h.fit.s k hk).2 x.1⟩
  ·exact⟨h.fit.m k (hK k hk),λx=>x.2.2 hk⟩
 ·intro k v' hk;simp only[Gh.lend]at hk
  by_cases e:k=c
  ·subst e;exact⟨h.fit.m k hm,λx=>x.2.1 rfl,λx=>x.elim (λy=>(h.fit.s k y).2 hm) hc⟩
  ·rw[if_neg e]at hk;obtain⟨h1,h2,h3⟩:=h.fit.f k v' hk;exact⟨h1,λx=>h2 x.1,λx=>x.elim h3 λy=>h2 (hK k y)⟩
 ·exact λk hk=>(hT3 k hk.2.1 hk.2.2).trans (h.tm k hk.1)
 ·intro k hk;rcases hk with hk|hk
  ·have e:=h.ts k hk;have:=hne k (by rw[e];intro x;cases x);exact(hT3 k this.1 this.2).trans e
  ·exact hT2 k hk
 ·intro k v' hk;simp only[Gh.lend]at hk
  by_cases e:k=c
  ·subst e;exact hT1
  ·rw[if_neg e]at hk;have e':=h.tf k v' hk;have:=hne k (by rw[e'];intro x;cases x);exact(hT3 k this.1 this.2).trans e'
 ·intro k hk;have e:=h.new k hk;have:=hne k (by rw[e];intro x;cases x);exact(hT3 k this.1 this.2).trans e
 ·intro j x hj hx;rcases Nat.lt_trichotomy j gs.size with hlt' | rfl|hgt
  ·rw[hon j hlt'];rw[hget j hlt' (by omega)]at hx;refine(hkids1 j x hj hx).keep (λc' v' ho hF=> ?_) (λk hk=> ?_) (λk hk=> ?_) (λ_ _ _ _ h=>h) λop hop=>⟨?_,λx hx=>by rw[hmute op hop]at hx;cases hx⟩
   ·simp only[Gh.lend];rw[if_neg (λe=>by subst e;rw[hnoF]at hF;cases hF)];exact hF
   ·have:=hne k (by rw[hk];intro x;cases x);exact(hT3 k this.1 this.2).trans hk
   ·have:=hne k (by rw[hk];intro x;cases x);exact(hT3 k this.1 this.2).trans hk
   ·rcases hmem op hop with rfl|rfl
    ·rw[ho1.1];omega
    ·rw[ho2.1];omega
  ·have e:((gs.setIfInBounds 0 g').push child)[gs.size]?=some child:=by rw[Array.getElem?_push,if_pos (by simp)]
   rw[e]at hx;cases hx;rw[upd_same];refine⟨hgo,.refl _ _,λk hk=>hk.elim,λk hk=> ?_,by simp[Gh.lend],λj x b hx hb hm'=>hm'.elim,λj x b hx hb hs=> ?_⟩
   ·rcases hk with hk|hk
    ·have e:=h.ts k hk;have:=hne k (by rw[e];intro x;cases x);exact(hT3 k this.1 this.2).trans e
    ·exact hT2 k hk
   ·have hx':=hold j x hx;rcases hs with hs|hs
    ·exact(hkn1.s j x b hx' hb hs).imp (hchild j) id
    ·exact .inl (hchild j (hkn1.m j x b hx' hb (hK b hs)))
  ·rw[Array.getElem?_eq_none (by rw[hsz];omega)]at hx;cases hx
 ·intro c' v' hF;simp only[Gh.lend]at hF
  by_cases e:c'=c
  ·subst e;exact⟨hch,gs.size,v,hlt,by rw[hsz];omega,by rw[upd_same];rfl⟩
  ·rw[if_neg e]at hF;obtain⟨h1,j,v'',h2,h3,h4⟩:=h.chan c' v' hF;exact⟨h1,j,v'',h2,by rw[hsz];omega,by rw[hon j h3];exact h4⟩
 ·intro j k c' v1 v2 hj hj' hk hk' e1 e2;rw[hsz]at hj' hk';have fresh:∀m v3,0<m->m<gs.size->(D m).on=some (c,v3)->False:=λm v3 h0 hm' e=>by
   have:=honc m c v3 h0 hm' e;rw[hnoF]at this;cases this
  by_cases hjn:j=gs.size
  ·by_cases hkn:k=gs.size
   ·rw[hjn,hkn]
   ·subst hjn;rw[upd_same]at e1;cases e1;rw[hon k (by omega)]at e2;exact(fresh k v2 hk (by omega) e2).elim
  ·by_cases hkn:k=gs.size
   ·subst hkn;rw[upd_same]at e2;cases e2;rw[hon j (by omega)]at e1;exact(fresh j v1 hj (by omega) e1).elim
   ·rw[hon j (by omega)]at e1;rw[hon k (by omega)]at e2;exact h.one j k c' v1 v2 hj (by omega) hk (by omega) e1 e2
 ·exact Zx3 hcl1 hmute
 ·exact seen_app hlow1 λop hop=>by
   rcases hmem op hop with rfl|rfl
   ·rw[ho1.2];trivial
   ·rw[ho2.2];trivial
 ·have hkn2:Kn (t1++#[op1,op2]) 0 G:=hkn1.app λop hop x hx=>by rw[hmute op hop]at hx;cases hx
  refine⟨λj x b hx hb hm'=>hkn2.m j x b hx hb hm'.1,λj x b hx hb hs=> ?_⟩;rcases hs with hs|hs
  ·exact hkn2.s j x b hx hb hs
  ·exact .inl (hkn2.m j x b hx hb (hK b hs))
 ·intro op hop;rw[hsz];rcases jE.1 hop with hop|hop
  ·have:=hfew1 op hop;omega
  ·rcases hmem op hop with rfl|rfl
   ·rw[ho1.1];omega
   ·rw[ho2.1];omega
end
end
section
open Go.ConcN (upd upd_ne upd_same)
section
variable {P:Program} {G G':Gh} {g0 g0':Goroutine} {gs gs':Array Goroutine} {w w':World} {t u:Trace} {D:Nat->Kid} {T T':Nat->Tag} {i:Nat} {g g':Goroutine}
theorem Com.onF(h:Com P G g0 gs w t D T){j c:Nat}{v:Value}(hj:0<j)(hj':j<gs.size)(e:(D j).on=some (c,v)):G.F c=some v:=(h.kids j _ hj (jA hj')).on e
theorem Com.meet(h:Com P G g0 gs w t D T)(hi0:0<i)(hlt:i<gs.size){c:Nat}{v:Value}(hon:(D i).on=some (c,v)){q s:Nat}{tm:Bool}(hq:Conc.QuitsIn P q g')(hc:w.heap[c]?=some (.chan 0 #[] false s s tm))
  (hs:gs'.size=gs.size) (h0:gs'[0]?=some g0') (hi:gs'[i]?=some g') (ho:∀j,j≠0->j≠i->gs'[j]?=gs[j]?) (f1 f2 f3 f4:FuncId) (p1 p2 p3 p4:String) :
  Com P (G.took c) g0' gs' (w.setChan c 0 #[] false (s+1) (s+1) tm) (t++#[{ g:=i,fn:=f1,pos:=p1,act:=.send c s },{ g:=0,fn:=f2,pos:=p2,act:=.recv c s 0 },{ g:=i,fn:=f3,pos:=p3,act:=.sendDone c s },{ g:=0,fn:=f4,pos:=p4,act:=.recvDone c s }]) (upd D i (.gone q)) T /\
   Rely G w (w.setChan c 0 #[] false (s+1) (s+1) tm):=by
 have hF:=h.onF hi0 hlt hon;have hTc:=h.tf c v hF;have hsz:(w.setChan c 0 #[] false (s+1) (s+1) tm).heap.size=w.heap.size:=by simp[World.setChan]
 have hother:∀k,k≠c->(w.setChan c 0 #[] false (s+1) (s+1) tm).heap[k]?=w.heap[k]?:=λk hk=>by simp[World.setChan,jB (Ne.symm hk)]
 have hrely:∀Gj wj τ,(∀k,Gj.M k->T k=τ)->(∀k,Gj.S k->T k=.shared)->τ ≠ .chan->Rely Gj wj w->Rely Gj wj (w.setChan c 0 #[] false (s+1) (s+1) tm):=λGj wj τ hM hS hτ hr=>
  hr.trans ⟨rfl,rfl,rfl,Nat.le_of_eq hsz.symm,λk hk=>hother k λe=>by
   subst e;rcases hk with hk|hk
   ·rw[hM k hk]at hTc;exact hτ hTc
   ·rw[hS k hk]at hTc;cases hTc⟩
 have hR:Rely G w (w.setChan c 0 #[] false (s+1) (s+1) tm):=hrely G w .main h.tm h.ts (by intro e;cases e) (.refl _ _);refine⟨?_,hR⟩;have hclt:c<w.heap.size:=by
  rcases Nat.lt_or_ge c w.heap.size with x|x
  ·exact x
  ·rw[Array.getElem?_eq_none x]at hc;cases hc
 generalize hu:(#[{ g:=i,fn:=f1,pos:=p1,act:=.send c s },{ g:=0,fn:=f2,pos:=p2,act:=.recv c s 0 },{ g:=i,fn:=f3,pos:=p3,act:=.sendDone c s },{ g:=0,fn:=f4,pos:=p4,act:=.recvDone c s }]:Array MemOp)=u;have hmem:∀op∈u,(op.g=0\/op.g=i)/\op.act.touch?=none/\(∀m,op.act ≠ .mark m)/\∀B,c<B->op.act.low B:=λop hop=>by
  subst hu;simp only[List.mem_toArray,List.mem_cons,List.not_mem_nil,or_false]at hop;rcases hop with rfl|rfl|rfl|rfl<;>exact⟨by simp,rfl,(λm hm=>by cases hm),λB hB=>hB⟩
 have hword:Ucz (t++u):=h.word.append λop hop m hm=>absurd hm ((hmem op hop).2.2.1 m)
 have hat1:∃op,(t++u)[t.size]?=some op/\op.g=i/\op.act=.send c s:=⟨_,by rw[jG (jD _),<- hu];simp;rfl,rfl,rfl⟩;have hat4:∃op,(t++u)[t.size+3]?=some op/\op.g=0/\op.act=.recvDone c s:=⟨_,by rw[jG (by omega),<- hu];simp;rfl,rfl,rfl⟩;obtain⟨o1,ho1,hg1,ha1⟩:=hat1;obtain⟨o4,ho4,hg4,ha4⟩:=hat4;have hkn:∀j op x,t[j]?=some op->op.g=i->op.act.touch?=some x->Knows (t++u) 0 j:=λj op x hop hg hx=>by
  have e1:HappensBefore (t++u) j t.size:=hb_po (lt_size_of_getElem? hop) (by rw[getElem?_append_old (lt_size_of_getElem? hop)];exact hop) ho1 (hg.trans hg1.symm);have e2:HappensBefore (t++u) t.size (t.size+3):=.single (.inr ⟨.handOver (c:=c) (k:=s) (by simp[Trace.act?,ho1,ha1]) (by simp[Trace.act?,ho4,ha4]),hword.heard ho1,hword.heard ho4⟩);exact⟨_,o4,ho4,hg4,.inr (e1.trans e2)⟩
 have hmute:∀op∈u,op.act.touch?=none:=λop hop=>(hmem op hop).2.1
 have htook:∀k v',(G.took c).F k=some v'->k≠c/\G.F k=some v':=λk v' hk=>by
  simp only[Gh.took]at hk
  by_cases e:k=c
  ·rw[if_pos e]at hk;cases hk
  ·rw[if_neg e]at hk;exact⟨e,hk⟩
 have hfit:Fit (G.took c) (w.setChan c 0 #[] false (s+1) (s+1) tm):=⟨λk hk=>by rw[hsz];exact h.fit.m k hk,λk hk=>by rw[hsz];exact h.fit.s k hk,λk v' hk=>by rw[hsz];exact h.fit.f k v' (htook k v' hk).2⟩;refine { main:=h0,fit:=hfit,tm:=h.tm,ts:=h.ts,tf:=λk v' hk=>h.tf k v' (htook k v' hk).2,new:=λk hk=>h.new k (by rw[hsz]at hk;exact hk),kids:=λj x hj hx=> ?_,chan:=λc' v' hk=> ?_,one:= ?_,clean:=Zx3 h.clean hmute,low:= ?_,word:=hword,kn:= ?_,few:= ?_ }
 ·by_cases hji:j=i
  ·subst hji;rw[hi]at hx;cases hx;rw[upd_same];refine⟨hq,λj' op x hop hg hx=> ?_⟩;rcases getElem?_append_cases hop with ⟨_,hop'⟩ | ⟨_,hou⟩
   ·exact hkn j' op x hop' hg hx
   ·rw[hmute op hou]at hx;cases hx
  ·rw[ho j (by omega) hji]at hx;rw[upd_ne D _ hji];have hjlt:j<gs.size:=(jC.1 hx).1;refine(h.kids j x hj hx).keep (λc' v' hoc hF'=> ?_) (λ_ h=>h) (λ_ h=>h) (λGj wj hM hS hr=>hrely Gj wj (.kid j) hM hS (by intro e;cases e) hr) λop hop=>⟨?_,λx hx=>by rw[hmute op hop]at hx;cases hx⟩
   ·simp only[Gh.took];rw[if_neg (λe=>by subst e;exact hji (h.one j i c' v' v hj hjlt hi0 hlt hoc hon))];exact hF'
   ·rcases(hmem op hop).1 with e|e<;>rw[e]<;>omega
 ·obtain⟨hne,hF'⟩:=htook c' v' hk;obtain⟨⟨s',tm',hc'⟩,j,v'',h2,h3,h4⟩:=h.chan c' v' hF';refine⟨⟨s',tm',(hother c' hne).trans hc'⟩,j,v'',h2,by rw[hs];exact h3,?_⟩;rw[upd_ne D _ (λe=>by subst e;rw[hon]at h4;cases h4;exact hne rfl)];exact h4
 ·intro j k c' v1 v2 hj hj' hk hk' e1 e2;rw[hs]at hj' hk';have hjn:j≠i:=λe=>by subst e;rw[upd_same]at e1;cases e1
  have hkn:k≠i:=λe=>by subst e;rw[upd_same]at e2;cases e2
  rw[upd_ne D _ hjn]at e1;rw[upd_ne D _ hkn]at e2;exact h.one j k c' v1 v2 hj hj' hk hk' e1 e2
 ·rw[hsz];exact seen_app h.low λop hop=>(hmem op hop).2.2.2 _ hclt
 ·have:=h.kn.app (u:=u) λop hop x hx=>by rw[hmute op hop]at hx;cases hx
  exact⟨this.m,this.s⟩
 ·intro op hop;rw[hs];rcases jE.1 hop with hop|hop
  ·exact h.few op hop
  ·rcases(hmem op hop).1 with e|e<;>rw[e]<;>omega
inductive Alive (G:Gh) (D:Nat->Kid) (n:Nat) (g0:Goroutine):Prop
 |run (h:g0.status=.running)
 |park (g₂:Goroutine) (c:Nat) (z v:Value) (h:g0=Conc.parked g₂ #[Conc.rcase c z] (.recv false)) (hF:G.F c=some v) (hD:∀i v',0<i->i<n->D i ≠ .wait c v')
theorem Com.offers_recv(h:Com P G g0 gs w t D T){j:Nat}{x:Goroutine}(hj:0<j)(hx:gs[j]?=some x)(c:Nat):offersAt x c false=[]:=by
 have hk:=h.kids j x hj hx;cases hD:D j with
 |work Gi wi c' v=>rw[hD]at hk;exact offersAt_of_not_blocked (by rw[hk.1.running];intro e;cases e) _ _
 |wait c' v=>rw[hD]at hk;obtain⟨h1,g₂,z,q,rfl,-⟩:=hk;exact offersAt_parked_send' ..
 |gone q=>rw[hD]at hk;exact offersAt_of_not_blocked (by rcases hk.1.status with e|e<;>rw[e]<;>intro e'<;>cases e') _ _
theorem Com.offers_send(h:Com P G g0 gs w t D T){j:Nat}{x:Goroutine}(hj:0<j)(hx:gs[j]?=some x)(c:Nat)(hn:∀v',D j ≠ .wait c v'):offersAt x c true=[]:=by
 have hk:=h.kids j x hj hx;cases hD:D j with
 |work Gi wi c' v=>rw[hD]at hk;exact offersAt_of_not_blocked (by rw[hk.1.running];intro e;cases e) _ _
 |wait c' v=>rw[hD]at hk;obtain⟨h1,g₂,z,q,rfl,-⟩:=hk;rw[offersAt_parked_send,if_neg (λe=>by subst e;exact hn v hD)]
 |gone q=>rw[hD]at hk;exact offersAt_of_not_blocked (by rcases hk.1.status with e|e<;>rw[e]<;>intro e'<;>cases e') _ _
theorem Com.awake(h:Com P G g0 gs w t D T)(hA:Alive G D gs.size g0):∀x∈gs,Conc.awake x:=by
 intro x hx s hs;obtain⟨j,hj,rfl⟩:=Array.mem_iff_getElem.1 hx;rcases jF j with rfl|hpos
 ·have:gs[0]=g0:=by simpa [jA hj] using h.main
  rw[this]at hs;cases hA with
  |run h'=>rw[h']at hs;cases hs
  |park g₂ c z v h' _ _=>rw[h']at hs;cases hs
 ·have hk:=h.kids j _ hpos (jA hj);cases hD:D j with
  |work Gi wi c v=>rw[hD]at hk;rw[hk.1.running]at hs;cases hs
  |wait c v=>rw[hD]at hk;obtain⟨h1,g₂,z,q,e,-⟩:=hk;rw[e]at hs;cases hs
  |gone q=>rw[hD]at hk;rcases hk.1.status with e|e<;>rw[e]at hs<;>cases hs
theorem Com.someone(h:Com P G g0 gs w t D T)(hA:Alive G D gs.size g0):∃(i:Nat) (g:Goroutine),gs[i]?=some g/\g.status=.running:=by
 cases hA with
 |run h'=>exact⟨0,g0,h.main,h'⟩
 |park g₂ c z v h' hF hD=>
  obtain⟨_,i,v',h1,h2,h3⟩:=h.chan c v hF;have hk:=h.kids i _ h1 (jA h2);refine⟨i,gs[i],jA h2,?_⟩;cases hDi:D i with
  |work Gi wi c v=>rw[hDi]at hk;exact hk.1.running
  |wait c' v''=>rw[hDi]at h3;cases h3;exact absurd hDi (hD i _ h1 h2)
  |gone q=>rw[hDi]at h3;cases h3
theorem Alive.woken(hA:Alive G D gs.size g0)(h:Com P G g0 gs w t D T)(hF:∀c v,G.F c=some v->w'.heap[c]?=w.heap[c]?)(a a':Goroutine):Conc.woken P a a' w' g0=g0:=by cases hA with|run h'=>exact woken_run h'|park g₂ c z v h' hF' hD=>obtain⟨⟨s,tm,hc⟩,-⟩:=h.chan c v hF';rw[h'];exact woken_recv_open a a' (by rw[hF c v hF'];exact hc)
end
end
section
open Go.ConcN (upd upd_ne upd_same)
def Ends(P:Program)(Post:Value->World->Prop)(m:Machine)(t:Trace):Prop:=
 ∃N last o w' t',runNT P (N+1) m t=(.ended o w',t')/\runN P N m=.next last/\step P last=.ended o w'/\Conc.Good P Post last o w' t'
theorem Ends.now{P:Program}{Post:Value->World->Prop}{m:Machine}{t ops:Trace}{o:Outcome}{w:World}(h:stepT P m=(.ended o w,ops))(hg:Conc.Good P Post m o w (t++ops)):Ends P Post m t:=
 ⟨0,m,o,w,t++ops,by simp[runNT,h],rfl,by simp[step,h],hg⟩
theorem Ends.next{P:Program}{Post:Value->World->Prop}{m m':Machine}{t ops:Trace}(h:stepT P m=(.next m',ops))(he:Ends P Post m' (t++ops)):Ends P Post m t:=by obtain⟨n,last,o,w,t',h1,h2,h3,h4⟩:=he;exact⟨n+1,last,o,w,t',by rw[runNT_succ_next h];exact h1,by rw[runN_succ_next h];exact h2,h3,h4⟩
def After(P:Program)(Post:Value->World->Prop)(gs:Array Goroutine)(w:World)(sl:Option (Nat×Nat))(d:Nat)(sl':Option (Nat×Nat))(t:Trace):Prop:=
 (∃o w' ops,runT P (crowd gs (w.at d) sl') 0=(.ended o w',ops)/\Conc.Good P Post (crowd gs w sl) o w' (t++ops)) \/
 ∃m' ops,runT P (crowd gs (w.at d) sl') 0=(.next m',ops)/\Ends P Post m' (t++ops)
def item(D:Nat->Kid)(gs:Array Goroutine)(i:Nat):Item:=
 if i=0 then .rest 0 else match D i with|.work G w c v=>.run c v G w (gs[i]?.getD default)|.wait _ _=>.rest 0|.gone q=>.rest q
section
variable {P:Program} {Post:Value->World->Prop} {G:Gh} {g0:Goroutine} {w₀:World}
theorem Zss{gs:Array Goroutine}{w:World}{t:Trace}{D:Nat->Kid}{T:Nat->Tag}(h:Com P G g0 gs w t D T):∀i,i<gs.size->Acc (Less P) (item D gs i):=by
 intro i hi;unfold item;split
 ·exact Zth P 0
 ·rename_i h0;have hk:=h.kids i _ (by omega) (jA hi);split
  ·rename_i Gi wi c v hD;rw[hD]at hk;rw[jA hi];exact hk.1.acc
  ·exact Zth P 0
  ·exact Zth P _
theorem Yje{gs gs':Array Goroutine}{D D':Nat->Kid}{i:Nat}(hD:∀j,j≠i->D' j=D j)(hg:∀j,j≠i->gs'[j]?=gs[j]?):∀j,j≠i->item D' gs' j=item D gs j:=λj hj=>by
 unfold item;rw[hD j hj,hg j hj]
theorem Ybk{g g':Goroutine}{c c':Nat}{z z':Value}{sh sh':CommShape}(e:Conc.parked g #[Conc.rcase c z] sh=Conc.parked g' #[Conc.rcase c' z'] sh'):c=c'/\∀v,Conc.served g v=Conc.served g' v:=by
 obtain⟨f1,f2,f3,f4,f5⟩:=g;obtain⟨h1,h2,h3,h4,h5⟩:=g';simp only[Conc.parked,Conc.rcase,Goroutine.mk.injEq,Q8,Q0,true_and]at e;obtain⟨e1,e2,e3,e4,-⟩:=e;have e5:c=c':=by simp at e4;exact e4.1
 subst e1 e2 e3;exact⟨e5,λv=>rfl⟩
theorem Alive.upd{D:Nat->Kid}{n i:Nat}(hA:Alive G D n g0)(K:Kid)(hK:∀c v,K=.wait c v->∀g₂ z,g0≠Conc.parked g₂ #[Conc.rcase c z] (.recv false)):Alive G (Go.ConcN.upd D i K) n g0:=by
 cases hA with
 |run h=>exact .run h
 |park g₂ c z v h hF hn=>
  refine .park g₂ c z v h hF λj v' hj hj' e=> ?_
  by_cases hji:j=i
  ·subst hji;rw[upd_same]at e;exact hK c v' e g₂ z h
  ·rw[upd_ne D _ hji]at e;exact hn j v' hj hj' e
theorem Zsn
  (H0:g0.status=.running->∀gs w d sl sl' t D T,Com P G g0 gs w t D T->Rely G w₀ w->After P Post gs w sl d sl' t)
  (Hr:∀g₂ c z v,g0=Conc.parked g₂ #[Conc.rcase c z] (.recv false)->G.F c=some v->∀gs w sl t D T,Com P (G.took c) (Conc.served g₂ v) gs w t D T->Rely G w₀ w->Ends P Post (crowd gs w sl) t) :
  ∀(n:Nat) (f:Nat->Item),Acc (LtN (Less P) n) f->∀gs w sl t D T,gs.size=n->f=item D gs->Com P G g0 gs w t D T->Alive G D gs.size g0->Rely G w₀ w->Ends P Post (crowd gs w sl) t:=by
 intro n f hacc
 induction hacc with
 |intro f _ ih=>
 intro gs w sl t D T hn hf hC hA hR;obtain⟨i,g,d,sl',hi,hg,hst⟩:=crowd_pick (P:=P) (w:=w) (sl:=sl) (hC.awake hA) (hC.someone hA);rcases jF i with rfl|hpos
 ·have e:g=g0:=by have:=hC.main;rw[hi]at this;exact Q5 this
  subst e;rcases H0 hg gs w d sl sl' t D T hC hR with ⟨o,w',ops,h1,h2⟩ | ⟨m',ops,h1,h2⟩
  ·exact .now (hst.trans h1) h2
  ·exact .next (hst.trans h1) h2
 have hC':=hC.at d;have hk:=hC'.kids i g hpos hi;have hlt:i<gs.size:=(jC.1 hi).1;have hi0:(i==0)=false:=by simp;omega
 have hitem:∀{D':Nat->Kid} {gs':Array Goroutine},(∀j,j≠i->D' j=D j)->(∀j,j≠i->gs'[j]?=gs[j]?)->Less P (item D' gs' i) (item D gs i)->LtN (Less P) n (item D' gs') f:=λhD hg hl=>by
  rw[hf];exact⟨i,by omega,hl,Yje hD hg⟩
 have hwake:∀w':World,(∀c v,G.F c=some v->w'.heap[c]?=(w.at d).heap[c]?)->∀a a',Conc.woken P a a' w' g0=g0:=λw' hF a a'=>Alive.woken hA hC' hF a a'
 cases hD:D i with
 | work Gi wi c v=>
  rw[hD]at hk;have hitemi:item D gs i=.run c v Gi wi g:=by unfold item;rw[if_neg (by omega),hD,hi];rfl
  obtain⟨h1,h2,h3,h4,h5,h6⟩:=hk;cases h1 with
  | step _ _ _ hfit hrun hstep hnext=>
   obtain⟨g',w',es,hgo,hd⟩:=hstep _ h2;have hFw:∀c v,G.F c=some v->w'.heap[c]?=(w.at d).heap[c]?:=λc' v' hc=>by
    obtain⟨⟨s,tm,hc1⟩,-⟩:=hC'.chan c' v' hc;have hT:=hC'.tf c' v' hc;refine hd.same c' ?_ λhm=>by rw[h3 c' hm]at hT;cases hT
    rcases Nat.lt_or_ge c' (w.at d).heap.size with x|x
    ·exact x
    ·rw[Array.getElem?_eq_none x]at hc1;cases hc1
   obtain⟨gs',hrunT,hput⟩:=hC'.runs_go (sl:=sl') hi (by rw[hi0];exact hgo) hFw λ_=>hwake w' hFw
   obtain⟨hC2,hR2⟩:=hC'.kid_go hpos hi hD hd hput (hnext _ h2 _ _ _ hgo) g.frame.fn g.frame.place;refine .next (hst.trans hrunT) (ih _ (hitem (λj hj=>upd_ne D _ hj) hput.other ?_) gs' w' sl' _ _ _ (by rw[hput.size];exact hn) rfl hC2 ?_ ((hR.at d).trans hR2))
   ·rw[hitemi];have:item (upd D i (.work (Gi.grow (w.at d).heap.size w'.heap.size) w' c v)) gs' i=.run c v (Gi.grow (w.at d).heap.size w'.heap.size) w' g':=by unfold item;rw[if_neg (by omega),upd_same,hput.here];rfl
    rw[this];exact .step h2 hgo
   ·rw[hput.size];exact hA.upd _ λ_ _ e=>by cases e
  | stop _ _ _ hfit hstop=>
   obtain⟨hrun,g₂,z,q,hq,hall⟩:=hstop;obtain⟨es,hcomm,hes⟩:=hall _ h2;have hd:Did Gi (w.at d) (w.at d) es:=⟨rfl,rfl,rfl,jD _,λ_ _ _=>rfl,λe he=>(hes e he).grow _ _⟩;have hgow:GoW P c v (Gi.grow (w.at d).heap.size (w.at d).heap.size) (w.at d) g:=by rw[Gh.grow_self];exact .stop _ _ _ (hfit.rely h2) ⟨hrun,g₂,z,q,hq,λw₁ h₁=>hall w₁ (h2.trans h₁)⟩
   obtain⟨hC2,hR2⟩:=hC'.kid_go (gs':=gs) (g':=g) hpos hi hD hd (.self hi) hgow g.frame.fn g.frame.place;obtain⟨⟨s,tm,hc⟩,-⟩:=hC'.chan c v h5
   -- it finds nobody
   have waits:(∀g₂' c' z',g0=Conc.parked g₂' #[Conc.rcase c' z'] (.recv false)->c'≠c)->Ends P Post (crowd gs w sl) t:=by
    intro hno;have hp:partners (gs.setIfInBounds i ph) c false=[]:=partners_nil λj x hx=>by
     rcases getElem?_stand gs i j x hx with ⟨rfl,rfl⟩ | ⟨hji,hx'⟩
     ·rfl
     ·rcases jF j with rfl|hj
      ·have e:x=g0:=by have:=hC.main;rw[hx']at this;exact Q5 this
       subst e;cases hA with|run h=>exact offersAt_of_not_blocked (by rw[h];intro e;cases e) _ _|park g₂' c' z' v' h hF hn'=>rw[h,offersAt_parked_recv,if_neg (hno _ _ _ h)]
      ·exact hC'.offers_recv hj hx' c
    have hrunT:=crowd_waits (P:=P) (sl:=sl') (i:=i) hi (by rw[hi0];exact hcomm) λcc hcc=>by
     have:cc=Conc.scase c v z:=by simpa using hcc
     subst this;exact ways_send_none (cap:=0) hc (by simp) hp
    have hC3:=hC2.kid_put (i:=i) (gs':=gs.setIfInBounds i (Conc.parked g₂ #[Conc.scase c v z] .send)) hpos (.set hlt _) (.wait c v) (by rw[upd_same];rfl) ⟨h5,g₂,z,q,rfl,hq,λj op x hop hg hx=>by have:=knows_own hop;rwa [hg]at this⟩;refine .next (hst.trans hrunT) (ih _ (hitem (λj hj=>(upd_ne _ _ hj).trans (upd_ne D _ hj)) (λj hj=>by rw[jB (Ne.symm hj)]) ?_) _ _ _ _ _ _ (by simpa using hn) rfl hC3 ?_ (hR.at d))
    ·rw[hitemi];have:∀gs',item (upd (upd D i (.work (Gi.grow (w.at d).heap.size (w.at d).heap.size) (w.at d) c v)) i (.wait c v)) gs' i=.rest 0:=λgs'=>by unfold item;rw[if_neg (by omega),upd_same]
     rw[this];exact .park
    ·have e:(gs.setIfInBounds i (Conc.parked g₂ #[Conc.scase c v z] .send)).size=gs.size:=by simp
     rw[e];exact(hA.upd _ (λ_ _ e=>by cases e)).upd _ λc' v' e g₂' z' e'=>by cases e;exact hno _ _ _ e' rfl
   cases hA with
   |run h=>exact waits λg₂' c' z' e=>by rw[e]at h;cases h
   | park g₂' c' z' v' h hF hn'=>
    by_cases hcc:c'=c
    ·subst hcc
     -- it finds the starter waiting
     have hj:gs[0]?=some (Conc.parked g₂' #[Conc.rcase c' z'] (.recv false)):=by rw[<- h];exact hC.main
     have hp:partners (gs.setIfInBounds i ph) c' false=[(0,0)]:=by
      rw[partners_one (j:=0) (g:=Conc.parked g₂' #[Conc.rcase c' z'] (.recv false)) (stand_get (by omega) hj) λk x hk hx=>by
       rcases getElem?_stand gs i k x hx with ⟨rfl,rfl⟩ | ⟨hki,hx'⟩
       ·rfl
       ·exact hC'.offers_recv (by omega) hx' c',offersAt_parked_recv,if_pos rfl]
      rfl
     have hrunT:=crowd_send_meets (P:=P) (sl:=sl') (i:=i) (j:=0) hi (by rw[hi0];exact hcomm) hc (by omega) hj hp;have hv:v'=v:=by rw[hF]at h5;exact Q5 h5
     subst hv;obtain⟨hC3,hR3⟩:=hC2.meet (g0':=Conc.served g₂' v') (g':=Conc.served g₂ undef) (gs':=(gs.setIfInBounds 0 (Conc.served g₂' v')).setIfInBounds i (Conc.served g₂ undef)) hpos hlt (c:=c') (v:=v') (by rw[upd_same];rfl) hq hc (by simp)
      ((jB (by omega)).trans (Array.getElem?_setIfInBounds_self_of_lt (by omega))) (by simp[hlt]) (λj hj0 hji=>by rw[jB (Ne.symm hji),jB (Ne.symm hj0)])
      g₂.frame.fn g₂'.frame.fn g₂.frame.fn g₂'.frame.fn g₂.frame.place g₂'.frame.place g₂.frame.place g₂'.frame.place
     refine .next (hst.trans hrunT) ?_;rw[<- Array.append_assoc];exact Hr g₂' c' z' v' h hF _ _ _ _ _ _ hC3 ((hR.at d).trans hR3)
    ·exact waits λg₂'' c'' z'' e=>by rw[h]at e;rw[<- (Ybk e).1];exact hcc
 |wait c v=>rw[hD]at hk;obtain⟨_,g₂,z,q,e,-⟩:=hk;rw[e]at hg;cases hg
 | gone q=>
  rw[hD]at hk;have hitemi:item D gs i=.rest q:=by unfold item;rw[if_neg (by omega),hD]
  obtain⟨hq,hkn⟩:=hk;cases q with
  |zero=>rw[show g.status=.finished from hq]at hg;cases hg
  | succ q=>
   rcases hq with hf' | ⟨_,g',hgo,hq'⟩
   ·rw[hf']at hg;cases hg
   obtain⟨gs',hrunT,hput⟩:=hC'.runs_go (sl:=sl') hi (by rw[hi0];exact hgo (w.at d)) (λ_ _ _=>rfl) λ_=>hwake _ λ_ _ _=>rfl
   have hC3:=hC'.kid_put (i:=i) (gs':=gs') hpos hput (.gone q) (by rw[hD];rfl) ⟨hq',hkn⟩;refine .next (hst.trans hrunT) ?_;rw[ofEvents_none,Array.append_empty];refine ih _ (hitem (λj hj=>upd_ne D _ hj) hput.other ?_) _ _ _ _ _ _ (by rw[hput.size];exact hn) rfl hC3 ?_ (hR.at d)
   ·rw[hitemi];have:item (upd D i (.gone q)) gs' i=.rest q:=by unfold item;rw[if_neg (by omega),upd_same]
    rw[this];exact .less (by omega)
   ·rw[hput.size];exact hA.upd _ λ_ _ e=>by cases e
end
end
section
open Go.ConcN (upd upd_ne upd_same)
section
variable {P:Program} {Post:Value->World->Prop}
def PrM(P:Program)(Post:Value->World->Prop)(G:Gh)(w₀:World)(g:Goroutine):Prop:=
 ∀gs w sl t D T,Com P G g gs w t D T->Rely G w₀ w->Ends P Post (crowd gs w sl) t
theorem closedM:Closed P true (PrM P Post) where
 step:=by
  intro G w₀ g hf hr h gs w sl t D T hC hR;refine Zsn (w₀:=w₀) (g0:=g) ?_ (λg₂ c z v e=>by rw[e]at hr;cases hr) gs.size _ (Ue8 _ _ (Zss hC)) gs w sl t D T rfl rfl hC (.run hr) hR;intro _ gs w d sl sl' t D T hC hR;obtain⟨g',w',es,hs,hd,hpr⟩:=h (w.at d) (hR.at d);have hC':=hC.at d;have hFw:∀c v,G.F c=some v->w'.heap[c]?=(w.at d).heap[c]?:=λc v hc=>hd.same c (hC'.fit.f c v hc).1 (hC'.fit.f c v hc).2.1
  obtain⟨gs',hrunT,hput⟩:=hC'.runs_go (sl:=sl') hC'.main (show stepG P (0==0) g (w.at d)=_ from hs) hFw (λx=>absurd rfl x);exact .inr ⟨_,_,hrunT,hpr _ _ _ _ _ _ (hC'.main_go hd hput _ _) (.refl _ _)⟩
 spawn:=by intro _ G w₀ g c v K hf hr hm hc hK h gs w sl t D T hC hR;refine Zsn (w₀:=w₀) (g0:=g) ?_ (λg₂ c z v e=>by rw[e]at hr;cases hr) gs.size _ (Ue8 _ _ (Zss hC)) gs w sl t D T rfl rfl hC (.run hr) hR;intro _ gs w d sl sl' t D T hC hR;obtain⟨g',child,es,hs,hes,hch,_,hgo,hpr⟩:=h (w.at d) (hR.at d);have hC':=hC.at d;have hrunT:=runT_crowd_spawn (P:=P) (sl:=sl') hC'.main (show stepG P (0==0) g (w.at d)=_ from hs);obtain⟨T',hC2⟩:=hC'.spawn (g':=g') hm hc hK hes hch hgo g.frame.fn g.frame.fn child.frame.fn g.frame.place g.frame.place g.frame.place;exact .inr ⟨_,_,hrunT,hpr _ _ _ _ _ _ hC2 (.refl _ _)⟩
 recv:=by
  intro _ G w₀ g g₂ c v z hf hr hF h hnext gs w sl t D T hC hR;refine Zsn (w₀:=w₀) (g0:=g) ?_ (λg₂ c z v e=>by rw[e]at hr;cases hr) gs.size _ (Ue8 _ _ (Zss hC)) gs w sl t D T rfl rfl hC (.run hr) hR;intro _ gs w d sl sl' t D T hC hR;have hC':=hC.at d;obtain⟨es,hcomm,hes⟩:=h (w.at d) (hR.at d);have hd:Did G (w.at d) (w.at d) es:=⟨rfl,rfl,rfl,jD _,λ_ _ _=>rfl,λe he=>(hes e he).grow _ _⟩;have hC2:=hC'.main_go (gs':=gs) (g':=g) hd (.self hC'.main) g.frame.fn g.frame.place;rw[Gh.grow_self]at hC2;obtain⟨⟨s,tm,hcc⟩,i,v',hi0,hlt,hon⟩:=hC'.chan c v hF;have hv:v'=v:=by have:=hC'.onF hi0 hlt hon;rw[hF]at this;exact(Q5 this).symm
  subst hv;have hk:=hC'.kids i _ hi0 (jA hlt);have h0lt:0<gs.size:=by omega
  have hothers:∀j x v₁,0<j->gs[j]?=some x->D j=.wait c v₁->j=i:=λj x v₁ hj hx hD=>hC'.one j i c v₁ v' hj (jC.1 hx).1 hi0 hlt (by rw[hD];rfl) hon
  cases hDi:D i with
  | work Gi wi c₁ v₁=>
   -- nobody has come to the channel yet
   have hnone:∀j v₁,0<j->j<gs.size->D j ≠ .wait c v₁:=λj v₁ hj hj' hD=>by
    have:=hothers j _ v₁ hj (jA hj') hD;subst this;rw[hDi]at hD;cases hD
   have hp:partners (gs.setIfInBounds 0 ph) c true=[]:=partners_nil λj x hx=>by
    rcases getElem?_stand gs 0 j x hx with ⟨rfl,rfl⟩ | ⟨hj,hx'⟩
    ·rfl
    ·exact hC'.offers_send (by omega) hx' c λv₁=>hnone j v₁ (by omega) (jC.1 hx').1
   have hrunT:=crowd_waits (P:=P) (sl:=sl') (i:=0) hC'.main (show stepG P (0==0) g (w.at d)=_ from hcomm) λcc hcc'=>by
    have:cc=Conc.rcase c z:=by simpa using hcc'
    subst this;exact ways_recv_none (cap:=0) hcc hp
   have hC3:=hC2.main_put (gs':=gs.setIfInBounds 0 (Conc.parked g₂ #[Conc.rcase c z] (.recv false))) (.set h0lt _);refine .inr ⟨_,_,hrunT,?_⟩;refine Zsn (w₀:=w₀) (g0:=Conc.parked g₂ #[Conc.rcase c z] (.recv false)) (λe=>by cases e) ?_ _ _ (Ue8 _ _ (Zss hC3)) _ _ _ _ _ _ rfl rfl hC3 (.park g₂ c z v' rfl hF λj v₁ hj hj'=>hnone j v₁ hj (by simpa using hj')) (hR.at d);intro g₃ c₃ z₃ v₃ e hF₃ gs w sl t D T hC hR;obtain⟨rfl,he⟩:=Ybk e;have hv:v₃=v':=by rw[hF]at hF₃;exact(Q5 hF₃).symm
   subst hv;rw[<- he]at hC;exact hnext w hR gs w sl t D T hC ⟨rfl,rfl,rfl,jD _,λ_ _=>rfl⟩
  | wait c₁ v₁=>
   rw[hDi]at hk hon;cases hon;obtain⟨_,gj,zj,q,hgj,hq,-⟩:=hk;have hj:gs[i]?=some (Conc.parked gj #[Conc.scase c v' zj] .send):=by rw[jA hlt,hgj]
   have hp:partners (gs.setIfInBounds 0 ph) c true=[(i,0)]:=by
    rw[partners_one (j:=i) (g:=Conc.parked gj #[Conc.scase c v' zj] .send) (stand_get (by omega) hj) λk x hk hx=>by
     rcases getElem?_stand gs 0 k x hx with ⟨rfl,rfl⟩ | ⟨hk0,hx'⟩
     ·rfl
     ·exact hC'.offers_send (by omega) hx' c λv₁ hD=>hk (hothers k x v₁ (by omega) hx' hD),offersAt_parked_send,if_pos rfl]
    rfl
   have hrunT:=crowd_recv_meets (P:=P) (sl:=sl') (i:=0) (j:=i) hC'.main (show stepG P (0==0) g (w.at d)=_ from hcomm) hcc (by omega) hj hp;obtain⟨hC3,hR3⟩:=hC2.meet (g0':=Conc.served g₂ v') (g':=Conc.served gj undef) (gs':=(gs.setIfInBounds i (Conc.served gj undef)).setIfInBounds 0 (Conc.served g₂ v')) hi0 hlt (c:=c) (v:=v') (by rw[hDi];rfl) hq hcc (by simp)
    (by simp[h0lt]) ((jB (by omega)).trans (Array.getElem?_setIfInBounds_self_of_lt (by omega))) (λj hj0 hji=>by rw[jB (Ne.symm hj0),jB (Ne.symm hji)])
    gj.frame.fn g₂.frame.fn gj.frame.fn g₂.frame.fn gj.frame.place g₂.frame.place gj.frame.place g₂.frame.place
   refine .inr ⟨_,_,hrunT,?_⟩;rw[<- Array.append_assoc];exact hnext _ ((hR.at d).trans hR3) _ _ _ _ _ _ hC3 ⟨rfl,rfl,rfl,jD _,λ_ _=>rfl⟩
  |gone q=>rw[hDi]at hon;cases hon
structure AtEnd (P:Program) (Post:Value->World->Prop) (G:Gh) (w:World) (g:Goroutine):Prop where
 fit:Fit G w
 run:g.status=.running
 free:∀k,G.F k=none
 ends:∀w₁,Rely G w w₁->∃v w' es,stepG P true g w₁=.ended (.done v) w' es/\Did G w₁ w' es/\Post v w'
theorem AtEnd.prM{G:Gh}{w₀:World}{g:Goroutine}(h:AtEnd P Post G w₀ g):PrM P Post G w₀ g:=by
 intro gs w sl t D T hC hR;refine Zsn (w₀:=w₀) (g0:=g) ?_ (λg₂ c z v e=>by have:=h.run;rw[e]at this;cases this) gs.size _ (Ue8 _ _ (Zss hC)) gs w sl t D T rfl rfl hC (.run h.run) hR;intro _ gs w d sl sl' t D T hC hR;have hC':=hC.at d;obtain⟨v,w',es,hend,hd,hpost⟩:=h.ends (w.at d) (hR.at d);have hC2:=hC'.main_go (gs':=gs) (g':=g) hd (.self hC'.main) g.frame.fn g.frame.place;have hrunT:=runT_many_ended (P:=P) (sl:=sl') hC'.main (show stepG P (0==0) g (w.at d)=_ from hend);have hgone:∀i x,0<i->gs[i]?=some x->∃q,D i=.gone q:=λi x hi hx=>by
  have hlt:=(jC.1 hx).1;cases hD:D i with
  |gone q=>exact⟨q,rfl⟩
  |work G' w' c v=>have:=hC'.onF hi hlt (by rw[hD];rfl);rw[h.free]at this;cases this
  |wait c v=>have:=hC'.onF hi hlt (by rw[hD];rfl);rw[h.free]at this;cases this
 refine .inl ⟨_,_,_,hrunT,v,rfl,hpost,hC2.clean,?_,⟨λx hx=> ?_,rfl⟩,λj x hx hj=> ?_⟩
 ·intro i g' hg hne hcnt;obtain⟨x,hx,-⟩:=hcnt;obtain⟨op,hop,hxo⟩:=touch_of hx;have hg':op.g=g':=by simpa [Trace.g?,hop] using hg
  have hlt:op.g<gs.size:=hC2.few op (mem_of_getElem? hop);obtain⟨q,hD⟩:=hgone op.g _ (by omega) (jA hlt);have hk:=hC2.kids op.g _ (by omega) (jA hlt);rw[hD]at hk;obtain⟨j,y,hy,hy0,hb⟩:=hk.2 i op x hop rfl hxo;rcases hb with rfl|hb
  ·rw[hop]at hy;have:=Q5 hy;subst this;omega
  ·exact⟨j,by simp[Trace.g?,hy,hy0],hb⟩
 ·obtain⟨j,hj⟩:=List.mem_iff_getElem?.1 hx;rw[List.getElem?_drop]at hj;have hj':gs[1+j]?=some x:=by simpa [crowd] using hj
  obtain⟨q,hD⟩:=hgone (1+j) x (by omega) hj';have hk:=hC.kids (1+j) x (by omega) hj';rw[hD]at hk;exact⟨_,hk.1.leaves⟩
 ·obtain⟨q,hD⟩:=hgone j x (by omega) hx;have hk:=hC.kids j x (by omega) hx;rw[hD]at hk;refine⟨q,?_⟩;rw[hC2.word.deaf];exact hk.1.hears _ _
theorem Yew{G:Gh}{w:World}{g:Goroutine}{sl:Option (Nat×Nat)}(hf:Fit G w)(hF:∀k,G.F k=none)
  (hG:∀Pr,Closed P true Pr->(∀G' w' g',AtEnd P Post G' w' g'->Pr G' w' g')->Pr G w g):Ends P Post (crowd #[g] w sl) #[]:=by
 classical
 refine hG (PrM P Post) closedM (λ_ _ _ h=>h.prM) #[g] w sl #[] (λ_=>.gone 0) (λk=>if G.M k then .main else if G.S k then .shared else .none) ?_ (.refl _ _);have hz:∀(i:Nat) (x:Goroutine),0<i->(#[g]:Array Goroutine)[i]?=some x->False:=λi x hi hx=>by
  have:=(jC.1 hx).1;simp at this;omega
 exact {
  main:=rfl
  fit:=hf
  tm:=λk hk=>if_pos hk
  ts:=λk hk=>by simp only[if_neg (hf.s k hk).2,if_pos hk]
  tf:=λk v hk=>by rw[hF]at hk;cases hk
  new:=λk hk=>by
   rw[if_neg (λh=>by have:=hf.m k h;omega),if_neg (λh=>by have:=(hf.s k h).1;omega)]
  kids:=λi x hi hx=>(hz i x hi hx).elim
  chan:=λc v hc=>by rw[hF]at hc;cases hc
  one:=λi j c v v' hi hi'=>by simp at hi';omega
  clean:=λsaid=>by rintro⟨i,j,_,⟨a,b,ha,_⟩,_⟩;simp[Trace.act?]at ha
  low:=λop hop=>by simp at hop
  word:=λop hop=>by simp at hop
  kn:=⟨λj x b hx=>by simp[touchAt,Trace.act?]at hx,λj x b hx=>by simp[touchAt,Trace.act?]at hx⟩
  few:=λop hop=>by simp at hop }
end
end
section
abbrev topMd:Md:=⟨true,λ_=>none⟩
def start(W:World):Gh:=⟨λ_=>False,λk=>k<W.heap.size,λ_=>none⟩
theorem Ye4(W:World):Fit (start W) W:=⟨λ_ h=>h.elim,λ_ h=>⟨h,λx=>x⟩,λ_ _ h=>by cases h⟩
structure Base (W:World) (G:Gh) (w:World):Prop where
 s:∀k,k<W.heap.size->G.S k
 rely:Rely (start W) W w
theorem Base.go{W:World}{G:Gh}{w w₁:World}(h:Base W G w)(hr:Rely G w w₁):Base W G w₁:=
 ⟨h.s,h.rely.trans ⟨hr.os,hr.tape,hr.output,hr.size,λk hk=>hr.same k (.inr (h.s k (hk.elim (λx=>x.elim) id)))⟩⟩
theorem Base.did{W:World}{G:Gh}{w w':World}{es:Array Event}(h:Base W G w)(hf:Fit G w)(hd:Did G w w' es):Base W (G.grow w.heap.size w'.heap.size) w':=
 ⟨h.s,h.rely.trans ⟨hd.os,hd.tape,hd.output,hd.size,fun k hk=>by
  have hs:=h.s k (hk.elim (λx=>x.elim) id);exact hd.same k (hf.s k hs).1 (hf.s k hs).2⟩⟩
theorem Yfz{P:Program}{W:World}{Pr:Gh->World->Goroutine->Prop}(hC:Closed P true Pr):Closed P true λG w g=>Base W G w->Pr G w g where
 step:=λG w g hf hr h hb=>hC.step G w g hf hr λw₁ h₁=>by
  obtain⟨g',w',es,q1,q2,q3⟩:=h w₁ h₁;exact⟨g',w',es,q1,q2,q3 ((hb.go h₁).did (hf.rely h₁) q2)⟩
 spawn:=λhm G w g c v K hf hr h1 h2 h3 h hb=>hC.spawn hm G w g c v K hf hr h1 h2 h3 λw₁ h₁=>by
  obtain⟨g',child,es,q1,q2,q3,q4,q5,q6⟩:=h w₁ h₁;have hb₁:=hb.go h₁;exact⟨g',child,es,q1,q2,q3,q4,q5,q6 ⟨λk hk=>.inl (hb₁.s k hk),hb₁.rely⟩⟩
 recv:=λhm G w g g₂ c v z hf hr h1 h2 h hb=>hC.recv hm G w g g₂ c v z hf hr h1 h2 λw' h'=>by
  have hb':=hb.go h';exact h w' h' ⟨hb'.s,hb'.rely⟩
theorem sg_done{P:Program}{fr:Frame}{w w':World}{r:Value}{fn:Func}{es:Array Event}(hm:fr.mode=.returning)(hd:fr.defers=[])(hk:fr.kind=.normal)(hf:P.funcs[fr.fn]?=some fn)(hi:P.inits.idxOf? fr.fn=none)
  (hr:(results fn fr.tmps).runT P w #[]=(.ok r w',es)):stepG P true (gr fr []) w=.ended (.done r) w' (seen P fr.fn es):=by
 simp[gr,stepG,unwind,doReturn,hm,hd,hk,hf,hr,hi,GStep.after,-Sem.runT_eq]
theorem Ybw{P:Program}{Post:Value->World->Prop}{f:FuncId}{args:Array Value}{W:World}{R:Value->World->Prop}{sl:Option (Nat×Nat)}(hi:P.inits.idxOf? f=none)(h:Ua4 topMd P f args (view (start W) W) R)
  (hp:∀r G' w',Fit G' w'->R r (view G' w')->Rely (start W) W w'->Post r w'):Ends P Post (crowd #[gr (Frame.enter P f args .normal) []] W sl) #[]:=by
 refine Yew (Ye4 W) (λ_=>rfl) λPr hC hE=> ?_
 refine h _ (Yfz (W:=W) hC) [] (start W) W ⟨Ye4 W,rfl⟩ (.refl _) (λv' fr hfn hl G' w' hf' hv' hb=> ?_) ⟨λk hk=>hk,.refl _ _⟩;obtain⟨hm,hdf,hkd,fn,hfun,hres⟩:=hl;refine hE G' w' _ ⟨hf'.toFit,rfl,λk=>by rw[hf'.eqF],λw₁ h₁=> ?_⟩;obtain⟨r,ht,hR⟩:=hres (view G' w₁) (hv'.trans (h₁.view hf'.toFit));obtain⟨w₂,es,q1,q2,q3⟩:=ht G' w₁ (hf'.toFit.rely h₁) rfl #[];refine⟨r,w₂,_,sg_done hm hdf hkd hfun (by rw[hfn];exact hi) q1,by simpa using q3.seen fr.fn,hp r _ w₂ ((hf'.toFit.rely h₁).did q3) (by rw[<- q2];exact hR) ((hb.go h₁).did (hf'.toFit.rely h₁) q3).rely⟩
theorem Yfg{W w:World}(h:Rely (start W) W w):Below W.heap.size W w:=⟨h.os,h.tape,h.output,h.size,λk hk=>h.same k (.inr hk)⟩
end
end Go.Proofs.YtefjogahegolbaaDoor.Vc
