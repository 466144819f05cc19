/- The machine of a starter and its workers: (1) measures; (2) what of the trace each must know. No program is named. -/
import Derived.Conc.CrowdComm
import Derived.Conc.Beside
import Derived.Test.YtnhilgpdgicgfaaVcC
namespace Go.Proofs.Ytnhilgpdgicgfaa.Vc
open Go.RowKit Go.Conc Go.Proofs.Ytnhilgpdgicgfaa.Ve
section
set_option linter.unusedVariables false
set_option linter.unusedSimpArgs false
section
variable {α:Type} {r:α->α->Prop}
end
/-- What each of the workers has left to do. -/
inductive Item
 |run (c:Nat) (v:Value) (G:Gh) (w:World) (g:Goroutine)
 |rest (q:Nat)
inductive Less (P:Program):Item->Item->Prop
 |step {c:Nat} {v:Value} {G:Gh} {w w₁ w':World} {g g':Goroutine} {es:Array Event}:Rely G w w₁->stepG P false g w₁=.go g' w' es->Less P (.run c v (G.grow w₁.heap.size w'.heap.size) w' g') (.run c v G w g)
 |park {c:Nat} {v:Value} {G:Gh} {w:World} {g:Goroutine} {q:Nat}:Less P (.rest q) (.run c v G w g)
 |less {q q':Nat}:q<q'->Less P (.rest q) (.rest q')
def blk:Loc->Option Nat
 |.cell a=>some a.block
 |.obj r=>some r
 |_=>none
/-- It knows what it must of what has been touched. -/
structure Kn (t:Trace) (i:Nat) (G:Gh):Prop where
 m:∀j x b,touchAt t j=some x->blk x.loc=some b->G.M b->Knows t i j
 s:∀j x b,touchAt t j=some x->blk x.loc=some b->G.S b->Knows t i j\/(x.write=false/\x.kind=.plain)
theorem Kn.app{t u:Trace}{i:Nat}{G:Gh}(h:Kn t i G)(hu:∀op∈u,∀x,op.act.touch?=some x->∀b,blk x.loc=some b->(G.M b->op.g=i)/\(G.S b->op.g=i\/(x.write=false/\x.kind=.plain))):Kn (t++u) i G:=by
 constructor
 ·intro j x b hx hb hm;obtain⟨op,hop,hxo⟩:=touch_of hx;rcases getElem?_append_cases hop with ⟨hi,hop'⟩ | ⟨_,hou⟩
  ·exact(h.m j x b (by rw[touchAt_of hop'];exact hxo) hb hm).app u
  ·have:=knows_own hop
   rwa [(hu op hou x hxo b hb).1 hm]at this
 ·intro j x b hx hb hm;obtain⟨op,hop,hxo⟩:=touch_of hx;rcases getElem?_append_cases hop with ⟨hi,hop'⟩ | ⟨_,hou⟩
  ·exact(h.s j x b (by rw[touchAt_of hop'];exact hxo) hb hm).imp (·.app u) id
  ·rcases(hu op hou x hxo b hb).2 hm with h|h
   ·have:=knows_own hop;rw[h]at this;exact .inl this
   ·exact .inr h
theorem low_blk{x:Touch}{act:MemAct}{n b:Nat}(h:act.low n)(hx:act.touch?=some x)(hb:blk x.loc=some b):b<n:=by
 cases act with
 |access e=>simp only[MemAct.touch?,Option.some.injEq]at hx;subst hx;simp only[MemAct.low]at h;cases hl:e.loc with|cell a=>simp only[hl,blk,Option.some.injEq]at hb;subst hb;simpa [hl,Loc.low] using h|obj r=>simp only[hl,blk,Option.some.injEq]at hb;subst hb;simpa [hl,Loc.low] using h|_=>simp[hl,blk]at hb
 |mark m=>cases m<;>simp only[MemAct.touch?,Option.some.injEq]at hx<;>first | (cases hx;done) | (subst hx;simp only[blk,Option.some.injEq]at hb;subst hb;exact h)
 |_=>simp only[MemAct.touch?]at hx;cases hx
theorem Kn.grow{t:Trace}{i n n':Nat}{G:Gh}(h:Kn t i G)(hl:∀op∈t,op.act.low n):Kn t i (G.grow n n'):=by
 refine⟨λj x b hx hb hm=> ?_,h.s⟩;rcases hm with hm|hm
 ·exact h.m j x b hx hb hm
 ·exfalso;obtain⟨op,hop,hxo⟩:=touch_of hx;have:=low_blk (hl op (mem_of_getElem? hop)) hxo hb;omega
def WordX(t:Trace):Prop:=∀op∈t,∀m,op.act=.mark m->NeuX m
theorem WordX.append{t u:Trace}(ht:WordX t)(hu:WordX u):WordX (t++u):=by
 intro op hop;rcases Array.mem_append.1 hop with h|h
 ·exact ht op h
 ·exact hu op h
/-- What an own step lists, as operations. -/
structure OpOk (G:Gh) (i:Nat) (B:Nat) (op:MemOp):Prop where
 g:op.g=i
 t:∀x,op.act.touch?=some x->x.kind=.plain/\∃b,blk x.loc=some b/\(G.M b\/(x.write=false/\G.S b))
 low:op.act.low B
 word:∀m,op.act=.mark m->NeuX m
theorem opOk_of{G:Gh}{i B:Nat}{fn:FuncId}{pos:String}{es:Array Event}(h:∀e∈es,EvOk G e)(hB:∀k,G.M k\/G.S k->k<B):∀op∈MemOp.ofEvents i fn pos es,OpOk G i B op:=by
 intro op hop;obtain⟨e,he,rfl⟩:=Conc.mem_ofEvents hop;rcases h e he with ⟨a,rfl,hm⟩ | ⟨a,rfl,hm⟩ | ⟨m,rfl,hn⟩ | ⟨r,b,rfl,hm⟩
 ·refine⟨rfl,λx hx=> ?_,hB _ (.inl hm),λm hm=>by cases hm⟩;simp only[MemAct.ofEvent,MemAct.touch?,Option.some.injEq]at hx;subst hx;exact⟨rfl,_,rfl,.inl hm⟩
 ·refine⟨rfl,λx hx=> ?_,hB _ hm,λm hm=>by cases hm⟩;simp only[MemAct.ofEvent,MemAct.touch?,Option.some.injEq]at hx;subst hx;exact⟨rfl,_,rfl,hm.imp id λh=>⟨rfl,h⟩⟩
 ·have et:MemAct.ofEvent ⟨.mark m,false,true⟩=.mark m:=by cases m<;>rfl
  refine⟨rfl,λx hx=> ?_,?_,λm' hm=> ?_⟩
  ·have hx':(MemAct.ofEvent ⟨.mark m,false,true⟩).touch?=some x:=hx;rw[et,hn.touch]at hx';cases hx'
  rotate_left
  ·have hm':MemAct.ofEvent ⟨.mark m,false,true⟩=.mark m':=hm;rw[et]at hm';cases hm';exact hn
  show (MemAct.ofEvent ⟨.mark m,false,true⟩).low B
  rw[et];rcases hn with rfl | ⟨f,rfl⟩<;>trivial
 ·have e1:MemAct.ofEvent ⟨.obj r,b,false⟩=.access ⟨.obj r,b,false⟩:=by cases b<;>rfl
  refine⟨rfl,λx hx=> ?_,?_,λm hm=>by simp only[e1]at hm;cases hm⟩
  ·simp only[e1,MemAct.touch?,Option.some.injEq]at hx;subst hx;exact⟨rfl,_,rfl,.inl hm⟩
  ·show (MemAct.ofEvent ⟨.obj r,b,false⟩).low B
   rw[e1];exact hB _ (.inl hm)
theorem noRace_own{t u:Trace}{i n n':Nat}{G:Gh}(h:∀said,¬Race said t)(hk:Kn t i G)(hl:∀op∈t,op.act.low n)(hu:∀op∈u,OpOk (G.grow n n') i n' op)(said:Bool):¬Race said (t++u):=by
 refine noRace_append (h said) (λop hop=>(hu op hop).g) λj a ha op hop b hb hc=> ?_
 obtain⟨hkind,k,hkb,hown⟩:=(hu op hop).t b hb;obtain⟨hloc,_,hw,_⟩:=hc;have hka:blk a.loc=some k:=by rw[hloc];exact hkb
 have hk':=hk.grow (n':=n') hl;rcases hown with hm | ⟨hr,hs⟩
 ·exact hk'.m j a k ha hka hm
 ·rcases hk'.s j a k ha hka hs with h | ⟨h1,h2⟩
  ·exact h
  ·rcases hw with hw|hw
   ·rw[h1]at hw;cases hw
   ·rw[hr]at hw;cases hw
end
section
open Go.ConcN (upd upd_ne upd_same)
set_option linter.unusedVariables false
set_option linter.unusedSimpArgs false
inductive Tag
 |none|main|kid (i:Nat)|shared|chan
inductive Kid
 |work (G:Gh) (w:World) (c:Nat) (v:Value)
 |wait (c:Nat) (v:Value)
 |gone (q:Nat)
def Kid.on:Kid->Option (Nat×Value)
 |.work _ _ c v=>some (c,v)
 |.wait c v=>some (c,v)
 |.gone _=>Option.none
def KidOk(P:Program)(G:Gh)(T:Nat->Tag)(t:Trace)(w:World)(i:Nat)(g:Goroutine):Kid->Prop
 |.work Gi wi c v=>GoW P c v Gi wi g/\Rely Gi wi w/\(∀k,Gi.M k->T k=.kid i)/\(∀k,Gi.S k->T k=.shared)/\G.F c=some v/\Kn t i Gi
 |.wait c v=>G.F c=some v/\∃g₂ z q,g=Conc.parked g₂ #[Conc.scase c v z] .send/\Conc.QuitsIn P q (Conc.served g₂ undef)/\∀j op x,t[j]?=some op->op.g=i->op.act.touch?=some x->Knows t i j
 |.gone q=>Conc.QuitsIn P q g/\∀j op x,t[j]?=some op->op.g=i->op.act.touch?=some x->Knows t 0 j
/-- The state of all: the starter g0, the workers as D says, the blocks as T says. -/
structure Com (P:Program) (G:Gh) (g0:Goroutine) (gs:Array Goroutine) (w:World) (t:Trace) (D:Nat->Kid) (T:Nat->Tag):Prop where
 main:gs[0]?=some g0
 fit:Fit G w
 tm:∀k,G.M k->T k=.main
 ts:∀k,G.S k->T k=.shared
 tf:∀k v,G.F k=some v->T k=.chan
 new:∀k,w.heap.size<=k->T k=.none
 kids:∀i g,0<i->gs[i]?=some g->KidOk P G T t w i g (D i)
 chan:∀c v,G.F c=some v->(∃s tm,w.heap[c]?=some (.chan 0 #[] false s s tm))/\∃i v',0<i/\i<gs.size/\(D i).on=some (c,v')
 one:∀i j c v v',0<i->i<gs.size->0<j->j<gs.size->(D i).on=some (c,v)->(D j).on=some (c,v')->i=j
 clean:∀said,¬Race said t
 low:∀op∈t,op.act.low w.heap.size
 word:WordX t
 kn:Kn t 0 G
 few:∀op∈t,op.g<gs.size
structure Put (gs gs':Array Goroutine) (i:Nat) (g':Goroutine):Prop where
 size:gs'.size=gs.size
 here:gs'[i]?=some g'
 other:∀j,j≠i->gs'[j]?=gs[j]?
theorem Put.self{gs:Array Goroutine}{i:Nat}{g:Goroutine}(h:gs[i]?=some g):Put gs gs i g:=⟨rfl,h,λ_ _=>rfl⟩
theorem Rely.at{G:Gh}{w w':World}(h:Rely G w w')(d:Nat):Rely G w (w'.at d):=⟨h.os,h.tape,h.output,h.size,h.same⟩
theorem Fit.at{G:Gh}{w:World}(h:Fit G w)(d:Nat):Fit G (w.at d):=⟨h.m,h.s,h.f⟩
theorem GoW.running{P:Program}{c:Nat}{v:Value}{G:Gh}{w:World}{g:Goroutine}(h:GoW P c v G w g):g.status=.running:=by cases h with|step _ _ _ _ hr _ _=>exact hr|stop _ _ _ _ hs=>exact hs.run
section
variable {P:Program} {G G':Gh} {g0 g0':Goroutine} {gs gs':Array Goroutine} {w w':World} {t u:Trace} {D:Nat->Kid} {T T':Nat->Tag} {i:Nat} {g g':Goroutine}
theorem KidOk.keep{K:Kid}(h:KidOk P G T t w i g K)(hF:∀c v,K.on=some (c,v)->G.F c=some v->G'.F c=some v)(hT:∀k,T k=.kid i->T' k=.kid i)(hS:∀k,T k=.shared->T' k=.shared)
  (hw:∀Gi wi,(∀k,Gi.M k->T k=.kid i)->(∀k,Gi.S k->T k=.shared)->Rely Gi wi w->Rely Gi wi w')
  (hu:∀op∈u,op.g≠i/\∀x,op.act.touch?=some x->∀b,blk x.loc=some b->T' b ≠ .kid i/\(T' b=.shared->x.write=false/\x.kind=.plain)):KidOk P G' T' (t++u) w' i g K:=by
 have hold:∀{m:Nat},(∀j op x,t[j]?=some op->op.g=i->op.act.touch?=some x->Knows t m j)->∀j op x,(t++u)[j]?=some op->op.g=i->op.act.touch?=some x->Knows (t++u) m j:=by
  intro m h j op x hop hg hx;rcases getElem?_append_cases hop with ⟨_,hop'⟩ | ⟨_,hou⟩
  ·exact(h j op x hop' hg hx).app u
  ·exact absurd hg (hu op hou).1
 cases K with
 | work Gi wi c v=>
  obtain⟨h1,h2,h3,h4,h5,h6⟩:=h;exact⟨h1,hw _ _ h3 h4 h2,λk hk=>hT k (h3 k hk),λk hk=>hS k (h4 k hk),hF c v rfl h5,h6.app λop hop x hx b hb=>
   ⟨λhm=>absurd (hT b (h3 b hm)) ((hu op hop).2 x hx b hb).1,λhs=>.inr (((hu op hop).2 x hx b hb).2 (hS b (h4 b hs)))⟩⟩
 |wait c v=>obtain⟨h1,g₂,z,q,h2,h3,h4⟩:=h;exact⟨hF c v rfl h1,g₂,z,q,h2,h3,hold h4⟩
 |gone q=>exact⟨h.1,hold h.2⟩
theorem Com.at(h:Com P G g0 gs w t D T)(d:Nat):Com P G g0 gs (w.at d) t D T:=
 { h with
  fit:=h.fit.at d
  kids:=λi g hi hg=>by
   have:=(h.kids i g hi hg).keep (G':=G) (T':=T) (w':=w.at d) (u:=#[]) (λ_ _ _ h=>h) (λ_ h=>h) (λ_ h=>h) (λ_ _ _ _ h=>h.at d) (λop hop=>by simp at hop)
   simpa using this }
theorem Com.woken(h:Com P G g0 gs w t D T){j:Nat}{x:Goroutine}(hj:0<j)(hx:gs[j]?=some x)(a a':Goroutine)(hF:∀c v,G.F c=some v->w'.heap[c]?=w.heap[c]?):Conc.woken P a a' w' x=x:=by
 have hk:=h.kids j x hj hx;cases hD:D j with
 |work Gi wi c v=>rw[hD]at hk;exact woken_run hk.1.running
 |wait c v=>rw[hD]at hk;obtain⟨h1,g₂,z,q,rfl,-⟩:=hk;obtain⟨⟨s,tm,hc⟩,-⟩:=h.chan c v h1;exact woken_send_open a a' (by rw[hF c v h1];exact hc)
 |gone q=>rw[hD]at hk;exact woken_quits hk.1
theorem Com.runs_go(h:Com P G g0 gs w t D T){sl:Option (Nat×Nat)}{es:Array Event}(hi:gs[i]?=some g)(hs:stepG P (i==0) g w=.go g' w' es)(hF:∀c v,G.F c=some v->w'.heap[c]?=w.heap[c]?)
  (h0:i≠0->∀a a',Conc.woken P a a' w' g0=g0):∃gs',runT P (crowd gs w sl) i=(.next (crowd gs' w' sl),MemOp.ofEvents i g.frame.fn g.frame.place es)/\Put gs gs' i g':=by
 have hlt:i<gs.size:=(Array.getElem?_eq_some_iff.1 hi).1;refine⟨_,runT_crowd_go hi hs,by simp,by simp[hlt],λj hj=> ?_⟩;rw[Array.getElem?_setIfInBounds_ne (Ne.symm hj),Array.getElem?_map];cases hx:gs[j]? with
 |none=>rfl
 | some x=>
  simp only[Option.map_some];rcases Nat.eq_zero_or_pos j with rfl|hpos
  ·rw[h.main]at hx;cases hx;rw[h0 (Ne.symm hj)]
  ·rw[h.woken hpos hx g g' hF]
theorem OpOk.tags{τ:Tag}{B:Nat}{op:MemOp}{Gi:Gh}(h:OpOk Gi i B op)(hM:∀k,Gi.M k->T' k=τ)(hS:∀k,Gi.S k->T' k=.shared){x:Touch}(hx:op.act.touch?=some x){b:Nat}(hb:blk x.loc=some b):
  x.kind=.plain/\(T' b=τ\/(x.write=false/\T' b=.shared)):=by
 obtain⟨h1,b',hb',h2⟩:=h.t x hx;rw[hb]at hb';cases hb';exact⟨h1,h2.imp (hM b) λh=>⟨h.1,hS b h.2⟩⟩
theorem Com.main_go(h:Com P G g0 gs w t D T){es:Array Event}(hd:Did G w w' es)(hput:Put gs gs' 0 g')(fn:FuncId)(pos:String):
  Com P (G.grow w.heap.size w'.heap.size) g' gs' w' (t++MemOp.ofEvents 0 fn pos es) D (λk=>if w.heap.size<=k/\k<w'.heap.size then .main else T k):=by
 have hlt:0<gs.size:=(Array.getElem?_eq_some_iff.1 h.main).1;have hnone:∀k,T k ≠ .none->k<w.heap.size:=λk hk=>Nat.lt_of_not_le λhle=>hk (h.new k hle)
 have hold:∀k,T k ≠ .none->(if w.heap.size<=k/\k<w'.heap.size then Tag.main else T k)=T k:=λk hk=>if_neg λx=>by have:=hnone k hk;omega
 have hrely:∀Gj wj τ,(∀k,Gj.M k->T k=τ)->(∀k,Gj.S k->T k=.shared)->τ ≠ .main->τ ≠ .none->Rely Gj wj w->Rely Gj wj w':=λGj wj τ hM hS hτ hn hr=>
  hr.trans ⟨hd.os,hd.tape,hd.output,hd.size,λk hk=>by
   have hT:T k ≠ .none/\T k ≠ .main:=hk.elim (λx=>by rw[hM k x];exact⟨hn,hτ⟩) (λx=>by rw[hS k x];exact⟨(by intro e;cases e),by intro e;cases e⟩);exact hd.same k (hnone k hT.1) λhm=>hT.2 (h.tm k hm)⟩
 have hM':∀k,(G.grow w.heap.size w'.heap.size).M k->(if w.heap.size<=k/\k<w'.heap.size then Tag.main else T k)=.main:=λk hk=>by
  rcases hk with hk|hk
  ·rw[hold k (by rw[h.tm k hk];intro e;cases e)];exact h.tm k hk
  ·exact if_pos hk
 have hS':∀k,G.S k->(if w.heap.size<=k/\k<w'.heap.size then Tag.main else T k)=.shared:=λk hk=>by
  rw[hold k (by rw[h.ts k hk];intro e;cases e)];exact h.ts k hk
 have hf':Fit (G.grow w.heap.size w'.heap.size) w':=h.fit.grow hd.size;have hu:=opOk_of (i:=0) (fn:=fn) (pos:=pos) hd.evs λk hk=>hk.elim (hf'.m k) λx=>(hf'.s k x).1
 refine { main:=hput.here,fit:=hf',tm:=hM',ts:=hS',tf:=λk v hk=> ?_,new:=λk hk=> ?_,kids:=λj x hj hx=> ?_,chan:=λc' v' hc=> ?_,one:= ?_,clean:= ?_,low:= ?_,word:= ?_,kn:= ?_,few:= ?_ }
 ·rw[hold k (by rw[h.tf k v hk];intro e;cases e)];exact h.tf k v hk
 ·rw[if_neg (by omega)];exact h.new k (by have:=hd.size;omega)
 ·rw[hput.other j (by omega)]at hx;refine(h.kids j x hj hx).keep (λ_ _ _ h=>h) (λk hk=> ?_) (λk hk=> ?_) (λGj wj hM hS hr=>hrely Gj wj (.kid j) hM hS (by intro e;cases e) (by intro e;cases e) hr) λop hop=>⟨by rw[(hu op hop).g];omega,λx hx b hb=> ?_⟩
  ·rw[hold k (by rw[hk];intro e;cases e)];exact hk
  ·rw[hold k (by rw[hk];intro e;cases e)];exact hk
  ·obtain⟨hkd,hor⟩:=(hu op hop).tags hM' hS' hx hb;rcases hor with e | ⟨hr,e⟩
   ·exact⟨(λe'=>by have:=e.symm.trans e';cases this),(λe'=>by have:=e.symm.trans e';cases this)⟩
   ·exact⟨(λe'=>by have:=e.symm.trans e';cases this),λ_=>⟨hr,hkd⟩⟩
 ·obtain⟨⟨s,tm,hc1⟩,j,v'',hj⟩:=h.chan c' v' hc;have hT:=h.tf c' v' hc;refine⟨⟨s,tm,?_⟩,j,v'',hj.1,by rw[hput.size];exact hj.2.1,hj.2.2⟩;rw[hd.same c' (hnone c' (by rw[hT];intro e;cases e)) λhm=>by rw[h.tm c' hm]at hT;cases hT];exact hc1
 ·intro j k c' v1 v2 hj hj' hk hk' e1 e2;rw[hput.size]at hj' hk';exact h.one j k c' v1 v2 hj hj' hk hk' e1 e2
 ·exact noRace_own h.clean h.kn h.low hu
 ·exact seen_app (λop hop=>MemAct.low_mono hd.size (h.low op hop)) λop hop=>(hu op hop).low
 ·exact h.word.append λop hop=>(hu op hop).word
 ·exact(h.kn.grow h.low).app λop hop x hx b hb=>⟨λ_=>(hu op hop).g,λ_=>.inl (hu op hop).g⟩
 ·intro op hop;rw[hput.size];rcases Array.mem_append.1 hop with hop|hop
  ·exact h.few op hop
  ·rw[(hu op hop).g];exact hlt
end
end
section
open Go.ConcN (upd upd_ne upd_same)
set_option linter.unusedVariables false
set_option linter.unusedSimpArgs false
section
variable {P:Program} {G G':Gh} {g0 g0':Goroutine} {gs gs':Array Goroutine} {w w':World} {t u:Trace} {D:Nat->Kid} {T T':Nat->Tag} {i:Nat} {g g':Goroutine}
end
end
section
open Go.ConcN (upd upd_ne upd_same)
set_option linter.unusedVariables false
set_option linter.unusedSimpArgs false
section
variable {P:Program} {G G':Gh} {g0 g0':Goroutine} {gs gs':Array Goroutine} {w w':World} {t u:Trace} {D:Nat->Kid} {T T':Nat->Tag} {i:Nat} {g g':Goroutine}
/-- The starter runs; or waits for what somebody who has not come to its send yet has promised. -/
inductive Alive (G:Gh) (D:Nat->Kid) (n:Nat) (g0:Goroutine):Prop
 |run (h:g0.status=.running)
 |park (g₂:Goroutine) (c:Nat) (z v:Value) (h:g0=Conc.parked g₂ #[Conc.rcase c z] (.recv false)) (hF:G.F c=some v) (hD:∀i v',0<i->i<n->D i ≠ .wait c v')
end
end
section
open Go.ConcN (upd upd_ne upd_same)
set_option linter.unusedVariables false
set_option linter.unusedSimpArgs false
section
variable {P:Program} {Post:Value->World->Prop} {G:Gh} {g0:Goroutine} {w₀:World}
end
end
section
open Go.ConcN (upd upd_ne upd_same)
set_option linter.unusedVariables false
set_option linter.unusedSimpArgs false
section
variable {P:Program} {Post:Value->World->Prop}
/-- The starter stands at its return; nothing is promised any more. -/
structure AtEnd (P:Program) (Post:Value->World->Prop) (G:Gh) (w:World) (g:Goroutine):Prop where
 fit:Fit G w
 run:g.status=.running
 free:∀k,G.F k=none
 ends:∀w₁,Rely G w w₁->∃v w' es,stepG P true g w₁=.ended (.done v) w' es/\Did G w₁ w' es/\Post v w'
end
end
section
set_option linter.unusedVariables false
set_option linter.unusedSimpArgs false
def start(W:World):Gh:=⟨λ_=>False,λk=>k<W.heap.size,λ_=>none⟩
theorem fit_start(W:World):Fit (start W) W:=⟨λ_ h=>h.elim,λ_ h=>⟨h,λx=>x⟩,λ_ _ h=>by cases h⟩
/-- What was there at the entry is as it was, and shared. -/
structure Base (W:World) (G:Gh) (w:World):Prop where
 s:∀k,k<W.heap.size->G.S k
 rely:Rely (start W) W w
theorem Base.go{W:World}{G:Gh}{w w₁:World}(h:Base W G w)(hr:Rely G w w₁):Base W G w₁:=
 ⟨h.s,h.rely.trans ⟨hr.os,hr.tape,hr.output,hr.size,λk hk=>hr.same k (.inr (h.s k (hk.elim (λx=>x.elim) id)))⟩⟩
theorem Base.did{W:World}{G:Gh}{w w':World}{es:Array Event}(h:Base W G w)(hf:Fit G w)(hd:Did G w w' es):Base W (G.grow w.heap.size w'.heap.size) w':=
 ⟨h.s,h.rely.trans ⟨hd.os,hd.tape,hd.output,hd.size,fun k hk=>by
  have hs:=h.s k (hk.elim (λx=>x.elim) id);exact hd.same k (hf.s k hs).1 (hf.s k hs).2⟩⟩
theorem sg_done{P:Program}{fr:Frame}{w w':World}{r:Value}{fn:Func}{es:Array Event}(hm:fr.mode=.returning)(hd:fr.defers=[])(hk:fr.kind=.normal)(hf:P.funcs[fr.fn]?=some fn)(hi:P.inits.idxOf? fr.fn=none)
  (hr:(results fn fr.tmps).runT P w #[]=(.ok r w',es)):stepG P true (gr fr []) w=.ended (.done r) w' (seen P fr.fn es):=by
 simp[gr,stepG,unwind,doReturn,hm,hd,hk,hf,hr,hi,GStep.after,-Sem.runT_eq]
theorem below_start{W w:World}(h:Rely (start W) W w):Below W.heap.size W w:=⟨h.os,h.tape,h.output,h.size,λk hk=>h.same k (.inr hk)⟩
end
end Go.Proofs.Ytnhilgpdgicgfaa.Vc
