/- A run in company of a goroutine that starts no other: it is alone, to its end. -/
import Derived.Test.YtnhilgpdgicgfaaVcG
import Derived.Conc.LeavingOf
namespace Go.Proofs.Ytnhilgpdgicgfaa.Vc
open Go.ChangeShapes Go.WideShapes Go.ChangeAt Go.RowKit Go.Conc Go.Proofs.Ytnhilgpdgicgfaa.Ve
set_option linter.unusedVariables false
set_option linter.unusedSimpArgs false
def Rn(x y:GStep):Prop:=x=y\/∃g w es,x=.go g w es/\g.status=.finished
theorem Rn.after{x y:GStep}(h:Rn x y)(es:Array Event):Rn (x.after es) (y.after es):=by
 rcases h with rfl | ⟨g,w,es',rfl,h⟩
 ·exact .inl rfl
 ·exact .inr ⟨g,w,es++es',rfl,h⟩
theorem doReturn_rn(p:Program)(fr:Frame)(cs:List Frame)(dy:Option Dying)(v:Value)(w:World):Rn (doReturn p false fr cs dy v w) (doReturn p true fr cs dy v w):=by
 unfold doReturn;cases cs with
 |cons c r=>exact .inl rfl
 |nil=>
  dsimp only;split
  ·exact .inl rfl
  ·exact .inl rfl
  ·exact .inr ⟨_,_,_,rfl,rfl⟩
theorem unwind_rn(p:Program)(fr:Frame)(cs:List Frame)(dy:Option Dying)(w:World):Rn (unwind p false fr cs dy w) (unwind p true fr cs dy w):=by
 unfold unwind;split
 ·exact .inl rfl
 ·exact .inl rfl
 ·split
  ·exact .inl rfl
  ·exact .inl rfl
  ·split
   ·exact doReturn_rn ..
   ·dsimp only;refine Rn.after ?_ _;split
    ·exact doReturn_rn ..
    ·exact .inl rfl
    ·exact .inl rfl
theorem exec_rn(p:Program)(listen:Bool)(fr:Frame)(cs:List Frame)(dy:Option Dying)(w:World):Rn (stepG.exec p false listen fr cs dy w) (stepG.exec p true listen fr cs dy w):=by
 have hl:∀jump,Rn (match fr.roundOf with
   | none => if jump matches none | some .ret then GStep.go { frame := { fr with mode := .returning }, callers := cs, status := .running, dying := dy } w else .ended (.stuck "exit, goto: no such block or label" (fr.pos p)) w
   |some l=>GStep.after (seen p fr.fn ((Instr.endRound l jump).runT p w #[]).2) (match ((Instr.endRound l jump).runT p w #[]).1 with
    |.ok v w=>doReturn p false fr cs dy v w
    | .halt _ w => .ended (.stuck "range over a function: no such loop" (fr.pos p)) w))
   (match fr.roundOf with
   | none => if jump matches none | some .ret then GStep.go { frame := { fr with mode := .returning }, callers := cs, status := .running, dying := dy } w else .ended (.stuck "exit, goto: no such block or label" (fr.pos p)) w
   |some l=>GStep.after (seen p fr.fn ((Instr.endRound l jump).runT p w #[]).2) (match ((Instr.endRound l jump).runT p w #[]).1 with
    |.ok v w=>doReturn p true fr cs dy v w
    | .halt _ w => .ended (.stuck "range over a function: no such loop" (fr.pos p)) w)) := λ jump => by
  split
  ·exact .inl rfl
  ·refine Rn.after ?_ _;split
   ·exact doReturn_rn ..
   ·exact .inl rfl
 unfold stepG.exec;dsimp only;split<;>first
  |exact .inl rfl
  |exact hl none
  |exact hl (some .ret)
  |(rename_i id k _;cases exitTo id k<;>first|exact .inl rfl|exact hl (some (.exit id)))
  |(rename_i id k _;cases gotoIn id k<;>first|exact .inl rfl|exact hl (some (.goto id)))
  |(split<;>exact .inl rfl)
theorem stepG_rn(p:Program)(g:Goroutine)(w:World):Rn (stepG p false g w) (stepG p true g w):=by
 unfold stepG;obtain⟨fr,cs,st,dy,of⟩:=g;dsimp only;split
 ·exact .inl rfl
 ·exact exec_rn ..
 ·exact unwind_rn ..
theorem stepG_true{p:Program}{g g':Goroutine}{w w':World}{es:Array Event}(h:stepG p false g w=.go g' w' es)(hr:g'.status=.running):stepG p true g w=.go g' w' es:=by
 rcases stepG_rn p g w with e | ⟨g1,w1,es1,e,h1⟩
 ·rw[<- e];exact h
 ·rw[h]at e;cases e;rw[hr]at h1;cases h1
def EndsL(P:Program)(Post:Value->World->Prop)(m:Machine)(t:Trace):Prop:=
 ∃N last o w' t',runNT P (N+1) m t=(.ended o w',t')/\runN P N m=.next last/\step P last=.ended o w'/\Conc.Good P Post last o w' t'/\last.quiet
theorem EndsL.now{P:Program}{Post:Value->World->Prop}{m:Machine}{t ops:Trace}{o:Outcome}{w:World}(h:stepT P m=(.ended o w,ops))(hg:Conc.Good P Post m o w (t++ops))(hq:m.quiet):EndsL P Post m t:=
 ⟨0,m,o,w,t++ops,by simp[runNT,h],rfl,by simp[step,h],hg,hq⟩
theorem EndsL.next{P:Program}{Post:Value->World->Prop}{m m':Machine}{t ops:Trace}(h:stepT P m=(.next m',ops))(he:EndsL P Post m' (t++ops)):EndsL P Post m t:=by obtain⟨n,last,o,w,t',h1,h2,h3,h4,h5⟩:=he;exact⟨n+1,last,o,w,t',by rw[runNT_succ_next h];exact h1,by rw[runN_succ_next h];exact h2,h3,h4,h5⟩
theorem quiet_one(g:Goroutine)(w:World)(sl:Option (Nat×Nat)):(crowd #[g] w sl).quiet:=by unfold Machine.quiet;refine⟨?_,rfl⟩;simp[Machine.othersDone,crowd]
section
variable {P:Program} {Post:Value->World->Prop}
def PrL(P:Program)(Post:Value->World->Prop)(G:Gh)(w₀:World)(g:Goroutine):Prop:=
 g.status=.running/\∀w sl t D T,Com P G g #[g] w t D T->Rely G w₀ w->EndsL P Post (crowd #[g] w sl) t
theorem lone_pick{G:Gh}{g:Goroutine}{w:World}{sl:Option (Nat×Nat)}(hr:g.status=.running):∃d sl',stepT P (crowd #[g] w sl)=runT P (crowd #[g] (w.at d) sl') 0:=by
 obtain⟨i,g',d,sl',hi,_,hst⟩:=crowd_pick (P:=P) (gs:=#[g]) (w:=w) (sl:=sl) (λx hx=>by
  have:x=g:=by simpa using hx
  subst this;intro s hs;rw[hr]at hs;cases hs) ⟨0,g,rfl,hr⟩
 have:i=0:=by have:=(Array.getElem?_eq_some_iff.1 hi).1;simp at this;omega
 subst this;exact⟨d,sl',hst⟩
theorem closedL:Closed P false (PrL P Post) where
 step:=by
  intro G w₀ g hf hr h;refine⟨hr,λw sl t D T hC hR=> ?_⟩;obtain⟨d,sl',hst⟩:=lone_pick (P:=P) (G:=G) (w:=w) (sl:=sl) hr;obtain⟨g',w',es,hs,hd,hrun,hpr⟩:=h (w.at d) (hR.at d);have hs':=stepG_true hs hrun;have hC':=hC.at d;have hFw:∀c v,G.F c=some v->w'.heap[c]?=(w.at d).heap[c]?:=λc v hc=>hd.same c (hC'.fit.f c v hc).1 (hC'.fit.f c v hc).2.1
  obtain⟨gs',hrunT,hput⟩:=hC'.runs_go (sl:=sl') hC'.main (show stepG P (0==0) g (w.at d)=_ from hs') hFw (λx=>absurd rfl x);have e:gs'=#[g']:=by
   refine Array.ext_getElem? λi=> ?_
   cases i with|zero=>exact hput.here|succ i=>rw[Array.getElem?_eq_none (by rw[hput.size];simp),Array.getElem?_eq_none (by simp)]
  subst e;exact .next (hst.trans hrunT) (hpr _ _ _ _ _ (hC'.main_go hd hput _ _) (.refl _ _))
 spawn:=λh=>by cases h
 recv:=λh=>by cases h
theorem AtEnd.prL{G:Gh}{w₀:World}{g:Goroutine}(h:AtEnd P Post G w₀ g):PrL P Post G w₀ g:=by
 refine⟨h.run,λw sl t D T hC hR=> ?_⟩;obtain⟨d,sl',hst⟩:=lone_pick (P:=P) (G:=G) (w:=w) (sl:=sl) h.run;have hC':=hC.at d;obtain⟨v,w',es,hend,hd,hpost⟩:=h.ends (w.at d) (hR.at d);have hC2:=hC'.main_go (gs':=#[g]) (g':=g) hd (.self hC'.main) g.frame.fn g.frame.place;have hrunT:=runT_many_ended (P:=P) (sl:=sl') hC'.main (show stepG P (0==0) g (w.at d)=_ from hend);have hno:∀(i:Nat) (x:Goroutine),0<i->(#[g]:Array Goroutine)[i]?=some x->False:=λi x hi hx=>by
  have:=(Array.getElem?_eq_some_iff.1 hx).1;simp at this;omega
 refine .now (hst.trans hrunT) ⟨v,rfl,hpost,hC2.clean,?_,⟨λx hx=> ?_,rfl⟩,λj x hx hj=>(hno j x (by omega) hx).elim⟩ (quiet_one g w sl)
 ·intro i g' hg hne hcnt;obtain⟨x,hx,-⟩:=hcnt;obtain⟨op,hop,hxo⟩:=touch_of hx;have hg':op.g=g':=by simpa [Trace.g?,hop] using hg
  have hlt:op.g<(#[g]:Array Goroutine).size:=hC2.few op (mem_of_getElem? hop);simp at hlt;omega
 ·simp[crowd]at hx
theorem lone_ends{G:Gh}{w:World}{g:Goroutine}{sl:Option (Nat×Nat)}(hf:Fit G w)(hF:∀k,G.F k=none)
  (hG:∀Pr,Closed P false Pr->(∀G' w' g',AtEnd P Post G' w' g'->Pr G' w' g')->Pr G w g):EndsL P Post (crowd #[g] w sl) #[]:=by
 classical
 refine(hG (PrL P Post) closedL (λ_ _ _ h=>h.prL)).2 w sl #[] (λ_=>.gone 0) (λk=>if G.M k then .main else if G.S k then .shared else .none) ?_ (.refl _ _);have hz:∀(i:Nat) (x:Goroutine),0<i->(#[g]:Array Goroutine)[i]?=some x->False:=λi x hi hx=>by
  have:=(Array.getElem?_eq_some_iff.1 hx).1;simp at this;omega
 exact {
  main:=rfl
  fit:=hf
  tm:=λk hk=>if_pos hk
  ts:=λk hk=>by simp only[if_neg (hf.s k hk).2,if_pos hk]
  tf:=λk v hk=>by rw[hF]at hk;cases hk
  new:=λk hk=>by
   rw[if_neg (λh=>by have:=hf.m k h;omega),if_neg (λh=>by have:=(hf.s k h).1;omega)]
  kids:=λi x hi hx=>(hz i x hi hx).elim
  chan:=λc v hc=>by rw[hF]at hc;cases hc
  one:=λi j c v v' hi hi'=>by simp at hi';omega
  clean:=λsaid=>by rintro⟨i,j,_,⟨a,b,ha,_⟩,_⟩;simp[Trace.act?]at ha
  low:=λop hop=>by simp at hop
  word:=λop hop=>by simp at hop
  kn:=⟨λj x b hx=>by simp[touchAt,Trace.act?]at hx,λj x b hx=>by simp[touchAt,Trace.act?]at hx⟩
  few:=λop hop=>by simp at hop }
end
abbrev lonMd:Md:=⟨false,λ_=>none⟩
theorem closed_baseL{P:Program}{W:World}{Pr:Gh->World->Goroutine->Prop}(hC:Closed P false Pr):Closed P false λG w g=>Base W G w->Pr G w g where
 step:=λG w g hf hr h hb=>hC.step G w g hf hr λw₁ h₁=>by
  obtain⟨g',w',es,q1,q2,q3⟩:=h w₁ h₁;exact⟨g',w',es,q1,q2,q3 ((hb.go h₁).did (hf.rely h₁) q2)⟩
 spawn:=λh=>by cases h
 recv:=λh=>by cases h
theorem endsL_of_calls{P:Program}{Post:Value->World->Prop}{f:FuncId}{args:Array Value}{W:World}{R:Value->World->Prop}{sl:Option (Nat×Nat)}(hi:P.inits.idxOf? f=none)(h:CallsX lonMd P f args (view (start W) W) R)
  (hp:∀r G' w',Fit G' w'->R r (view G' w')->Rely (start W) W w'->Post r w'):EndsL P Post (crowd #[gr (Frame.enter P f args .normal) []] W sl) #[]:=by
 refine lone_ends (fit_start W) (λ_=>rfl) λPr hC hE=> ?_
 refine h _ (closed_baseL (W:=W) hC) [] (start W) W ⟨fit_start W,rfl⟩ (.refl _) (λv' fr hfn hl G' w' hf' hv' hb=> ?_) ⟨λk hk=>hk,.refl _ _⟩;obtain⟨hm,hdf,hkd,fn,hfun,hres⟩:=hl;refine hE G' w' _ ⟨hf'.toFit,rfl,λk=>by rw[hf'.eqF],λw₁ h₁=> ?_⟩;obtain⟨r,ht,hR⟩:=hres (view G' w₁) (hv'.trans (h₁.view hf'.toFit));obtain⟨w₂,es,q1,q2,q3⟩:=ht G' w₁ (hf'.toFit.rely h₁) rfl #[];refine⟨r,w₂,_,sg_done hm hdf hkd hfun (by rw[hfn];exact hi) q1,by simpa using q3.seen fr.fn,hp r _ w₂ ((hf'.toFit.rely h₁).did q3) (by rw[<- q2];exact hR) ((hb.go h₁).did (hf'.toFit.rely h₁) q3).rely⟩
theorem endsL_con2{P:Program}{f:FuncId}{G:Con}(hi:P.inits.idxOf? f=none)(hG:ConOkX lonMd P f G){args:List SA}{vals:List Value}{r:Bool}{hh:List VB}(ho:hh.all glSmall=true)(hr:G args (hh.map glX)=some (.a (.b r),.none,true))(W:World)(hl:SlL P W hh)(hA:AllIs P idA (hh.map glX) args vals):
  EndsL P (λv W'=>v=.bool r/\Below W.heap.size W W') (crowd #[gr (Frame.enter P f vals.toArray .normal) []] W none) #[]:=by
 refine endsL_of_calls hi (hG _ (hh.map glX) _ args vals _ _ (SlL.no (SlL.start hl ho)) hr hA (SlL.his (SlL.start hl ho))) ?_;rintro v G' w' hf ⟨h1,-⟩ hb;have h1:v=.bool r:=h1;exact⟨h1,below_start hb⟩
theorem returnsInHanded_of_good{a:Assume}{C:Checked}{os:Os}{f:FuncId}{r:Reach}{Pre:World->Array Value->Prop}{Post:World->Array Value->Value->World->Prop}
  (own:ownKnob C.prog.godebug=none) (started:os.Started)
  (witness:∃ (w:World) (tape:Tape) (i:Input),w.os=os∧(w.forCall tape i).Shaped C.prog∧i.vars=[]∧Input.okWide C.prog (w.forCall tape i) r w.heap.size f i∧Pre (w.forCall tape i).memory i.args ∧
   a.holds C.prog (lone (Frame.enter C.prog f i.args .normal) [] (w.forCall tape i)))
  (runs:∀ (w:World) (tape:Tape) (i:Input),w.os=os→(w.forCall tape i).ShapedOpen C.prog→i.vars=[]→Input.okWide C.prog (w.forCall tape i) r w.heap.size f i→Pre (w.forCall tape i).memory i.args →
   a.holds C.prog (lone (Frame.enter C.prog f i.args .normal) [] (w.forCall tape i)) ->
   EndsL C.prog (λv w'=>Post (w.forCall tape i).blind i.args v w'.blind) (crowd #[gr (Frame.enter C.prog f i.args .normal) []] (w.forCall tape i) none) #[]) :
  ReturnsInHanded a C os f r Pre Post:=λenter=>by
 obtain⟨w0,t0,i0,a1,a2,a3,a4,a5,a6⟩:=witness;refine⟨enter,own,started,⟨w0,t0,i0,a1,a2,a3,a4,a5,a6,trivial⟩,λw tape i h=> ?_⟩;obtain⟨N,last,o,w',t',h1,h2,h3,⟨v,rfl,hp,hrace,hho,hol,heh⟩,hq⟩:=runs w tape i h.1 h.2.1 h.2.2.1 h.2.2.2.1 h.2.2.2.2.1 h.2.2.2.2.2.1;have h1':runNT C.prog (N+1) (Machine.entering C.prog w tape f i) #[]=(.ended (.done v) w',t'):=h1;have hn:runN C.prog (N+1) (Machine.entering C.prog w tape f i)=.ended (.done v) w':=by rw[<- runNT_fst _ _ _ #[],h1']
 exact⟨N+1,v,w',hn,by unfold Clean;rw[h1'];exact hrace _,roomy_placeholder ..,hp,⟨N,last,h2,h3,by rw[h1'];exact⟨hq,hho,heh⟩⟩,λ_ _ _=>trivial⟩
theorem law_alone{C:Checked}{F:FuncId}{fn:Func}{s:ChangeSpec}{tb:TypeId}
  (own:ownKnob C.prog.godebug=none) (laidOut:laidOutB C.prog=true) (hfn:C.prog.funcs[F]?=some fn)
  (hres:fn.resultTypes=#[tb]) (htb:C.prog.underlying tb=some .bool)
  (hread:∀t∈fn.params.toList,C.prog.readableRec t=true/\t<C.prog.types.size)
  (hvars:s.vars=[])
  (hspec:∀(H:Type) (ds:List (DataW H)),ds.length=fn.params.toList.length->s.fn H ds={ results:=[.lit (.bool true)],args:=ds })
  (os:Os) (started:os.Started) (H:Type) (enc:TypeId×Value->H)
  (witness:∃ (w:World) (tape:Tape) (i:Input),w.os=os∧(w.forCall tape i).Shaped C.prog∧i.vars=[]∧Input.okWide C.prog (w.forCall tape i) .any w.heap.size F i ∧
   s.pre6 enc C.prog fn [] false (w.forCall tape i).memory i.args/\({}:Assume).holds C.prog (lone (Frame.enter C.prog F i.args .normal) [] (w.forCall tape i)))
  (walk:∀ (W:World) (base:Nat) (args:Array Value) (ds:List (DataW H)) (ps:List MemPlace),
   (∀(j:Nat) t v,fn.params[j]?=some t->args[j]?=some v->Value.okWide C.prog W .any base t v) ->
   DataW.TrodAll enc C.prog W 0 (λ_=>true) true fn.params.toList args.toList ds ps ->
   EndsL C.prog (λv W'=>v=.bool true/\Below W.heap.size W W') (crowd #[gr (Frame.enter C.prog F args .normal) []] W none) #[]) :
  ReturnsInHanded {} C os F .any (s.pre6 enc C.prog fn [] false) (s.post enc C.prog fn false true false false):=by
 refine returnsInHanded_of_good own started witness ?_;intro w tape i _ _ _ hok hpre hholds;obtain⟨_,_,_,fn',hfn',_,_,_,_,hval⟩:=hok;have e:fn'=fn:=Option.some.inj (hfn'.symm.trans hfn);subst e;obtain⟨⟨ds,gs,before,hw,hc⟩,hz⟩:=hpre;have hW:=DataW.Whole.of_heap (w':=w.forCall tape i) (by rfl) hw;have hW':=hW;obtain⟨p,q,hA,hV,hbef,hfz,hnd⟩:=hW;have hgs:gs=[]:=by rw[hvars]at hV;cases gs with|nil=>rfl|cons=>exact hV.elim
 subst hgs;obtain⟨M,last,o,w',t',h1,h2,h3,h4,hq⟩:=walk (w.forCall tape i) w.heap.size i.args ds p hval hA;refine⟨M,last,o,w',t',h1,h2,h3,h4.mono λv ⟨he,bel⟩=> ?_,hq⟩;subst he;have hs:s.fn H (ds++[])={ results:=[.lit (.bool true)],args:=ds }:=by rw[List.append_nil];exact hspec H ds (trodAll_lengths hA).1
 refine ChangeSpec.post_blind ?_;refine⟨ds,[],before,[],p,[],hW',?_,?_,?_,bel.frame _,λh=>by cases h⟩
 ·rw[hs,hres];exact trodAll_mk1 (shut_bool htb _)
 ·rw[hs];exact trodAll_below laidOut bel hread hA
 ·rw[hs,hvars];rfl
end Go.Proofs.Ytnhilgpdgicgfaa.Vc
