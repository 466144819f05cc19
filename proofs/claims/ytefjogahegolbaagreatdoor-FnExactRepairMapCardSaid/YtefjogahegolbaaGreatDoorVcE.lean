/- A judgement by continuations of the starter, where what is promised may change: codes. No program is named. -/
import Derived.Test.YtefjogahegolbaaGreatDoorVcD
set_option linter.unusedVariables false
set_option linter.unusedSimpArgs false
open _root_.List renaming all_eq_true->jA,mem_of_getElem?->jB,range'->jC,replicate->jD,getElem?_eq_some_iff->jJ,getElem?_set_ne->jK,take_append_drop->jM
open _root_.Array renaming replicate->jG,getElem?_eq_some_iff->jH,getD_eq_getD_getElem?->jL,getElem?_eq_getElem->jN
open _root_.Nat renaming le_refl->jF
open _root_.Option renaming map_some->jE,map_eq_some_iff->jI
open _root_.Go renaming World->QB,Value->QC,Program->QD,TypeId->QE,FuncId->QF,Goroutine->QG,execOp->QI,Frame->QL,Oper->QN,Code->QOq
namespace Go.Proofs.YtefjogahegolbaaGreatDoor.Vc
open Go.RowKit Go.Conc Go.Proofs.YtefjogahegolbaaGreatDoor.Ve
section
abbrev Fd:=Nat->Option QC
abbrev md(F:Fd):Md:=⟨true,F⟩
abbrev Ue0:=Exit->Act->QB->Fd->Prop
def WpF(ro:Option Nat)(P:QD)(c:QOq)(Q:Ue0)(a:Act)(v:QB)(F:Fd):Prop:=
 ∀(Pr:Gh->QB->QG->Prop),Closed P true Pr->∀(b:QL),b.roundOf=ro->b.kind=.normal->∀(k:List _root_.Go.Item) (cs:List QL) (G:Gh) (w:QB),FitM (md F) G w->Ge v (view G w) ->
  (∀e A v' F',Q e A v' F'->∀G' w',FitM (md F') G' w'->Ge v' (view G' w')->Arr Pr b k cs e A G' w')->Pr G w (gr (b.atR a (.code c::k)) cs)
section
variable {ro:Option Nat} {P:QD} {Q Q':Ue0} {a:Act} {v:QB} {F:Fd}
theorem pC{c:QOq}(h:WpX (md F) ro P c (λe A v'=>Q e A v' F) a v):WpF ro P c Q a v F:=λPr J b L hk k cs G w O U V=>h Pr J b L hk k cs G w O U λe A v' Z=>V e A v' F Z
theorem WpF.mono{c:QOq}(h:WpF ro P c Q a v F)(J:∀e a v F,Q e a v F->Q' e a v F):WpF ro P c Q' a v F:=
 λPr L b O hk k cs G w U V Z=>h Pr L b O hk k cs G w U V λe a' v' F' A=>Z e a' v' F' (J _ _ _ _ A)
def thenF(N:Act->QB->Fd->Prop)(Q:Ue0):Ue0
 |.normal=>N
 |e=>Q e
def Uea(id:Nat)(Q:Ue0):Ue0
 |.exit j=>λa v F=>if j=id then Q .normal a v F else Q (.exit j) a v F
 |e=>Q e
theorem Zeb{x y:QOq}(h:WpF ro P x (thenF (WpF ro P y Q) Q) a v F):WpF ro P (.seq x y) Q a v F:=λPr V b hb L k cs G w hf hv O=>
 V.calm (mn:=md F) hf rfl (λw=>dX) λw₁ hf₁ hg=>h Pr V b hb L (.code y::k) cs G w₁ hf₁ (hv.trans hg) λe Z v' F' U G' w' A J=>by
  cases e with|normal=>exact U Pr V b hb L k cs G' w' A J O|exit id=>exact .cons (x:=.code y) rfl (by simp) (O _ Z v' F' U G' w' A J)|goto l=>exact .cons (x:=.code y) rfl (by simp) (O _ Z v' F' U G' w' A J)|ret=>exact O .ret Z v' F' U G' w' A J|panic ch=>trivial|outgrown=>trivial
theorem Zw3{c:Operand}{x y:QOq}{t:Bool}(L:a.eval c=.bool t)(h:WpF ro P (if t then x else y) Q a v F):WpF ro P (.cond c x y) Q a v F:=λPr J b O A k cs G w U V Z=>
 J.calm (mn:=md F) U rfl (λw=>yf L) λw₁ hf₁ hg=>h Pr J b O A k cs G w₁ hf₁ (V.trans hg) Z
theorem Ypw(h:Q .normal a v F):WpF ro P .skip Q a v F:=pC (Zh9 h)
theorem Yux{id:Nat}(h:Q (.exit id) a v F):WpF ro P (.exit id) Q a v F:=pC (Zw7 h)
theorem yL(h:Q .ret a v F):WpF ro P .ret Q a v F:=pC (Zmk h)
theorem Yda{id:Nat}{c:QOq}(h:WpF ro P c (Uea id Q) a v F):WpF ro P (.block id c) Q a v F:=λPr hC b hb hkd k cs G w hf hv hQ=>
 hC.calm (mn:=md F) hf rfl (λw=>yg) λw₁ hf₁ hg=>h Pr hC b hb hkd (.inBlock id::k) cs G w₁ hf₁ (hv.trans hg) λe a' v' F' hq G' w' hf' hv'=>by
  cases e with
  |normal=>exact hC.calm (mn:=md F') hf' rfl (λw=>ye) λw₂ hf₂ hg₂=>hQ .normal a' v' F' hq G' w₂ hf₂ (hv'.trans hg₂)
  | exit id'=>
   by_cases hid:id'=id
   ·subst hid;simp only[Uea,if_true]at hq;refine⟨λk' hk=> ?_,λhk=> ?_⟩
    ·simp[exitTo]at hk;subst hk;exact hQ .normal a' v' F' hq G' w' hf' hv'
    ·simp[exitTo]at hk
   ·simp only[Uea,if_neg hid]at hq;have hx:exitTo id' (.inBlock id::k)=exitTo id' k:=by
     have this:(id==id')=false:=by simp;exact λh=>hid h.symm
     simp[exitTo,this]
    have:=hQ (.exit id') a' v' F' hq G' w' hf' hv';exact⟨λk' hk=>this.1 k' (by rwa [hx]at hk),λhk=>this.2 (by rwa [hx]at hk)⟩
  |goto l=>
   have hx:gotoIn l (.inBlock id::k)=gotoIn l k:=by simp[gotoIn]
   have:=hQ (.goto l) a' v' F' hq G' w' hf' hv';exact⟨λk' hk=>this.1 k' (by rwa [hx]at hk),λhk=>this.2 (by rwa [hx]at hk)⟩
  |ret=>exact hQ .ret a' v' F' hq G' w' hf' hv'
  |panic ch=>trivial
  |outgrown=>trivial
def Udk(ro:Option Nat)(P:QD)(c:QOq)(Q:Ue0):Nat->Act->QB->Fd->Prop
 |0,_,_,_=>False
 |n+1,a,v,F=>WpF ro P c (thenF (Udk ro P c Q n) Q) a v F
theorem yM{c:QOq}:∀(n:Nat) {a:Act} {v:QB} {F:Fd},Udk ro P c Q n a v F->∀(Pr:Gh->QB->QG->Prop),Closed P true Pr->∀(b:QL),b.roundOf=ro->b.kind=.normal->∀(k:List _root_.Go.Item) (cs:List QL) (G:Gh) (w:QB),FitM (md F) G w->Ge v (view G w) ->
  (∀e L v' F',Q e L v' F'->∀G' w',FitM (md F') G' w'->Ge v' (view G' w')->e ≠ .normal->Arr Pr b k cs e L G' w')->Pr G w (gr (b.atR a (.code c::.inLoop c::k)) cs)
 |0,a,v,F,h,_,_,_,_,_,_,_,_,_,_,_,_=>h.elim
 |n+1,a,v,F,h,Pr,Z,b,hb,O,k,cs,G,w,hf,hv,U=>h Pr Z b hb O (.inLoop c::k) cs G w hf hv λe L v' F' V G' w' A J=>by
  cases e with
  |normal=>exact Z.calm (mn:=md F') A rfl (λw=>yi) λw₂ hf₂ hg₂=>yM n V Pr Z b hb O k cs G' w₂ hf₂ (J.trans hg₂) U
  |exit id=>exact .cons (x:=.inLoop c) rfl (by simp) (U _ L v' F' V G' w' A J (by simp))
  |goto l=>exact .cons (x:=.inLoop c) rfl (by simp) (U _ L v' F' V G' w' A J (by simp))
  |ret=>exact U .ret L v' F' V G' w' A J (by simp)
  |panic ch=>trivial
  |outgrown=>trivial
theorem Zw0{c:QOq}(n:Nat)(h:Udk ro P c Q n a v F):WpF ro P (.loop c) Q a v F:=λPr O b U A k cs G w V Z hQ=>
 O.calm (mn:=md F) V rfl (λw=>yh) λw₁ hf₁ hg=>yM n h Pr O b U A k cs G w₁ hf₁ (Z.trans hg) λe a' v' F' hq G' w' J L _=>hQ e a' v' F' hq G' w' J L
def Udr(P:QD)(f:QF)(args:QA)(v:QB)(F:Fd)(R:QC->QB->Fd->Prop):Prop:=
 ∀(Pr:Gh->QB->QG->Prop),Closed P true Pr->∀(cs:List QL) (G:Gh) (w:QB),FitM (md F) G w->Ge v (view G w) ->
  (∀v' F' fr,fr.fn=f->Ucx P fr (λr v''=>R r v'' F') v'->∀G' w',FitM (md F') G' w'->Ge v' (view G' w')->Pr G' w' (gr fr cs))->Pr G w (gr (Frame.enter P f args .normal) cs)
theorem JT{f:QF}{args:QA}{R:QC->QB->Prop}(h:Udr P f args v F (λr v' F'=>F'=F/\R r v')):Ua6 (md F) P f args v R:=λPr U cs G w V Z hQ=>
 h Pr U cs G w V Z λv' F' fr A hl G' w' J L=>by
  obtain⟨h1,h2,h3,fn,h4,O⟩:=hl;obtain⟨_,_,rfl,_⟩:=O v' (Ge.refl _);exact hQ v' fr A ⟨h1,h2,h3,fn,h4,λv₁ hg=>let ⟨r,q1,q2⟩:=O v₁ hg;⟨r,q1,q2.2⟩⟩ G' w' J L
theorem Udr.mono{f:QF}{args:QA}{R J:QC->QB->Fd->Prop}(h:Udr P f args v F R)(L:∀r v F,R r v F->J r v F):Udr P f args v F J:=
 λPr O cs G w U V Z=>h Pr O cs G w U V λv' F' fr A hl=>Z v' F' fr A (hl.mono λr v=>L r v F')
def lM(P:QD)(o:QN)(a:Act)(v:QB)(F:Fd)(K:Act->QB->Fd->Prop):Prop:=
 ∀(Pr:Gh->QB->QG->Prop),Closed P true Pr->∀(b:QL),b.kind ≠ .early->∀(k:List _root_.Go.Item) (cs:List QL) (ops:Array QN) (i:Nat) (rest:List Nat),ops[i]?=some o->Region.wanted o (yielded ops a.tmps)=true ->
  ∀(G:Gh) (w:QB),FitM (md F) G w->Ge v (view G w)->(∀A v' F',K A v' F'->∀G' w',FitM (md F') G' w'->Ge v' (view G' w')->Pr G' w' (gr (b.atR A (.inRegion ops rest::k)) cs)) ->
  Pr G w (gr (b.atR a (.inRegion ops (i::rest)::k)) cs)
variable {o:QN} {K K':Act->QB->Fd->Prop}
theorem Yxj(h:OpX (md F) P o a v λA v'=>K A v' F):lM P o a v F K:=λPr J b L k cs ops i rest ho O G w U V Z=>
 gz (mn:=md F) J L rest [i] a v (K:=λA v'=>K A v' F) (by unfold OpsX OpIX;rw[ho];dsimp only;rw[if_pos O];exact h) G w U V λA v' hk=>Z A v' F hk
theorem Yxv{f:QF}{args:QA}{c:Call}{y:Operand}{R:QC->QB->Fd->Prop}(ho:o.op=.call c)(hc:c.callee=.value y)(hy:a.eval y=.func (.func f) #[] #[])(he:EntX P f)(J:c.args.map a.eval=args)
  (h:∀v₁,Ge v v₁->Udr P f args v₁ F R) (hK:∀r v' F',R r v' F'->K (a.put o.dst r) v' F'):lM P o a v F K:=λPr hC b hb k cs ops i rest L hw G w hf hv hQ=>by
 have hx:QI a.eval o=callFunc f args:=by
  subst J;unfold QI;rw[ho];simp only[resolve,hc,hy,Deferred.ofValue]
  show callFunc f _=_
  congr 1;rw[<- Array.toList_inj];simp
 have hd:∀c,o.op ≠ .defer c:=λc' O=>by rw[ho]at O;cases O
 refine hC.step G w _ hf.toFit rfl λw₁ hr₁=> ?_
 have hf₁:=hf.rely hr₁;obtain⟨w',es,e1,e2,e3⟩:=((he.2 args).tr (he.1 args (view G w₁))) G w₁ hf₁.toFit rfl #[];rw[<- hx]at e1;refine⟨_,w',_,(Yde (mn:=md F) L hb hw hd e1).2.2.1 f args rfl,by simpa using e3.seen b.fn,?_⟩;refine h _ (hv.trans (hr₁.view hf.toFit)) Pr hC _ _ w' (hf₁.did e3) (e2 ▸ Ge.refl _) λv'' F' fr hfn hl G' w'' A hv'=> ?_
 refine hC.step G' w'' _ A.toFit rfl λw₂ hr₂=> ?_
 obtain⟨hm,hdf,hkd,fn,U,V⟩:=hl;obtain⟨r,ht,hR⟩:=V (view G' w₂) (hv'.trans (hr₂.view A.toFit));obtain⟨w₃,es₃,q1,q2,q3⟩:=ht G' w₂ (A.rely hr₂).toFit rfl #[];refine⟨_,w₃,_,vk (mn:=md F) hm hdf hkd U q1,by simpa using q3.seen fr.fn,?_⟩;have Z:(b.atR a (.inRegion ops (i::rest)::k)).finish r=b.atR (a.put o.dst r) (.inRegion ops rest::k):=by rw[Frame.finish_atR,L];rfl
 rw[Z];exact hQ _ _ F' (hK _ _ _ hR) _ w₃ ((A.rely hr₂).did q3) (by rw[<- q2];exact Ge.refl _)
theorem opF_recv{c:Nat}{val z:QC}(hd:∀c,o.op ≠ .defer c)(hr:∀w,(QI a.eval o).runT P w #[]=(.ok (.comm #[Conc.rcase c z] true (.recv false)) w,#[]))(hF:F c=some val)
  (hK:∀v',(∀C t fr,v.heap[c]?≠some (.cells C t fr))->Kept (λk=>k=c) v v'->K (a.put o.dst val) v' (λk=>if k=c then none else F k)):lM P o a v F K:=λPr hC b hb k cs ops i rest ho hw G w O hv hQ=>by
 have J:G.F c=some val:=by rw[O.eqF];exact hF
 refine hC.recv rfl G w _ (gr (b.atR a (.inRegion ops (i::rest)::k)) cs) c val z O.toFit rfl J (λw₁ hr₁=>⟨#[],gy (mn:=md F) ho hb hw hd (hr w₁),λe he=>by simp at he⟩) λw' V=> ?_
 have Z:(b.atR a (.inRegion ops (i::rest)::k)).finish val=b.atR (a.put o.dst val) (.inRegion ops rest::k):=by rw[Frame.finish_atR,ho];rfl
 have hsv:Conc.served (gr (b.atR a (.inRegion ops (i::rest)::k)) cs) val=gr (b.atR (a.put o.dst val) (.inRegion ops rest::k)) cs:=by rw[<- Z];rfl
 rw[hsv];have L:=O.toFit.rely V;have A:=hv.trans (V.view O.toFit);have b5:¬G.M c/\¬G.S c:=(O.f c val J).2;have same:∀k,k≠c->(view (G.took c) w').heap[k]?=(view G w').heap[k]?:=λk hk=>by
  rw[cp,cp];congr 1;funext o
  by_cases U:G.M k
  ·rw[Uc8 U,Uc8 (show (G.took c).M k from U)]
  ·by_cases hs:G.S k
   ·rw[de U hs,de (show ¬(G.took c).M k from U) (show (G.took c).S k from hs)]
   ·rw[dV U hs,dV (show ¬(G.took c).M k from U) (show ¬(G.took c).S k from hs)];simp only[Gh.took,if_neg hk]
 have hnc:∀C t fr,v.heap[c]?≠some (.cells C t fr):=λC t fr h=>by
  have h1:=(hv.block c (jH.1 h).1).trans h;rw[cp]at h1;obtain⟨o',-,h3⟩:=jI.1 h1;rw[dV b5.1 b5.2,J]at h3;simp only[cq]at h3;cases h3
 refine hQ _ (view (G.took c) w') _ (hK _ hnc ⟨A.os,A.tape,A.output,by simpa using A.size,λk hk hne=>(same k hne).trans (A.block k hk)⟩) (G.took c) w' ⟨⟨L.m,L.s,λk u hk=> ?_⟩,?_⟩ (Ge.refl _)
 ·simp only[Gh.took]at hk|-
  split at hk
  ·cases hk
  ·exact L.f k u hk
 ·simp only[Gh.took,O.eqF]
theorem opF_go{c:Nat}{val:QC}{d:Deferred}{L:Nat->Prop}(hd:∀c,o.op ≠ .defer c)(hn:d.target ≠ .nil)(hr:∀w,(QI a.eval o).runT P w #[]=(.ok (.spawn d) w,#[]))
  (hc:∃s tm,v.heap[c]?=some (.chan 0 #[] false s s tm)) (hL:∀k,L k->∃C t fr,C≠#[]/\v.heap[k]?=some (.cells C t fr))
  (hkid:∀G₁ w₁,Fit G₁ w₁->G₁.F=(λ_=>none)->(∀k C t fr,L k->v.heap[k]?=some (.cells C t fr)->∃fr',(view G₁ w₁).heap[k]?=some (.cells C t fr'))->GoW P c val G₁ w₁ (Udn P d))
  (hK:∀v',F c=none->Kept (λk=>k=c\/L k) v v'->(∀k C t fr,L k->v.heap[k]?=some (.cells C t fr)->∃fr',v'.heap[k]?=some (.cells C t fr'))->K (a.put o.dst undef) v' (λk=>if k=c then some val else F k)) :
  lM P o a v F K:=λPr hC b hb k cs ops i rest ho hw G w hf hv hQ=>by
 obtain⟨s,tm,hc⟩:=hc;have hclt:c<v.heap.size:=(jH.1 hc).1;have own_c:∀w₁,Ge v (view G w₁)->G.M c/\w₁.heap[c]?=some (.chan 0 #[] false s s tm):=λw₁ hg=>by
  have h1:=(hg.block c hclt).trans hc;rw[cp]at h1;obtain⟨o',h2,A⟩:=jI.1 h1
  by_cases O:G.M c
  ·rw[Uc8 O]at A;refine⟨O,?_⟩;rcases pq o' with ⟨c',e',fr',rfl,h' | h'⟩ | ⟨a,u,rfl,h'⟩ | ⟨-,h'⟩
   ·rw[h']at A;cases A
   ·rw[h']at A;cases A
   ·rw[h']at A;cases A
   ·rw[h']at A;rw[h2,A]
  ·exfalso
   by_cases V:G.S c
   ·rw[de O V]at A;cases o'<;>simp only[cU,bj]at A<;>cases A
   ·rw[dV O V]at A;cases hF:G.F c with
    |none=>rw[hF]at A;simp only[bj]at A;cases A
    |some u=>rw[hF]at A;simp only[cq]at A;cases A
 have seen_L:∀w₁,Ge v (view G w₁)->∀k C t fr,L k->v.heap[k]?=some (.cells C t fr)->(G.M k\/G.S k)/\∃fr',w₁.heap[k]?=some (.cells C t fr'):=λw₁ hg k C t fr hk U=>by
  have J:C≠#[]:=by obtain⟨C',t',fr',h1,h2⟩:=hL k hk;rw[U]at h2;cases h2;exact h1
  have h1:=(hg.block k (jH.1 U).1).trans U;rw[cp]at h1;obtain⟨o',h2,A⟩:=jI.1 h1
  by_cases O:G.M k
  ·rw[Uc8 O]at A;exact⟨.inl O,fr,by rw[h2,yb A J]⟩
  ·by_cases V:G.S k
   ·rw[de O V]at A;refine⟨.inr V,?_⟩;cases o' with
    |cells c2 e2 f2=>simp only[cU]at A;cases A;exact⟨_,h2⟩
    |_=>simp only[cU,bj]at A;cases A;exact absurd rfl J
   ·exfalso;rw[dV O V]at A;cases hF:G.F k with
    |none=>rw[hF]at A;simp only[bj]at A;cases A;exact J rfl
    |some u=>rw[hF]at A;simp only[cq]at A;cases A
 have Z:G.M c:=(own_c w hv).1;have hnL:¬L c:=λh=>by
  obtain⟨C,t,fr,-,h2⟩:=hL c h;rw[hc]at h2;cases h2
 refine hC.spawn rfl G w _ c val (λk=>L k/\G.M k) hf.toFit rfl Z (λh=>hnL h.1) (λk h=>h.2) λw₁ hr₁=> ?_
 have hf₁:=hf.rely hr₁;have hg₁:=hv.trans (hr₁.view hf.toFit);obtain⟨-,hcw⟩:=own_c w₁ hg₁;have hfk:Fit (G.kid λk=>L k/\G.M k) w₁:=⟨λk hk=>hk.elim,λk hk=>⟨hk.elim (λx=>(hf₁.s k x).1) λx=>hf₁.m k x.2,λx=>x⟩,λk u hk=>by cases hk⟩;have hfl:Fit (G.lend c val λk=>L k/\G.M k) w₁:=⟨λk hk=>hf₁.m k hk.1,λk hk=>⟨hk.elim (λx=>(hf₁.s k x).1) λx=>hf₁.m k x.2,λx=>hk.elim (λy=>(hf₁.s k y).2 x.1) λy=>x.2.2 y⟩,λk u hk=>by
  simp only[Gh.lend]at hk;split at hk
  ·rename_i e;subst e;exact⟨hf₁.m _ Z,λx=>x.2.1 rfl,λx=>x.elim (λy=>(hf₁.s _ y).2 Z) λy=>hnL y.1⟩
  ·obtain⟨q1,q2,q3⟩:=hf₁.f k u hk;exact⟨q1,λx=>q2 x.1,λx=>x.elim q3 λy=>q2 y.2⟩⟩
 refine⟨_,_,#[],ea (mn:=md F) ho hb hw hd hn (hr w₁),λe he=>by simp at he,⟨s,tm,hcw⟩,rfl,?_,?_⟩
 ·refine hkid _ w₁ hfk rfl λk C t fr hk U=> ?_
  obtain⟨hms,fr',hkw⟩:=seen_L w₁ hg₁ k C t fr hk U;have hS:(G.kid λk=>L k/\G.M k).S k:=hms.elim (λx=>.inr ⟨hk,x⟩) .inl;exact⟨_,by rw[cp,hkw,jE,de (hfk.s k hS).2 hS];rfl⟩
 ·have hL':∀k C t fr,L k->v.heap[k]?=some (.cells C t fr)->∃fr',(view (G.lend c val λk=>L k/\G.M k) w₁).heap[k]?=some (.cells C t fr'):=λk C t fr hk U=>by
   obtain⟨hms,fr',hkw⟩:=seen_L w₁ hg₁ k C t fr hk U;have hS:(G.lend c val λk=>L k/\G.M k).S k:=hms.elim (λx=>.inr ⟨hk,x⟩) .inl;exact⟨_,by rw[cp,hkw,jE,de (hfl.s k hS).2 hS];rfl⟩
  have hFc:F c=none:=by cases hx:F c with|none=>rfl|some u=>exact absurd Z (hf.f c u (by rw[hf.eqF];exact hx)).2.1
  refine hQ _ (view (G.lend c val λk=>L k/\G.M k) w₁) _ (hK _ hFc ⟨hg₁.os,hg₁.tape,hg₁.output,by simpa using hg₁.size,λk hk J=> ?_⟩ hL') _ w₁ ⟨hfl,?_⟩ (Ge.refl _)
  ·simp only[not_or]at J;refine Eq.trans ?_ (hg₁.block k hk);rw[cp,cp];congr 1;funext o
   by_cases O:G.M k
   ·rw[Uc8 O,Uc8 (show (G.lend c val λk=>L k/\G.M k).M k from ⟨O,J.1,λx=>J.2 x.1⟩)]
   ·have hm':¬(G.lend c val λk=>L k/\G.M k).M k:=λx=>O x.1
    by_cases V:G.S k
    ·rw[de O V,de hm' (show (G.lend c val λk=>L k/\G.M k).S k from .inl V)]
    ·have hs':¬(G.lend c val λk=>L k/\G.M k).S k:=λx=>x.elim V λy=>J.2 y.1
     rw[dV O V,dV hm' hs'];simp only[Gh.lend,if_neg J.1]
  ·simp only[Gh.lend,hf.eqF]
def ei(P:QD)(ops:Array QN)(i:Nat)(K:Act->QB->Fd->Prop)(a:Act)(v:QB)(F:Fd):Prop:=
 match ops[i]? with|none=>K a v F|some o=>if Region.wanted o (yielded ops a.tmps) then lM P o a v F K else K (a.put o.dst undef) v F
def OpsF(P:QD)(ops:Array QN)(K:Act->QB->Fd->Prop):List Nat->Act->QB->Fd->Prop
 |[],a,v,F=>K a v F
 |i::rest,a,v,F=>ei P ops i (OpsF P ops K rest) a v F
theorem pD{ops:Array QN}{Pr:Gh->QB->QG->Prop}(hC:Closed P true Pr){b:QL}(hb:b.kind ≠ .early){k:List _root_.Go.Item}{cs:List QL}:
  ∀(l:List Nat) (a:Act) (v:QB) (F:Fd),OpsF P ops K l a v F->∀(G:Gh) (w:QB),FitM (md F) G w->Ge v (view G w) ->
   (∀a' v' F',K a' v' F'->∀G' w',FitM (md F') G' w'->Ge v' (view G' w')->Pr G' w' (gr (b.atR a' k) cs))->Pr G w (gr (b.atR a (.inRegion ops l::k)) cs)
 |[],a,v,F,h,G,w,hf,hv,hQ=>hC.calm (mn:=md F) hf rfl (λw=>vj) λw₁ hf₁ hg=>hQ a v F h G w₁ hf₁ (hv.trans hg)
 | i::rest,a,v,F,h,G,w,hf,hv,hQ=>by
  unfold OpsF ei at h;cases ho:ops[i]? with
  |none=>
   rw[ho]at h;have hs:=λw=>pt (P:=P) (mn:=md F) (b:=b) (a:=a) (k:=k) (cs:=cs) (w:=w) (ops:=ops) (i:=i) (rest:=rest) (by simp[ho])
   simp only[ho,Option.bind_none,Act.put]at hs;exact hC.calm (mn:=md F) hf rfl hs λw₁ hf₁ hg=>pD hC hb rest a v F h G w₁ hf₁ (hv.trans hg) hQ
  | some o=>
   rw[ho]at h;dsimp only at h
   by_cases hw:Region.wanted o (yielded ops a.tmps)=true
   ·rw[if_pos hw]at h;exact h Pr hC b hb k cs ops i rest ho hw G w hf hv λa' v' F' hk G' w' hf' hv'=>pD hC hb rest a' v' F' hk G' w' hf' hv' hQ
   ·rw[if_neg hw]at h;have hs:=λw=>pt (P:=P) (mn:=md F) (b:=b) (a:=a) (k:=k) (cs:=cs) (w:=w) (ops:=ops) (i:=i) (rest:=rest) (by simp[ho];simpa using hw)
    simp only[ho,Option.bind_some]at hs;exact hC.calm (mn:=md F) hf rfl hs λw₁ hf₁ hg=>pD hC hb rest _ v F h G w₁ hf₁ (hv.trans hg) hQ
theorem nz{ops:Array QN}{i:Nat}{rest:List Nat}(ho:ops[i]?=some o)(A:o.guard=none)(h:lM P o a v F (OpsF P ops K rest)):OpsF P ops K (i::rest) a v F:=by unfold OpsF ei;rw[ho];dsimp only;rw[if_pos (by unfold Region.wanted;rw[A])];exact h
theorem Zxb{id:Nat}{ops:Array QN}(h:OpsF P ops (Q .normal) (List.range ops.size) a v F):WpF ro P (.region id ops false) Q a v F:=λPr O b hb A k cs G w U V Z=>
 O.calm (mn:=md F) U rfl (λw=>yj) λw₁ hf₁ hg=>pD O (Ypa A) _ a v F h G w₁ hf₁ (V.trans hg) λa' v' F' hq G' w' J L=>Z .normal a' v' F' hq G' w' J L
theorem Yr1{f:QF}{fn:Func}(Z:P.funcs[f]?=some fn){c:QOq}(hb:fn.body=some c){args:QA}{R:QC->QB->Fd->Prop}
  (h:WpF none P c (λe A v' F'=>(e=.normal\/e=.ret)/\A.defers=[]/\∀v₁,Ge v' v₁->∃r,(results fn A.tmps).run P v₁=.ok r v₁/\R r v₁ F') { tmps:=args++jG (fn.ntmps - args.size) undef,defers:=[] } v F):Udr P f args v F R:=λPr hC cs G w J hv hQ=>by
 let b:QL:={ fn:=f,tmps:=#[],todo:=[],defers:=[],mode:=.run,kind:=.normal }
 have he:Frame.enter P f args .normal=b.atR { tmps:=args++jG (fn.ntmps - args.size) undef,defers:=[] } [.code c]:=by simp[Frame.enter,Frame.atR,b,Z,hb]
 rw[he];refine h Pr hC b rfl rfl [] cs G w J hv λe A v' F' hq G' w' L O=> ?_
 obtain⟨U,V,hl⟩:=hq;have go:∀k:List _root_.Go.Item,(∀w,stepG P true (gr (b.atR A k) cs) w=.go (gr { b.atR A k with mode:=.returning } cs) w #[])->Pr G' w' (gr (b.atR A k) cs):=λk hs=>
  hC.calm (mn:=md F') L rfl hs λw₁ hf₁ hg=>hQ v' F' _ rfl ⟨rfl,V,rfl,fn,Z,λv₁ hg₁=>by
   obtain⟨r,q1,q2⟩:=hl v₁ hg₁;exact⟨r,(Zok fn A.tmps).tr q1,q2⟩⟩ G' w₁ hf₁ (O.trans hg)
 rcases U with rfl|rfl
 ·exact go [] λw=>by simp[gr,stepG,stepG.exec,Frame.atR,b]
 ·exact λk₁=>go _ λw=>by simp[gr,stepG,stepG.exec,Frame.atR,b]
end
end
section
variable {mn:Md}
section
variable {P:QD} {IC:QF->ICon->Prop} {Γ:Cons} {W0:QB} {n0:Nat} {D:List Nat} {ρ0:Nat->Ad}
theorem yN(hΓ:ConsOkX mn P IC Γ){ops:Array QN}{base:Nat}(hbase:n0<=base){α:Type}{K:St->Option α}{r:α}{K':Act->QB->Prop}:
  ∀(l:List QN) (i:Nat) (t:List QN),ops.toList.drop i=l++t->∀{ρ:Nat->Ad} {st:St} {a:Act} {w:QB},R P W0 n0 D ρ0 ρ st a w->bS P Γ ops base l i st K=some r ->
   (∀ρ' st' a' w',K st'=some r->R P W0 n0 D ρ0 ρ' st' a' w'->Ext (wrL l) base ρ ρ' st st'->K' a' w')->OpsX mn P ops K' (jC i l.length) a w
 |[],i,t,_,ρ,st,a,w,hR,hr,hQ=>hQ ρ st a w hr hR (.refl _ _ _ _)
 | o::l,i,t,hl,ρ,st,a,w,hR,hr,hQ=>by
  have ho:ops[i]?=some o:=by
   have:=congrArg (λx=>x[0]?) hl
   simpa using this
  have hl':ops.toList.drop (i+1)=l++t:=by
   have:=congrArg List.tail hl
   simpa [List.tail_drop] using this
  rw[List.length_cons,List.range'_succ,OpsX];have next:∀{ρ1:Nat->Ad} {st1:St} {a1:Act} {w1:QB},bS P Γ ops base l (i+1) st1 K=some r->R P W0 n0 D ρ0 ρ1 st1 a1 w1->Ext (wrL (o::l)) base ρ ρ1 st st1->OpsX mn P ops K' (jC (i+1) l.length) a1 w1:=
   λh1 hR1 he=>yN hΓ hbase l (i+1) t hl' hR1 h1 λρ' st' a' w' hk hR' he'=>hQ ρ' st' a' w' hk hR' (he.trans (he'.mono vQ (jF _)))
  have hWd:∀d,o.dst=some d->d∈wrL (o::l):=λd hd=>ij d (by rw[hd];exact List.mem_singleton.2 rfl)
  unfold bS at hr;split at hr
  ·rename_i hg;refine fw ho (by simp[Region.wanted,hg]) (Zj6 hΓ hR (by omega) hr (Nat.le_add_right base i) λρ' st' a' w' hk hR' he=>next hk hR' (he.mono ij (jF _)))
  ·rename_i j want hg;split at hr
   ·cases hr
   ·rename_i d hd;split at hr
    ·rename_i t hslot;have hs:=getD_some hslot (by intro h;cases h);have hy:=pR hd hR hs;have hwant:Region.wanted o (yielded ops a.tmps)=(t==want):=by simp[Region.wanted,hg,hy]
     cases t with
     | true=>have hR2:=hR.known hs (t':=true) rfl;have he2:Ext (wrL (o::l)) base ρ ρ st { st with s:=st.s.set d (.a (.b true)) }:=pS hs rfl;simp only[Q1]at hr;cases want with|true=>simp only[Q1]at hr;exact fw ho (by rw[hwant];rfl) (Zj6 hΓ hR2 (by omega) hr (Nat.le_add_right base i) λρ' st' a' w' hk hR' he=>next hk hR' (he2.trans (he.mono ij (jF _))))|false=>simp only[Q2]at hr;exact kK ho (by rw[hwant];rfl) (next hr (hR2.skip o.dst) (he2.trans (Zmy hWd)))
     | false=>have hR2:=hR.known hs (t':=false) rfl;have he2:Ext (wrL (o::l)) base ρ ρ st { st with s:=st.s.set d (.a (.b false)) }:=pS hs rfl;simp only[Q2]at hr;cases want with|true=>simp only[Q1]at hr;exact kK ho (by rw[hwant];rfl) (next hr (hR2.skip o.dst) (he2.trans (Zmy hWd)))|false=>simp only[Q2]at hr;exact fw ho (by rw[hwant];rfl) (Zj6 hΓ hR2 (by omega) hr (Nat.le_add_right base i) λρ' st' a' w' hk hR' he=>next hk hR' (he2.trans (he.mono ij (jF _))))
    ·rename_i hslot;have hs:=getD_some hslot (by intro h;cases h);have hy:=vP hd hR hs;exact kK ho (by simp[Region.wanted,hg,hy]) (next hr (hR.skip o.dst) (Zmy hWd))
    ·cases hr
theorem pE{ops:Array QN}{J K:Act->QB->Prop}{rest:List Nat}:∀(l:List Nat) (a:Act) (v:QB),OpsX mn P ops J l a v->(∀L v',J L v'->OpsX mn P ops K rest L v')->OpsX mn P ops K (l++rest) a v
 |[],a,v,h,A=>A a v h
 |i::l,a,v,h,A=>by
  rw[List.cons_append,OpsX];exact OpIX.mono (λa v h'=>pE l a v h' A) h
theorem gM{F:Fd}{ops:Array QN}{i:Nat}{K:Act->QB->Fd->Prop}{a:Act}{v:QB}(h:OpIX (md F) P ops i (λa v=>K a v F) a v):ei P ops i K a v F:=by
 unfold OpIX at h;unfold ei;split
 ·rename_i ho;rw[ho]at h;exact h
 ·rename_i o ho;rw[ho]at h;dsimp only at h;split
  ·rename_i A;rw[if_pos A]at h;exact Yxj h
  ·rename_i A;rw[if_neg A]at h;exact h
theorem yO{F:Fd}{ops:Array QN}{J:Act->QB->Prop}{K:Act->QB->Fd->Prop}{rest:List Nat}:∀(l:List Nat) (a:Act) (v:QB),OpsX (md F) P ops J l a v->(∀L v',J L v'->OpsF P ops K rest L v' F)->OpsF P ops K (l++rest) a v F
 |[],a,v,h,A=>A a v h
 |i::l,a,v,h,A=>by
  rw[List.cons_append,OpsF];exact gM (OpIX.mono (λa v h'=>yO l a v h' A) h)
theorem cB(a:Act)(d:Option Tmp)(v:QC):(a.put d v).defers=a.defers:=by cases d<;>rfl
theorem yP{o:QN}{a:Act}{v:QB}{K:Act->QB->Prop}(h:OpX mn P o a v K):OpX mn P o a v λa' v'=>K a' v'/\a'.defers=a.defers:=
 ⟨h.1,fun v₁ h₁=>by
  rcases h.2 v₁ h₁ with ⟨vv,v',h1,h2⟩ | ⟨v',h1,h2⟩ | ⟨f,args,v',h1,h2⟩ | ⟨l,f,tmps,assign,body,v',h1,h2⟩
  ·exact .inl ⟨vv,v',h1,h2,cB _ _ _⟩
  ·exact .inr (.inl ⟨v',h1,h2,cB _ _ _⟩)
  ·exact .inr (.inr (.inl ⟨f,args,v',h1,h2.mono λ_ _ h=>⟨h,cB _ _ _⟩⟩))
  ·exact .inr (.inr (.inr ⟨l,f,tmps,assign,body,v',h1,h2.mono λ_ _ h=>⟨h,cB _ _ _⟩⟩))⟩
theorem Yld{ops:Array QN}{i:Nat}{a:Act}{v:QB}{K:Act->QB->Prop}(h:OpIX mn P ops i K a v):OpIX mn P ops i (λJ v'=>K J v'/\J.defers=a.defers) a v:=by
 unfold OpIX at h|-
 split
 ·rename_i ho;rw[ho]at h;exact⟨h,rfl⟩
 ·rename_i o ho;rw[ho]at h;dsimp only at h;split
  ·rename_i A;rw[if_pos A]at h;exact yP h
  ·rename_i A;rw[if_neg A]at h;exact⟨h,cB _ _ _⟩
theorem Yl7{ops:Array QN}{K:Act->QB->Prop}:∀(l:List Nat) (a:Act) (v:QB),OpsX mn P ops K l a v->OpsX mn P ops (λA v'=>K A v'/\A.defers=a.defers) l a v
 |[],a,v,h=>⟨h,rfl⟩
 |i::l,a,v,h=>by
  rw[OpsX]at h|-
  refine OpIX.mono (λA v' h'=> ?_) (Yld h);have:=Yl7 l A v' h'.1;rw[h'.2]at this;exact this
def iW:VB->Bool
 |.no=>true
 |.row _ _=>true
 |_=>false
structure RR (P:QD) (W0:QB) (ρ:Nat->Ad) (s:List SV) (h:List VB) (a:Act) (v:QB):Prop where
 len:s.length=a.tmps.size
 slots:∀(i:Nat) (x:SV),s[i]?=some x->IsV P ρ h x (a.tmps.getD i undef)
 heap:HIs P ρ h v
 rows:h.all iW=true
 fresh:∀n C t,h[n]?=some (.row C t)->W0.heap.size<=(ρ n).a
 kept:Kept (λ_=>False) W0 v
 defers:a.defers=[]
theorem gN{h:List VB}(A:h.all iW=true){n:Nat}{b:VB}(J:h[n]?=some b):b=.no\/∃C t,b=.row C t:=by have:=jA.1 A b (jB J);cases b with|no=>exact .inl rfl|row C t=>exact .inr ⟨C,t,rfl⟩|_=>cases this
theorem nA{h:List VB}(A:h.all iW=true){n:Nat}(J:present h n):∃C t,h[n]?=some (.row C t):=by
 cases J with
 |row e=>exact⟨_,_,e⟩
 |one e=>rcases gN A e with x | ⟨_,_,x⟩<;>cases x
 |own e _ _=>rcases gN A e with x | ⟨_,_,x⟩<;>cases x
theorem RR.r{ρ:Nat->Ad}{s:List SV}{h:List VB}{a:Act}{v:QB}(hR:RR P W0 ρ s h a v):R P v h.length [] ρ ρ ⟨s,h,[]⟩ a v:=
 ⟨hR.len,hR.slots,hR.heap,fun _ _=>rfl,fun n hn hp=>by
  obtain⟨C,t,e⟩:=nA hR.rows hp;have:=(jJ.1 e).1;omega,Kept.refl _ _,λn len C e _ he=>(by rcases gN hR.rows he with x | ⟨_,_,x⟩<;>cases x),by rw[hR.defers];exact DefOk.nil _ _,jF _⟩
def Uda(l:List Nat):List SV->Nat->List SV
 |[],_=>[]
 |v::r,i=>(bif Uan i l then v else .a .x)::Uda l r (i+1)
def Ucd(l:List Nat):Nat->List VB->Nat->List VB
 |0,_,_=>[]
 |n+1,h,i=>(bif Uan i l then h.headD .no else .no)::Ucd l n h.tail (i+1)
def refA(l:List Nat):SA->Bool
 |.x=>true
 |.p n _ _=>Uan n l
 |.w n=>Uan n l
 |.c _ ns=>ns.all (Uan · l)
 |.r _ _ _=>false
 |y=>iv y
def refV(l:List Nat):SV->Bool
 |.a y=>refA l y
 |.t ys=>ys.all (refA l)
def fx:List VB->List VB->Bool
 |.no::h,b::h'=>(match b with | .no=>true|_=>false)&&fx h h'
 |_::h,_::h'=>fx h h'
 |_,_=>true
def rowAt(h:List VB)(n:Nat):Bool:=match h[n]? with|some (.row _ _)=>true|_=>false
def selK(h:List VB)(kS kH dd:List Nat)(nS nH:Nat)(st:St):Option (List SV×List VB):=
 bif Nat.beq st.s.length nS&&(st.d.all (λn=>Nat.ble h.length n||(rowAt h n&&Uan n dd))&&fx h st.h&&((Uda kS st.s 0).all (refV kH)&&(Ucd kH nH st.h 0).all iW)) then some (Uda kS st.s 0,Ucd kH nH st.h 0) else none
theorem df{i:Nat}:∀{l:List Nat},Uan i l=true ↔ i∈l
 |[]=>by simp[Uan]
 | x::l=>by
  unfold Uan;constructor
  ·intro h;cases hb:Nat.beq i x with|true=>exact List.mem_cons.2 (.inl (Nat.eq_of_beq_eq_true hb))|false=>rw[hb]at h;exact List.mem_cons.2 (.inr (df.1 (by simpa using h)))
  ·intro h;rcases List.mem_cons.1 h with rfl|h
   ·simp
   ·have:=df.2 h;simp[this]
theorem vt(l:List Nat):∀(s:List SV) (i:Nat),(Uda l s i).length=s.length
 |[],_=>rfl
 |v::r,i=>by simp[Uda,vt l r (i+1)]
theorem pF(l:List Nat):∀(s:List SV) (i j:Nat),(Uda l s i)[j]?=(s[j]?).map λv=>bif Uan (i+j) l then v else .a .x
 |[],_,_=>by simp[Uda]
 |v::r,i,0=>by simp[Uda]
 |v::r,i,j+1=>by simp only[Uda,List.getElem?_cons_succ];rw[pF l r (i+1) j,show i+1+j=i+(j+1) by omega]
theorem nB(l:List Nat):∀(n:Nat) (h:List VB) (i j:Nat),j<n->(Ucd l n h i)[j]?=some (bif Uan (i+j) l then h.getD j .no else .no)
 |0,_,_,_,A=>by omega
 |n+1,h,i,0,_=>by cases h<;>simp[Ucd]
 |n+1,h,i,j+1,A=>by
  simp only[Ucd,List.getElem?_cons_succ];rw[nB l n h.tail (i+1) j (by omega),show i+1+j=i+(j+1) by omega];cases h<;>simp
theorem vu(l:List Nat):∀(n:Nat) (h:List VB) (i:Nat),(Ucd l n h i).length=n
 |0,_,_=>rfl
 |n+1,h,i=>by simp[Ucd,vu l n h.tail (i+1)]
theorem vw:∀{h h':List VB},fx h h'=true->∀{n:Nat} {b:VB},h[n]?=some .no->h'[n]?=some b->b=.no
 |[],_,_,n,b,A,_=>by simp at A
 |x::h,[],_,n,b,_,J=>by simp at J
 |x::h,y::h',L,0,b,A,J=>by
  simp only[List.getElem?_cons_zero,Q8]at A J;subst A;subst J;cases y<;>first|rfl | (simp[fx]at L)
 | x::h,y::h',L,n+1,b,A,J=>by
  have O:fx h h'=true:=by cases x<;>simp only[fx]at L<;>first|exact L|exact(Bool.and_eq_true_iff.1 L).2
  exact vw O (by simpa using A) (by simpa using J)
theorem yQ{l:List Nat}{ρ:Nat->Ad}{h h':List VB}(hl:∀(n:Nat) (b:VB),n∈l->h[n]?=some b->h'[n]?=some b){y:SA}(A:refA l y=true){v:QC}(hi:Is P ρ h y v):Is P ρ h' y v:=by
 have th:∀n,n∈l->there h n->there h' n:=λn J L=>by
  cases L with|row e=>exact there.row (hl n _ J e)|one e=>exact there.one (hl n _ J e)
 cases y with
 |x=>trivial
 |p n o T=>obtain⟨O,h2,t,U,V⟩:=hi;exact⟨O,h2,t,U.imp (λ⟨C,e⟩=>⟨C,hl n _ (df.1 A) e⟩) (λ⟨y,e⟩=>⟨y,hl n _ (df.1 A) e⟩),V⟩
 |w n=>exact⟨hi.1,th n (df.1 A) hi.2⟩
 |c f ns=>exact⟨hi.1,λn J=>th n (df.1 (jA.1 A n J)) (hi.2 n J)⟩
 |l _=>cases A
 |q _ _ _=>cases A
 |e _=>cases A
 |r _ _ _=>cases A
 |_=>exact hi
theorem yR{l:List Nat}{ρ:Nat->Ad}{h h':List VB}(hl:∀(n:Nat) (b:VB),n∈l->h[n]?=some b->h'[n]?=some b){y:SV}(A:refV l y=true){v:QC}(hi:IsV P ρ h y v):IsV P ρ h' y v:=by cases y with|a y=>exact yQ hl A hi|t ys=>obtain⟨vs,L,h2,O⟩:=hi;exact⟨vs,L,h2,λi y v J U=>yQ hl (jA.1 A y (jB J)) (O i y v J U)⟩
theorem RR.sel{ρ ρ':Nat->Ad}{s s':List SV}{h h':List VB}{a a':Act}{v v':QB}{st:St}{kS kH dd:List Nat}{nS nH m:Nat}(V:RR P W0 ρ s h a v)(hk:selK h kS kH dd nS nH st=some (s',h'))(hkH:kH.all (Nat.blt · nH)=true)
  (L:R P v h.length [] ρ ρ' st a' v') (hd:a'.defers=[]) (hE:Ext D h.length ρ ρ' ⟨s,h++jD m .no,[]⟩ st) :
  RR P W0 ρ' s' h' a' v'/\Kept (λk=>∃n C t,n∈dd/\h[n]?=some (.row C t)/\(ρ n).a=k) v v'/\∀n,n<h.length->ρ' n=ρ n:=by
 unfold selK at hk;cases Z:Nat.beq st.s.length nS&&(st.d.all (λn=>Nat.ble h.length n||(rowAt h n&&Uan n dd))&&fx h st.h&&((Uda kS st.s 0).all (refV kH)&&(Ucd kH nH st.h 0).all iW)) with
 |false=>rw[Z]at hk;cases hk
 |true=>
 rw[Z]at hk;simp only[Q7]at Z;obtain⟨h1,⟨h0,h2⟩,h3,h4⟩:=Z;simp only[Q1,Q8,Q0]at hk;obtain⟨rfl,rfl⟩:=hk;have hlen:h.length<=st.h.length:=by have:=hE.hlen;simp at this;omega
 have hget:∀(n:Nat) (b:VB),n∈kH->st.h[n]?=some b->(Ucd kH nH st.h 0)[n]?=some b:=λn b hn J=>by
  have hnH:n<nH:=by have:=jA.1 hkH n hn;simp[Nat.blt]at this;omega
  rw[nB kH nH st.h 0 n hnH,Nat.zero_add,df.2 hn,Q1,List.getD_eq_getElem?_getD,J];rfl
 have O:∀(n:Nat) (C:QA) (t:QE),(Ucd kH nH st.h 0)[n]?=some (VB.row C t)->st.h[n]?=some (VB.row C t):=λn C t e=>by
  have U:=(jJ.1 e).1;rw[vu]at U;rw[nB kH nH st.h 0 n U,Nat.zero_add]at e;cases J:Uan n kH with|false=>rw[J]at e;simp at e|true=>rw[J,Q1,List.getD_eq_getElem?_getD]at e;cases hs:st.h[n]? with|none=>rw[hs]at e;simp at e|some b=>rw[hs]at e;simpa using e
 -- names of rows that are kept
 have hrow:∀n,n∈st.d->n<h.length->(∃C t,h[n]?=some (.row C t))/\n∈dd:=λn hn U=>by
  have:=jA.1 h0 n hn;rw[Bool.or_eq_true,Q7]at this;rcases this with h | ⟨h,hd⟩
  ·have:=Nat.le_of_ble_eq_true h;omega
  ·refine⟨?_,df.1 hd⟩;unfold rowAt at h;split at h
   ·rename_i C t e;exact⟨C,t,e⟩
   ·cases h
 have A:Kept (λk=>∃n C t,h[n]?=some (.row C t)/\(ρ n).a=k) v v':=L.keptR.mono λk _ ⟨n,hn,hd',hρ⟩=>by
  obtain⟨⟨C,t,e⟩,_⟩:=hrow n (hd'.elim id λx=>by cases x) hn;exact⟨n,C,t,e,hρ⟩
 have hrowd:Kept (λk=>∃n C t,n∈dd/\h[n]?=some (.row C t)/\(ρ n).a=k) v v':=L.keptR.mono λk _ ⟨n,hn,hd',hρ⟩=>by
  obtain⟨⟨C,t,e⟩,hdd⟩:=hrow n (hd'.elim id λx=>by cases x) hn;exact⟨n,C,t,hdd,e,hρ⟩
 refine⟨⟨by rw[vt];exact L.len,λi x hx=> ?_,⟨λn b J=> ?_,λn k hp hq=> ?_,λn b k J hf=> ?_⟩,h4,λn C t e=> ?_,?_,hd⟩,hrowd,hE.ren⟩
 ·rw[pF,Nat.zero_add]at hx;cases hs:st.s[i]? with
  |none=>rw[hs]at hx;cases hx
  | some y=>rw[hs,jE,Q8]at hx;have hr:refV kH x=true:=jA.1 h3 x (jB (i:=i) (by rw[pF,hs,Nat.zero_add,jE,hx]));cases J:Uan i kS with|false=>rw[J]at hx;subst hx;trivial|true=>rw[J]at hx;subst hx;have hi:=L.slots i _ hs;exact yR hget hr hi
 ·rcases gN h4 J with rfl | ⟨C,t,rfl⟩
  ·trivial
  ·exact L.heap.is n _ (O n C t J)
 ·obtain⟨C,t,e⟩:=nA h4 hp;obtain⟨C',t',e'⟩:=nA h4 hq;exact L.heap.inj n k (.row (O n C t e)) (.row (O k C' t' e'))
 ·rcases gN h4 J with rfl | ⟨C,t,rfl⟩<;>cases hf
 ·have e':=O n C t e
  by_cases U:n<h.length
  ·rw[hE.ren n U];cases J:h[n]? with
   |none=>have:=List.getElem?_eq_none_iff.1 J;omega
   |some b=>
    rcases gN V.rows J with rfl | ⟨C',t',rfl⟩
    ·have:=vw h2 J e';cases this
    ·exact V.fresh n C' t' J
  ·exact Nat.le_trans V.kept.size (L.freshR n (by omega) (.row e'))
 ·refine⟨A.os.trans V.kept.os,A.tape.trans V.kept.tape,A.output.trans V.kept.output,Nat.le_trans V.kept.size A.size,λk hk _=> ?_⟩;refine(A.block k (Nat.lt_of_lt_of_le hk V.kept.size) ?_).trans (V.kept.block k hk not_false);rintro⟨n,C,t,e,rfl⟩;have:=V.fresh n C t e;omega
theorem OpsX.mono{ops:Array QN}{K K':Act->QB->Prop}(hk:∀a v,K a v->K' a v):∀(l:List Nat) (a:Act) (v:QB),OpsX mn P ops K l a v->OpsX mn P ops K' l a v
 |[],a,v,h=>hk a v h
 |i::l,a,v,h=>by
  rw[OpsX]at h|-
  exact OpIX.mono (λa v h'=>OpsX.mono hk l a v h') h
def Went(ρ ρ':Nat->Ad)(h:List VB)(dd:List Nat)(v v':QB):Prop:=Kept (λk=>∃n C t,n∈dd/\h[n]?=some (VB.row C t)/\(ρ n).a=k) v v'/\∀n,n<h.length->ρ' n=ρ n
theorem Zs8(V:ConsOkX mn P IC Γ){ρ:Nat->Ad}{s s':List SV}{h h':List VB}{a:Act}{v:QB}(L:RR P W0 ρ s h a v){ops:Array QN}{l t:List QN}{i:Nat}(hl:ops.toList.drop i=l++t){kS kH dd:List Nat}{nS nH:Nat}(m:Nat)
  (O:kH.all (Nat.blt · nH)=true) (Z:bS P Γ ops h.length l i ⟨s,h++jD m .no,[]⟩ (selK h kS kH dd nS nH)=some (s',h')) :
  OpsX mn P ops (λJ v'=>∃ρ',RR P W0 ρ' s' h' J v'/\Went ρ ρ' h dd v v') (jC i l.length) a v:=by
 have h1:=yN (W0:=v) (n0:=h.length) (D:=[]) (ρ0:=ρ) V (base:=h.length) (jF _) l i t hl (L.r.room m).1 Z (K':=λJ v'=>∃ρ' st',selK h kS kH dd nS nH st'=some (s',h')/\R P v h.length [] ρ ρ' st' J v'/\Ext (wrL l) h.length ρ ρ' ⟨s,h++jD m .no,[]⟩ st')
  λρ' st' J w' hk A U=>⟨ρ',st',hk,A,U⟩
 refine OpsX.mono ?_ _ _ _ (Yl7 _ _ _ h1);rintro J v' ⟨⟨ρ',st',hk,A,U⟩,hd⟩;obtain⟨q1,q2,q3⟩:=L.sel hk O A (hd.trans L.defers) U;exact⟨ρ',q1,q2,q3⟩
theorem Zvc{ro:Option Nat}{Q:Exit->Act->QB->Prop}(L:ConsOkX mn P IC Γ){ρ:Nat->Ad}{s s':List SV}{h h':List VB}{a:Act}{v:QB}(O:RR P W0 ρ s h a v){id:Nat}{ops:Array QN}{kS kH dd:List Nat}{nS nH:Nat}(m:Nat)
  (J:kH.all (Nat.blt · nH)=true) (U:bS P Γ ops h.length ops.toList 0 ⟨s,h++jD m .no,[]⟩ (selK h kS kH dd nS nH)=some (s',h'))
  (next:∀ρ' A v',RR P W0 ρ' s' h' A v'->Went ρ ρ' h dd v v'->Q .normal A v'):WpX mn ro P (.region id ops false) Q a v:=by
 refine Za2 ?_;rw[List.range_eq_range',<- Array.length_toList];exact OpsX.mono (λA v' ⟨ρ',V,Z⟩=>next ρ' A v' V Z) _ _ _ (Zs8 (t:=[]) L O (by simp) m J U)
theorem Zdo{F:Fd}{ro:Option Nat}{Q:Ue0}(L:ConsOkX (md F) P IC Γ){ρ:Nat->Ad}{s s':List SV}{h h':List VB}{a:Act}{v:QB}(O:RR P W0 ρ s h a v){id:Nat}{ops:Array QN}{kS kH dd:List Nat}{nS nH:Nat}(m:Nat)
  (A:kH.all (Nat.blt · nH)=true) (U:bS P Γ ops h.length ops.toList 0 ⟨s,h++jD m .no,[]⟩ (selK h kS kH dd nS nH)=some (s',h'))
  (next:∀ρ' J v',RR P W0 ρ' s' h' J v'->Went ρ ρ' h dd v v'->Q .normal J v' F):WpF ro P (.region id ops false) Q a v F:=
 pC (Zvc L O m A U next)
structure S0 (P:QD) (s:List SV) (a:Act):Prop where
 len:s.length=a.tmps.size
 slots:∀(i:Nat) (x:SV),s[i]?=some x->IsV P bN [] x (a.tmps.getD i undef)
 defers:a.defers=[]
theorem hisNil(ρ:Nat->Ad)(v:QB):HIs P ρ [] v:=⟨λn b h=>by simp at h,λn m h=>by cases h with|row h=>simp at h|one h=>simp at h|own h _ _=>simp at h,λn b k h=>by simp at h⟩
theorem S0.rr{s:List SV}{a:Act}(h:S0 P s a)(v:QB):RR P v bN s [] a v:=⟨h.len,h.slots,hisNil _ _,rfl,λn C t h=>by simp at h,Kept.refl _ _,h.defers⟩
theorem yS{ρ ρ':Nat->Ad}{y:SA}(A:refA [] y=true){v:QC}(hi:Is P ρ [] y v):Is P ρ' [] y v:=by
 cases y with
 |x=>trivial
 |p n o T=>cases A
 |w n=>cases A
 |c f ns=>cases ns with|nil=>exact⟨hi.1,λn J=>by cases J⟩|cons n ns=>simp[refA,Uan]at A
 |l _=>cases A
 |q _ _ _=>cases A
 |e _=>cases A
 |r _ _ _=>cases A
 |_=>exact hi
theorem ej{ρ ρ':Nat->Ad}{y:SV}(A:refV [] y=true){v:QC}(hi:IsV P ρ [] y v):IsV P ρ' [] y v:=by cases y with|a y=>exact yS A hi|t ys=>obtain⟨vs,L,h2,O⟩:=hi;exact⟨vs,L,h2,λi y v J U=>yS (jA.1 A y (jB J)) (O i y v J U)⟩
theorem RR.s0{ρ:Nat->Ad}{s:List SV}{a:Act}{v:QB}(h:RR P W0 ρ s [] a v)(J:s.all (refV [])=true):S0 P s a:=
 ⟨h.len,λi x A=>ej (jA.1 J x (jB A)) (h.slots i x A),h.defers⟩
theorem Zol{ρ ρ':Nat->Ad}{hh:List VB}{v v':QB}(h:Went ρ ρ' hh [] v v'):Ge v v':=by obtain⟨A,h2,J,L,O⟩:=h.1;exact⟨A,h2,J,L,λk hk=>O k hk λ⟨n,_,_,U,_⟩=>by cases U⟩
theorem S0.val{s:List SV}{a:Act}(h:S0 P s a){i:Nat}{y:SA}(hi:s[i]?=some (.a y)):Is P bN [] y (a.tmps.getD i undef):=h.slots i _ hi
theorem S0.put{s:List SV}{a:Act}(h:S0 P s a)(d:Tmp){y:SA}{vv:QC}(J:Is P bN [] y vv):S0 P (s.set d (.a y)) (a.put (some d) vv):=by have A:=((h.rr default).r.put (some d) (v:=.a y) J);exact⟨A.len,A.slots,h.defers⟩
theorem JU(L:ConsOkX mn P IC Γ){s s':List SV}{a:Act}{v:QB}(O:S0 P s a){ops:Array QN}{l t:List QN}{i:Nat}(hl:ops.toList.drop i=l++t){kS:List Nat}{nS:Nat}(J:s'.all (refV [])=true)
  (U:bS P Γ ops 0 l i ⟨s,[],[]⟩ (selK [] kS [] [] nS 0)=some (s',[])) {K:Act->QB->Prop} {rest:List Nat}
  (next:∀A v',S0 P s' A->Ge v v'->OpsX mn P ops K rest A v'):OpsX mn P ops K (jC i l.length++rest) a v:=
 pE _ _ _ (Zs8 L (O.rr v) hl 0 rfl U) λA v' ⟨ρ',V,Z⟩=>next A v' (V.s0 J) (Zol Z)
theorem Zmb{ro:Option Nat}{Q:Exit->Act->QB->Prop}(L:ConsOkX mn P IC Γ){s s':List SV}{a:Act}{v:QB}(O:S0 P s a){id:Nat}{ops:Array QN}{kS:List Nat}{nS:Nat}(J:s'.all (refV [])=true)
  (U:bS P Γ ops 0 ops.toList 0 ⟨s,[],[]⟩ (selK [] kS [] [] nS 0)=some (s',[]))
  (next:∀A v',S0 P s' A->Ge v v'->Q .normal A v'):WpX mn ro P (.region id ops false) Q a v:=
 Zvc L (O.rr v) 0 rfl U λρ' A v' V Z=>next A v' (V.s0 J) (Zol Z)
theorem S0.name{s:List SV}{a:Act}(hS:S0 P s a){i b:Nat}(hi:s[i]?=some (.a (.v (.pointer (some ⟨b,0,none⟩))))){C:QA}{t:QE}{v:QB}(hb:v.heap[b]?=some (.cells C t (0,0)))(hW:WT P t C)(hd:s.all (refV [])=true):
  RR P { v with heap:=#[] } (λ_=>⟨b,0⟩) (s.set i (.a (.w 0))) [.row C t] a v:=by
 have A:∀(n:Nat) (x:VB),[VB.row C t][n]?=some x->n=0/\x=.row C t:=λn x h=>by
  cases n with|zero=>simp at h;exact⟨rfl,h.symm⟩|succ n=>simp at h
 have O:∀n,present [VB.row C t] n->n=0:=λn h=>by
  cases h with|row e=>exact(A n _ e).1|one e=>exact(A n _ e).1|own e _ _=>exact(A n _ e).1
 refine⟨by simpa using hS.len,λj x U=> ?_,⟨λn x hx=> ?_,λn m V hm _=>(O n V).trans (O m hm).symm,λn x k hx hf=> ?_⟩,rfl,λ_ _ _ _=>Nat.zero_le _,⟨rfl,rfl,rfl,Nat.zero_le _,λk hk=>by simp at hk⟩,hS.defers⟩
 ·by_cases Z:i=j
  ·subst Z;have hlt:=(jJ.1 hi).1;rw[List.getElem?_set_self hlt,Q8]at U;subst U;exact⟨hS.slots i _ hi,.row rfl⟩
  ·rw[jK Z]at U;have:=hS.slots j x U;have J:=jA.1 hd x (jB U);cases x with
   | a y=>
    cases y with
    |c f ns=>cases ns with|nil=>exact⟨this.1,λn V=>by cases V⟩|cons n ns=>simp[refV,refA,Uan]at J
    |x=>trivial
    |p _ _ _=>cases J
    |w _=>cases J
    |l _=>cases J
    |q _ _ _=>cases J
    |e _=>cases J
    |r _ _ _=>cases J
    |_=>exact this
   | t ys=>
    obtain⟨vs,h1,h2,h3⟩:=this;refine⟨vs,h1,h2,λi y v hy hv=> ?_⟩;have L:refA [] y=true:=jA.1 J y (jB hy);have h4:=h3 i y v hy hv;cases y with
    |c f ns=>cases ns with|nil=>exact⟨h4.1,λn V=>by cases V⟩|cons n ns=>simp[refA,Uan]at L
    |x=>trivial
    |p _ _ _=>cases L
    |w _=>cases L
    |l _=>cases L
    |q _ _ _=>cases L
    |e _=>cases L
    |r _ _ _=>cases L
    |_=>exact h4
 ·obtain⟨rfl,rfl⟩:=A n x hx;exact⟨hb,hW⟩
 ·obtain⟨rfl,rfl⟩:=A n x hx;cases hf
theorem RR.unname{ρ:Nat->Ad}{s:List SV}{h:List VB}{a:Act}{v:QB}(O:RR P W0 ρ s h a v){j:Nat}(hj:s[j]?=some (.a (.w 0)))(hd:(s.set j (.a .x)).all (refV [])=true):S0 P (s.set j (.a (.v (.pointer (some ⟨(ρ 0).a,0,none⟩))))) a:=by
 refine⟨by simpa using O.len,λi x hi=> ?_,O.defers⟩
 by_cases J:j=i
 ·subst J;have U:=(jJ.1 hj).1;rw[List.getElem?_set_self U,Q8]at hi;subst hi;exact(O.slots j _ hj).1
 ·rw[jK J]at hi;have A:refV [] x=true:=jA.1 hd x (jB (i:=i) (by rw[jK J];exact hi));have V:=O.slots i x hi;cases x with
  | a y=>
   cases y with
   |c f ns=>cases ns with|nil=>exact⟨V.1,λn Z=>by cases Z⟩|cons n ns=>simp[refV,refA,Uan]at A
   |x=>trivial
   |p _ _ _=>cases A
   |w _=>cases A
   |l _=>cases A
   |q _ _ _=>cases A
   |e _=>cases A
   |r _ _ _=>cases A
   |_=>exact V
  | t ys=>
   obtain⟨vs,h1,h2,h3⟩:=V;refine⟨vs,h1,h2,λi y v hy hv=> ?_⟩;have L:refA [] y=true:=jA.1 A y (jB hy);have h4:=h3 i y v hy hv;cases y with
   |c f ns=>cases ns with|nil=>exact⟨h4.1,λn Z=>by cases Z⟩|cons n ns=>simp[refA,Uan]at L
   |x=>trivial
   |p _ _ _=>cases L
   |w _=>cases L
   |l _=>cases L
   |q _ _ _=>cases L
   |e _=>cases L
   |r _ _ _=>cases L
   |_=>exact h4
theorem JV(U:ConsOkX mn P IC Γ){s s':List SV}{a:Act}{v:QB}(V:S0 P s a){j b:Nat}(Z:s[j]?=some (.a (.v (.pointer (some ⟨b,0,none⟩))))){C:QA}{t:QE}(hb:v.heap[b]?=some (.cells C t (0,0)))(hW:WT P t C)(hd:s.all (refV [])=true)
  {ops:Array QN} {l tl:List QN} {i:Nat} (hl:ops.toList.drop i=l++tl) {kS:List Nat} {nS:Nat} (J:s'[j]?=some (.a (.w 0))) (L:(s'.set j (.a .x)).all (refV [])=true)
  (hr:bS P Γ ops 1 l i ⟨s.set j (.a (.w 0)),[.row C t],[]⟩ (selK [.row C t] kS [0] [] nS 1)=some (s',[.row C t])) {K:Act->QB->Prop} {rest:List Nat}
  (next:∀A v',S0 P (s'.set j (.a (.v (.pointer (some ⟨b,0,none⟩))))) A->Ge v v'->OpsX mn P ops K rest A v'):OpsX mn P ops K (jC i l.length++rest) a v:=
 pE _ _ _ (Zs8 U (V.name Z hb hW hd) hl 0 rfl hr) λA v' ⟨ρ',q1,O⟩=>next A v' (by
  have:=q1.unname J L;rw[O.2 0 (by simp)]at this;exact this) (Zol O)
theorem Yuq{ro:Option Nat}{Q:Exit->Act->QB->Prop}(U:ConsOkX mn P IC Γ){s s':List SV}{a:Act}{v:QB}(V:S0 P s a){j b:Nat}(Z:s[j]?=some (.a (.v (.pointer (some ⟨b,0,none⟩))))){C:QA}{t:QE}(hb:v.heap[b]?=some (.cells C t (0,0)))(hW:WT P t C)(hd:s.all (refV [])=true)
  {id:Nat} {ops:Array QN} {kS:List Nat} {nS:Nat} (J:s'[j]?=some (.a (.w 0))) (L:(s'.set j (.a .x)).all (refV [])=true)
  (hr:bS P Γ ops 1 ops.toList 0 ⟨s.set j (.a (.w 0)),[.row C t],[]⟩ (selK [.row C t] kS [0] [] nS 1)=some (s',[.row C t]))
  (next:∀A v',S0 P (s'.set j (.a (.v (.pointer (some ⟨b,0,none⟩))))) A->Ge v v'->Q .normal A v'):WpX mn ro P (.region id ops false) Q a v:=by
 refine Zvc U (V.name Z hb hW hd) 0 rfl hr λρ' A v' q1 O=>next A v' ?_ (Zol O)
 have:=q1.unname J L;rw[O.2 0 (by simp)]at this;exact this
theorem S0.enter(vals:List QC)(n:Nat):S0 P (vals.map (λv=>.a (.v v))++jD n (.a .u)) { tmps:=vals.toArray++jG n undef,defers:=[] }:=by
 refine⟨by simp,λi x hi=> ?_,rfl⟩
 by_cases h:i<vals.length
 ·rw[List.getElem?_append_left (by simpa using h),List.getElem?_map,List.getElem?_eq_getElem h,jE,Q8]at hi;subst hi
  show _=_
  rw[jL,Array.getElem?_append_left (by simpa using h)];simp[h]
 ·rw[List.getElem?_append_right (by simpa using h),List.getElem?_replicate]at hi;split at hi
  ·cases hi
   show _=_
   rw[jL,Array.getElem?_append_right (by simpa using h),Array.getElem?_replicate];rename_i h';simp only[List.length_map]at h';simp[h']
  ·cases hi
theorem yT{fn:Func}(J:fn.results=#[]){tmps:QA}{R:QC->QB->Prop}{ds:List Deferred}(L:ds=[]){v:QB}(h:∀v',Ge v v'->R (.tuple #[]) v'):lK P fn tmps R ds v:=by subst L;refine⟨v,DefOk.nil _ _,λwx hk _=>⟨_,results_none J _ _ _,h wx ⟨hk.os,hk.tape,hk.output,hk.size,λk A=>hk.block k A (by omega)⟩⟩⟩
theorem S0.bool{s:List SV}{a:Act}(h:S0 P s a){i:Nat}{t:Bool}(hi:s[i]?=some (.a (.b t))):a.eval (.tmp i)=.bool t:=h.slots i _ hi
theorem cC(L:ConsOkX mn P IC Γ){s s':List SV}{a:Act}{v:QB}(O:S0 P s a){ops:Array QN}(i n:Nat)(U:((ops.toList.drop i).take n).length=n){kS:List Nat}{nS:Nat}(A:s'.all (refV [])=true)
  (V:bS P Γ ops 0 ((ops.toList.drop i).take n) i ⟨s,[],[]⟩ (selK [] kS [] [] nS 0)=some (s',[])) {K:Act->QB->Prop} {rest:List Nat}
  (next:∀J v',S0 P s' J->Ge v v'->OpsX mn P ops K rest J v'):OpsX mn P ops K (jC i n++rest) a v:=by
 have:=JU (t:=(ops.toList.drop i).drop n) L O (jM n _).symm A V next
 rwa [U]at this
theorem Yem{o:QN}{a:Act}{v:QB}{K:Act->QB->Prop}{c:Call}{y:Operand}{l:Nat}{args:QA}{R:QC->QB->Prop}(ho:o.op=.call c)(A:c.callee=.value y)(J:a.eval y=.func (.yield l) #[] #[])(L:c.args.map a.eval=args)
  (h:YieldX mn P l args v R) (O:∀r v',R r v'->K (a.put o.dst r) v'):OpX mn P o a v K:=JO ho A J (by rw[L];exact h) O
theorem S0.int{s:List SV}{a:Act}(h:S0 P s a){i:Nat}{k:IntKind}{n:Int}(hi:s[i]?=some (.a (.i k n))):a.eval (.tmp i)=.int k n:=(h.slots i _ hi).1
theorem S0.cst{s:List SV}{a:Act}(h:S0 P s a){i:Nat}{y:QC}(hi:s[i]?=some (.a (.v y))):a.eval (.tmp i)=y:=h.slots i _ hi
end
end
section
variable {mn:Md}
section
variable {P:QD} {IC:QF->ICon->Prop} {Γ:Cons} {W0:QB} {n0:Nat} {D:List Nat} {ρ0:Nat->Ad}
def arrB(n m:Nat):Array Bool:=((List.range n).map (Nat.testBit m)).toArray
theorem yU{n m i:Nat}(hi:i<n):(arrB n m).setIfInBounds i true=arrB n (m ||| (1 <<< i)):=by
 unfold arrB;refine Array.ext_getElem? λj=> ?_
 rw[Array.getElem?_setIfInBounds]
 by_cases A:i=j
 ·subst A;simp[hi,Nat.testBit_or,Nat.testBit_shiftLeft]
 ·rw [if_neg A];simp only[List.getElem?_toArray,List.getElem?_map]
  by_cases J:j<n
  ·rw[List.getElem?_range J,jE,jE,Nat.testBit_or,Nat.testBit_shiftLeft];have:(decide (j>=i)&&Nat.testBit 1 (j - i))=false:=by
    by_cases h:i<=j
    ·cases L:j - i with|zero=>omega|succ d=>rw[Nat.testBit_succ];simp
    ·simp[h]
   rw[this,Bool.or_false]
  ·rw[List.getElem?_eq_none (by simpa using J)];rfl
def Uf8(ops:Array QN)(tab:List Nat):List (Nat×Nat):=tab.flatMap λm=>(Region.ready .any ops (arrB ops.size m)).map λi=>(m,i)
def ek(ops:Array QN)(tab:List Nat):Bool:=tab.all λm=>(Region.ready .any ops (arrB ops.size m)).all λi=>Uan (m ||| (1 <<< i)) tab
theorem el(hΓ:ConsOkX mn P IC Γ){ops:Array QN}{base:Nat}(hbase:n0<=base)(stOf:Nat->St)(tab:List Nat)(hg:ops.all (λo=>o.guard.isNone)=true)(hin:ek ops tab=true)
  (hst:(Uf8 ops tab).map (λx=>(ops[x.2]?).bind λo=>jf P Γ ops.size (base+x.2) o (stOf x.1) some)=(Uf8 ops tab).map λx=>some (stOf (x.1 ||| (1 <<< x.2))))
  {K:Act->QB->Prop} (hK:∀(m:Nat) (ρ':Nat->Ad) (a:Act) (v:QB),m∈tab->Region.ready .any ops (arrB ops.size m)=[]->R P W0 n0 D ρ0 ρ' (stOf m) a v->(∀m,m<base->ρ' m=ρ0 m)->a.defers=[]->K a v) :
  ∀(fuel m:Nat) (ρ:Nat->Ad) (a:Act) (v:QB),m∈tab->di (arrB ops.size m).toList<=fuel->R P W0 n0 D ρ0 ρ (stOf m) a v->(∀m,m<base->ρ m=ρ0 m)->a.defers=[]->AnyX mn P ops K fuel (arrB ops.size m) a v:=by
 have hsz:∀m,(arrB ops.size m).size=ops.size:=λm=>by simp[arrB]
 have hg:∀o∈ops,o.guard=none:=λo ho=>by simpa using Array.all_eq_true'.1 hg o ho
 have hin':∀m,m∈tab->∀i,i∈Region.ready .any ops (arrB ops.size m)->(m ||| (1 <<< i))∈tab:=λm hL i hi=>df.1 (jA.1 (jA.1 hin m hL) i hi)
 have hst':∀m,m∈tab->∀i,i∈Region.ready .any ops (arrB ops.size m)->∀o,ops[i]?=some o->jf P Γ ops.size (base+i) o (stOf m) some=some (stOf (m ||| (1 <<< i))):=λm hL i hi o ho=>by
  have:=List.map_inj_left.1 hst (m,i) (List.mem_flatMap.2 ⟨m,hL,List.mem_map.2 ⟨i,hi,rfl⟩⟩);dsimp only at this;rw[ho]at this;exact this
 intro fuel
 induction fuel with
 | zero=>
  intro m ρ a v hL hf hR hρ hd;have hr:Region.ready .any ops (arrB ops.size m)=[]:=by
   cases hr:Region.ready .any ops (arrB ops.size m) with
   |nil=>rfl
   |cons x xs=>
    exfalso;have hi:x∈Region.ready .any ops (arrB ops.size m):=by rw[hr];exact List.mem_cons_self ..
    obtain⟨h1,h2,_⟩:=oa hi;have hlt:x<(arrB ops.size m).size:=by rw[hsz];exact h1
    have:=vZ (arrB ops.size m).toList (by omega) x (arrB ops.size m)[x] (by simp[hlt]);rw[jL,jN hlt]at h2;rw[this]at h2;cases h2
  exact⟨hr,hK m ρ a v hL hr hR hρ hd⟩
 | succ fuel ih=>
  intro m ρ a v hL hf hR hρ hd;refine⟨λhr=>hK m ρ a v hL hr hR hρ hd,λi hi=> ?_⟩;have hmem:=hin' m hL i hi;obtain⟨hlt,h2,_⟩:=oa hi;have hlt':i<(arrB ops.size m).size:=by rw[hsz];exact hlt
  have hli:(arrB ops.size m).toList[i]?=some false:=by
   rw[jL,jN hlt']at h2;simp[hlt']
   simpa using h2
  have ho:ops[i]?=some ops[i]:=jN hlt;have hw:Region.wanted ops[i] (yielded ops a.tmps)=true:=by unfold Region.wanted;rw[hg _ (Array.getElem_mem hlt)]
  refine fw ho hw ?_;have:=yP (Zj6 (mn:=mn) hΓ hR (m:=ops.size) (id:=base+i) (by omega) (hst' m hL i hi _ ho) (b:=base) (by omega) (K':=λa' v'=>∃ρ',R P W0 n0 D ρ0 ρ' (stOf (m ||| (1 <<< i))) a' v'/\∀m,m<base->ρ' m=ρ m)
   λρ' st' a' w' hk hR' hE=>by
    cases hk;exact⟨ρ',hR',λm hm=>hE.ren m hm⟩)
  refine this.mono λa' v' ⟨⟨ρ',hR',hr⟩,hd'⟩=> ?_
  rw[yU hlt];refine ih _ ρ' a' v' hmem ?_ hR' (λm hm=>(hr m hm).trans (hρ m hm)) (hd'.trans hd);have:=vY (arrB ops.size m).toList i hli;rw[<- yU hlt,Array.toList_setIfInBounds];omega
def levT(ops:Array QN):Nat->List Nat->List Nat
 |0,fr=>fr
 |n+1,fr=>fr++levT ops n (fr.foldl (λacc m=>(Region.ready .any ops (arrB ops.size m)).foldl (λacc i=>bif Uan (m ||| (1 <<< i)) acc then acc else acc++[m ||| (1 <<< i)]) acc) [])
theorem RR.of{ρ ρ':Nat->Ad}{s:List SV}{h:List VB}{a U:Act}{v v':QB}{st:St}(L:RR P W0 ρ s h a v)(A:R P v h.length [] ρ ρ' st U v')(J:st.h.all iW=true)(V:fx h st.h=true)(Z:st.d.all (λn=>Nat.ble h.length n)=true)(hd:U.defers=[]):
  RR P W0 ρ' st.s st.h U v'/\Ge v v':=by
 have hb:∀n,n<h.length->ρ' n=ρ n:=A.base;have hk:Ge v v':=(A.keptR.mono (E':=λ_=>False) λk _ ⟨n,hn,b5,hρ⟩=>by
  have:=jA.1 Z n (b5.elim id λx=>by cases x);have:=Nat.le_of_ble_eq_true this;omega).below
 refine⟨⟨A.len,A.slots,A.heap,J,λn C t e=> ?_,?_,hd⟩,hk⟩
 ·by_cases b7:n<h.length
  ·rw[hb n b7];cases O:h[n]? with
   |none=>have:=List.getElem?_eq_none_iff.1 O;omega
   |some b=>
    rcases gN L.rows O with rfl | ⟨C',t',rfl⟩
    ·have:=vw V O e;cases this
    ·exact L.fresh n C' t' O
  ·exact Nat.le_trans L.kept.size (A.freshR n (by omega) (.row e))
 ·exact L.kept.trans (.of_below hk)
theorem S0.set{s:List SV}{a:Act}(h:S0 P s a){i:Nat}{y:SV}(hy:IsV P bN [] y (a.tmps.getD i undef)):S0 P (s.set i y) a :=
  ⟨by simpa using h.len, fun j x hj => by
    by_cases hij:i=j
    · subst hij;rw[List.getElem?_set]at hj;simp only[if_true]at hj;split at hj
      . cases hj; exact hy
      . cases hj
    · rw [jK hij] at hj;exact h.slots j x hj,h.defers⟩
theorem JW(n:Nat):arrB n 0=jG n false:=by
 unfold arrB;refine Array.ext_getElem? λj=> ?_
 simp only[List.getElem?_toArray,List.getElem?_map,Array.getElem?_replicate]
 by_cases A:j<n
 ·rw[List.getElem?_range A,if_pos A];simp
 ·rw[List.getElem?_eq_none (by simpa using A),if_neg A];rfl
def regs:QOq->List (Array QN)
 |.region _ ops _=>[ops]
 |.seq x y=>regs x++regs y
 |.cond _ x y=>regs x++regs y
 |.block _ x=>regs x
 |.loop x=>regs x
 |.scope x=>regs x
 |.rangeFunc _ _ x y=>regs x++regs y
 |_=>[]
theorem wpX_tab{ro:Option Nat}{Q:Exit->Act->QB->Prop}(hm:P.follows .mixedOrders=true)(hΓ:ConsOkX mn P IC Γ){ρ:Nat->Ad}{s:List SV}{h:List VB}{a:Act}{v:QB}(O:RR P W0 ρ s h a v){id:Nat}{ops:Array QN}(stOf:Nat->St)(tab:List Nat)(full:Nat)
  (h0:stOf 0=⟨s,h++jD ops.size .no,[]⟩) (U:Uan 0 tab=true) (hg:ops.all (λo=>o.guard.isNone)=true) (V:ek ops tab=true)
  (Z:(Uf8 ops tab).map (λx=>(ops[x.2]?).bind λo=>jf P Γ ops.size (h.length+x.2) o (stOf x.1) some)=(Uf8 ops tab).map λx=>some (stOf (x.1 ||| (1 <<< x.2))))
  (A:tab.all (λm=> !(Region.ready .any ops (arrB ops.size m)).isEmpty||Nat.beq m full)=true) (J:(stOf full).h.all iW=true) (b5:fx h (stOf full).h=true) (b7:(stOf full).d.all (λn=>Nat.ble h.length n)=true)
  (next:∀ρ' L v',RR P W0 ρ' (stOf full).s (stOf full).h L v'->Ge v v'->(∀n,n<h.length->ρ' n=ρ n)->Q .normal L v'):WpX mn ro P (.region id ops true) Q a v:=by
 refine yq hm ?_;rw[<- JW];refine el (W0:=v) (n0:=h.length) (D:=[]) (ρ0:=ρ) hΓ (base:=h.length) (jF _) stOf tab hg V Z (λm ρ' L v' hL hr b9 hρ hd=> ?_) ops.size 0 ρ a v (df.1 U) ?_ ?_ (λ_ _=>rfl) O.defers
 ·have:=jA.1 A m hL;rw[hr]at this;obtain rfl:=Nat.eq_of_beq_eq_true (by simpa using this:Nat.beq m full=true);obtain⟨q1,q2⟩:=O.of b9 J b5 b7 hd;exact next ρ' L v' q1 q2 hρ
 ·have h1:(arrB ops.size 0).toList.length=ops.size:=by simp[arrB]
  have h2:di (arrB ops.size 0).toList<=(arrB ops.size 0).toList.length:=List.length_filter_le _ _;omega
 ·rw[h0];exact(O.r.room ops.size).1
theorem RR.row{ρ:Nat->Ad}{s:List SV}{h:List VB}{a:Act}{v:QB}(A:RR P W0 ρ s h a v){n:Nat}{C:QA}{t:QE}(J:h[n]?=some (.row C t)):v.heap[(ρ n).a]?=some (.cells C t (0,0))/\WT P t C/\W0.heap.size<=(ρ n).a:=⟨(A.heap.is n _ J).1,(A.heap.is n _ J).2,A.fresh n C t J⟩
theorem RR.ne{ρ:Nat->Ad}{s:List SV}{h:List VB}{a:Act}{v:QB}(J:RR P W0 ρ s h a v){n m:Nat}{C L:QA}{t t':QE}(O:h[n]?=some (.row C t))(U:h[m]?=some (.row L t'))(A:n≠m):(ρ n).a≠(ρ m).a:=λe=>A (J.heap.inj n m (.row O) (.row U) e)
theorem JX{fn:Func}{t:Tmp}(J:fn.results=#[.tmp t]){tmps:QA}{R:QC->QB->Prop}{ds:List Deferred}(L:ds=[]){v:QB}(h:∀v',Ge v v'->R (tmps.getD t undef) v'):lK P fn tmps R ds v:=by subst L;refine⟨v,DefOk.nil _ _,λwx hk _=>⟨tmps.getD t undef,?_,h wx ⟨hk.os,hk.tape,hk.output,hk.size,λk A=>hk.block k A (by omega)⟩⟩⟩;simp[results,J]
theorem yV{T:QE}(A:(P.underlying T).map (·.isRow)=some false){w:QB}{g:Nat}{x:QC}(J:w.cell? ⟨g,0,none⟩=some x):(Instr.loadAt T (.pointer (some ⟨g,0,none⟩))).run P w=.ok x w:=by
 obtain⟨d,A,L⟩:=jI.1 A;have:(loadVar T ⟨g,0,none⟩).run P w=.ok x w:=by unfold loadVar;simp only[Sem.run_bind,dh A,L,Result.andThen_ok];simp[load,Sem.run,J]
 simp only[Instr.loadAt,Instr.sureAddr,Sem.run_bind,Sem.run_pure,Result.andThen_ok,this]
theorem Yu8{o:QN}{a:Act}{v:QB}{K:Act->QB->Prop}{T:QE}{y:Operand}{f:Fn}{b c:QA}(ho:o.op=.box T y)(J:a.eval y=.func f b c)
  (h:∀v₁,Ge v v₁->K (a.put o.dst (.pointer (some ⟨v₁.heap.size,0,none⟩))) (v₁.alloc (.cells #[.func f b c] T))):OpX mn P o a v K:=
 ⟨λc A=>(by rw[ho]at A;cases A),λv₁ h₁=>.inl ⟨_,_,(show Simple P (QI a.eval o) by unfold QI;rw[ho];exact .bind (Ynm _ _) λ_=>.pure _).tr (by unfold QI;rw[ho];dsimp only;rw[J];rfl),h v₁ h₁⟩⟩
theorem Ypi(v:QB)(o:Obj):Ge v (v.alloc o):=(Below.refl _ v).alloc (jF _) o
def vx(P:QD)(fn:Func)(R:QC->QB->Prop)(a:Act)(v:QB):Prop:=
 (a.defers=[]/\∀v₁,Ge v v₁->∃r,(results fn a.tmps).run P v₁=.ok r v₁/\R r v₁) \/
 ∃D,a.defers=[{ target:=.collected D,args:=#[] }]/\v.heap[D]?=some (.deferred (some []))/\∀v₁,Ge (v.putObj D (.deferred none)) v₁->∃r,(results fn a.tmps).run P v₁=.ok r v₁/\R r v₁
theorem lN{f:QF}{fn:Func}(V:P.funcs[f]?=some fn){c:QOq}(hb:fn.body=some c){args:QA}{v:QB}{R:QC->QB->Prop}
  (h:WpX mn none P c (λe A v'=>(e=.normal\/e=.ret)/\vx P fn R A v') { tmps:=args++jG (fn.ntmps - args.size) undef,defers:=[] } v):Ua6 mn P f args v R:=λPr Z cs G w L hv hQ=>by
 let b:QL:={ fn:=f,tmps:=#[],todo:=[],defers:=[],mode:=.run,kind:=.normal }
 have he:Frame.enter P f args .normal=b.atR { tmps:=args++jG (fn.ntmps - args.size) undef,defers:=[] } [.code c]:=by simp[Frame.enter,Frame.atR,b,V,hb]
 rw[he];refine h Pr Z b rfl rfl [] cs G w L hv λe A v' hq G' w' b5 O=> ?_
 obtain⟨b7,hl⟩:=hq;have go:∀ k:List _root_.Go.Item,(∀ w,stepG P mn.main (gr (b.atR A k) cs) w = .go (gr { b.atR A k with mode:=.returning } cs) w #[])→Pr G' w' (gr (b.atR A k) cs):=fun k hs=>
  Z.calm b5 rfl hs λw₁ hf₁ hg=>by
   rcases hl with ⟨hd,hl⟩ | ⟨D,hd,hD,hl⟩
   ·exact hQ v' _ rfl ⟨rfl,hd,rfl,fn,V,λv₁ hg₁=>let ⟨r,q1,q2⟩:=hl v₁ hg₁;⟨r,(Zok fn A.tmps).tr q1,q2⟩⟩ G' w₁ hf₁ (O.trans hg)
   ·refine Z.step G' w₁ _ hf₁.toFit rfl λw₂ hr₂=> ?_
    have hf₂:=hf₁.rely hr₂;have hg₂:=(O.trans hg).trans (hr₂.view hf₁.toFit);have hD₂:(view G' w₂).heap[D]?=some (.deferred (some [])):=(hg₂.block D (jH.1 hD).1).trans hD;obtain⟨w₃,es,e1,e2,e3⟩:=yB (P:=P) hD₂ G' w₂ hf₂.toFit rfl #[];refine⟨_,w₃,_,yF (ds:=[]) rfl hd e1,by rw[Array.empty_append];exact e3.seen _,?_⟩;have hgp:Ge (v'.putObj D (.deferred none)) ((view G' w₂).putObj D (.deferred none)):=⟨hg₂.os,hg₂.tape,hg₂.output,by simpa [World.putObj] using hg₂.size,λk hk=>by
     have U:k<v'.heap.size:=by simpa [World.putObj] using hk
     by_cases J:D=k
     ·subst J;have h1:D<v'.heap.size:=U;have h2:D<(view G' w₂).heap.size:=Nat.lt_of_lt_of_le h1 hg₂.size;unfold World.putObj;dsimp only;rw[Array.getElem?_setIfInBounds_self_of_lt h1,Array.getElem?_setIfInBounds_self_of_lt h2]
     ·rw[World.putObj_heap_other (Ne.symm J),World.putObj_heap_other (Ne.symm J)];exact hg₂.block k U⟩
    exact hQ (v'.putObj D (.deferred none)) _ rfl ⟨rfl,rfl,rfl,fn,V,λv₁ hg₁=>let ⟨r,q1,q2⟩:=hl v₁ hg₁;⟨r,(Zok fn A.tmps).tr q1,q2⟩⟩ _ w₃ (hf₂.did e3) (by rw[<- e2];exact hgp)
 rcases b7 with rfl|rfl
 ·exact go [] λw=>by simp[gr,stepG,stepG.exec,Frame.atR,b]
 ·exact λk₁=>go _ λw=>by simp[gr,stepG,stepG.exec,Frame.atR,b]
theorem pG{ops:Array QN}{K:Act->QB->Prop}{i:Nat}{rest:List Nat}{s:List SV}{a:Act}{v:QB}(A:S0 P s a){o:QN}(ho:ops[i]?=some o){j d:Nat}{t:Bool}(J:o.guard=some (j,t))(L:jg ops j=some d)(O:s[d]?=some (.a (.b t)))(h:OpX mn P o a v (OpsX mn P ops K rest)):OpsX mn P ops K (i::rest) a v:=by
 have U:=pR L (A.rr v).r O;have V:Region.wanted o (yielded ops a.tmps)=true:=by simp[Region.wanted,J,U]
 rw[OpsX];exact fw ho V h
def bareS(s:List SV):List SV:=s.map λx=>bif refV [] x then x else .a .x
theorem RR.bare{ρ:Nat->Ad}{s:List SV}{h:List VB}{a:Act}{v:QB}(hR:RR P W0 ρ s h a v):S0 P (bareS s) a:=by
 refine⟨by simpa [bareS] using hR.len,λi x hx=> ?_,hR.defers⟩;unfold bareS at hx;rw[List.getElem?_map]at hx;cases hy:s[i]? with
 |none=>rw[hy]at hx;cases hx
 | some y=>
  rw[hy,jE,Q8]at hx;cases hr:refV [] y with
  |false=>rw[hr]at hx;subst hx;trivial
  | true=>
   rw[hr]at hx;subst hx;have hv:=hR.slots i _ hy;have one:∀{y:SA} {v:QC},refA [] y=true->Is P ρ h y v->Is P bN [] y v:=λ{y v} hq h4=>by
    cases y with
    |c f ns=>cases ns with|nil=>exact⟨h4.1,λn hn=>by cases hn⟩|cons n ns=>simp[refA,Uan]at hq
    |x=>trivial
    |p _ _ _=>cases hq
    |w _=>cases hq
    |l _=>cases hq
    |q _ _ _=>cases hq
    |e _=>cases hq
    |r _ _ _=>cases hq
    |_=>exact h4
   cases y with|a y=>exact one hr hv|t ys=>obtain⟨vs,h1,h2,h3⟩:=hv;exact⟨vs,h1,h2,λi y v hy hv=>one (jA.1 hr y (jB hy)) (h3 i y v hy hv)⟩
theorem pH(O:ConsOkX mn P IC Γ){s s':List SV}{a:Act}{v:QB}(U:S0 P s a){j b:Nat}(V:s[j]?=some (.a (.v (.pointer (some ⟨b,0,none⟩))))){C:QA}{t:QE}(Z:v.heap[b]?=some (.cells C t (0,0)))(hW:WT P t C)(hd:s.all (refV [])=true)
  {ops:Array QN} (i n:Nat) (hn:((ops.toList.drop i).take n).length=n) {kS:List Nat} {nS:Nat} (A:s'[j]?=some (.a (.w 0))) (J:(s'.set j (.a .x)).all (refV [])=true)
  (hr:bS P Γ ops 1 ((ops.toList.drop i).take n) i ⟨s.set j (.a (.w 0)),[.row C t],[]⟩ (selK [.row C t] kS [0] [] nS 1)=some (s',[.row C t])) {K:Act->QB->Prop} {rest:List Nat}
  (next:∀L v',S0 P (s'.set j (.a (.v (.pointer (some ⟨b,0,none⟩))))) L->Ge v v'->OpsX mn P ops K rest L v'):OpsX mn P ops K (jC i n++rest) a v:=by
 have:=JV (tl:=(ops.toList.drop i).drop n) O U V Z hW hd (jM n _).symm A J hr next
 rwa [hn]at this
theorem yW(L:ConsOkX mn P IC Γ){ρ:Nat->Ad}{s s':List SV}{h h':List VB}{a:Act}{v:QB}(O:RR P W0 ρ s h a v){ops:Array QN}(i n:Nat)(U:((ops.toList.drop i).take n).length=n){kS kH dd:List Nat}{nS nH:Nat}(m:Nat)
  (J:kH.all (Nat.blt · nH)=true) (V:bS P Γ ops h.length ((ops.toList.drop i).take n) i ⟨s,h++jD m .no,[]⟩ (selK h kS kH dd nS nH)=some (s',h')) {K:Act->QB->Prop} {rest:List Nat}
  (next:∀ρ' A v',RR P W0 ρ' s' h' A v'->Went ρ ρ' h dd v v'->OpsX mn P ops K rest A v'):OpsX mn P ops K (jC i n++rest) a v:=by
 have:=pE _ _ _ (Zs8 (t:=(ops.toList.drop i).drop n) L O (jM n _).symm m J V) (K:=K) (rest:=rest) λA v' ⟨ρ',Z,q2⟩=>next ρ' A v' Z q2
 rwa [U]at this
theorem nC{F:Fd}(L:ConsOkX (md F) P IC Γ){ρ:Nat->Ad}{s s':List SV}{h h':List VB}{a:Act}{v:QB}(O:RR P W0 ρ s h a v){ops:Array QN}(i n:Nat)(U:((ops.toList.drop i).take n).length=n){kS kH dd:List Nat}{nS nH:Nat}(m:Nat)
  (J:kH.all (Nat.blt · nH)=true) (V:bS P Γ ops h.length ((ops.toList.drop i).take n) i ⟨s,h++jD m .no,[]⟩ (selK h kS kH dd nS nH)=some (s',h')) {K:Act->QB->Fd->Prop} {rest:List Nat}
  (next:∀ρ' A v',RR P W0 ρ' s' h' A v'->Went ρ ρ' h dd v v'->OpsF P ops K rest A v' F):OpsF P ops K (jC i n++rest) a v F:=by
 have:=yO _ _ _ (Zs8 (t:=(ops.toList.drop i).drop n) L O (jM n _).symm m J V) (K:=K) (rest:=rest) λA v' ⟨ρ',Z,q2⟩=>next ρ' A v' Z q2
 rwa [U]at this
theorem Ynp{f:QF}{G:af}(A:Uad mn P f G){args:List SA}{vals:List QC}{r:SV}(J:G args []=some (r,.none,true))(L:Uap P bN [] args vals)(v:QB):Ua6 mn P f vals.toArray v λe v'=>IsV P bN [] r e/\Ge v v':=
 (A bN [] v args vals _ _ (λn _ _ _ h=>by simp at h) J L (hisNil _ _)).mono λr v' h=>⟨h.1,h.2.below⟩
end
end
end Go.Proofs.YtefjogahegolbaaGreatDoor.Vc
