/- A judgement by continuations of the starter, where what is promised may change: codes. No program is named. -/
import Derived.Test.YtefjogahegolbaaDoorVcD
set_option linter.unusedVariables false
set_option linter.unusedSimpArgs false
open _root_.List renaming all_eq_true->jA,mem_of_getElem?->jB,range'->jC,replicate->jD,getElem?_eq_some_iff->jJ,getElem?_set_ne->jK,take_append_drop->jM
open _root_.Array renaming replicate->jG,getElem?_eq_some_iff->jH,getD_eq_getD_getElem?->jL,getElem?_eq_getElem->jN
open _root_.Nat renaming le_refl->jF
open _root_.Option renaming map_some->jE,map_eq_some_iff->jI
namespace Go.Proofs.YtefjogahegolbaaDoor.Vc
open Go.RowKit Go.Conc Go.Proofs.YtefjogahegolbaaDoor.Ve
section
abbrev Fd:=Nat->Option Value
abbrev md(F:Fd):Md:=⟨true,F⟩
abbrev Uem:=Exit->Act->World->Fd->Prop
def WpF(ro:Option Nat)(P:Program)(c:Code)(Q:Uem)(a:Act)(v:World)(F:Fd):Prop:=
 ∀(Pr:Gh->World->Goroutine->Prop),Closed P true Pr->∀(b:Frame),b.roundOf=ro->b.kind=.normal->∀(k:List _root_.Go.Item) (cs:List Frame) (G:Gh) (w:World),FitM (md F) G w->Ge v (view G w) ->
  (∀e a' v' F',Q e a' v' F'->∀G' w',FitM (md F') G' w'->Ge v' (view G' w')->Arr Pr b k cs e a' G' w')->Pr G w (gr (b.atR a (.code c::k)) cs)
section
variable {ro:Option Nat} {P:Program} {Q Q':Uem} {a:Act} {v:World} {F:Fd}
theorem Yhl{c:Code}(h:WpX (md F) ro P c (λe a' v'=>Q e a' v' F) a v):WpF ro P c Q a v F:=λPr hC b hb hk k cs G w hf hv hQ=>h Pr hC b hb hk k cs G w hf hv λe a' v' hq=>hQ e a' v' F hq
theorem WpF.mono{c:Code}(h:WpF ro P c Q a v F)(hq:∀e a v F,Q e a v F->Q' e a v F):WpF ro P c Q' a v F:=
 λPr hC b hb hk k cs G w hf hv hQ=>h Pr hC b hb hk k cs G w hf hv λe a' v' F' hq'=>hQ e a' v' F' (hq _ _ _ _ hq')
def thenF(N:Act->World->Fd->Prop)(Q:Uem):Uem
 |.normal=>N
 |e=>Q e
def Ud9(id:Nat)(Q:Uem):Uem
 |.exit j=>λa v F=>if j=id then Q .normal a v F else Q (.exit j) a v F
 |e=>Q e
theorem Zda{x y:Code}(h:WpF ro P x (thenF (WpF ro P y Q) Q) a v F):WpF ro P (.seq x y) Q a v F:=λPr hC b hb hkd k cs G w hf hv hQ=>
 hC.calm (mn:=md F) hf rfl (λw=>sg_seq) λw₁ hf₁ hg=>h Pr hC b hb hkd (.code y::k) cs G w₁ hf₁ (hv.trans hg) λe a' v' F' hq G' w' hf' hv'=>by
  cases e with|normal=>exact hq Pr hC b hb hkd k cs G' w' hf' hv' hQ|exit id=>exact .cons (x:=.code y) rfl (by simp) (hQ _ a' v' F' hq G' w' hf' hv')|goto l=>exact .cons (x:=.code y) rfl (by simp) (hQ _ a' v' F' hq G' w' hf' hv')|ret=>exact hQ .ret a' v' F' hq G' w' hf' hv'|panic ch=>trivial|outgrown=>trivial
theorem Zpx{c:Operand}{x y:Code}{t:Bool}(hc:a.eval c=.bool t)(h:WpF ro P (if t then x else y) Q a v F):WpF ro P (.cond c x y) Q a v F:=λPr hC b hb hkd k cs G w hf hv hQ=>
 hC.calm (mn:=md F) hf rfl (λw=>Yj6 hc) λw₁ hf₁ hg=>h Pr hC b hb hkd k cs G w₁ hf₁ (hv.trans hg) hQ
theorem Ycd(h:Q .normal a v F):WpF ro P .skip Q a v F:=Yhl (Zeb h)
theorem Yhc{id:Nat}(h:Q (.exit id) a v F):WpF ro P (.exit id) Q a v F:=Yhl (Zld h)
theorem Yku(h:Q .ret a v F):WpF ro P .ret Q a v F:=Yhl (Zgo h)
theorem Zsq{id:Nat}{c:Code}(h:WpF ro P c (Ud9 id Q) a v F):WpF ro P (.block id c) Q a v F:=λPr hC b hb hkd k cs G w hf hv hQ=>
 hC.calm (mn:=md F) hf rfl (λw=>Yhs) λw₁ hf₁ hg=>h Pr hC b hb hkd (.inBlock id::k) cs G w₁ hf₁ (hv.trans hg) λe a' v' F' hq G' w' hf' hv'=>by
  cases e with
  |normal=>exact hC.calm (mn:=md F') hf' rfl (λw=>Ybb) λw₂ hf₂ hg₂=>hQ .normal a' v' F' hq G' w₂ hf₂ (hv'.trans hg₂)
  | exit id'=>
   by_cases hid:id'=id
   ·subst hid;simp only[Ud9,if_true]at hq;refine⟨λk' hk=> ?_,λhk=> ?_⟩
    ·simp[exitTo]at hk;subst hk;exact hQ .normal a' v' F' hq G' w' hf' hv'
    ·simp[exitTo]at hk
   ·simp only[Ud9,if_neg hid]at hq;have hx:exitTo id' (.inBlock id::k)=exitTo id' k:=by
     have this:(id==id')=false:=by simp;exact λh=>hid h.symm
     simp[exitTo,this]
    have:=hQ (.exit id') a' v' F' hq G' w' hf' hv';exact⟨λk' hk=>this.1 k' (by rwa [hx]at hk),λhk=>this.2 (by rwa [hx]at hk)⟩
  |goto l=>
   have hx:gotoIn l (.inBlock id::k)=gotoIn l k:=by simp[gotoIn]
   have:=hQ (.goto l) a' v' F' hq G' w' hf' hv';exact⟨λk' hk=>this.1 k' (by rwa [hx]at hk),λhk=>this.2 (by rwa [hx]at hk)⟩
  |ret=>exact hQ .ret a' v' F' hq G' w' hf' hv'
  |panic ch=>trivial
  |outgrown=>trivial
def Udk(ro:Option Nat)(P:Program)(c:Code)(Q:Uem):Nat->Act->World->Fd->Prop
 |0,_,_,_=>False
 |n+1,a,v,F=>WpF ro P c (thenF (Udk ro P c Q n) Q) a v F
theorem Ybd{c:Code}:∀(n:Nat) {a:Act} {v:World} {F:Fd},Udk ro P c Q n a v F->∀(Pr:Gh->World->Goroutine->Prop),Closed P true Pr->∀(b:Frame),b.roundOf=ro->b.kind=.normal->∀(k:List _root_.Go.Item) (cs:List Frame) (G:Gh) (w:World),FitM (md F) G w->Ge v (view G w) ->
  (∀e a' v' F',Q e a' v' F'->∀G' w',FitM (md F') G' w'->Ge v' (view G' w')->e ≠ .normal->Arr Pr b k cs e a' G' w')->Pr G w (gr (b.atR a (.code c::.inLoop c::k)) cs)
 |0,a,v,F,h,_,_,_,_,_,_,_,_,_,_,_,_=>h.elim
 |n+1,a,v,F,h,Pr,hC,b,hb,hkd,k,cs,G,w,hf,hv,hQ=>h Pr hC b hb hkd (.inLoop c::k) cs G w hf hv λe a' v' F' hq G' w' hf' hv'=>by
  cases e with
  |normal=>exact hC.calm (mn:=md F') hf' rfl (λw=>Ydj) λw₂ hf₂ hg₂=>Ybd n hq Pr hC b hb hkd k cs G' w₂ hf₂ (hv'.trans hg₂) hQ
  |exit id=>exact .cons (x:=.inLoop c) rfl (by simp) (hQ _ a' v' F' hq G' w' hf' hv' (by simp))
  |goto l=>exact .cons (x:=.inLoop c) rfl (by simp) (hQ _ a' v' F' hq G' w' hf' hv' (by simp))
  |ret=>exact hQ .ret a' v' F' hq G' w' hf' hv' (by simp)
  |panic ch=>trivial
  |outgrown=>trivial
theorem Zok{c:Code}(n:Nat)(h:Udk ro P c Q n a v F):WpF ro P (.loop c) Q a v F:=λPr hC b hb hkd k cs G w hf hv hQ=>
 hC.calm (mn:=md F) hf rfl (λw=>Ykg) λw₁ hf₁ hg=>Ybd n h Pr hC b hb hkd k cs G w₁ hf₁ (hv.trans hg) λe a' v' F' hq G' w' hf' hv' _=>hQ e a' v' F' hq G' w' hf' hv'
def Uda(P:Program)(f:FuncId)(args:Array Value)(v:World)(F:Fd)(R:Value->World->Fd->Prop):Prop:=
 ∀(Pr:Gh->World->Goroutine->Prop),Closed P true Pr->∀(cs:List Frame) (G:Gh) (w:World),FitM (md F) G w->Ge v (view G w) ->
  (∀v' F' fr,fr.fn=f->Ucu P fr (λr v''=>R r v'' F') v'->∀G' w',FitM (md F') G' w'->Ge v' (view G' w')->Pr G' w' (gr fr cs))->Pr G w (gr (Frame.enter P f args .normal) cs)
theorem Ykb{f:FuncId}{args:Array Value}{R:Value->World->Prop}(h:Uda P f args v F (λr v' F'=>F'=F/\R r v')):Ua4 (md F) P f args v R:=λPr hC cs G w hf hv hQ=>
 h Pr hC cs G w hf hv λv' F' fr hfn hl G' w' hf' hv'=>by
  obtain⟨h1,h2,h3,fn,h4,h5⟩:=hl;obtain⟨_,_,rfl,_⟩:=h5 v' (Ge.refl _);exact hQ v' fr hfn ⟨h1,h2,h3,fn,h4,λv₁ hg=>let ⟨r,q1,q2⟩:=h5 v₁ hg;⟨r,q1,q2.2⟩⟩ G' w' hf' hv'
theorem Uda.mono{f:FuncId}{args:Array Value}{R R':Value->World->Fd->Prop}(h:Uda P f args v F R)(hr:∀r v F,R r v F->R' r v F):Uda P f args v F R':=
 λPr hC cs G w hf hv hQ=>h Pr hC cs G w hf hv λv' F' fr hfn hl=>hQ v' F' fr hfn (hl.mono λr v=>hr r v F')
def OpF(P:Program)(o:Oper)(a:Act)(v:World)(F:Fd)(K:Act->World->Fd->Prop):Prop:=
 ∀(Pr:Gh->World->Goroutine->Prop),Closed P true Pr->∀(b:Frame),b.kind ≠ .early->∀(k:List _root_.Go.Item) (cs:List Frame) (ops:Array Oper) (i:Nat) (rest:List Nat),ops[i]?=some o->Region.wanted o (yielded ops a.tmps)=true ->
  ∀(G:Gh) (w:World),FitM (md F) G w->Ge v (view G w)->(∀a' v' F',K a' v' F'->∀G' w',FitM (md F') G' w'->Ge v' (view G' w')->Pr G' w' (gr (b.atR a' (.inRegion ops rest::k)) cs)) ->
  Pr G w (gr (b.atR a (.inRegion ops (i::rest)::k)) cs)
variable {o:Oper} {K K':Act->World->Fd->Prop}
theorem Yki(h:OpX (md F) P o a v λa' v'=>K a' v' F):OpF P o a v F K:=λPr hC b hb k cs ops i rest ho hw G w hf hv hQ=>
 Zke (mn:=md F) hC hb rest [i] a v (K:=λa' v'=>K a' v' F) (by unfold OpsX OpIX;rw[ho];dsimp only;rw[if_pos hw];exact h) G w hf hv λa' v' hk=>hQ a' v' F hk
theorem Yjw{f:FuncId}{args:Array Value}{c:Call}{y:Operand}{R:Value->World->Fd->Prop}(ho:o.op=.call c)(hc:c.callee=.value y)(hy:a.eval y=.func (.func f) #[] #[])(he:EntX P f)(hargs:c.args.map a.eval=args)
  (h:∀v₁,Ge v v₁->Uda P f args v₁ F R) (hK:∀r v' F',R r v' F'->K (a.put o.dst r) v' F'):OpF P o a v F K:=λPr hC b hb k cs ops i rest hoi hw G w hf hv hQ=>by
 have hx:execOp a.eval o=callFunc f args:=by
  subst hargs;unfold execOp;rw[ho];simp only[resolve,hc,hy,Deferred.ofValue]
  show callFunc f _=_
  congr 1;rw[<- Array.toList_inj];simp
 have hd:∀c,o.op ≠ .defer c:=λc' hc'=>by rw[ho]at hc';cases hc'
 refine hC.step G w _ hf.toFit rfl λw₁ hr₁=> ?_
 have hf₁:=hf.rely hr₁;obtain⟨w',es,e1,e2,e3⟩:=((he.2 args).tr (he.1 args (view G w₁))) G w₁ hf₁.toFit rfl #[];rw[<- hx]at e1;refine⟨_,w',_,(Ztr (mn:=md F) hoi hb hw hd e1).2.2.1 f args rfl,by simpa using e3.seen b.fn,?_⟩;refine h _ (hv.trans (hr₁.view hf.toFit)) Pr hC _ _ w' (hf₁.did e3) (e2 ▸ Ge.refl _) λv'' F' fr hfn hl G' w'' hf' hv'=> ?_
 refine hC.step G' w'' _ hf'.toFit rfl λw₂ hr₂=> ?_
 obtain⟨hm,hdf,hkd,fn,hfun,hres⟩:=hl;obtain⟨r,ht,hR⟩:=hres (view G' w₂) (hv'.trans (hr₂.view hf'.toFit));obtain⟨w₃,es₃,q1,q2,q3⟩:=ht G' w₂ (hf'.rely hr₂).toFit rfl #[];refine⟨_,w₃,_,Yby (mn:=md F) hm hdf hkd hfun q1,by simpa using q3.seen fr.fn,?_⟩;have hfin:(b.atR a (.inRegion ops (i::rest)::k)).finish r=b.atR (a.put o.dst r) (.inRegion ops rest::k):=by rw[Frame.finish_atR,hoi];rfl
 rw[hfin];exact hQ _ _ F' (hK _ _ _ hR) _ w₃ ((hf'.rely hr₂).did q3) (by rw[<- q2];exact Ge.refl _)
theorem opF_recv{c:Nat}{val z:Value}(hd:∀c,o.op ≠ .defer c)(hr:∀w,(execOp a.eval o).runT P w #[]=(.ok (.comm #[Conc.rcase c z] true (.recv false)) w,#[]))(hF:F c=some val)
  (hK:∀v',(∀C t fr,v.heap[c]?≠some (.cells C t fr))->Kept (λk=>k=c) v v'->K (a.put o.dst val) v' (λk=>if k=c then none else F k)):OpF P o a v F K:=λPr hC b hb k cs ops i rest ho hw G w hf hv hQ=>by
 have hFG:G.F c=some val:=by rw[hf.eqF];exact hF
 refine hC.recv rfl G w _ (gr (b.atR a (.inRegion ops (i::rest)::k)) cs) c val z hf.toFit rfl hFG (λw₁ hr₁=>⟨#[],sg_recv (mn:=md F) ho hb hw hd (hr w₁),λe he=>by simp at he⟩) λw' hr'=> ?_
 have hfin:(b.atR a (.inRegion ops (i::rest)::k)).finish val=b.atR (a.put o.dst val) (.inRegion ops rest::k):=by rw[Frame.finish_atR,ho];rfl
 have hsv:Conc.served (gr (b.atR a (.inRegion ops (i::rest)::k)) cs) val=gr (b.atR (a.put o.dst val) (.inRegion ops rest::k)) cs:=by rw[<- hfin];rfl
 rw[hsv];have hf':=hf.toFit.rely hr';have hg':=hv.trans (hr'.view hf.toFit);have hnm:¬G.M c/\¬G.S c:=(hf.f c val hFG).2;have same:∀k,k≠c->(view (G.took c) w').heap[k]?=(view G w').heap[k]?:=λk hk=>by
  rw[Zec,Zec];congr 1;funext o
  by_cases hm:G.M k
  ·rw[Uc1 hm,Uc1 (show (G.took c).M k from hm)]
  ·by_cases hs:G.S k
   ·rw[Uc2 hm hs,Uc2 (show ¬(G.took c).M k from hm) (show (G.took c).S k from hs)]
   ·rw[Ude hm hs,Ude (show ¬(G.took c).M k from hm) (show ¬(G.took c).S k from hs)];simp only[Gh.took,if_neg hk]
 have hnc:∀C t fr,v.heap[c]?≠some (.cells C t fr):=λC t fr h=>by
  have h1:=(hv.block c (jH.1 h).1).trans h;rw[Zec]at h1;obtain⟨o',-,h3⟩:=jI.1 h1;rw[Ude hnm.1 hnm.2,hFG]at h3;simp only[prom]at h3;cases h3
 refine hQ _ (view (G.took c) w') _ (hK _ hnc ⟨hg'.os,hg'.tape,hg'.output,by simpa using hg'.size,λk hk hne=>(same k hne).trans (hg'.block k hk)⟩) (G.took c) w' ⟨⟨hf'.m,hf'.s,λk u hk=> ?_⟩,?_⟩ (Ge.refl _)
 ·simp only[Gh.took]at hk|-
  split at hk
  ·cases hk
  ·exact hf'.f k u hk
 ·simp only[Gh.took,hf.eqF]
theorem opF_go{c:Nat}{val:Value}{d:Deferred}{L:Nat->Prop}(hd:∀c,o.op ≠ .defer c)(hn:d.target ≠ .nil)(hr:∀w,(execOp a.eval o).runT P w #[]=(.ok (.spawn d) w,#[]))
  (hc:∃s tm,v.heap[c]?=some (.chan 0 #[] false s s tm)) (hL:∀k,L k->∃C t fr,C≠#[]/\v.heap[k]?=some (.cells C t fr))
  (hkid:∀G₁ w₁,Fit G₁ w₁->G₁.F=(λ_=>none)->(∀k C t fr,L k->v.heap[k]?=some (.cells C t fr)->∃fr',(view G₁ w₁).heap[k]?=some (.cells C t fr'))->GoW P c val G₁ w₁ (Uc9 P d))
  (hK:∀v',F c=none->Kept (λk=>k=c\/L k) v v'->(∀k C t fr,L k->v.heap[k]?=some (.cells C t fr)->∃fr',v'.heap[k]?=some (.cells C t fr'))->K (a.put o.dst undef) v' (λk=>if k=c then some val else F k)) :
  OpF P o a v F K:=λPr hC b hb k cs ops i rest ho hw G w hf hv hQ=>by
 obtain⟨s,tm,hc⟩:=hc;have hclt:c<v.heap.size:=(jH.1 hc).1;have own_c:∀w₁,Ge v (view G w₁)->G.M c/\w₁.heap[c]?=some (.chan 0 #[] false s s tm):=λw₁ hg=>by
  have h1:=(hg.block c hclt).trans hc;rw[Zec]at h1;obtain⟨o',h2,h3⟩:=jI.1 h1
  by_cases hm:G.M c
  ·rw[Uc1 hm]at h3;refine⟨hm,?_⟩;rcases Zxi o' with ⟨c',e',fr',rfl,h' | h'⟩ | ⟨a,u,rfl,h'⟩ | ⟨-,h'⟩
   ·rw[h']at h3;cases h3
   ·rw[h']at h3;cases h3
   ·rw[h']at h3;cases h3
   ·rw[h']at h3;rw[h2,h3]
  ·exfalso
   by_cases hs:G.S c
   ·rw[Uc2 hm hs]at h3;cases o'<;>simp only[frz,dead]at h3<;>cases h3
   ·rw[Ude hm hs]at h3;cases hF:G.F c with
    |none=>rw[hF]at h3;simp only[dead]at h3;cases h3
    |some u=>rw[hF]at h3;simp only[prom]at h3;cases h3
 have seen_L:∀w₁,Ge v (view G w₁)->∀k C t fr,L k->v.heap[k]?=some (.cells C t fr)->(G.M k\/G.S k)/\∃fr',w₁.heap[k]?=some (.cells C t fr'):=λw₁ hg k C t fr hk hkv=>by
  have hne:C≠#[]:=by obtain⟨C',t',fr',h1,h2⟩:=hL k hk;rw[hkv]at h2;cases h2;exact h1
  have h1:=(hg.block k (jH.1 hkv).1).trans hkv;rw[Zec]at h1;obtain⟨o',h2,h3⟩:=jI.1 h1
  by_cases hm:G.M k
  ·rw[Uc1 hm]at h3;exact⟨.inl hm,fr,by rw[h2,Yeo h3 hne]⟩
  ·by_cases hs:G.S k
   ·rw[Uc2 hm hs]at h3;refine⟨.inr hs,?_⟩;cases o' with
    |cells c2 e2 f2=>simp only[frz]at h3;cases h3;exact⟨_,h2⟩
    |_=>simp only[frz,dead]at h3;cases h3;exact absurd rfl hne
   ·exfalso;rw[Ude hm hs]at h3;cases hF:G.F k with
    |none=>rw[hF]at h3;simp only[dead]at h3;cases h3;exact hne rfl
    |some u=>rw[hF]at h3;simp only[prom]at h3;cases h3
 have hMc:G.M c:=(own_c w hv).1;have hnL:¬L c:=λh=>by
  obtain⟨C,t,fr,-,h2⟩:=hL c h;rw[hc]at h2;cases h2
 refine hC.spawn rfl G w _ c val (λk=>L k/\G.M k) hf.toFit rfl hMc (λh=>hnL h.1) (λk h=>h.2) λw₁ hr₁=> ?_
 have hf₁:=hf.rely hr₁;have hg₁:=hv.trans (hr₁.view hf.toFit);obtain⟨-,hcw⟩:=own_c w₁ hg₁;have hfk:Fit (G.kid λk=>L k/\G.M k) w₁:=⟨λk hk=>hk.elim,λk hk=>⟨hk.elim (λx=>(hf₁.s k x).1) λx=>hf₁.m k x.2,λx=>x⟩,λk u hk=>by cases hk⟩;have hfl:Fit (G.lend c val λk=>L k/\G.M k) w₁:=⟨λk hk=>hf₁.m k hk.1,λk hk=>⟨hk.elim (λx=>(hf₁.s k x).1) λx=>hf₁.m k x.2,λx=>hk.elim (λy=>(hf₁.s k y).2 x.1) λy=>x.2.2 y⟩,λk u hk=>by
  simp only[Gh.lend]at hk;split at hk
  ·rename_i e;subst e;exact⟨hf₁.m _ hMc,λx=>x.2.1 rfl,λx=>x.elim (λy=>(hf₁.s _ y).2 hMc) λy=>hnL y.1⟩
  ·obtain⟨q1,q2,q3⟩:=hf₁.f k u hk;exact⟨q1,λx=>q2 x.1,λx=>x.elim q3 λy=>q2 y.2⟩⟩
 refine⟨_,_,#[],sg_spawn (mn:=md F) ho hb hw hd hn (hr w₁),λe he=>by simp at he,⟨s,tm,hcw⟩,rfl,?_,?_⟩
 ·refine hkid _ w₁ hfk rfl λk C t fr hk hkv=> ?_
  obtain⟨hms,fr',hkw⟩:=seen_L w₁ hg₁ k C t fr hk hkv;have hS:(G.kid λk=>L k/\G.M k).S k:=hms.elim (λx=>.inr ⟨hk,x⟩) .inl;exact⟨_,by rw[Zec,hkw,jE,Uc2 (hfk.s k hS).2 hS];rfl⟩
 ·have hL':∀k C t fr,L k->v.heap[k]?=some (.cells C t fr)->∃fr',(view (G.lend c val λk=>L k/\G.M k) w₁).heap[k]?=some (.cells C t fr'):=λk C t fr hk hkv=>by
   obtain⟨hms,fr',hkw⟩:=seen_L w₁ hg₁ k C t fr hk hkv;have hS:(G.lend c val λk=>L k/\G.M k).S k:=hms.elim (λx=>.inr ⟨hk,x⟩) .inl;exact⟨_,by rw[Zec,hkw,jE,Uc2 (hfl.s k hS).2 hS];rfl⟩
  have hFc:F c=none:=by cases hx:F c with|none=>rfl|some u=>exact absurd hMc (hf.f c u (by rw[hf.eqF];exact hx)).2.1
  refine hQ _ (view (G.lend c val λk=>L k/\G.M k) w₁) _ (hK _ hFc ⟨hg₁.os,hg₁.tape,hg₁.output,by simpa using hg₁.size,λk hk hne=> ?_⟩ hL') _ w₁ ⟨hfl,?_⟩ (Ge.refl _)
  ·simp only[not_or]at hne;refine Eq.trans ?_ (hg₁.block k hk);rw[Zec,Zec];congr 1;funext o
   by_cases hm:G.M k
   ·rw[Uc1 hm,Uc1 (show (G.lend c val λk=>L k/\G.M k).M k from ⟨hm,hne.1,λx=>hne.2 x.1⟩)]
   ·have hm':¬(G.lend c val λk=>L k/\G.M k).M k:=λx=>hm x.1
    by_cases hs:G.S k
    ·rw[Uc2 hm hs,Uc2 hm' (show (G.lend c val λk=>L k/\G.M k).S k from .inl hs)]
    ·have hs':¬(G.lend c val λk=>L k/\G.M k).S k:=λx=>x.elim hs λy=>hne.2 y.1
     rw[Ude hm hs,Ude hm' hs'];simp only[Gh.lend,if_neg hne.1]
  ·simp only[Gh.lend,hf.eqF]
def OpIF(P:Program)(ops:Array Oper)(i:Nat)(K:Act->World->Fd->Prop)(a:Act)(v:World)(F:Fd):Prop:=
 match ops[i]? with|none=>K a v F|some o=>if Region.wanted o (yielded ops a.tmps) then OpF P o a v F K else K (a.put o.dst undef) v F
def OpsF(P:Program)(ops:Array Oper)(K:Act->World->Fd->Prop):List Nat->Act->World->Fd->Prop
 |[],a,v,F=>K a v F
 |i::rest,a,v,F=>OpIF P ops i (OpsF P ops K rest) a v F
theorem Zxn{ops:Array Oper}{Pr:Gh->World->Goroutine->Prop}(hC:Closed P true Pr){b:Frame}(hb:b.kind ≠ .early){k:List _root_.Go.Item}{cs:List Frame}:
  ∀(l:List Nat) (a:Act) (v:World) (F:Fd),OpsF P ops K l a v F->∀(G:Gh) (w:World),FitM (md F) G w->Ge v (view G w) ->
   (∀a' v' F',K a' v' F'->∀G' w',FitM (md F') G' w'->Ge v' (view G' w')->Pr G' w' (gr (b.atR a' k) cs))->Pr G w (gr (b.atR a (.inRegion ops l::k)) cs)
 |[],a,v,F,h,G,w,hf,hv,hQ=>hC.calm (mn:=md F) hf rfl (λw=>Zmq) λw₁ hf₁ hg=>hQ a v F h G w₁ hf₁ (hv.trans hg)
 | i::rest,a,v,F,h,G,w,hf,hv,hQ=>by
  unfold OpsF OpIF at h;cases ho:ops[i]? with
  |none=>
   rw[ho]at h;have hs:=λw=>Zp2 (P:=P) (mn:=md F) (b:=b) (a:=a) (k:=k) (cs:=cs) (w:=w) (ops:=ops) (i:=i) (rest:=rest) (by simp[ho])
   simp only[ho,Option.bind_none,Act.put]at hs;exact hC.calm (mn:=md F) hf rfl hs λw₁ hf₁ hg=>Zxn hC hb rest a v F h G w₁ hf₁ (hv.trans hg) hQ
  | some o=>
   rw[ho]at h;dsimp only at h
   by_cases hw:Region.wanted o (yielded ops a.tmps)=true
   ·rw[if_pos hw]at h;exact h Pr hC b hb k cs ops i rest ho hw G w hf hv λa' v' F' hk G' w' hf' hv'=>Zxn hC hb rest a' v' F' hk G' w' hf' hv' hQ
   ·rw[if_neg hw]at h;have hs:=λw=>Zp2 (P:=P) (mn:=md F) (b:=b) (a:=a) (k:=k) (cs:=cs) (w:=w) (ops:=ops) (i:=i) (rest:=rest) (by simp[ho];simpa using hw)
    simp only[ho,Option.bind_some]at hs;exact hC.calm (mn:=md F) hf rfl hs λw₁ hf₁ hg=>Zxn hC hb rest _ v F h G w₁ hf₁ (hv.trans hg) hQ
theorem Zpf{ops:Array Oper}{i:Nat}{rest:List Nat}(ho:ops[i]?=some o)(hg:o.guard=none)(h:OpF P o a v F (OpsF P ops K rest)):OpsF P ops K (i::rest) a v F:=by unfold OpsF OpIF;rw[ho];dsimp only;rw[if_pos (by unfold Region.wanted;rw[hg])];exact h
theorem Zpq{id:Nat}{ops:Array Oper}(h:OpsF P ops (Q .normal) (List.range ops.size) a v F):WpF ro P (.region id ops false) Q a v F:=λPr hC b hb hkd k cs G w hf hv hQ=>
 hC.calm (mn:=md F) hf rfl (λw=>Yeg) λw₁ hf₁ hg=>Zxn hC (Ybu hkd) _ a v F h G w₁ hf₁ (hv.trans hg) λa' v' F' hq G' w' hf' hv'=>hQ .normal a' v' F' hq G' w' hf' hv'
theorem Ydc{f:FuncId}{fn:Func}(hf:P.funcs[f]?=some fn){c:Code}(hb:fn.body=some c){args:Array Value}{R:Value->World->Fd->Prop}
  (h:WpF none P c (λe a' v' F'=>(e=.normal\/e=.ret)/\a'.defers=[]/\∀v₁,Ge v' v₁->∃r,(results fn a'.tmps).run P v₁=.ok r v₁/\R r v₁ F') { tmps:=args++jG (fn.ntmps - args.size) undef,defers:=[] } v F):Uda P f args v F R:=λPr hC cs G w hfit hv hQ=>by
 let b:Frame:={ fn:=f,tmps:=#[],todo:=[],defers:=[],mode:=.run,kind:=.normal }
 have he:Frame.enter P f args .normal=b.atR { tmps:=args++jG (fn.ntmps - args.size) undef,defers:=[] } [.code c]:=by simp[Frame.enter,Frame.atR,b,hf,hb]
 rw[he];refine h Pr hC b rfl rfl [] cs G w hfit hv λe a' v' F' hq G' w' hf' hv'=> ?_
 obtain⟨hex,hdf,hl⟩:=hq;have go:∀k:List _root_.Go.Item,(∀w,stepG P true (gr (b.atR a' k) cs) w=.go (gr { b.atR a' k with mode:=.returning } cs) w #[])->Pr G' w' (gr (b.atR a' k) cs):=λk hs=>
  hC.calm (mn:=md F') hf' rfl hs λw₁ hf₁ hg=>hQ v' F' _ rfl ⟨rfl,hdf,rfl,fn,hf,λv₁ hg₁=>by
   obtain⟨r,q1,q2⟩:=hl v₁ hg₁;exact⟨r,(Zjd fn a'.tmps).tr q1,q2⟩⟩ G' w₁ hf₁ (hv'.trans hg)
 rcases hex with rfl|rfl
 ·exact go [] λw=>by simp[gr,stepG,stepG.exec,Frame.atR,b]
 ·exact λk₁=>go _ λw=>by simp[gr,stepG,stepG.exec,Frame.atR,b]
end
end
section
variable {mn:Md}
section
variable {P:Program} {IC:FuncId->ICon->Prop} {Γ:Cons} {W0:World} {n0:Nat} {D:List Nat} {ρ0:Nat->Ad}
theorem Zpu(hΓ:ConsOkX mn P IC Γ){ops:Array Oper}{base:Nat}(hbase:n0<=base){α:Type}{K:St->Option α}{r:α}{K':Act->World->Prop}:
  ∀(l:List Oper) (i:Nat) (t:List Oper),ops.toList.drop i=l++t->∀{ρ:Nat->Ad} {st:St} {a:Act} {w:World},R P W0 n0 D ρ0 ρ st a w->Ubf P Γ ops base l i st K=some r ->
   (∀ρ' st' a' w',K st'=some r->R P W0 n0 D ρ0 ρ' st' a' w'->Ext (wrL l) base ρ ρ' st st'->K' a' w')->OpsX mn P ops K' (jC i l.length) a w
 |[],i,t,_,ρ,st,a,w,hR,hr,hQ=>hQ ρ st a w hr hR (.refl _ _ _ _)
 | o::l,i,t,hl,ρ,st,a,w,hR,hr,hQ=>by
  have ho:ops[i]?=some o:=by
   have:=congrArg (λx=>x[0]?) hl
   simpa using this
  have hl':ops.toList.drop (i+1)=l++t:=by
   have:=congrArg List.tail hl
   simpa [List.tail_drop] using this
  rw[List.length_cons,List.range'_succ,OpsX];have next:∀{ρ1:Nat->Ad} {st1:St} {a1:Act} {w1:World},Ubf P Γ ops base l (i+1) st1 K=some r->R P W0 n0 D ρ0 ρ1 st1 a1 w1->Ext (wrL (o::l)) base ρ ρ1 st st1->OpsX mn P ops K' (jC (i+1) l.length) a1 w1:=
   λh1 hR1 he=>Zpu hΓ hbase l (i+1) t hl' hR1 h1 λρ' st' a' w' hk hR' he'=>hQ ρ' st' a' w' hk hR' (he.trans (he'.mono Zpj (jF _)))
  have hWd:∀d,o.dst=some d->d∈wrL (o::l):=λd hd=>Zer d (by rw[hd];exact List.mem_singleton.2 rfl)
  unfold Ubf at hr;split at hr
  ·rename_i hg;refine Zlp ho (by simp[Region.wanted,hg]) (Zgh hΓ hR (by omega) hr (Nat.le_add_right base i) λρ' st' a' w' hk hR' he=>next hk hR' (he.mono Zer (jF _)))
  ·rename_i j want hg;split at hr
   ·cases hr
   ·rename_i d hd;split at hr
    ·rename_i t hslot;have hs:=getD_some hslot (by intro h;cases h);have hy:=Zki hd hR hs;have hwant:Region.wanted o (yielded ops a.tmps)=(t==want):=by simp[Region.wanted,hg,hy]
     cases t with
     | true=>have hR2:=hR.known hs (t':=true) rfl;have he2:Ext (wrL (o::l)) base ρ ρ st { st with s:=st.s.set d (.a (.b true)) }:=Zt4 hs rfl;simp only[Q1]at hr;cases want with|true=>simp only[Q1]at hr;exact Zlp ho (by rw[hwant];rfl) (Zgh hΓ hR2 (by omega) hr (Nat.le_add_right base i) λρ' st' a' w' hk hR' he=>next hk hR' (he2.trans (he.mono Zer (jF _))))|false=>simp only[Q2]at hr;exact Zru ho (by rw[hwant];rfl) (next hr (hR2.skip o.dst) (he2.trans (Zhq hWd)))
     | false=>have hR2:=hR.known hs (t':=false) rfl;have he2:Ext (wrL (o::l)) base ρ ρ st { st with s:=st.s.set d (.a (.b false)) }:=Zt4 hs rfl;simp only[Q2]at hr;cases want with|true=>simp only[Q1]at hr;exact Zru ho (by rw[hwant];rfl) (next hr (hR2.skip o.dst) (he2.trans (Zhq hWd)))|false=>simp only[Q2]at hr;exact Zlp ho (by rw[hwant];rfl) (Zgh hΓ hR2 (by omega) hr (Nat.le_add_right base i) λρ' st' a' w' hk hR' he=>next hk hR' (he2.trans (he.mono Zer (jF _))))
    ·rename_i hslot;have hs:=getD_some hslot (by intro h;cases h);have hy:=Zmj hd hR hs;exact Zru ho (by simp[Region.wanted,hg,hy]) (next hr (hR.skip o.dst) (Zhq hWd))
    ·cases hr
theorem Zpy{ops:Array Oper}{K1 K:Act->World->Prop}{rest:List Nat}:∀(l:List Nat) (a:Act) (v:World),OpsX mn P ops K1 l a v->(∀a' v',K1 a' v'->OpsX mn P ops K rest a' v')->OpsX mn P ops K (l++rest) a v
 |[],a,v,h,hK=>hK a v h
 |i::l,a,v,h,hK=>by
  rw[List.cons_append,OpsX];exact OpIX.mono (λa v h'=>Zpy l a v h' hK) h
theorem opIF_of{F:Fd}{ops:Array Oper}{i:Nat}{K:Act->World->Fd->Prop}{a:Act}{v:World}(h:OpIX (md F) P ops i (λa v=>K a v F) a v):OpIF P ops i K a v F:=by
 unfold OpIX at h;unfold OpIF;split
 ·rename_i ho;rw[ho]at h;exact h
 ·rename_i o ho;rw[ho]at h;dsimp only at h;split
  ·rename_i hw;rw[if_pos hw]at h;exact Yki h
  ·rename_i hw;rw[if_neg hw]at h;exact h
theorem Yga{F:Fd}{ops:Array Oper}{K1:Act->World->Prop}{K:Act->World->Fd->Prop}{rest:List Nat}:∀(l:List Nat) (a:Act) (v:World),OpsX (md F) P ops K1 l a v->(∀a' v',K1 a' v'->OpsF P ops K rest a' v' F)->OpsF P ops K (l++rest) a v F
 |[],a,v,h,hK=>hK a v h
 |i::l,a,v,h,hK=>by
  rw[List.cons_append,OpsF];exact opIF_of (OpIX.mono (λa v h'=>Yga l a v h' hK) h)
theorem Zc9(a:Act)(d:Option Tmp)(v:Value):(a.put d v).defers=a.defers:=by cases d<;>rfl
theorem Ybo{o:Oper}{a:Act}{v:World}{K:Act->World->Prop}(h:OpX mn P o a v K):OpX mn P o a v λa' v'=>K a' v'/\a'.defers=a.defers:=
 ⟨h.1,fun v₁ h₁=>by
  rcases h.2 v₁ h₁ with ⟨vv,v',h1,h2⟩ | ⟨v',h1,h2⟩ | ⟨f,args,v',h1,h2⟩ | ⟨l,f,tmps,assign,body,v',h1,h2⟩
  ·exact .inl ⟨vv,v',h1,h2,Zc9 _ _ _⟩
  ·exact .inr (.inl ⟨v',h1,h2,Zc9 _ _ _⟩)
  ·exact .inr (.inr (.inl ⟨f,args,v',h1,h2.mono λ_ _ h=>⟨h,Zc9 _ _ _⟩⟩))
  ·exact .inr (.inr (.inr ⟨l,f,tmps,assign,body,v',h1,h2.mono λ_ _ h=>⟨h,Zc9 _ _ _⟩⟩))⟩
theorem Zyy{ops:Array Oper}{i:Nat}{a:Act}{v:World}{K:Act->World->Prop}(h:OpIX mn P ops i K a v):OpIX mn P ops i (λa' v'=>K a' v'/\a'.defers=a.defers) a v:=by
 unfold OpIX at h|-
 split
 ·rename_i ho;rw[ho]at h;exact⟨h,rfl⟩
 ·rename_i o ho;rw[ho]at h;dsimp only at h;split
  ·rename_i hw;rw[if_pos hw]at h;exact Ybo h
  ·rename_i hw;rw[if_neg hw]at h;exact⟨h,Zc9 _ _ _⟩
theorem Zne{ops:Array Oper}{K:Act->World->Prop}:∀(l:List Nat) (a:Act) (v:World),OpsX mn P ops K l a v->OpsX mn P ops (λa' v'=>K a' v'/\a'.defers=a.defers) l a v
 |[],a,v,h=>⟨h,rfl⟩
 |i::l,a,v,h=>by
  rw[OpsX]at h|-
  refine OpIX.mono (λa' v' h'=> ?_) (Zyy h);have:=Zne l a' v' h'.1;rw[h'.2]at this;exact this
def Ue1:VB->Bool
 |.no=>true
 |.row _ _=>true
 |_=>false
structure RR (P:Program) (W0:World) (ρ:Nat->Ad) (s:List SV) (h:List VB) (a:Act) (v:World):Prop where
 len:s.length=a.tmps.size
 slots:∀(i:Nat) (x:SV),s[i]?=some x->IsV P ρ h x (a.tmps.getD i undef)
 heap:HIs P ρ h v
 rows:h.all Ue1=true
 fresh:∀n C t,h[n]?=some (.row C t)->W0.heap.size<=(ρ n).a
 kept:Kept (λ_=>False) W0 v
 defers:a.defers=[]
theorem Zjk{h:List VB}(hr:h.all Ue1=true){n:Nat}{b:VB}(hn:h[n]?=some b):b=.no\/∃C t,b=.row C t:=by have:=jA.1 hr b (jB hn);cases b with|no=>exact .inl rfl|row C t=>exact .inr ⟨C,t,rfl⟩|_=>cases this
theorem Zh5{h:List VB}(hr:h.all Ue1=true){n:Nat}(hp:present h n):∃C t,h[n]?=some (.row C t):=by
 cases hp with
 |row e=>exact⟨_,_,e⟩
 |one e=>rcases Zjk hr e with x | ⟨_,_,x⟩<;>cases x
 |mp e=>rcases Zjk hr e with x | ⟨_,_,x⟩<;>cases x
 |own e _ _=>rcases Zjk hr e with x | ⟨_,_,x⟩<;>cases x
theorem RR.r{ρ:Nat->Ad}{s:List SV}{h:List VB}{a:Act}{v:World}(hR:RR P W0 ρ s h a v):R P v h.length [] ρ ρ ⟨s,h,[]⟩ a v:=
 ⟨hR.len,hR.slots,hR.heap,fun _ _=>rfl,fun n hn hp=>by
  obtain⟨C,t,e⟩:=Zh5 hR.rows hp;have:=(jJ.1 e).1;omega,Kept.refl _ _,λn len C e _ he=>(by rcases Zjk hR.rows he with x | ⟨_,_,x⟩<;>cases x),by rw[hR.defers];exact DefOk.nil _ _,jF _⟩
def Ub7(l:List Nat):List SV->Nat->List SV
 |[],_=>[]
 |v::r,i=>(bif Uai i l then v else .a .x)::Ub7 l r (i+1)
def Ucb(l:List Nat):Nat->List VB->Nat->List VB
 |0,_,_=>[]
 |n+1,h,i=>(bif Uai i l then h.headD .no else .no)::Ucb l n h.tail (i+1)
def refA(l:List Nat):SA->Bool
 |.x=>true
 |.p n _ _=>Uai n l
 |.w n=>Uai n l
 |.c _ ns=>ns.all (Uai · l)
 |.r _ _ _=>false
 |y=>Ud3 y
def refV(l:List Nat):SV->Bool
 |.a y=>refA l y
 |.t ys=>ys.all (refA l)
def Ucg:List VB->List VB->Bool
 |.no::h,b::h'=>(match b with | .no=>true|_=>false)&&Ucg h h'
 |_::h,_::h'=>Ucg h h'
 |_,_=>true
def rowAt(h:List VB)(n:Nat):Bool:=match h[n]? with|some (.row _ _)=>true|_=>false
def selK(h:List VB)(kS kH dd:List Nat)(nS nH:Nat)(st:St):Option (List SV×List VB):=
 bif Nat.beq st.s.length nS&&(st.d.all (λn=>Nat.ble h.length n||(rowAt h n&&Uai n dd))&&Ucg h st.h&&((Ub7 kS st.s 0).all (refV kH)&&(Ucb kH nH st.h 0).all Ue1)) then some (Ub7 kS st.s 0,Ucb kH nH st.h 0) else none
theorem Zfp{i:Nat}:∀{l:List Nat},Uai i l=true ↔ i∈l
 |[]=>by simp[Uai]
 | x::l=>by
  unfold Uai;constructor
  ·intro h;cases hb:Nat.beq i x with|true=>exact List.mem_cons.2 (.inl (Nat.eq_of_beq_eq_true hb))|false=>rw[hb]at h;exact List.mem_cons.2 (.inr (Zfp.1 (by simpa using h)))
  ·intro h;rcases List.mem_cons.1 h with rfl|h
   ·simp
   ·have:=Zfp.2 h;simp[this]
theorem Zmc(l:List Nat):∀(s:List SV) (i:Nat),(Ub7 l s i).length=s.length
 |[],_=>rfl
 |v::r,i=>by simp[Ub7,Zmc l r (i+1)]
theorem Zl1(l:List Nat):∀(s:List SV) (i j:Nat),(Ub7 l s i)[j]?=(s[j]?).map λv=>bif Uai (i+j) l then v else .a .x
 |[],_,_=>by simp[Ub7]
 |v::r,i,0=>by simp[Ub7]
 |v::r,i,j+1=>by simp only[Ub7,List.getElem?_cons_succ];rw[Zl1 l r (i+1) j,show i+1+j=i+(j+1) by omega]
theorem Zo1(l:List Nat):∀(n:Nat) (h:List VB) (i j:Nat),j<n->(Ucb l n h i)[j]?=some (bif Uai (i+j) l then h.getD j .no else .no)
 |0,_,_,_,hj=>by omega
 |n+1,h,i,0,_=>by cases h<;>simp[Ucb]
 |n+1,h,i,j+1,hj=>by
  simp only[Ucb,List.getElem?_cons_succ];rw[Zo1 l n h.tail (i+1) j (by omega),show i+1+j=i+(j+1) by omega];cases h<;>simp
theorem Zzf(l:List Nat):∀(n:Nat) (h:List VB) (i:Nat),(Ucb l n h i).length=n
 |0,_,_=>rfl
 |n+1,h,i=>by simp[Ucb,Zzf l n h.tail (i+1)]
theorem Zzd:∀{h h':List VB},Ucg h h'=true->∀{n:Nat} {b:VB},h[n]?=some .no->h'[n]?=some b->b=.no
 |[],_,_,n,b,hn,_=>by simp at hn
 |x::h,[],_,n,b,_,hb=>by simp at hb
 |x::h,y::h',hs,0,b,hn,hb=>by
  simp only[List.getElem?_cons_zero,Q8]at hn hb;subst hn;subst hb;cases y<;>first|rfl | (simp[Ucg]at hs)
 | x::h,y::h',hs,n+1,b,hn,hb=>by
  have hs':Ucg h h'=true:=by cases x<;>simp only[Ucg]at hs<;>first|exact hs|exact(Bool.and_eq_true_iff.1 hs).2
  exact Zzd hs' (by simpa using hn) (by simpa using hb)
theorem Yj3{l:List Nat}{ρ:Nat->Ad}{h h':List VB}(hl:∀(n:Nat) (b:VB),n∈l->h[n]?=some b->h'[n]?=some b){y:SA}(hr:refA l y=true){v:Value}(hi:Is P ρ h y v):Is P ρ h' y v:=by
 have th:∀n,n∈l->there h n->there h' n:=λn hn ht=>by
  cases ht with|row e=>exact there.row (hl n _ hn e)|one e=>exact there.one (hl n _ hn e)
 cases y with
 |x=>trivial
 |p n o T=>obtain⟨h1,h2,t,h3,h4⟩:=hi;exact⟨h1,h2,t,h3.imp (λ⟨C,e⟩=>⟨C,hl n _ (Zfp.1 hr) e⟩) (λ⟨y,e⟩=>⟨y,hl n _ (Zfp.1 hr) e⟩),h4⟩
 |w n=>exact⟨hi.1,th n (Zfp.1 hr) hi.2⟩
 |c f ns=>exact⟨hi.1,λn hn=>th n (Zfp.1 (jA.1 hr n hn)) (hi.2 n hn)⟩
 |l _=>cases hr
 |q _ _ _=>cases hr
 |e _=>cases hr
 |m _=>cases hr
 |r _ _ _=>cases hr
 |_=>exact hi
theorem Ykv{l:List Nat}{ρ:Nat->Ad}{h h':List VB}(hl:∀(n:Nat) (b:VB),n∈l->h[n]?=some b->h'[n]?=some b){y:SV}(hr:refV l y=true){v:Value}(hi:IsV P ρ h y v):IsV P ρ h' y v:=by cases y with|a y=>exact Yj3 hl hr hi|t ys=>obtain⟨vs,h1,h2,h3⟩:=hi;exact⟨vs,h1,h2,λi y v hy hv=>Yj3 hl (jA.1 hr y (jB hy)) (h3 i y v hy hv)⟩
theorem RR.sel{ρ ρ':Nat->Ad}{s s':List SV}{h h':List VB}{a a':Act}{v v':World}{st:St}{kS kH dd:List Nat}{nS nH m:Nat}(hR:RR P W0 ρ s h a v)(hk:selK h kS kH dd nS nH st=some (s',h'))(hkH:kH.all (Nat.blt · nH)=true)
  (hR':R P v h.length [] ρ ρ' st a' v') (hd:a'.defers=[]) (hE:Ext D h.length ρ ρ' ⟨s,h++jD m .no,[]⟩ st) :
  RR P W0 ρ' s' h' a' v'/\Kept (λk=>∃n C t,n∈dd/\h[n]?=some (.row C t)/\(ρ n).a=k) v v'/\∀n,n<h.length->ρ' n=ρ n:=by
 unfold selK at hk;cases hok:Nat.beq st.s.length nS&&(st.d.all (λn=>Nat.ble h.length n||(rowAt h n&&Uai n dd))&&Ucg h st.h&&((Ub7 kS st.s 0).all (refV kH)&&(Ucb kH nH st.h 0).all Ue1)) with
 |false=>rw[hok]at hk;cases hk
 |true=>
 rw[hok]at hk;simp only[Q7]at hok;obtain⟨h1,⟨h0,h2⟩,h3,h4⟩:=hok;simp only[Q1,Q8,Q0]at hk;obtain⟨rfl,rfl⟩:=hk;have hlen:h.length<=st.h.length:=by have:=hE.hlen;simp at this;omega
 have hget:∀(n:Nat) (b:VB),n∈kH->st.h[n]?=some b->(Ucb kH nH st.h 0)[n]?=some b:=λn b hn hb=>by
  have hnH:n<nH:=by have:=jA.1 hkH n hn;simp[Nat.blt]at this;omega
  rw[Zo1 kH nH st.h 0 n hnH,Nat.zero_add,Zfp.2 hn,Q1,List.getD_eq_getElem?_getD,hb];rfl
 have hsub:∀(n:Nat) (C:Array Value) (t:TypeId),(Ucb kH nH st.h 0)[n]?=some (VB.row C t)->st.h[n]?=some (VB.row C t):=λn C t e=>by
  have hlt:=(jJ.1 e).1;rw[Zzf]at hlt;rw[Zo1 kH nH st.h 0 n hlt,Nat.zero_add]at e;cases hb:Uai n kH with|false=>rw[hb]at e;simp at e|true=>rw[hb,Q1,List.getD_eq_getElem?_getD]at e;cases hs:st.h[n]? with|none=>rw[hs]at e;simp at e|some b=>rw[hs]at e;simpa using e
 -- names of rows that are kept
 have hrow:∀n,n∈st.d->n<h.length->(∃C t,h[n]?=some (.row C t))/\n∈dd:=λn hn hlt=>by
  have:=jA.1 h0 n hn;rw[Bool.or_eq_true,Q7]at this;rcases this with h | ⟨h,hd⟩
  ·have:=Nat.le_of_ble_eq_true h;omega
  ·refine⟨?_,Zfp.1 hd⟩;unfold rowAt at h;split at h
   ·rename_i C t e;exact⟨C,t,e⟩
   ·cases h
 have hrowk:Kept (λk=>∃n C t,h[n]?=some (.row C t)/\(ρ n).a=k) v v':=hR'.keptR.mono λk _ ⟨n,hn,hd',hρ⟩=>by
  obtain⟨⟨C,t,e⟩,_⟩:=hrow n (hd'.elim id λx=>by cases x) hn;exact⟨n,C,t,e,hρ⟩
 have hrowd:Kept (λk=>∃n C t,n∈dd/\h[n]?=some (.row C t)/\(ρ n).a=k) v v':=hR'.keptR.mono λk _ ⟨n,hn,hd',hρ⟩=>by
  obtain⟨⟨C,t,e⟩,hdd⟩:=hrow n (hd'.elim id λx=>by cases x) hn;exact⟨n,C,t,hdd,e,hρ⟩
 refine⟨⟨by rw[Zmc];exact hR'.len,λi x hx=> ?_,⟨λn b hb=> ?_,λn k hp hq=> ?_,λn b k hb hf=> ?_⟩,h4,λn C t e=> ?_,?_,hd⟩,hrowd,hE.ren⟩
 ·rw[Zl1,Nat.zero_add]at hx;cases hs:st.s[i]? with
  |none=>rw[hs]at hx;cases hx
  | some y=>rw[hs,jE,Q8]at hx;have hr:refV kH x=true:=jA.1 h3 x (jB (i:=i) (by rw[Zl1,hs,Nat.zero_add,jE,hx]));cases hb:Uai i kS with|false=>rw[hb]at hx;subst hx;trivial|true=>rw[hb]at hx;subst hx;have hi:=hR'.slots i _ hs;exact Ykv hget hr hi
 ·rcases Zjk h4 hb with rfl | ⟨C,t,rfl⟩
  ·trivial
  ·exact hR'.heap.is n _ (hsub n C t hb)
 ·obtain⟨C,t,e⟩:=Zh5 h4 hp;obtain⟨C',t',e'⟩:=Zh5 h4 hq;exact hR'.heap.inj n k (.row (hsub n C t e)) (.row (hsub k C' t' e'))
 ·rcases Zjk h4 hb with rfl | ⟨C,t,rfl⟩<;>cases hf
 ·have e':=hsub n C t e
  by_cases hlt:n<h.length
  ·rw[hE.ren n hlt];cases hb:h[n]? with
   |none=>have:=List.getElem?_eq_none_iff.1 hb;omega
   |some b=>
    rcases Zjk hR.rows hb with rfl | ⟨C',t',rfl⟩
    ·have:=Zzd h2 hb e';cases this
    ·exact hR.fresh n C' t' hb
  ·exact Nat.le_trans hR.kept.size (hR'.freshR n (by omega) (.row e'))
 ·refine⟨hrowk.os.trans hR.kept.os,hrowk.tape.trans hR.kept.tape,hrowk.output.trans hR.kept.output,Nat.le_trans hR.kept.size hrowk.size,λk hk _=> ?_⟩;refine(hrowk.block k (Nat.lt_of_lt_of_le hk hR.kept.size) ?_).trans (hR.kept.block k hk not_false);rintro⟨n,C,t,e,rfl⟩;have:=hR.fresh n C t e;omega
theorem OpsX.mono{ops:Array Oper}{K K':Act->World->Prop}(hk:∀a v,K a v->K' a v):∀(l:List Nat) (a:Act) (v:World),OpsX mn P ops K l a v->OpsX mn P ops K' l a v
 |[],a,v,h=>hk a v h
 |i::l,a,v,h=>by
  rw[OpsX]at h|-
  exact OpIX.mono (λa v h'=>OpsX.mono hk l a v h') h
def Went(ρ ρ':Nat->Ad)(h:List VB)(dd:List Nat)(v v':World):Prop:=Kept (λk=>∃n C t,n∈dd/\h[n]?=some (VB.row C t)/\(ρ n).a=k) v v'/\∀n,n<h.length->ρ' n=ρ n
theorem Zl8(hΓ:ConsOkX mn P IC Γ){ρ:Nat->Ad}{s s':List SV}{h h':List VB}{a:Act}{v:World}(hR:RR P W0 ρ s h a v){ops:Array Oper}{l t:List Oper}{i:Nat}(hl:ops.toList.drop i=l++t){kS kH dd:List Nat}{nS nH:Nat}(m:Nat)
  (hkH:kH.all (Nat.blt · nH)=true) (hr:Ubf P Γ ops h.length l i ⟨s,h++jD m .no,[]⟩ (selK h kS kH dd nS nH)=some (s',h')) :
  OpsX mn P ops (λa' v'=>∃ρ',RR P W0 ρ' s' h' a' v'/\Went ρ ρ' h dd v v') (jC i l.length) a v:=by
 have h1:=Zpu (W0:=v) (n0:=h.length) (D:=[]) (ρ0:=ρ) hΓ (base:=h.length) (jF _) l i t hl (hR.r.room m).1 hr (K':=λa' v'=>∃ρ' st',selK h kS kH dd nS nH st'=some (s',h')/\R P v h.length [] ρ ρ' st' a' v'/\Ext (wrL l) h.length ρ ρ' ⟨s,h++jD m .no,[]⟩ st')
  λρ' st' a' w' hk hR' hE=>⟨ρ',st',hk,hR',hE⟩
 refine OpsX.mono ?_ _ _ _ (Zne _ _ _ h1);rintro a' v' ⟨⟨ρ',st',hk,hR',hE⟩,hd⟩;obtain⟨q1,q2,q3⟩:=hR.sel hk hkH hR' (hd.trans hR.defers) hE;exact⟨ρ',q1,q2,q3⟩
theorem Zoq{ro:Option Nat}{Q:Exit->Act->World->Prop}(hΓ:ConsOkX mn P IC Γ){ρ:Nat->Ad}{s s':List SV}{h h':List VB}{a:Act}{v:World}(hR:RR P W0 ρ s h a v){id:Nat}{ops:Array Oper}{kS kH dd:List Nat}{nS nH:Nat}(m:Nat)
  (hkH:kH.all (Nat.blt · nH)=true) (hr:Ubf P Γ ops h.length ops.toList 0 ⟨s,h++jD m .no,[]⟩ (selK h kS kH dd nS nH)=some (s',h'))
  (next:∀ρ' a' v',RR P W0 ρ' s' h' a' v'->Went ρ ρ' h dd v v'->Q .normal a' v'):WpX mn ro P (.region id ops false) Q a v:=by
 refine Zar ?_;rw[List.range_eq_range',<- Array.length_toList];exact OpsX.mono (λa' v' ⟨ρ',q1,q2⟩=>next ρ' a' v' q1 q2) _ _ _ (Zl8 (t:=[]) hΓ hR (by simp) m hkH hr)
theorem Zcm{F:Fd}{ro:Option Nat}{Q:Uem}(hΓ:ConsOkX (md F) P IC Γ){ρ:Nat->Ad}{s s':List SV}{h h':List VB}{a:Act}{v:World}(hR:RR P W0 ρ s h a v){id:Nat}{ops:Array Oper}{kS kH dd:List Nat}{nS nH:Nat}(m:Nat)
  (hkH:kH.all (Nat.blt · nH)=true) (hr:Ubf P Γ ops h.length ops.toList 0 ⟨s,h++jD m .no,[]⟩ (selK h kS kH dd nS nH)=some (s',h'))
  (next:∀ρ' a' v',RR P W0 ρ' s' h' a' v'->Went ρ ρ' h dd v v'->Q .normal a' v' F):WpF ro P (.region id ops false) Q a v F:=
 Yhl (Zoq hΓ hR m hkH hr next)
structure S0 (P:Program) (s:List SV) (a:Act):Prop where
 len:s.length=a.tmps.size
 slots:∀(i:Nat) (x:SV),s[i]?=some x->IsV P idA [] x (a.tmps.getD i undef)
 defers:a.defers=[]
theorem hisNil(ρ:Nat->Ad)(v:World):HIs P ρ [] v:=⟨λn b h=>by simp at h,λn m h=>by cases h with|row h=>simp at h|one h=>simp at h|mp h=>simp at h|own h _ _=>simp at h,λn b k h=>by simp at h⟩
theorem S0.rr{s:List SV}{a:Act}(h:S0 P s a)(v:World):RR P v idA s [] a v:=⟨h.len,h.slots,hisNil _ _,rfl,λn C t h=>by simp at h,Kept.refl _ _,h.defers⟩
theorem Ygc{ρ ρ':Nat->Ad}{y:SA}(hr:refA [] y=true){v:Value}(hi:Is P ρ [] y v):Is P ρ' [] y v:=by
 cases y with
 |x=>trivial
 |p n o T=>cases hr
 |w n=>cases hr
 |c f ns=>cases ns with|nil=>exact⟨hi.1,λn hn=>by cases hn⟩|cons n ns=>simp[refA,Uai]at hr
 |l _=>cases hr
 |q _ _ _=>cases hr
 |e _=>cases hr
 |m _=>cases hr
 |r _ _ _=>cases hr
 |_=>exact hi
theorem refV_nil{ρ ρ':Nat->Ad}{y:SV}(hr:refV [] y=true){v:Value}(hi:IsV P ρ [] y v):IsV P ρ' [] y v:=by cases y with|a y=>exact Ygc hr hi|t ys=>obtain⟨vs,h1,h2,h3⟩:=hi;exact⟨vs,h1,h2,λi y v hy hv=>Ygc (jA.1 hr y (jB hy)) (h3 i y v hy hv)⟩
theorem RR.s0{ρ:Nat->Ad}{s:List SV}{a:Act}{v:World}(h:RR P W0 ρ s [] a v)(hs:s.all (refV [])=true):S0 P s a:=
 ⟨h.len,λi x hx=>refV_nil (jA.1 hs x (jB hx)) (h.slots i x hx),h.defers⟩
theorem Zjl{ρ ρ':Nat->Ad}{hh:List VB}{v v':World}(h:Went ρ ρ' hh [] v v'):Ge v v':=by obtain⟨h1,h2,h3,h4,h5⟩:=h.1;exact⟨h1,h2,h3,h4,λk hk=>h5 k hk λ⟨n,_,_,hn,_⟩=>by cases hn⟩
theorem S0.val{s:List SV}{a:Act}(h:S0 P s a){i:Nat}{y:SA}(hi:s[i]?=some (.a y)):Is P idA [] y (a.tmps.getD i undef):=h.slots i _ hi
theorem S0.put{s:List SV}{a:Act}(h:S0 P s a)(d:Tmp){y:SA}{vv:Value}(hv:Is P idA [] y vv):S0 P (s.set d (.a y)) (a.put (some d) vv):=by have hR:=((h.rr default).r.put (some d) (v:=.a y) hv);exact⟨hR.len,hR.slots,h.defers⟩
theorem Yfk(hΓ:ConsOkX mn P IC Γ){s s':List SV}{a:Act}{v:World}(hS:S0 P s a){ops:Array Oper}{l t:List Oper}{i:Nat}(hl:ops.toList.drop i=l++t){kS:List Nat}{nS:Nat}(hs':s'.all (refV [])=true)
  (hr:Ubf P Γ ops 0 l i ⟨s,[],[]⟩ (selK [] kS [] [] nS 0)=some (s',[])) {K:Act->World->Prop} {rest:List Nat}
  (next:∀a' v',S0 P s' a'->Ge v v'->OpsX mn P ops K rest a' v'):OpsX mn P ops K (jC i l.length++rest) a v:=
 Zpy _ _ _ (Zl8 hΓ (hS.rr v) hl 0 rfl hr) λa' v' ⟨ρ',q1,q2⟩=>next a' v' (q1.s0 hs') (Zjl q2)
theorem Zez{ro:Option Nat}{Q:Exit->Act->World->Prop}(hΓ:ConsOkX mn P IC Γ){s s':List SV}{a:Act}{v:World}(hS:S0 P s a){id:Nat}{ops:Array Oper}{kS:List Nat}{nS:Nat}(hs':s'.all (refV [])=true)
  (hr:Ubf P Γ ops 0 ops.toList 0 ⟨s,[],[]⟩ (selK [] kS [] [] nS 0)=some (s',[]))
  (next:∀a' v',S0 P s' a'->Ge v v'->Q .normal a' v'):WpX mn ro P (.region id ops false) Q a v:=
 Zoq hΓ (hS.rr v) 0 rfl hr λρ' a' v' q1 q2=>next a' v' (q1.s0 hs') (Zjl q2)
theorem S0.name{s:List SV}{a:Act}(hS:S0 P s a){i b:Nat}(hi:s[i]?=some (.a (.v (.pointer (some ⟨b,0,none⟩))))){C:Array Value}{t:TypeId}{v:World}(hb:v.heap[b]?=some (.cells C t (0,0)))(hW:WT P t C)(hd:s.all (refV [])=true):
  RR P { v with heap:=#[] } (λ_=>⟨b,0⟩) (s.set i (.a (.w 0))) [.row C t] a v:=by
 have hrow:∀(n:Nat) (x:VB),[VB.row C t][n]?=some x->n=0/\x=.row C t:=λn x h=>by
  cases n with|zero=>simp at h;exact⟨rfl,h.symm⟩|succ n=>simp at h
 have hpr:∀n,present [VB.row C t] n->n=0:=λn h=>by
  cases h with|row e=>exact(hrow n _ e).1|one e=>exact(hrow n _ e).1|mp e=>exact(hrow n _ e).1|own e _ _=>exact(hrow n _ e).1
 refine⟨by simpa using hS.len,λj x hj=> ?_,⟨λn x hx=> ?_,λn m hn hm _=>(hpr n hn).trans (hpr m hm).symm,λn x k hx hf=> ?_⟩,rfl,λ_ _ _ _=>Nat.zero_le _,⟨rfl,rfl,rfl,Nat.zero_le _,λk hk=>by simp at hk⟩,hS.defers⟩
 ·by_cases hij:i=j
  ·subst hij;have hlt:=(jJ.1 hi).1;rw[List.getElem?_set_self hlt,Q8]at hj;subst hj;exact⟨hS.slots i _ hi,.row rfl⟩
  ·rw[jK hij]at hj;have:=hS.slots j x hj;have hr:=jA.1 hd x (jB hj);cases x with
   | a y=>
    cases y with
    |c f ns=>cases ns with|nil=>exact⟨this.1,λn hn=>by cases hn⟩|cons n ns=>simp[refV,refA,Uai]at hr
    |x=>trivial
    |p _ _ _=>cases hr
    |w _=>cases hr
    |l _=>cases hr
    |q _ _ _=>cases hr
    |e _=>cases hr
    |m _=>cases hr
    |r _ _ _=>cases hr
    |_=>exact this
   | t ys=>
    obtain⟨vs,h1,h2,h3⟩:=this;refine⟨vs,h1,h2,λi y v hy hv=> ?_⟩;have hq:refA [] y=true:=jA.1 hr y (jB hy);have h4:=h3 i y v hy hv;cases y with
    |c f ns=>cases ns with|nil=>exact⟨h4.1,λn hn=>by cases hn⟩|cons n ns=>simp[refA,Uai]at hq
    |x=>trivial
    |p _ _ _=>cases hq
    |w _=>cases hq
    |l _=>cases hq
    |q _ _ _=>cases hq
    |e _=>cases hq
    |m _=>cases hq
    |r _ _ _=>cases hq
    |_=>exact h4
 ·obtain⟨rfl,rfl⟩:=hrow n x hx;exact⟨hb,hW⟩
 ·obtain⟨rfl,rfl⟩:=hrow n x hx;cases hf
theorem RR.unname{ρ:Nat->Ad}{s:List SV}{h:List VB}{a:Act}{v:World}(hR:RR P W0 ρ s h a v){j:Nat}(hj:s[j]?=some (.a (.w 0)))(hd:(s.set j (.a .x)).all (refV [])=true):S0 P (s.set j (.a (.v (.pointer (some ⟨(ρ 0).a,0,none⟩))))) a:=by
 refine⟨by simpa using hR.len,λi x hi=> ?_,hR.defers⟩
 by_cases hij:j=i
 ·subst hij;have hlt:=(jJ.1 hj).1;rw[List.getElem?_set_self hlt,Q8]at hi;subst hi;exact(hR.slots j _ hj).1
 ·rw[jK hij]at hi;have hr:refV [] x=true:=jA.1 hd x (jB (i:=i) (by rw[jK hij];exact hi));have hx:=hR.slots i x hi;cases x with
  | a y=>
   cases y with
   |c f ns=>cases ns with|nil=>exact⟨hx.1,λn hn=>by cases hn⟩|cons n ns=>simp[refV,refA,Uai]at hr
   |x=>trivial
   |p _ _ _=>cases hr
   |w _=>cases hr
   |l _=>cases hr
   |q _ _ _=>cases hr
   |e _=>cases hr
   |m _=>cases hr
   |r _ _ _=>cases hr
   |_=>exact hx
  | t ys=>
   obtain⟨vs,h1,h2,h3⟩:=hx;refine⟨vs,h1,h2,λi y v hy hv=> ?_⟩;have hq:refA [] y=true:=jA.1 hr y (jB hy);have h4:=h3 i y v hy hv;cases y with
   |c f ns=>cases ns with|nil=>exact⟨h4.1,λn hn=>by cases hn⟩|cons n ns=>simp[refA,Uai]at hq
   |x=>trivial
   |p _ _ _=>cases hq
   |w _=>cases hq
   |l _=>cases hq
   |q _ _ _=>cases hq
   |e _=>cases hq
   |m _=>cases hq
   |r _ _ _=>cases hq
   |_=>exact h4
theorem Yi4(hΓ:ConsOkX mn P IC Γ){s s':List SV}{a:Act}{v:World}(hS:S0 P s a){j b:Nat}(hj:s[j]?=some (.a (.v (.pointer (some ⟨b,0,none⟩))))){C:Array Value}{t:TypeId}(hb:v.heap[b]?=some (.cells C t (0,0)))(hW:WT P t C)(hd:s.all (refV [])=true)
  {ops:Array Oper} {l tl:List Oper} {i:Nat} (hl:ops.toList.drop i=l++tl) {kS:List Nat} {nS:Nat} (hj':s'[j]?=some (.a (.w 0))) (hs':(s'.set j (.a .x)).all (refV [])=true)
  (hr:Ubf P Γ ops 1 l i ⟨s.set j (.a (.w 0)),[.row C t],[]⟩ (selK [.row C t] kS [0] [] nS 1)=some (s',[.row C t])) {K:Act->World->Prop} {rest:List Nat}
  (next:∀a' v',S0 P (s'.set j (.a (.v (.pointer (some ⟨b,0,none⟩))))) a'->Ge v v'->OpsX mn P ops K rest a' v'):OpsX mn P ops K (jC i l.length++rest) a v:=
 Zpy _ _ _ (Zl8 hΓ (hS.name hj hb hW hd) hl 0 rfl hr) λa' v' ⟨ρ',q1,q2⟩=>next a' v' (by
  have:=q1.unname hj' hs';rw[q2.2 0 (by simp)]at this;exact this) (Zjl q2)
theorem Yho{ro:Option Nat}{Q:Exit->Act->World->Prop}(hΓ:ConsOkX mn P IC Γ){s s':List SV}{a:Act}{v:World}(hS:S0 P s a){j b:Nat}(hj:s[j]?=some (.a (.v (.pointer (some ⟨b,0,none⟩))))){C:Array Value}{t:TypeId}(hb:v.heap[b]?=some (.cells C t (0,0)))(hW:WT P t C)(hd:s.all (refV [])=true)
  {id:Nat} {ops:Array Oper} {kS:List Nat} {nS:Nat} (hj':s'[j]?=some (.a (.w 0))) (hs':(s'.set j (.a .x)).all (refV [])=true)
  (hr:Ubf P Γ ops 1 ops.toList 0 ⟨s.set j (.a (.w 0)),[.row C t],[]⟩ (selK [.row C t] kS [0] [] nS 1)=some (s',[.row C t]))
  (next:∀a' v',S0 P (s'.set j (.a (.v (.pointer (some ⟨b,0,none⟩))))) a'->Ge v v'->Q .normal a' v'):WpX mn ro P (.region id ops false) Q a v:=by
 refine Zoq hΓ (hS.name hj hb hW hd) 0 rfl hr λρ' a' v' q1 q2=>next a' v' ?_ (Zjl q2)
 have:=q1.unname hj' hs';rw[q2.2 0 (by simp)]at this;exact this
theorem S0.enter(vals:List Value)(n:Nat):S0 P (vals.map (λv=>.a (.v v))++jD n (.a .u)) { tmps:=vals.toArray++jG n undef,defers:=[] }:=by
 refine⟨by simp,λi x hi=> ?_,rfl⟩
 by_cases h:i<vals.length
 ·rw[List.getElem?_append_left (by simpa using h),List.getElem?_map,List.getElem?_eq_getElem h,jE,Q8]at hi;subst hi
  show _=_
  rw[jL,Array.getElem?_append_left (by simpa using h)];simp[h]
 ·rw[List.getElem?_append_right (by simpa using h),List.getElem?_replicate]at hi;split at hi
  ·cases hi
   show _=_
   rw[jL,Array.getElem?_append_right (by simpa using h),Array.getElem?_replicate];rename_i h';simp only[List.length_map]at h';simp[h']
  ·cases hi
theorem Zm4{fn:Func}(hf:fn.results=#[]){tmps:Array Value}{R:Value->World->Prop}{ds:List Deferred}(hd:ds=[]){v:World}(h:∀v',Ge v v'->R (.tuple #[]) v'):Ucq P fn tmps R ds v:=by subst hd;refine⟨v,DefOk.nil _ _,λwx hk _=>⟨_,results_none hf _ _ _,h wx ⟨hk.os,hk.tape,hk.output,hk.size,λk hlt=>hk.block k hlt (by omega)⟩⟩⟩
theorem S0.bool{s:List SV}{a:Act}(h:S0 P s a){i:Nat}{t:Bool}(hi:s[i]?=some (.a (.b t))):a.eval (.tmp i)=.bool t:=h.slots i _ hi
theorem Zds(hΓ:ConsOkX mn P IC Γ){s s':List SV}{a:Act}{v:World}(hS:S0 P s a){ops:Array Oper}(i n:Nat)(hn:((ops.toList.drop i).take n).length=n){kS:List Nat}{nS:Nat}(hs':s'.all (refV [])=true)
  (hr:Ubf P Γ ops 0 ((ops.toList.drop i).take n) i ⟨s,[],[]⟩ (selK [] kS [] [] nS 0)=some (s',[])) {K:Act->World->Prop} {rest:List Nat}
  (next:∀a' v',S0 P s' a'->Ge v v'->OpsX mn P ops K rest a' v'):OpsX mn P ops K (jC i n++rest) a v:=by
 have:=Yfk (t:=(ops.toList.drop i).drop n) hΓ hS (jM n _).symm hs' hr next
 rwa [hn]at this
theorem Zpr{o:Oper}{a:Act}{v:World}{K:Act->World->Prop}{c:Call}{y:Operand}{l:Nat}{args:Array Value}{R:Value->World->Prop}(ho:o.op=.call c)(hc:c.callee=.value y)(hy:a.eval y=.func (.yield l) #[] #[])(ha:c.args.map a.eval=args)
  (h:YieldX mn P l args v R) (hK:∀r v',R r v'->K (a.put o.dst r) v'):OpX mn P o a v K:=Yi6 ho hc hy (by rw[ha];exact h) hK
theorem S0.int{s:List SV}{a:Act}(h:S0 P s a){i:Nat}{k:IntKind}{n:Int}(hi:s[i]?=some (.a (.i k n))):a.eval (.tmp i)=.int k n:=(h.slots i _ hi).1
theorem S0.cst{s:List SV}{a:Act}(h:S0 P s a){i:Nat}{y:Value}(hi:s[i]?=some (.a (.v y))):a.eval (.tmp i)=y:=h.slots i _ hi
end
end
section
variable {mn:Md}
section
variable {P:Program} {IC:FuncId->ICon->Prop} {Γ:Cons} {W0:World} {n0:Nat} {D:List Nat} {ρ0:Nat->Ad}
def arrB(n m:Nat):Array Bool:=((List.range n).map (Nat.testBit m)).toArray
theorem Yhf{n m i:Nat}(hi:i<n):(arrB n m).setIfInBounds i true=arrB n (m ||| (1 <<< i)):=by
 unfold arrB;refine Array.ext_getElem? λj=> ?_
 rw[Array.getElem?_setIfInBounds]
 by_cases hij:i=j
 ·subst hij;simp[hi,Nat.testBit_or,Nat.testBit_shiftLeft]
 ·rw [if_neg hij];simp only[List.getElem?_toArray,List.getElem?_map]
  by_cases hj:j<n
  ·rw[List.getElem?_range hj,jE,jE,Nat.testBit_or,Nat.testBit_shiftLeft];have:(decide (j>=i)&&Nat.testBit 1 (j - i))=false:=by
    by_cases h:i<=j
    ·cases hd:j - i with|zero=>omega|succ d=>rw[Nat.testBit_succ];simp
    ·simp[h]
   rw[this,Bool.or_false]
  ·rw[List.getElem?_eq_none (by simpa using hj)];rfl
def Ufh(ops:Array Oper)(tab:List Nat):List (Nat×Nat):=tab.flatMap λm=>(Region.ready .any ops (arrB ops.size m)).map λi=>(m,i)
def readyT(ops:Array Oper)(tab:List Nat):Bool:=tab.all λm=>(Region.ready .any ops (arrB ops.size m)).all λi=>Uai (m ||| (1 <<< i)) tab
theorem anyX_tab(hΓ:ConsOkX mn P IC Γ){ops:Array Oper}{base:Nat}(hbase:n0<=base)(stOf:Nat->St)(tab:List Nat)(hg:ops.all (λo=>o.guard.isNone)=true)(hin:readyT ops tab=true)
  (hst:(Ufh ops tab).map (λx=>(ops[x.2]?).bind λo=>Uey P Γ ops.size (base+x.2) o (stOf x.1) some)=(Ufh ops tab).map λx=>some (stOf (x.1 ||| (1 <<< x.2))))
  {K:Act->World->Prop} (hK:∀(m:Nat) (ρ':Nat->Ad) (a:Act) (v:World),m∈tab->Region.ready .any ops (arrB ops.size m)=[]->R P W0 n0 D ρ0 ρ' (stOf m) a v->(∀m,m<base->ρ' m=ρ0 m)->a.defers=[]->K a v) :
  ∀(fuel m:Nat) (ρ:Nat->Ad) (a:Act) (v:World),m∈tab->unl (arrB ops.size m).toList<=fuel->R P W0 n0 D ρ0 ρ (stOf m) a v->(∀m,m<base->ρ m=ρ0 m)->a.defers=[]->AnyX mn P ops K fuel (arrB ops.size m) a v:=by
 have hsz:∀m,(arrB ops.size m).size=ops.size:=λm=>by simp[arrB]
 have hg:∀o∈ops,o.guard=none:=λo ho=>by simpa using Array.all_eq_true'.1 hg o ho
 have hin':∀m,m∈tab->∀i,i∈Region.ready .any ops (arrB ops.size m)->(m ||| (1 <<< i))∈tab:=λm hL i hi=>Zfp.1 (jA.1 (jA.1 hin m hL) i hi)
 have hst':∀m,m∈tab->∀i,i∈Region.ready .any ops (arrB ops.size m)->∀o,ops[i]?=some o->Uey P Γ ops.size (base+i) o (stOf m) some=some (stOf (m ||| (1 <<< i))):=λm hL i hi o ho=>by
  have:=List.map_inj_left.1 hst (m,i) (List.mem_flatMap.2 ⟨m,hL,List.mem_map.2 ⟨i,hi,rfl⟩⟩);dsimp only at this;rw[ho]at this;exact this
 intro fuel
 induction fuel with
 | zero=>
  intro m ρ a v hL hf hR hρ hd;have hr:Region.ready .any ops (arrB ops.size m)=[]:=by
   cases hr:Region.ready .any ops (arrB ops.size m) with
   |nil=>rfl
   |cons x xs=>
    exfalso;have hi:x∈Region.ready .any ops (arrB ops.size m):=by rw[hr];exact List.mem_cons_self ..
    obtain⟨h1,h2,_⟩:=Zo3 hi;have hlt:x<(arrB ops.size m).size:=by rw[hsz];exact h1
    have:=Yc0 (arrB ops.size m).toList (by omega) x (arrB ops.size m)[x] (by simp[hlt]);rw[jL,jN hlt]at h2;rw[this]at h2;cases h2
  exact⟨hr,hK m ρ a v hL hr hR hρ hd⟩
 | succ fuel ih=>
  intro m ρ a v hL hf hR hρ hd;refine⟨λhr=>hK m ρ a v hL hr hR hρ hd,λi hi=> ?_⟩;have hmem:=hin' m hL i hi;obtain⟨hlt,h2,_⟩:=Zo3 hi;have hlt':i<(arrB ops.size m).size:=by rw[hsz];exact hlt
  have hli:(arrB ops.size m).toList[i]?=some false:=by
   rw[jL,jN hlt']at h2;simp[hlt']
   simpa using h2
  have ho:ops[i]?=some ops[i]:=jN hlt;have hw:Region.wanted ops[i] (yielded ops a.tmps)=true:=by unfold Region.wanted;rw[hg _ (Array.getElem_mem hlt)]
  refine Zlp ho hw ?_;have:=Ybo (Zgh (mn:=mn) hΓ hR (m:=ops.size) (id:=base+i) (by omega) (hst' m hL i hi _ ho) (b:=base) (by omega) (K':=λa' v'=>∃ρ',R P W0 n0 D ρ0 ρ' (stOf (m ||| (1 <<< i))) a' v'/\∀m,m<base->ρ' m=ρ m)
   λρ' st' a' w' hk hR' hE=>by
    cases hk;exact⟨ρ',hR',λm hm=>hE.ren m hm⟩)
  refine this.mono λa' v' ⟨⟨ρ',hR',hr⟩,hd'⟩=> ?_
  rw[Yhf hlt];refine ih _ ρ' a' v' hmem ?_ hR' (λm hm=>(hr m hm).trans (hρ m hm)) (hd'.trans hd);have:=Yf3 (arrB ops.size m).toList i hli;rw[<- Yhf hlt,Array.toList_setIfInBounds];omega
def levT(ops:Array Oper):Nat->List Nat->List Nat
 |0,fr=>fr
 |n+1,fr=>fr++levT ops n (fr.foldl (λacc m=>(Region.ready .any ops (arrB ops.size m)).foldl (λacc i=>bif Uai (m ||| (1 <<< i)) acc then acc else acc++[m ||| (1 <<< i)]) acc) [])
theorem RR.of{ρ ρ':Nat->Ad}{s:List SV}{h:List VB}{a a':Act}{v v':World}{st:St}(hR:RR P W0 ρ s h a v)(hR':R P v h.length [] ρ ρ' st a' v')(hrow:st.h.all Ue1=true)(hno:Ucg h st.h=true)(hdd:st.d.all (λn=>Nat.ble h.length n)=true)(hd:a'.defers=[]):
  RR P W0 ρ' st.s st.h a' v'/\Ge v v':=by
 have hb:∀n,n<h.length->ρ' n=ρ n:=hR'.base;have hk:Ge v v':=(hR'.keptR.mono (E':=λ_=>False) λk _ ⟨n,hn,hd',hρ⟩=>by
  have:=jA.1 hdd n (hd'.elim id λx=>by cases x);have:=Nat.le_of_ble_eq_true this;omega).below
 refine⟨⟨hR'.len,hR'.slots,hR'.heap,hrow,λn C t e=> ?_,?_,hd⟩,hk⟩
 ·by_cases hlt:n<h.length
  ·rw[hb n hlt];cases hx:h[n]? with
   |none=>have:=List.getElem?_eq_none_iff.1 hx;omega
   |some b=>
    rcases Zjk hR.rows hx with rfl | ⟨C',t',rfl⟩
    ·have:=Zzd hno hx e;cases this
    ·exact hR.fresh n C' t' hx
  ·exact Nat.le_trans hR.kept.size (hR'.freshR n (by omega) (.row e))
 ·exact hR.kept.trans (.of_below hk)
theorem S0.set{s:List SV}{a:Act}(h:S0 P s a){i:Nat}{y:SV}(hy:IsV P idA [] y (a.tmps.getD i undef)):S0 P (s.set i y) a :=
  ⟨by simpa using h.len, fun j x hj => by
    by_cases hij:i=j
    · subst hij;rw[List.getElem?_set]at hj;simp only[if_true]at hj;split at hj
      . cases hj; exact hy
      . cases hj
    · rw [jK hij] at hj;exact h.slots j x hj,h.defers⟩
theorem Ykc(n:Nat):arrB n 0=jG n false:=by
 unfold arrB;refine Array.ext_getElem? λj=> ?_
 simp only[List.getElem?_toArray,List.getElem?_map,Array.getElem?_replicate]
 by_cases hj:j<n
 ·rw[List.getElem?_range hj,if_pos hj];simp
 ·rw[List.getElem?_eq_none (by simpa using hj),if_neg hj];rfl
def regs:Code->List (Array Oper)
 |.region _ ops _=>[ops]
 |.seq x y=>regs x++regs y
 |.cond _ x y=>regs x++regs y
 |.block _ x=>regs x
 |.loop x=>regs x
 |.scope x=>regs x
 |.rangeFunc _ _ x y=>regs x++regs y
 |_=>[]
theorem wpX_tab{ro:Option Nat}{Q:Exit->Act->World->Prop}(hm:P.follows .mixedOrders=true)(hΓ:ConsOkX mn P IC Γ){ρ:Nat->Ad}{s:List SV}{h:List VB}{a:Act}{v:World}(hR:RR P W0 ρ s h a v){id:Nat}{ops:Array Oper}(stOf:Nat->St)(tab:List Nat)(full:Nat)
  (h0:stOf 0=⟨s,h++jD ops.size .no,[]⟩) (h0':Uai 0 tab=true) (hg:ops.all (λo=>o.guard.isNone)=true) (hin:readyT ops tab=true)
  (hst:(Ufh ops tab).map (λx=>(ops[x.2]?).bind λo=>Uey P Γ ops.size (h.length+x.2) o (stOf x.1) some)=(Ufh ops tab).map λx=>some (stOf (x.1 ||| (1 <<< x.2))))
  (hend:tab.all (λm=> !(Region.ready .any ops (arrB ops.size m)).isEmpty||Nat.beq m full)=true) (hrow:(stOf full).h.all Ue1=true) (hno:Ucg h (stOf full).h=true) (hdd:(stOf full).d.all (λn=>Nat.ble h.length n)=true)
  (next:∀ρ' a' v',RR P W0 ρ' (stOf full).s (stOf full).h a' v'->Ge v v'->(∀n,n<h.length->ρ' n=ρ n)->Q .normal a' v'):WpX mn ro P (.region id ops true) Q a v:=by
 refine Zq1 hm ?_;rw[<- Ykc];refine anyX_tab (W0:=v) (n0:=h.length) (D:=[]) (ρ0:=ρ) hΓ (base:=h.length) (jF _) stOf tab hg hin hst (λm ρ' a' v' hL hr hR' hρ hd=> ?_) ops.size 0 ρ a v (Zfp.1 h0') ?_ ?_ (λ_ _=>rfl) hR.defers
 ·have:=jA.1 hend m hL;rw[hr]at this;obtain rfl:=Nat.eq_of_beq_eq_true (by simpa using this:Nat.beq m full=true);obtain⟨q1,q2⟩:=hR.of hR' hrow hno hdd hd;exact next ρ' a' v' q1 q2 hρ
 ·have h1:(arrB ops.size 0).toList.length=ops.size:=by simp[arrB]
  have h2:unl (arrB ops.size 0).toList<=(arrB ops.size 0).toList.length:=List.length_filter_le _ _;omega
 ·rw[h0];exact(hR.r.room ops.size).1
theorem RR.row{ρ:Nat->Ad}{s:List SV}{h:List VB}{a:Act}{v:World}(hR:RR P W0 ρ s h a v){n:Nat}{C:Array Value}{t:TypeId}(hn:h[n]?=some (.row C t)):v.heap[(ρ n).a]?=some (.cells C t (0,0))/\WT P t C/\W0.heap.size<=(ρ n).a:=⟨(hR.heap.is n _ hn).1,(hR.heap.is n _ hn).2,hR.fresh n C t hn⟩
theorem RR.ne{ρ:Nat->Ad}{s:List SV}{h:List VB}{a:Act}{v:World}(hR:RR P W0 ρ s h a v){n m:Nat}{C C':Array Value}{t t':TypeId}(hn:h[n]?=some (.row C t))(hm:h[m]?=some (.row C' t'))(hne:n≠m):(ρ n).a≠(ρ m).a:=λe=>hne (hR.heap.inj n m (.row hn) (.row hm) e)
theorem Ybh{fn:Func}{t:Tmp}(hf:fn.results=#[.tmp t]){tmps:Array Value}{R:Value->World->Prop}{ds:List Deferred}(hd:ds=[]){v:World}(h:∀v',Ge v v'->R (tmps.getD t undef) v'):Ucq P fn tmps R ds v:=by subst hd;refine⟨v,DefOk.nil _ _,λwx hk _=>⟨tmps.getD t undef,?_,h wx ⟨hk.os,hk.tape,hk.output,hk.size,λk hlt=>hk.block k hlt (by omega)⟩⟩⟩;simp[results,hf]
theorem Zx8{T:TypeId}(hu:(P.underlying T).map (·.isRow)=some false){w:World}{g:Nat}{x:Value}(hc:w.cell? ⟨g,0,none⟩=some x):(Instr.loadAt T (.pointer (some ⟨g,0,none⟩))).run P w=.ok x w:=by
 obtain⟨d,hu,hd⟩:=jI.1 hu;have:(loadVar T ⟨g,0,none⟩).run P w=.ok x w:=by unfold loadVar;simp only[Sem.run_bind,Zfo hu,hd,Result.andThen_ok];simp[load,Sem.run,hc]
 simp only[Instr.loadAt,Instr.sureAddr,Sem.run_bind,Sem.run_pure,Result.andThen_ok,this]
theorem Yhv{o:Oper}{a:Act}{v:World}{K:Act->World->Prop}{T:TypeId}{y:Operand}{f:Fn}{b c:Array Value}(ho:o.op=.box T y)(hy:a.eval y=.func f b c)
  (h:∀v₁,Ge v v₁->K (a.put o.dst (.pointer (some ⟨v₁.heap.size,0,none⟩))) (v₁.alloc (.cells #[.func f b c] T))):OpX mn P o a v K:=
 ⟨λc hc=>(by rw[ho]at hc;cases hc),λv₁ h₁=>.inl ⟨_,_,(show Simple P (execOp a.eval o) by unfold execOp;rw[ho];exact .bind (Zvb _ _) λ_=>.pure _).tr (by unfold execOp;rw[ho];dsimp only;rw[hy];rfl),h v₁ h₁⟩⟩
theorem Zxl(v:World)(o:Obj):Ge v (v.alloc o):=(Below.refl _ v).alloc (jF _) o
def Fin1(P:Program)(fn:Func)(R:Value->World->Prop)(a:Act)(v:World):Prop:=
 (a.defers=[]/\∀v₁,Ge v v₁->∃r,(results fn a.tmps).run P v₁=.ok r v₁/\R r v₁) \/
 ∃D,a.defers=[{ target:=.collected D,args:=#[] }]/\v.heap[D]?=some (.deferred (some []))/\∀v₁,Ge (v.putObj D (.deferred none)) v₁->∃r,(results fn a.tmps).run P v₁=.ok r v₁/\R r v₁
theorem Zfy{f:FuncId}{fn:Func}(hf:P.funcs[f]?=some fn){c:Code}(hb:fn.body=some c){args:Array Value}{v:World}{R:Value->World->Prop}
  (h:WpX mn none P c (λe a' v'=>(e=.normal\/e=.ret)/\Fin1 P fn R a' v') { tmps:=args++jG (fn.ntmps - args.size) undef,defers:=[] } v):Ua4 mn P f args v R:=λPr hC cs G w hfit hv hQ=>by
 let b:Frame:={ fn:=f,tmps:=#[],todo:=[],defers:=[],mode:=.run,kind:=.normal }
 have he:Frame.enter P f args .normal=b.atR { tmps:=args++jG (fn.ntmps - args.size) undef,defers:=[] } [.code c]:=by simp[Frame.enter,Frame.atR,b,hf,hb]
 rw[he];refine h Pr hC b rfl rfl [] cs G w hfit hv λe a' v' hq G' w' hf' hv'=> ?_
 obtain⟨hex,hl⟩:=hq;have go:∀ k:List _root_.Go.Item,(∀ w,stepG P mn.main (gr (b.atR a' k) cs) w = .go (gr { b.atR a' k with mode:=.returning } cs) w #[])→Pr G' w' (gr (b.atR a' k) cs):=fun k hs=>
  hC.calm hf' rfl hs λw₁ hf₁ hg=>by
   rcases hl with ⟨hd,hl⟩ | ⟨D,hd,hD,hl⟩
   ·exact hQ v' _ rfl ⟨rfl,hd,rfl,fn,hf,λv₁ hg₁=>let ⟨r,q1,q2⟩:=hl v₁ hg₁;⟨r,(Zjd fn a'.tmps).tr q1,q2⟩⟩ G' w₁ hf₁ (hv'.trans hg)
   ·refine hC.step G' w₁ _ hf₁.toFit rfl λw₂ hr₂=> ?_
    have hf₂:=hf₁.rely hr₂;have hg₂:=(hv'.trans hg).trans (hr₂.view hf₁.toFit);have hD₂:(view G' w₂).heap[D]?=some (.deferred (some [])):=(hg₂.block D (jH.1 hD).1).trans hD;obtain⟨w₃,es,e1,e2,e3⟩:=Zo4 (P:=P) hD₂ G' w₂ hf₂.toFit rfl #[];refine⟨_,w₃,_,Yey (ds:=[]) rfl hd e1,by rw[Array.empty_append];exact e3.seen _,?_⟩;have hgp:Ge (v'.putObj D (.deferred none)) ((view G' w₂).putObj D (.deferred none)):=⟨hg₂.os,hg₂.tape,hg₂.output,by simpa [World.putObj] using hg₂.size,λk hk=>by
     have hk':k<v'.heap.size:=by simpa [World.putObj] using hk
     by_cases hkD:D=k
     ·subst hkD;have h1:D<v'.heap.size:=hk';have h2:D<(view G' w₂).heap.size:=Nat.lt_of_lt_of_le h1 hg₂.size;unfold World.putObj;dsimp only;rw[Array.getElem?_setIfInBounds_self_of_lt h1,Array.getElem?_setIfInBounds_self_of_lt h2]
     ·rw[World.putObj_heap_other (Ne.symm hkD),World.putObj_heap_other (Ne.symm hkD)];exact hg₂.block k hk'⟩
    exact hQ (v'.putObj D (.deferred none)) _ rfl ⟨rfl,rfl,rfl,fn,hf,λv₁ hg₁=>let ⟨r,q1,q2⟩:=hl v₁ hg₁;⟨r,(Zjd fn a'.tmps).tr q1,q2⟩⟩ _ w₃ (hf₂.did e3) (by rw[<- e2];exact hgp)
 rcases hex with rfl|rfl
 ·exact go [] λw=>by simp[gr,stepG,stepG.exec,Frame.atR,b]
 ·exact λk₁=>go _ λw=>by simp[gr,stepG,stepG.exec,Frame.atR,b]
theorem Zkj{ops:Array Oper}{K:Act->World->Prop}{i:Nat}{rest:List Nat}{s:List SV}{a:Act}{v:World}(hS:S0 P s a){o:Oper}(ho:ops[i]?=some o){j d:Nat}{t:Bool}(hg:o.guard=some (j,t))(hd:Ueg ops j=some d)(hs:s[d]?=some (.a (.b t)))(h:OpX mn P o a v (OpsX mn P ops K rest)):OpsX mn P ops K (i::rest) a v:=by
 have hy:=Zki hd (hS.rr v).r hs;have hw:Region.wanted o (yielded ops a.tmps)=true:=by simp[Region.wanted,hg,hy]
 rw[OpsX];exact Zlp ho hw h
def bareS(s:List SV):List SV:=s.map λx=>bif refV [] x then x else .a .x
theorem RR.bare{ρ:Nat->Ad}{s:List SV}{h:List VB}{a:Act}{v:World}(hR:RR P W0 ρ s h a v):S0 P (bareS s) a:=by
 refine⟨by simpa [bareS] using hR.len,λi x hx=> ?_,hR.defers⟩;unfold bareS at hx;rw[List.getElem?_map]at hx;cases hy:s[i]? with
 |none=>rw[hy]at hx;cases hx
 | some y=>
  rw[hy,jE,Q8]at hx;cases hr:refV [] y with
  |false=>rw[hr]at hx;subst hx;trivial
  | true=>
   rw[hr]at hx;subst hx;have hv:=hR.slots i _ hy;have one:∀{y:SA} {v:Value},refA [] y=true->Is P ρ h y v->Is P idA [] y v:=λ{y v} hq h4=>by
    cases y with
    |c f ns=>cases ns with|nil=>exact⟨h4.1,λn hn=>by cases hn⟩|cons n ns=>simp[refA,Uai]at hq
    |x=>trivial
    |p _ _ _=>cases hq
    |w _=>cases hq
    |l _=>cases hq
    |q _ _ _=>cases hq
    |e _=>cases hq
    |m _=>cases hq
    |r _ _ _=>cases hq
    |_=>exact h4
   cases y with|a y=>exact one hr hv|t ys=>obtain⟨vs,h1,h2,h3⟩:=hv;exact⟨vs,h1,h2,λi y v hy hv=>one (jA.1 hr y (jB hy)) (h3 i y v hy hv)⟩
theorem Zm3(hΓ:ConsOkX mn P IC Γ){s s':List SV}{a:Act}{v:World}(hS:S0 P s a){j b:Nat}(hj:s[j]?=some (.a (.v (.pointer (some ⟨b,0,none⟩))))){C:Array Value}{t:TypeId}(hb:v.heap[b]?=some (.cells C t (0,0)))(hW:WT P t C)(hd:s.all (refV [])=true)
  {ops:Array Oper} (i n:Nat) (hn:((ops.toList.drop i).take n).length=n) {kS:List Nat} {nS:Nat} (hj':s'[j]?=some (.a (.w 0))) (hs':(s'.set j (.a .x)).all (refV [])=true)
  (hr:Ubf P Γ ops 1 ((ops.toList.drop i).take n) i ⟨s.set j (.a (.w 0)),[.row C t],[]⟩ (selK [.row C t] kS [0] [] nS 1)=some (s',[.row C t])) {K:Act->World->Prop} {rest:List Nat}
  (next:∀a' v',S0 P (s'.set j (.a (.v (.pointer (some ⟨b,0,none⟩))))) a'->Ge v v'->OpsX mn P ops K rest a' v'):OpsX mn P ops K (jC i n++rest) a v:=by
 have:=Yi4 (tl:=(ops.toList.drop i).drop n) hΓ hS hj hb hW hd (jM n _).symm hj' hs' hr next
 rwa [hn]at this
theorem Ykj(hΓ:ConsOkX mn P IC Γ){ρ:Nat->Ad}{s s':List SV}{h h':List VB}{a:Act}{v:World}(hR:RR P W0 ρ s h a v){ops:Array Oper}(i n:Nat)(hn:((ops.toList.drop i).take n).length=n){kS kH dd:List Nat}{nS nH:Nat}(m:Nat)
  (hkH:kH.all (Nat.blt · nH)=true) (hr:Ubf P Γ ops h.length ((ops.toList.drop i).take n) i ⟨s,h++jD m .no,[]⟩ (selK h kS kH dd nS nH)=some (s',h')) {K:Act->World->Prop} {rest:List Nat}
  (next:∀ρ' a' v',RR P W0 ρ' s' h' a' v'->Went ρ ρ' h dd v v'->OpsX mn P ops K rest a' v'):OpsX mn P ops K (jC i n++rest) a v:=by
 have:=Zpy _ _ _ (Zl8 (t:=(ops.toList.drop i).drop n) hΓ hR (jM n _).symm m hkH hr) (K:=K) (rest:=rest) λa' v' ⟨ρ',q1,q2⟩=>next ρ' a' v' q1 q2
 rwa [hn]at this
theorem Zy2{F:Fd}(hΓ:ConsOkX (md F) P IC Γ){ρ:Nat->Ad}{s s':List SV}{h h':List VB}{a:Act}{v:World}(hR:RR P W0 ρ s h a v){ops:Array Oper}(i n:Nat)(hn:((ops.toList.drop i).take n).length=n){kS kH dd:List Nat}{nS nH:Nat}(m:Nat)
  (hkH:kH.all (Nat.blt · nH)=true) (hr:Ubf P Γ ops h.length ((ops.toList.drop i).take n) i ⟨s,h++jD m .no,[]⟩ (selK h kS kH dd nS nH)=some (s',h')) {K:Act->World->Fd->Prop} {rest:List Nat}
  (next:∀ρ' a' v',RR P W0 ρ' s' h' a' v'->Went ρ ρ' h dd v v'->OpsF P ops K rest a' v' F):OpsF P ops K (jC i n++rest) a v F:=by
 have:=Yga _ _ _ (Zl8 (t:=(ops.toList.drop i).drop n) hΓ hR (jM n _).symm m hkH hr) (K:=K) (rest:=rest) λa' v' ⟨ρ',q1,q2⟩=>next ρ' a' v' q1 q2
 rwa [hn]at this
theorem Ybj{f:FuncId}{G:Con}(hG:Uad mn P f G){args:List SA}{vals:List Value}{r:SV}(hr:G args []=some (r,.none,true))(hA:Uav P idA [] args vals)(v:World):Ua4 mn P f vals.toArray v λe v'=>IsV P idA [] r e/\Ge v v':=
 (hG idA [] v args vals _ _ (λn _ _ _ h=>by simp at h) hr hA (hisNil _ _)).mono λr v' h=>⟨h.1,h.2.below⟩
end
end
end Go.Proofs.YtefjogahegolbaaDoor.Vc
