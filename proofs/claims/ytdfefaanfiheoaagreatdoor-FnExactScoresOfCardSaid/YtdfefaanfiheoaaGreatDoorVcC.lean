/- Codes of the symbolic run, in company. No program is named. -/
import Derived.Test.YtdfefaanfiheoaaGreatDoorVcB
set_option linter.unusedVariables false
set_option linter.unusedSimpArgs false
open _root_.List renaming mem_append_left->jD,getElem?_eq_getElem->jE,getElem?_eq_some_iff->jF,all_eq_true->jH,getElem?_append_left->jJ,mem_append_right->jL,mem_of_getElem?->jM
open _root_.Array renaming replicate->jA,getD_eq_getD_getElem?->jN
open _root_.Nat renaming le_refl->jB,beq->jC,eq_of_beq_eq_true->jG,le_trans->jI,lt_of_lt_of_le->jK
namespace Go.Proofs.YtdfefaanfiheoaaGreatDoor.Vc
open Go.RowKit Go.Conc Go.Proofs.YtdfefaanfiheoaaGreatDoor.Ve
variable {mn:Md}
def Ual(mn:Md)(P:Program)(f:FuncId)(I:ICon):Prop:=
 ∀ρ h v ns Y,I (getH h ns) h=some Y->Y.ok=true->HIs P ρ h v->(∀n∈ns,∃C t,h[n]?=some (.row C t)) ->
  (∀(pre:List Y.X) (x:Y.X),pre++[x] <+: Y.xs->∀y∈Y.enc x,known y=true/\Is P ρ h y (Ve.valOf y)) /\
  SeqX mn P f (ns.map λm=>Value.pointer (some ⟨ρ m,0,none⟩)).toArray (λx=>((Y.enc x).map Ve.valOf).toArray) (Ub9 ((ns.map λm=>(ρ m).a)++glL h)) Y.xs v
section
variable {P:Program} {Γ:Cons} {N:Nat} {W0:World} {n0:Nat} {D E:List Nat} {ρ0:Nat->Ad} {ro:Option Nat}
theorem asgLX{ops:Array Oper}{V:World}:∀(l:List Oper) (i:Nat),ops.toList.drop i=l->∀{m:List (Nat×Nat)},asgL l=some m->∀{a a₀:Act} {v:World},Ubj m a=a₀->Ge V v ->
  OpsX mn P ops (Exit.then (λa w=>a=a₀/\Ge V w) (λ_ _ _=>False) .normal) (List.range' i l.length) a v
 |[],i,_,m,hm,a,a₀,v,ha,hv=>by
  simp only[asgL,Q8]at hm;subst hm;exact⟨ha,hv⟩
 | o::l,i,hl,m,hm,a,a₀,v,ha,hv=>by
  have ho:ops[i]?=some o:=by
   have:=congrArg (λx=>x[0]?) hl
   simpa using this
  have hl':ops.toList.drop (i+1)=l:=by
   have:=congrArg List.tail hl
   simpa [List.tail_drop] using this
  unfold asgL at hm;split at hm
  ·rename_i heq
   cases heq
  ·rename_i d p ty pos aft r heq
   obtain⟨rfl,rfl⟩:=List.cons.inj heq;split at hm
   ·rename_i m' hm'
    cases hm;rw[List.length_cons,List.range'_succ,OpsX];exact Zoj ho (by simp[Region.wanted]) (pickX (λc hc=>by cases hc) rfl λv₁ hg=>asgLX _ (i+1) hl' hm' ha (hv.trans hg))
   ·cases hm
  ·cases hm
theorem asgX{as:Code}{l:List (Nat×Nat)}(hl:asgOf as=some l){a:Act}{v:World}:WpX mn ro P as (Exit.then (λa' w=>a'=Ubj l a/\Ge v w) λ_ _ _=>False) a v:=by
 unfold asgOf at hl;split at hl
 ·cases hl;exact Zgg ⟨rfl,Ge.refl _⟩
 ·rename_i id ops
  refine Zaz ?_;rw[List.range_eq_range',<- Array.length_toList];exact asgLX ops.toList 0 rfl hl rfl (Ge.refl _)
 ·cases hl
theorem Ye6(hΓ:ConsOkX mn P (Ual mn P) Γ){g:Operand}{ps:Array Tmp}{as x:Code}{bs:List Nat}{p:Plan}{α:Type}{K:Exit->St->Option α}{r:α}{ρ:Nat->Ad}{st:St}{a:Act}{w:World}
  (body:∀ (l:Nat) (st1:St) (r':Stp BS (Exit×BS)) (ρ1:Nat→Ad) (a1:Act) (W:World),Ua7 p=true→veC P Γ N x p (Stp BS (Exit×BS)) st1 (Uch st.h.length bs)=some r'→R P W st.h.length [] ρ1 ρ1 st1 a1 W →
   WpX mn (some l) P x (λe a' w'=>∃ρ' st',Uch st.h.length bs e st'=some r'/\R P W st.h.length [] ρ1 ρ' st' a' w'/\Ext (writes x) st1.h.length ρ1 ρ' st1 st') a1 W)
  (hr:(match Ugl Γ st.h (asA (evO st.s g)),asgOf as with
  | some (ns,Y),some l=>
   bif Y.ok then (bif Ubu st.h ns&&Ubu st.h bs&&apart ns bs&&Ua7 p&&Ufe st.h then
    Udi (Ua0 (λy hb=>bif jC (Y.enc y).length ps.toList.length then veC P Γ N x p (Stp BS (Exit×BS)) (Uei bs ps.toList l st (Y.enc y) hb) (Uch st.h.length bs) else none) Y.xs (getH st.h bs)) (λhb=>K .normal (Ubh bs st hb)) (λe hb=>K e (Ubh bs st hb))
   else none) else none
  |_,_=>none)=some r) (hR:RS E P W0 n0 D ρ0 ρ st a w) :
  WpX mn none P (.rangeFunc g ps as x) (λe a' w'=>∃ρ' st',K e st'=some r/\RS E P W0 n0 D ρ0 ρ' st' a' w'/\Ext (writes (.rangeFunc g ps as x)) st.h.length ρ ρ' st st') a w:=by
 split at hr
 case h_2=>cases hr
 rename_i ns Y l hit hasg;cases hyok:Y.ok with
 |false=>rw[hyok]at hr;cases hr
 |true=>
 rw[hyok]at hr;simp only[Q1]at hr;cases hok:Ubu st.h ns&&Ubu st.h bs&&apart ns bs&&Ua7 p&&Ufe st.h with
 |false=>rw[hok]at hr;cases hr
 |true=>
 rw[hok]at hr;simp only[Q1]at hr;simp only[Q7]at hok;obtain⟨⟨⟨⟨hns,hbs⟩,hap⟩,hni⟩,hown⟩:=hok;have hown:=Yn7 hown;have hns:=Zv1 hns;have hbs:=Zv1 hbs;have hap:=Yj4 hap;generalize hstep:(λ(y:Y.X) (hb:BS)=>bif jC (Y.enc y).length ps.toList.length then veC P Γ N x p (Stp BS (Exit×BS)) (Uei bs ps.toList l st (Y.enc y) hb) (Uch st.h.length bs) else none)=step at hr
 -- the iterator
 unfold Ugl at hit;have hgv:=Zbu (Zn4 hR.slots g);split at hit
 case h_2=>cases hit
 rename_i f ns' hcl;split at hit
 case h_2=>cases hit
 rename_i I hI;split at hit
 case h_2=>cases hit
 rename_i Y' hY;simp only[Q8,Q0]at hit;obtain⟨rfl,rfl⟩:=hit;rw[hcl]at hgv;obtain⟨hgv,-⟩:=hgv;obtain⟨hico,hent⟩:=hΓ.i f I hI;obtain⟨hknown,hseq⟩:=hico ρ st.h w ns' Y' hY hyok hR.heap hns;have hW0:W0.heap.size<=w.heap.size:=hR.kept.size;have hmarks:∀m,({ target:=.collected m,args:=#[] }:Deferred)∈a.defers->m<w.heap.size:=λm hm=>by
  obtain⟨m',e,_,h2⟩:=hR.defers.all _ hm;cases e;exact(Array.getElem?_eq_some_iff.1 h2).1
 let RH:(Nat->Ad)->BS->World->Prop:=λρ' hb W=>RS E P W0 n0 (st.d++D) ρ0 ρ' { s:=st.s,h:=setMany st.h bs hb,d:=bs } a W/\(∀k,k<st.h.length->ρ' k=ρ k)/\HLe st.h (setMany st.h bs hb)
 have hRHown:∀{ρ' hb W W' row},RH ρ' hb W->W.grownBy W' row->(∀r,row=some r->w.heap.size<=r/\∃o:Obj,W.heap[r]?=some o/\o.isCells=false)->RH ρ' hb W':=
  λh hg hrow=>⟨h.1.grown hg hrow hW0 hmarks,h.2⟩
 have hself:setMany st.h bs (getH st.h bs)=st.h:=by
  refine List.ext_getElem? λi=> ?_
  rw[Zfq (g:=λc=>st.h.getD c .no) bs _ _ i (Zpf _ _)];split
  ·rename_i h
   rw[List.getD_eq_getElem?_getD,jE h.2];rfl
  ·rfl
 have hfin:∀{ρ' hb W} {ds:List Deferred},RH ρ' hb W->DefOk W0 ds W->RS E P W0 n0 D ρ0 ρ' (Ubh bs st hb) { a with defers:=ds } W/\Ext (writes (.rangeFunc g ps as x)) st.h.length ρ ρ' st (Ubh bs st hb):=by
  rintro ρ' hb W ds ⟨h1,h2,h3⟩ hds;refine⟨⟨h1.len,h1.slots,h1.heap,h1.base,h1.fresh,h1.kept.mono λk _ ⟨m,e1,e2,e3⟩=>⟨m,e1,?_,e3⟩,h1.own0,hds,h1.bound⟩,⟨λ_ _=>rfl,rfl,λm hm hd=> ?_,λm hm=>jL _ hm,?_,h3,h2⟩⟩
  ·simp only[Ubh,List.mem_append]at e2|-
   rcases e2 with e2 | (e2|e2)|e2
   ·exact .inl (.inl e2)
   ·exact .inl (.inr e2)
   ·exact .inr (.inl e2)
   ·exact .inr (.inr e2)
  ·simp only[Ubh]at hd|-
   exact Zav _ _ _ λhb'=>hd (jD _ hb')
  ·simp only[Ubh]
   rw[Zaw];exact jB _
 have hpush:∀{ρ' hb W} {Dk:Nat},RH ρ' hb W->w.heap.size<=Dk->W.heap[Dk]?=some (.deferred (some []))->DefOk W0 ({ target:=.collected Dk,args:=#[] }::a.defers) W:=λh hD hm=>
  h.1.defers.push (jI hW0 hD) hm λk hk=>by have:=hmarks k hk;omega
 have hone:∀(pre:List Y'.X) (y:Y'.X) (hb:BS),Ua0 step pre (getH st.h bs)=some (.more hb)->pre++[y] <+: Y'.xs ->
   ∃r',step y hb=some r'/\Ua0 step (pre++[y]) (getH st.h bs)=some r'/\(Y'.enc y).length=ps.toList.length/\veC P Γ N x p (Stp BS (Exit×BS)) (Uei bs ps.toList l st (Y'.enc y) hb) (Uch st.h.length bs)=some r':=by
  rintro pre y hb hf ⟨suf,hsuf⟩;cases hs:step y hb with
  |none=>rw[<- hsuf,List.append_assoc,Zry,hf]at hr;simp[Ua0,hs,Udi]at hr
  | some r'=>
   refine⟨r',rfl,?_,?_⟩
   ·rw[Zry,hf]
    simp only[Ua0,hs];cases r'<;>rfl
   ·rw[<- hstep]at hs
    dsimp only at hs;cases hb':jC (Y'.enc y).length ps.toList.length with
    |false=>rw[hb']at hs;cases hs
    |true=>rw[hb']at hs;exact⟨jG hb',hs⟩
 refine Znh (α:=Y'.X) (v0:=w) hgv hent hseq
  (λ{A B C} h k q hq Ce t fr e=>k q hq Ce t fr (h q hq Ce t fr e))
  (fun W l' o o' hl ho hc _ k hk C t fr e=>by
   have:l'≠k:=λe'=>by subst e';rw[ho]at e;cases e;cases hc
   rw[World.putObj_heap_other (Ne.symm this)];exact e)
  (λ{A B} hAB k _ C t fr e=>hAB.at e)
  (Ge.refl w)
  (λpre W=>∃ρ' hb,Ua0 step pre (getH st.h bs)=some (.more hb)/\RH ρ' hb W)
  (λc pre W=>∃ρ' hb e,Ua0 step pre (getH st.h bs)=some (.done (e,hb))/\c=exCode e/\(e=.ret\/∃id,e=.exit id)/\RH ρ' hb W)
  ?hps ?hI ?hIx ?h0 (λy=>Ubj l { tmps:=(ps.zip ((Y'.enc y).map Ve.valOf).toArray).foldl (λt (p,v)=>t.setIfInBounds p v) a.tmps,defers:=[] }) ?hassign ?hbody ?hdone ?hstop
 case hps=>
  rintro pre y W ⟨ρ',hb,hf,-⟩ hpre;obtain⟨r',hs,-,hlen,-⟩:=hone pre y hb hf hpre;simp[hlen]
 case hI=>exact λpre W W' row ⟨ρ',hb,h1,h2⟩ hg hrow=>⟨ρ',hb,h1,hRHown h2 hg hrow⟩
 case hIx=>exact λc pre W W' row ⟨ρ',hb,e,h1,h2,h3,h4⟩ hg hrow=>⟨ρ',hb,e,h1,h2,h3,hRHown h4 hg hrow⟩
 case h0=>
  refine⟨ρ,getH st.h bs,rfl,⟨hR.len,?_,?_,hR.base,?_,hR.kept.mono λk _ ⟨m,e1,e2,e3⟩=>⟨m,e1,.inr (by simp only[List.mem_append];exact or_assoc.2 e2),e3⟩,?_,hR.defers,?_⟩,λ_ _=>rfl,?_⟩
  all_goals ((try dsimp only);rw[hself])
  ·exact hR.slots
  ·exact hR.heap
  ·exact hR.fresh
  ·exact hR.own0
  ·exact hR.bound
  ·exact HLe.refl _
 case hassign=>exact λl' y W=>asgX hasg
 case hbody=>
  rintro l' pre y W hl' - ⟨ρ',hb,hf,h1,h2,h3⟩ hpre;obtain⟨r',hs,hf',hlen,hv⟩:=hone pre y hb hf hpre;have hlenh:(setMany st.h bs hb).length=st.h.length:=Zaw _ _ _;have hroot:=h1.root (E':=[]) λk len C e he=>by
   dsimp only at he
   by_cases hkb:k∈bs
   ·obtain⟨C',t,e1⟩:=hbs k hkb
    obtain⟨C2,e2⟩:=(h3 k).row _ _ e1;rw[e2]at he;cases he
   ·rw[Zav _ _ _ hkb]at he
    exact absurd he (hown k len C e)
  dsimp only at hroot;rw[hlenh]at hroot;have hA:Uap P ρ' (setMany st.h bs hb) (Y'.enc y) ((Y'.enc y).map Ve.valOf):=Yos (hknown pre y hpre);have hset:=(RS.setPs ps.toList (Y'.enc y) ((Y'.enc y).map Ve.valOf) hroot hlen hA).runAsg l;dsimp only at hset;have hact:(ps.zip ((Y'.enc y).map Ve.valOf).toArray).foldl (λt (x:Nat×Value)=>t.setIfInBounds x.1 x.2) a.tmps=(ps.toList.zip ((Y'.enc y).map Ve.valOf)).foldl (λt (x:Nat×Value)=>t.setIfInBounds x.1 x.2) a.tmps:=by rw[<- Array.foldl_toList,Array.toList_zip]
  refine WpX.mono (body l' (Uei bs ps.toList l st (Y'.enc y) hb) r' ρ' _ W hni hv (by
   simp only[Uei];rw[hact];exact hset)) ?_
  rintro e a2 W2 ⟨ρ2,st2,hk,hR2,hE⟩;have hE':Ext (writes x) st.h.length ρ' ρ2 { s:=runAsg l (setPs st.s ps.toList (Y'.enc y)),h:=setMany st.h bs hb,d:=[] } st2:=by have:=hE;simp only[Uei]at this;rw[hlenh]at this;exact this
  have good:∀{s:BS},Ugx st.h.length bs st2=some s->s=getH st2.h bs/\Uau st.h.length bs st2.d=true/\(getH st2.h bs).all (Uax st.h.length)=true:=by
   intro s h;unfold Ugx at h;cases hok':Uau st.h.length bs st2.d&&(getH st2.h bs).all (Uax st.h.length) with
   |false=>rw[hok']at h;cases h
   |true=>rw[hok']at h;simp only[Q1,Q8]at h;simp only[Q7]at hok';exact⟨h.symm,hok'.1,hok'.2⟩
  have moreE:∀{o:Option BS},Ua1 (X:=Exit×BS) o=some r'->∃s',o=some s'/\r'=.more s':=λ{o} h=>by cases o<;>cases h;exact⟨_,rfl,rfl⟩
  have doneE:∀{o:Option BS} {e:Exit},Ua8 e o=some r'->∃s',o=some s'/\r'=.done (e,s'):=λ{o e} h=>by cases o<;>cases h;exact⟨_,rfl,rfl⟩
  have keeps:Uau st.h.length bs st2.d=true->(getH st2.h bs).all (Uax st.h.length)=true->RH ρ2 (getH st2.h bs) W2/\KeepsX P w.heap.size W W2/\Ub9 ((ns'.map λm=>(ρ m).a)++glL st.h) W W2:=λg1 g2=>by
   obtain⟨k1,k2,k3,k4,k5,k6⟩:=Ypb hbs h1 h3 hR2 hE' g1 g2;refine⟨⟨k1,λk hp=>(k3 k hp).trans (h2 k hp),k2⟩,⟨k6,λk hk hlt _=>k5 k hlt λb hb' e=> ?_⟩,?_⟩
   ·obtain⟨C,t,eb⟩:=hbs b hb'
    have h1b:=h2 b (jF.1 eb).1;have:=hR.heap.lt (.row eb);rw[h1b]at e;omega
   intro q hq C t fr hk';rcases List.mem_append.1 hq with hq|hq
   case inr=>
    obtain⟨n,tg,ag,xg,hg⟩:=Ymu hq;refine k4 _ C t fr hk' λb hb' e=> ?_
    obtain⟨Cb,tb,eb⟩:=hbs b hb';obtain⟨Cb',eb'⟩:=(h3 b).row _ _ eb;exact h1.heap.far n _ q ((h3 n).gl _ _ _ _ hg) (.inl rfl) b (.row eb') e
   obtain⟨m,hm,rfl⟩:=List.mem_map.1 hq;refine k4 _ C t fr hk' λb hb' e=> ?_
   obtain⟨Cm,tm,em⟩:=hns m hm;obtain⟨Cb,tb,eb⟩:=hbs b hb';obtain⟨Cm',em'⟩:=(h3 m).row _ _ em;obtain⟨Cb',eb'⟩:=(h3 b).row _ _ eb;have:b=m:=h1.heap.inj b m (.row eb') (.row em') (by rw[e,h2 m (jF.1 em).1]);exact hap b hb' (this ▸ hm)
  cases e with
  |normal=>obtain⟨s',ht,rfl⟩:=moreE hk;obtain⟨rfl,g1,g2⟩:=good ht;obtain⟨q1,q2,q3⟩:=keeps g1 g2;exact⟨q2,q3,ρ2,_,hf',q1⟩
  |ret=>obtain⟨s',ht,rfl⟩:=doneE hk;obtain⟨rfl,g1,g2⟩:=good ht;obtain⟨q1,q2,q3⟩:=keeps g1 g2;exact⟨q2,ρ2,_,.ret,hf',rfl,.inl rfl,q1⟩
  |exit id=>obtain⟨s',ht,rfl⟩:=doneE hk;obtain⟨rfl,g1,g2⟩:=good ht;obtain⟨q1,q2,q3⟩:=keeps g1 g2;exact⟨q2,ρ2,_,.exit id,hf',rfl,.inr ⟨id,rfl⟩,q1⟩
  |goto l=>cases hk
  |panic ch=>cases hk
  |outgrown=>cases hk
 case hdone=>
  rintro Dk W hD ⟨ρ',hb,hf,hRH⟩ hm;rw[hf]at hr;obtain⟨h1,h2⟩:=hfin hRH (hpush hRH hD hm);exact⟨ρ',_,hr,h1,h2⟩
 case hstop=>
  rintro Dk c pre W hD ⟨suf,hsuf⟩ ⟨ρ',hb,e,hf,rfl,he,hRH⟩ hm;rw[<- hsuf,Zry,hf]at hr;obtain⟨h1,h2⟩:=hfin hRH (hpush hRH hD hm);rcases he with rfl | ⟨id,rfl⟩
  ·exact Zle ⟨ρ',_,hr,h1,h2⟩
  ·exact Zxv ⟨ρ',_,hr,h1,h2⟩
theorem Yck(hΓ:ConsOkX mn P (Ual mn P) Γ){g:Operand}{ps:Array Tmp}{as x:Code}{bs:List Nat}{p:Plan}{α:Type}{K:Exit->St->Option α}{r:α}{ρ:Nat->Ad}{st:St}{a:Act}{w:World}
  (body:∀ (l:Nat) (st1:St) (r':Stp BS (Exit×BS)) (ρ1:Nat→Ad) (a1:Act) (W:World),Ua7 p=true→veC P Γ N x p (Stp BS (Exit×BS)) st1 (Uch (Ubp st).h.length bs)=some r'→R P W (Ubp st).h.length [] ρ1 ρ1 st1 a1 W →
   WpX mn (some l) P x (λe a' w'=>∃ρ' st',Uch (Ubp st).h.length bs e st'=some r'/\R P W (Ubp st).h.length [] ρ1 ρ' st' a' w'/\Ext (writes x) st1.h.length ρ1 ρ' st1 st') a1 W)
  (hr:veC P Γ N (.rangeFunc g ps as x) (.iter bs p) α st K=some r) (hR:RS E P W0 n0 D ρ0 ρ st a w) :
  WpX mn none P (.rangeFunc g ps as x) (λe a' w'=>∃ρ' st',K e st'=some r/\RS E P W0 n0 D ρ0 ρ' st' a' w'/\Ext (writes (.rangeFunc g ps as x)) st.h.length ρ ρ' st st') a w:=by
 rw[veC]at hr;obtain⟨hR',hE⟩:=hR.spend (writes (.rangeFunc g ps as x)) st.h.length;refine WpX.mono (Ye6 hΓ body hr hR') ?_;rintro e a' w' ⟨ρ',st',k1,k2,k3⟩;exact⟨ρ',st',k1,k2,hE.trans (k3.mono (λ_ h=>h) (by simp[Ubp]))⟩
theorem Ya2{c:Code}{p:Plan}{cs bs:List Nat}(hcs:cs.all (Uao · (writes c))=true){α:Type}{K:Exit->St->Option α}{r:α}{st:St}{ρs:Nat->Ad}
  (body:∀ (s:LS) (r':Stp LS (Exit×LS)) (ρ:Nat→Ad) (a:Act) (w:World),
   veC P Γ N c p (Stp LS (Exit×LS)) (head (writes c) cs bs st s) (Uen st.h.length cs bs)=some r'->RS E P W0 n0 (st.d++D) ρ0 ρ (head (writes c) cs bs st s) a w ->
   WpX mn ro P c (λe a' w'=>∃ρ' st',Uen st.h.length cs bs e st'=some r'/\RS E P W0 n0 (st.d++D) ρ0 ρ' st' a' w'/\Ext (writes c) (head (writes c) cs bs st s).h.length ρ ρ' (head (writes c) cs bs st s) st') a w) :
  ∀(m:Nat) (s:LS) (ρ:Nat->Ad) (a:Act) (w:World),
   Uaj (Uab (λs=>veC P Γ N c p (Stp LS (Exit×LS)) (head (writes c) cs bs st s) (Uen st.h.length cs bs)) m s) (λe s=>K e (left (writes c) cs bs st s))=some r ->
   RS E P W0 n0 (st.d++D) ρ0 ρ (head (writes c) cs bs st s) a w->HLe st.h (head (writes c) cs bs st s).h->(∀k,k<st.h.length->ρ k=ρs k) ->
   Ubd mn ro P c (λe a' w'=>∃ρ' st',K e st'=some r/\RS E P W0 n0 D ρ0 ρ' st' a' w'/\Ext (writes c) st.h.length ρs ρ' st st') m a w
 |0,s,ρ,a,w,hr,_,_,_=>by simp[Uab,Uaj]at hr
 | m+1,s,ρ,a,w,hr,hR,hhl,hren=>by
  rw[Uab]at hr;rw[Ubd];have good:∀{st':St} {s':LS},tail st.h.length cs bs st'=some s'->s'=(getS st'.s cs,getH st'.h bs)/\Uau st.h.length bs st'.d=true/\(getS st'.s cs).all (Ua6 st.h.length)=true/\(getH st'.h bs).all (Uax st.h.length)=true:=by
   intro st' s' h;unfold tail at h;cases hok:Uau st.h.length bs st'.d&&((getS st'.s cs).all (Ua6 st.h.length)&&(getH st'.h bs).all (Uax st.h.length)) with
   |false=>rw[hok]at h;cases h
   |true=>rw[hok]at h;simp only[Q1,Q8]at h;simp only[Q7]at hok;exact⟨h.symm,hok.1,hok.2.1,hok.2.2⟩
  have moreE:∀{o:Option LS} {s':LS},Ua1 (X:=Exit×LS) o=some (.more s')->o=some s':=λ{o s'} h=>by cases o<;>cases h;rfl
  have moreN:∀{o:Option LS} {x:Exit×LS},Ua1 (X:=Exit×LS) o=some (.done x)->False:=λ{o x} h=>by cases o<;>cases h
  have doneE:∀{o:Option LS} {e:Exit} {x:Exit×LS},Ua8 e o=some (.done x)->∃s',o=some s'/\x=(e,s'):=λ{o e x} h=>by cases o<;>cases h;exact⟨_,rfl,rfl⟩
  have doneN:∀{o:Option LS} {e:Exit} {s':LS},Ua8 e o=some (.more s')->False:=λ{o e s'} h=>by cases o<;>cases h
  cases hs':veC P Γ N c p (Stp LS (Exit×LS)) (head (writes c) cs bs st s) (Uen st.h.length cs bs) with
  |none=>rw[hs']at hr;simp[Uaj]at hr
  | some x=>
   rw[hs']at hr;cases x with
   | more s'=>
    dsimp only at hr;refine WpX.mono (body s _ ρ a w hs' hR) ?_;rintro e a' w' ⟨ρ',st',hk,hR',hE⟩;cases e with
    |normal=>obtain⟨rfl,h1,h2,h3⟩:=good (moreE hk);obtain⟨hR2,hhl2⟩:=Zo7 hR hR' hE hhl h1 h2 h3;exact Ya2 hcs body m _ ρ' a' w' hr hR2 hhl2 λk hk'=>(hE.ren k (by rw[show (head (writes c) cs bs st s).h.length=st.h.length from Zaw _ _ _];exact hk')).trans (hren k hk')
    |exit id=>exact(doneN hk).elim
    |goto l=>exact(doneN hk).elim
    |ret=>exact(doneN hk).elim
    |panic ch=>cases hk
    |outgrown=>cases hk
   | done x=>
    simp only[Uaj]at hr;refine WpX.mono (body s _ ρ a w hs' hR) ?_;rintro e a' w' ⟨ρ',st',hk,hR',hE⟩;have fin:Ua8 e (tail st.h.length cs bs st')=some (.done x)->∃ρ' st',K e st'=some r/\RS E P W0 n0 D ρ0 ρ' st' a' w'/\Ext (writes c) st.h.length ρs ρ' st st':=λh=>by
     obtain⟨s',hs,rfl⟩:=doneE h;obtain⟨rfl,h1,h2,h3⟩:=good hs;obtain⟨hR2,hhl2⟩:=Zo7 hR hR' hE hhl h1 h2 h3;obtain⟨h4,h5⟩:=Zxy hcs hR2 hhl2 λk hk'=>(hE.ren k (by rw[show (head (writes c) cs bs st s).h.length=st.h.length from Zaw _ _ _];exact hk')).trans (hren k hk')
     exact⟨ρ',_,hr,h4,h5⟩
    cases e with
    |normal=>exact(moreN hk).elim
    |exit id=>exact fin hk
    |goto l=>exact fin hk
    |ret=>exact fin hk
    |panic ch=>cases hk
    |outgrown=>cases hk
theorem Zwh{c:Code}{p:Plan}{cs bs:List Nat}(hcs:cs.all (Uao · (writes c))=true){α:Type}{K:Exit->St->Option α}{r:α}{st:St}{ρs:Nat->Ad}
  (body:∀ (s:LS) (r':Stp LS ((Exit×LS) ⊕ α)) (ρ:Nat→Ad) (a:Act) (w:World),
   veC P Γ N c p (Stp LS ((Exit×LS)⊕α)) (head (writes c) cs bs st s) (Udn st.h.length cs bs st K)=some r'->RS E P W0 n0 (st.d++D) ρ0 ρ (head (writes c) cs bs st s) a w ->
   WpX mn ro P c (λe a' w'=>∃ρ' st',Udn st.h.length cs bs st K e st'=some r'/\RS E P W0 n0 (st.d++D) ρ0 ρ' st' a' w'/\Ext (writes c) (head (writes c) cs bs st s).h.length ρ ρ' (head (writes c) cs bs st s) st') a w) :
  ∀(m:Nat) (s:LS) (ρ:Nat->Ad) (a:Act) (w:World),
   Ub4 (Uab (λs=>veC P Γ N c p (Stp LS ((Exit×LS)⊕α)) (head (writes c) cs bs st s) (Udn st.h.length cs bs st K)) m s) (λe s=>K e (left (writes c) cs bs st s))=some r ->
   RS E P W0 n0 (st.d++D) ρ0 ρ (head (writes c) cs bs st s) a w->HLe st.h (head (writes c) cs bs st s).h->(∀k,k<st.h.length->ρ k=ρs k) ->
   Ubd mn ro P c (λe a' w'=>∃ρ' st',K e st'=some r/\RS E P W0 n0 D ρ0 ρ' st' a' w'/\Ext (writes c) st.h.length ρs ρ' st st') m a w
 |0,s,ρ,a,w,hr,_,_,_=>by simp[Uab,Ub4]at hr
 | m+1,s,ρ,a,w,hr,hR,hhl,hren=>by
  rw[Uab]at hr;rw[Ubd];have good:∀{st':St} {s':LS},tail st.h.length cs bs st'=some s'->s'=(getS st'.s cs,getH st'.h bs)/\Uau st.h.length bs st'.d=true/\(getS st'.s cs).all (Ua6 st.h.length)=true/\(getH st'.h bs).all (Uax st.h.length)=true:=by
   intro st' s' h;unfold tail at h;cases hok:Uau st.h.length bs st'.d&&((getS st'.s cs).all (Ua6 st.h.length)&&(getH st'.h bs).all (Uax st.h.length)) with
   |false=>rw[hok]at h;cases h
   |true=>rw[hok]at h;simp only[Q1,Q8]at h;simp only[Q7]at hok;exact⟨h.symm,hok.1,hok.2.1,hok.2.2⟩
  have moreE:∀{o:Option LS} {s':LS},Ua1 (X:=(Exit×LS)⊕α) o=some (.more s')->o=some s':=λ{o s'} h=>by cases o<;>cases h;rfl
  have moreN:∀{o:Option LS} {x:(Exit×LS)⊕α},Ua1 (X:=(Exit×LS)⊕α) o=some (.done x)->False:=λ{o x} h=>by cases o<;>cases h
  have doneE:∀{o:Option LS} {e:Exit} {x:(Exit×LS)⊕α},Uev e o=some (.done x)->∃s',o=some s'/\x=.inl (e,s'):=λ{o e x} h=>by cases o<;>cases h;exact⟨_,rfl,rfl⟩
  have doneN:∀{o:Option LS} {e:Exit} {s':LS},Uev (α:=α) e o=some (.more s')->False:=λ{o e s'} h=>by cases o<;>cases h
  have doneAN:∀{o:Option α} {s':LS},Uga (S:=LS) o=some (.more s')->False:=λ{o s'} h=>by cases o<;>cases h
  cases hs':veC P Γ N c p (Stp LS ((Exit×LS)⊕α)) (head (writes c) cs bs st s) (Udn st.h.length cs bs st K) with
  |none=>rw[hs']at hr;simp[Ub4]at hr
  | some x=>
   rw[hs']at hr;cases x with
   | more s'=>
    dsimp only at hr;refine WpX.mono (body s _ ρ a w hs' hR) ?_;rintro e a' w' ⟨ρ',st',hk,hR',hE⟩;cases e with
    |normal=>obtain⟨rfl,h1,h2,h3⟩:=good (moreE hk);obtain⟨hR2,hhl2⟩:=Zo7 hR hR' hE hhl h1 h2 h3;exact Zwh hcs body m _ ρ' a' w' hr hR2 hhl2 λk hk'=>(hE.ren k (by rw[show (head (writes c) cs bs st s).h.length=st.h.length from Zaw _ _ _];exact hk')).trans (hren k hk')
    |exit id=>exact(doneN hk).elim
    |goto l=>exact(doneN hk).elim
    |ret=>exact(doneAN hk).elim
    |panic ch=>cases hk
    |outgrown=>cases hk
   | done x=>
    refine WpX.mono (body s _ ρ a w hs' hR) ?_;rintro e a' w' ⟨ρ',st',hk,hR',hE⟩;have fin:Uev e (tail st.h.length cs bs st')=some (.done x)->∃ρ' st',K e st'=some r/\RS E P W0 n0 D ρ0 ρ' st' a' w'/\Ext (writes c) st.h.length ρs ρ' st st':=λh=>by
     obtain⟨s',hs,rfl⟩:=doneE h;simp only[Ub4]at hr;obtain⟨rfl,h1,h2,h3⟩:=good hs;obtain⟨hR2,hhl2⟩:=Zo7 hR hR' hE hhl h1 h2 h3;obtain⟨h4,h5⟩:=Zxy hcs hR2 hhl2 λk hk'=>(hE.ren k (by rw[show (head (writes c) cs bs st s).h.length=st.h.length from Zaw _ _ _];exact hk')).trans (hren k hk')
     exact⟨ρ',_,hr,h4,h5⟩
    cases e with
    |normal=>exact(moreN hk).elim
    |exit id=>exact fin hk
    |goto l=>exact fin hk
    | ret=>
     have hk2:Uga (S:=LS) (K .ret (fixR bs st st'))=some (.done x):=hk;cases hkr:K .ret (fixR bs st st') with
     |none=>rw[hkr]at hk2;cases hk2
     |some r0=>rw[hkr]at hk2;cases hk2;simp only[Ub4]at hr;cases hr;exact⟨ρ',_,hkr,fix_R hR',(Zxy hcs hR hhl hren).2.trans (Ypz hE (Nat.le_of_eq (Zaw _ _ _).symm))⟩
    |panic ch=>cases hk
    |outgrown=>cases hk
theorem Zxq{c:Code}{p:Plan}{cs bs:List Nat}{g:Nat}{t:TypeId}{st st1:St}(hcs:∀x∈cs,x∈writes c)(hs1:st1.s=st.s.set g (.a (.l st.h.length)))(hl1:st1.h.length=st.h.length+1)(hd1:∀n∈st.d,n∈st1.d)(hst:∀n,n<st.h.length->n ∉ st1.d->st1.h[n]?=st.h[n]?)(hgW:g∈writes c)(hgc:g ∉ cs)(hbs:∀b∈bs,b<st.h.length)
  (hlow:∀(i:Nat) (u:SV),st.s[i]?=some u->Ua6 st.h.length u=true) (hlowB:∀(k:Nat) (b:VB),k<st.h.length->st1.h[k]?=some b->Uax st.h.length b=true) (hn0:n0<=st.h.length)
  {α:Type} {K:Exit->St->Option α} {r:α} {ρs:Nat->Ad}
  (body:∀ (s:LS) (r':Stp LS (Exit×LS)) (ρ:Nat→Ad) (a:Act) (w:World),
   veC P Γ N c p (Stp LS (Exit×LS)) (head (writes c) (cs++[g]) (bs++[st.h.length]) st1 s) (Udo st.h.length cs bs g t)=some r'->RS E P W0 n0 (st1.d++D) ρ0 ρ (head (writes c) (cs++[g]) (bs++[st.h.length]) st1 s) a w ->
   WpX mn ro P c (λe a' w'=>∃ρ' st',Udo st.h.length cs bs g t e st'=some r'/\RS E P W0 n0 (st1.d++D) ρ0 ρ' st' a' w'/\Ext (writes c) (head (writes c) (cs++[g]) (bs++[st.h.length]) st1 s).h.length ρ ρ' (head (writes c) (cs++[g]) (bs++[st.h.length]) st1 s) st') a w) :
  ∀(m:Nat) (s:LS) (ρ:Nat->Ad) (a:Act) (w:World),
   Uaj (Uab (λs=>veC P Γ N c p (Stp LS (Exit×LS)) (head (writes c) (cs++[g]) (bs++[st.h.length]) st1 s) (Udo st.h.length cs bs g t)) m s) (λe s=>K e (left (writes c) (cs++[g]) (bs++[st.h.length]) st1 s))=some r ->
   RS E P W0 n0 (st1.d++D) ρ0 ρ (head (writes c) (cs++[g]) (bs++[st.h.length]) st1 s) a w->HLe st.h (head (writes c) (cs++[g]) (bs++[st.h.length]) st1 s).h->(∀k,k<st.h.length->ρ k=ρs k) ->
   Ubd mn ro P c (λe a' w'=>∃ρ' st',K e st'=some r/\RS E P W0 n0 D ρ0 ρ' st' a' w'/\Ext (writes c) st.h.length ρs ρ' st st') m a w
 |0,s,ρ,a,w,hr,_,_,_=>by simp[Uab,Uaj]at hr
 | m+1,s,ρ,a,w,hr,hR,hhl,hren=>by
  rw[Uab]at hr;rw[Ubd];have good:∀{st':St} {s':LS} {ρ':Nat->Ad} {a':Act} {w':World},Udj st.h.length cs bs g t st'=some s'->RS E P W0 n0 (st1.d++D) ρ0 ρ' st' a' w'->Ext (writes c) (head (writes c) (cs++[g]) (bs++[st.h.length]) st1 s).h.length ρ ρ' (head (writes c) (cs++[g]) (bs++[st.h.length]) st1 s) st' ->
    ∃ρ2,RS E P W0 n0 (st1.d++D) ρ0 ρ2 (head (writes c) (cs++[g]) (bs++[st.h.length]) st1 s') a' w'/\HLe st.h (head (writes c) (cs++[g]) (bs++[st.h.length]) st1 s').h/\∀k,k<st.h.length->ρ2 k=ρs k:=by
   intro st' s' ρ' a' w' h hR' hE;unfold Udj at h;split at h
   ·rename_i n hg
    split at h
    ·rename_i len C e' hown
     cases hok:jC t e'&&(Nat.ble st.h.length n&&(Uau st.h.length bs st'.d&&((getS st'.s cs).all (Ua6 st.h.length)&&(getH st'.h bs).all (Uax st.h.length)))) with
     |false=>rw[hok]at h;cases h
     |true=>
      rw[hok]at h;simp only[Q1,Q8]at h;simp only[Q7]at hok;obtain rfl:=jG hok.1;subst h;obtain⟨h1,h2⟩:=Yhu hs1 hl1 hgW hgc hbs hlow hlowB hn0 hR hR' hE hhl hg hown (Nat.le_of_ble_eq_true hok.2.1) hok.2.2.1 hok.2.2.2.1 hok.2.2.2.2;refine⟨_,h1,h2,λk hk=> ?_⟩
      show (if k=st.h.length then ρ' n else ρ' k)=ρs k
      rw[if_neg (by omega)];exact(hE.ren k (by rw[show (head (writes c) (cs++[g]) (bs++[st.h.length]) st1 s).h.length=st1.h.length from Zaw _ _ _,hl1];omega)).trans (hren k hk)
    ·cases h
   ·cases h
  have moreE:∀{o:Option LS} {s':LS},Ua1 (X:=Exit×LS) o=some (.more s')->o=some s':=λ{o s'} h=>by cases o<;>cases h;rfl
  have moreN:∀{o:Option LS} {x:Exit×LS},Ua1 (X:=Exit×LS) o=some (.done x)->False:=λ{o x} h=>by cases o<;>cases h
  have doneE:∀{o:Option LS} {e:Exit} {x:Exit×LS},Ua8 e o=some (.done x)->∃s',o=some s'/\x=(e,s'):=λ{o e x} h=>by cases o<;>cases h;exact⟨_,rfl,rfl⟩
  have doneN:∀{o:Option LS} {e:Exit} {s':LS},Ua8 e o=some (.more s')->False:=λ{o e s'} h=>by cases o<;>cases h
  cases hs':veC P Γ N c p (Stp LS (Exit×LS)) (head (writes c) (cs++[g]) (bs++[st.h.length]) st1 s) (Udo st.h.length cs bs g t) with
  |none=>rw[hs']at hr;simp[Uaj]at hr
  | some x=>
   rw[hs']at hr;cases x with
   | more s'=>
    dsimp only at hr;refine WpX.mono (body s _ ρ a w hs' hR) ?_;rintro e a' w' ⟨ρ',st',hk,hR',hE⟩;cases e with
    |normal=>obtain⟨ρ2,hR2,hhl2,hren2⟩:=good (moreE hk) hR' hE;exact Zxq hcs hs1 hl1 hd1 hst hgW hgc hbs hlow hlowB hn0 body m _ ρ2 a' w' hr hR2 hhl2 hren2
    |exit id=>exact(doneN hk).elim
    |goto l=>exact(doneN hk).elim
    |ret=>exact(doneN hk).elim
    |panic ch=>cases hk
    |outgrown=>cases hk
   | done x=>
    simp only[Uaj]at hr;refine WpX.mono (body s _ ρ a w hs' hR) ?_;rintro e a' w' ⟨ρ',st',hk,hR',hE⟩;have fin:Ua8 e (Udj st.h.length cs bs g t st')=some (.done x)->∃ρ' st',K e st'=some r/\RS E P W0 n0 D ρ0 ρ' st' a' w'/\Ext (writes c) st.h.length ρs ρ' st st':=λh=>by
     obtain⟨s',hs,rfl⟩:=doneE h;obtain⟨ρ2,hR2,hhl2,hren2⟩:=good hs hR' hE;obtain⟨h4,h5⟩:=Zzz hs1 hl1 hd1 hst hgW hcs hR2 hhl2 hren2;exact⟨ρ2,_,hr,h4,h5⟩
    cases e with
    |normal=>exact(moreN hk).elim
    |exit id=>exact fin hk
    |goto l=>exact fin hk
    |ret=>exact fin hk
    |panic ch=>cases hk
    |outgrown=>cases hk
theorem Zun{c:Code}{p:Plan}{cs bs:List Nat}{g:Nat}{t:TypeId}{st st1:St}(hcs:∀x∈cs,x∈writes c)(hs1:st1.s=st.s.set g (.a (.l st.h.length)))(hl1:st1.h.length=st.h.length+1)(hd1:∀n∈st.d,n∈st1.d)(hst:∀n,n<st.h.length->n ∉ st1.d->st1.h[n]?=st.h[n]?)(hgW:g∈writes c)(hgc:g ∉ cs)(hbs:∀b∈bs,b<st.h.length)
  (hlow:∀(i:Nat) (u:SV),st.s[i]?=some u->Ua6 st.h.length u=true) (hlowB:∀(k:Nat) (b:VB),k<st.h.length->st1.h[k]?=some b->Uax st.h.length b=true) (hn0:n0<=st.h.length)
  {α:Type} {K:Exit->St->Option α} {r:α} {ρs:Nat->Ad}
  (body:∀ (s:LS) (r':Stp LS ((Exit×LS) ⊕ α)) (ρ:Nat→Ad) (a:Act) (w:World),
   veC P Γ N c p (Stp LS ((Exit×LS)⊕α)) (head (writes c) (cs++[g]) (bs++[st.h.length]) st1 s) (Ucq st.h.length cs bs g t st1 K)=some r'->RS E P W0 n0 (st1.d++D) ρ0 ρ (head (writes c) (cs++[g]) (bs++[st.h.length]) st1 s) a w ->
   WpX mn ro P c (λe a' w'=>∃ρ' st',Ucq st.h.length cs bs g t st1 K e st'=some r'/\RS E P W0 n0 (st1.d++D) ρ0 ρ' st' a' w'/\Ext (writes c) (head (writes c) (cs++[g]) (bs++[st.h.length]) st1 s).h.length ρ ρ' (head (writes c) (cs++[g]) (bs++[st.h.length]) st1 s) st') a w) :
  ∀(m:Nat) (s:LS) (ρ:Nat->Ad) (a:Act) (w:World),
   Ub4 (Uab (λs=>veC P Γ N c p (Stp LS ((Exit×LS)⊕α)) (head (writes c) (cs++[g]) (bs++[st.h.length]) st1 s) (Ucq st.h.length cs bs g t st1 K)) m s) (λe s=>K e (left (writes c) (cs++[g]) (bs++[st.h.length]) st1 s))=some r ->
   RS E P W0 n0 (st1.d++D) ρ0 ρ (head (writes c) (cs++[g]) (bs++[st.h.length]) st1 s) a w->HLe st.h (head (writes c) (cs++[g]) (bs++[st.h.length]) st1 s).h->(∀k,k<st.h.length->ρ k=ρs k) ->
   Ubd mn ro P c (λe a' w'=>∃ρ' st',K e st'=some r/\RS E P W0 n0 D ρ0 ρ' st' a' w'/\Ext (writes c) st.h.length ρs ρ' st st') m a w
 |0,s,ρ,a,w,hr,_,_,_=>by simp[Uab,Ub4]at hr
 | m+1,s,ρ,a,w,hr,hR,hhl,hren=>by
  rw[Uab]at hr;rw[Ubd];have good:∀{st':St} {s':LS} {ρ':Nat->Ad} {a':Act} {w':World},Udj st.h.length cs bs g t st'=some s'->RS E P W0 n0 (st1.d++D) ρ0 ρ' st' a' w'->Ext (writes c) (head (writes c) (cs++[g]) (bs++[st.h.length]) st1 s).h.length ρ ρ' (head (writes c) (cs++[g]) (bs++[st.h.length]) st1 s) st' ->
    ∃ρ2,RS E P W0 n0 (st1.d++D) ρ0 ρ2 (head (writes c) (cs++[g]) (bs++[st.h.length]) st1 s') a' w'/\HLe st.h (head (writes c) (cs++[g]) (bs++[st.h.length]) st1 s').h/\∀k,k<st.h.length->ρ2 k=ρs k:=by
   intro st' s' ρ' a' w' h hR' hE;unfold Udj at h;split at h
   ·rename_i n hg
    split at h
    ·rename_i len C e' hown
     cases hok:jC t e'&&(Nat.ble st.h.length n&&(Uau st.h.length bs st'.d&&((getS st'.s cs).all (Ua6 st.h.length)&&(getH st'.h bs).all (Uax st.h.length)))) with
     |false=>rw[hok]at h;cases h
     |true=>
      rw[hok]at h;simp only[Q1,Q8]at h;simp only[Q7]at hok;obtain rfl:=jG hok.1;subst h;obtain⟨h1,h2⟩:=Yhu hs1 hl1 hgW hgc hbs hlow hlowB hn0 hR hR' hE hhl hg hown (Nat.le_of_ble_eq_true hok.2.1) hok.2.2.1 hok.2.2.2.1 hok.2.2.2.2;refine⟨_,h1,h2,λk hk=> ?_⟩
      show (if k=st.h.length then ρ' n else ρ' k)=ρs k
      rw[if_neg (by omega)];exact(hE.ren k (by rw[show (head (writes c) (cs++[g]) (bs++[st.h.length]) st1 s).h.length=st1.h.length from Zaw _ _ _,hl1];omega)).trans (hren k hk)
    ·cases h
   ·cases h
  have moreE:∀{o:Option LS} {s':LS},Ua1 (X:=(Exit×LS)⊕α) o=some (.more s')->o=some s':=λ{o s'} h=>by cases o<;>cases h;rfl
  have moreN:∀{o:Option LS} {x:(Exit×LS)⊕α},Ua1 (X:=(Exit×LS)⊕α) o=some (.done x)->False:=λ{o x} h=>by cases o<;>cases h
  have doneE:∀{o:Option LS} {e:Exit} {x:(Exit×LS)⊕α},Uev e o=some (.done x)->∃s',o=some s'/\x=.inl (e,s'):=λ{o e x} h=>by cases o<;>cases h;exact⟨_,rfl,rfl⟩
  have doneN:∀{o:Option LS} {e:Exit} {s':LS},Uev (α:=α) e o=some (.more s')->False:=λ{o e s'} h=>by cases o<;>cases h
  have doneAN:∀{o:Option α} {s':LS},Uga (S:=LS) o=some (.more s')->False:=λ{o s'} h=>by cases o<;>cases h
  cases hs':veC P Γ N c p (Stp LS ((Exit×LS)⊕α)) (head (writes c) (cs++[g]) (bs++[st.h.length]) st1 s) (Ucq st.h.length cs bs g t st1 K) with
  |none=>rw[hs']at hr;simp[Ub4]at hr
  | some x=>
   rw[hs']at hr;cases x with
   | more s'=>
    dsimp only at hr;refine WpX.mono (body s _ ρ a w hs' hR) ?_;rintro e a' w' ⟨ρ',st',hk,hR',hE⟩;cases e with
    |normal=>obtain⟨ρ2,hR2,hhl2,hren2⟩:=good (moreE hk) hR' hE;exact Zun hcs hs1 hl1 hd1 hst hgW hgc hbs hlow hlowB hn0 body m _ ρ2 a' w' hr hR2 hhl2 hren2
    |exit id=>exact(doneN hk).elim
    |goto l=>exact(doneN hk).elim
    |ret=>exact(doneAN hk).elim
    |panic ch=>cases hk
    |outgrown=>cases hk
   | done x=>
    refine WpX.mono (body s _ ρ a w hs' hR) ?_;rintro e a' w' ⟨ρ',st',hk,hR',hE⟩;have fin:Uev e (Udj st.h.length cs bs g t st')=some (.done x)->∃ρ' st',K e st'=some r/\RS E P W0 n0 D ρ0 ρ' st' a' w'/\Ext (writes c) st.h.length ρs ρ' st st':=λh=>by
     obtain⟨s',hs,rfl⟩:=doneE h;simp only[Ub4]at hr;obtain⟨ρ2,hR2,hhl2,hren2⟩:=good hs hR' hE;obtain⟨h4,h5⟩:=Zzz hs1 hl1 hd1 hst hgW hcs hR2 hhl2 hren2;exact⟨ρ2,_,hr,h4,h5⟩
    cases e with
    |normal=>exact(moreN hk).elim
    |exit id=>exact fin hk
    |goto l=>exact fin hk
    | ret=>
     have hk2:Uga (S:=LS) (K .ret (fixR (bs++[st.h.length]) st1 st'))=some (.done x):=hk;cases hkr:K .ret (fixR (bs++[st.h.length]) st1 st') with
     |none=>rw[hkr]at hk2;cases hk2
     |some r0=>rw[hkr]at hk2;cases hk2;simp only[Ub4]at hr;cases hr;exact⟨ρ',_,hkr,fix_R hR',(Zzz hs1 hl1 hd1 hst hgW hcs hR hhl hren).2.trans (Ypz hE (by rw[show (head (writes c) (cs++[g]) (bs++[st.h.length]) st1 s).h.length=st1.h.length from Zaw _ _ _,hl1];omega))⟩
    |panic ch=>cases hk
    |outgrown=>cases hk
theorem Zcz(hm:P.follows .mixedOrders=true)(hΓ:ConsOkX mn P (Ual mn P) Γ):∀(c:Code) (p:Plan) (ro:Option Nat) (hW:ro=none\/Ua7 p=true) (E:List Nat) (W0:World) (n0:Nat) (ρ0:Nat->Ad) (α:Type) (st:St) (K:Exit->St->Option α) (r:α) (D:List Nat) (ρ:Nat->Ad) (a:Act) (w:World),
  veC P Γ N c p α st K=some r->RS E P W0 n0 D ρ0 ρ st a w ->
  WpX mn ro P c (λe a' w'=>∃ρ' st',K e st'=some r/\RS E P W0 n0 D ρ0 ρ' st' a' w'/\Ext (writes c) st.h.length ρ ρ' st st') a w
 |.skip,p,ro,hW,E,W0,n0,ρ0,α,st,K,r,D,ρ,a,w,hr,hR=>Zgg ⟨ρ,st,by simpa [veC] using hr,hR,.refl _ _ _ _⟩
 |.region id ops draw,p,ro,hW,E,W0,n0,ρ0,α,st,K,r,D,ρ,a,w,hr,hR=>by
  rw[veC]at hr;exact Ylj hm hΓ hR hr λρ' st' a' w' hk hR' hE=>⟨ρ',st',hk,hR',hE⟩
 |.exit id,p,ro,hW,E,W0,n0,ρ0,α,st,K,r,D,ρ,a,w,hr,hR=>Zxv ⟨ρ,st,by simpa [veC] using hr,hR,.refl _ _ _ _⟩
 |.ret,p,ro,hW,E,W0,n0,ρ0,α,st,K,r,D,ρ,a,w,hr,hR=>Zle ⟨ρ,st,by simpa [veC] using hr,hR,.refl _ _ _ _⟩
 | .seq x y,p,ro,hW,E,W0,n0,ρ0,α,st,K,r,D,ρ,a,w,hr,hR=>by
  cases p with
  |one=>simp[veC]at hr
  |loop cs bs p=>simp[veC]at hr
  |loopG cs bs g e p=>simp[veC]at hr
  |loopR cs bs p=>simp[veC]at hr
  |loopGR cs bs g e p=>simp[veC]at hr
  |loopB cs bs g e p=>simp[veC]at hr
  |iterB bs g e p=>simp[veC]at hr
  |jump l cs bs p q=>simp[veC]at hr
  |sc p=>simp[veC]at hr
  |iter bs p=>simp[veC]at hr
  | two p q=>
   rw[veC]at hr;refine Zax (WpX.mono (Zcz hm hΓ x p ro (hW.imp_right λh=>by simp only[Ua7,Q7]at h;exact h.1) E W0 n0 ρ0 α st _ r D ρ a w hr hR) ?_);rintro e a1 w1 ⟨ρ1,st1,hk,hR1,hE1⟩;cases e with
   |normal=>refine WpX.mono (Zcz hm hΓ y q ro (hW.imp_right λh=>by simp only[Ua7,Q7]at h;exact h.2) E W0 n0 ρ0 α st1 K r D ρ1 a1 w1 hk hR1) ?_;rintro e2 a2 w2 ⟨ρ2,st2,hk2,hR2,hE2⟩;exact⟨ρ2,st2,hk2,hR2,Yqt hE1 hE2⟩
   |exit id=>exact⟨ρ1,st1,hk,hR1,hE1.mono (λ_ h=>jD _ h) (jB _)⟩
   |goto l=>exact⟨ρ1,st1,hk,hR1,hE1.mono (λ_ h=>jD _ h) (jB _)⟩
   |ret=>exact⟨ρ1,st1,hk,hR1,hE1.mono (λ_ h=>jD _ h) (jB _)⟩
   |panic ch=>exact⟨ρ1,st1,hk,hR1,hE1.mono (λ_ h=>jD _ h) (jB _)⟩
   |outgrown=>exact⟨ρ1,st1,hk,hR1,hE1.mono (λ_ h=>jD _ h) (jB _)⟩
 | .cond c x y,p,ro,hW,E,W0,n0,ρ0,α,st,K,r,D,ρ,a,w,hr,hR=>by
  cases p with
  |one=>simp[veC]at hr
  |loop cs bs p=>simp[veC]at hr
  |loopG cs bs g e p=>simp[veC]at hr
  |loopR cs bs p=>simp[veC]at hr
  |loopGR cs bs g e p=>simp[veC]at hr
  |loopB cs bs g e p=>simp[veC]at hr
  |iterB bs g e p=>simp[veC]at hr
  |jump l cs bs p q=>simp[veC]at hr
  |sc p=>simp[veC]at hr
  |iter bs p=>simp[veC]at hr
  | two p q=>
   rw[veC]at hr;have hc:=Zbu (Zn4 hR.slots c);split at hr
   ·rename_i t ht
    rw[ht]at hc;have hc:a.eval c=.bool t:=hc;cases t with
    |true=>refine Zgl hc (WpX.mono (Zcz hm hΓ x p ro (hW.imp_right λh=>by simp only[Ua7,Q7]at h;exact h.1) E W0 n0 ρ0 α st K r D ρ a w hr hR) ?_);rintro e2 a2 w2 ⟨ρ2,st2,hk2,hR2,hE2⟩;exact⟨ρ2,st2,hk2,hR2,hE2.mono (λ_ h=>jD _ h) (jB _)⟩
    |false=>refine Zbe hc (WpX.mono (Zcz hm hΓ y q ro (hW.imp_right λh=>by simp only[Ua7,Q7]at h;exact h.2) E W0 n0 ρ0 α st K r D ρ a w hr hR) ?_);rintro e2 a2 w2 ⟨ρ2,st2,hk2,hR2,hE2⟩;exact⟨ρ2,st2,hk2,hR2,hE2.mono (λ_ h=>jL _ h) (jB _)⟩
   ·cases hr
 | .block id x,p,ro,hW,E,W0,n0,ρ0,α,st,K,r,D,ρ,a,w,hr,hR=>by
  rw[veC]at hr;refine Zfg (WpX.mono (Zcz hm hΓ x p ro hW E W0 n0 ρ0 α st _ r D ρ a w hr hR) ?_);rintro e a1 w1 ⟨ρ1,st1,hk,hR1,hE1⟩;cases e with
  | exit id'=>
   simp only[Uad]at hk;unfold Exit.inBlock;cases hb:jC id' id with
   |true=>rw[hb]at hk;have:=jG hb;simp only[if_pos this];exact⟨ρ1,st1,hk,hR1,hE1⟩
   |false=>
    rw[hb]at hk;have:id'≠id:=λe=>by subst e;rw[Nat.beq_refl]at hb;cases hb
    simp only[if_neg this];exact⟨ρ1,st1,hk,hR1,hE1⟩
  |normal=>exact⟨ρ1,st1,hk,hR1,hE1⟩
  |goto l=>exact⟨ρ1,st1,hk,hR1,hE1⟩
  |ret=>exact⟨ρ1,st1,hk,hR1,hE1⟩
  |panic ch=>exact⟨ρ1,st1,hk,hR1,hE1⟩
  |outgrown=>exact⟨ρ1,st1,hk,hR1,hE1⟩
 | .loop x,p,ro,hW,E,W0,n0,ρ0,α,st,K,r,D,ρ,a,w,hr,hR=>by
  cases p with
  |one=>simp[veC]at hr
  |two p q=>simp[veC]at hr
  |iter bs p=>simp[veC]at hr
  |jump l cs bs p q=>simp[veC]at hr
  |sc p=>simp[veC]at hr
  |iterB bs g e p=>simp[veC]at hr
  |loopB cs bs g t p=>simp[veC]at hr
  | loopG cs bs g t p=>
   rw[veC]at hr;split at hr
   ·rename_i st1 hprep
    cases hok:cs.all (Uao · (writes x))&&(Uao g (writes x)&&(!Uao g cs&&bs.all (Nat.blt · st.h.length))) with
    |false=>rw[hok]at hr;cases hr
    | true=>
     rw[hok]at hr;simp only[Q7,Bool.not_eq_true',jH]at hok;simp only[Q1]at hr;obtain⟨ρ1,hR1,hs1,hl1,hle1,hst,hst2,hd1,hren1⟩:=Yhn hR hprep;obtain⟨hR0,hhl0⟩:=Zou (W:=writes x) (cs:=cs++[g]) (bs:=bs++[st.h.length]) hR1;have hlow:∀(i:Nat) (u:SV),st.s[i]?=some u->Ua6 st.h.length u=true:=λi u hu=>(hR.slots i u hu).lt
     have hlowB:∀(k:Nat) (b:VB),k<st.h.length->st1.h[k]?=some b->Uax st.h.length b=true:=λk b hk hb=>by
      rcases hst2 k hk with h|h
      ·rw[h]at hb;exact(hR.heap.is k b hb).lt
      ·rw[h]at hb;cases hb;rfl
     have hgc:g ∉ cs:=λh=>by rw[Zdx.2 h]at hok;exact absurd hok.2.2.1 (by simp)
     exact Zdg N (Zxq (ρs:=ρ) (λc hc=>Zdx.1 (hok.1 c hc)) hs1 hl1 hd1 hst (Zdx.1 hok.2.1) hgc (λb hb=>by have:=hok.2.2.2 b hb;simp[Nat.blt]at this;omega) hlow hlowB hR.bound
      (λs r' ρ a w h1 h2=>Zcz hm hΓ x p ro (hW.imp_right λh=>h) E W0 n0 ρ0 _ _ _ r' (st1.d++D) ρ a w h1 h2) N _ ρ1 a w hr hR0 (hle1.trans hhl0) hren1)
   ·cases hr
  | loop cs bs p=>
   rw[veC]at hr;cases hcs:cs.all (Uao · (writes x)) with
   |false=>rw[hcs]at hr;cases hr
   |true=>rw[hcs]at hr;simp only[Q1]at hr;obtain⟨hR0,hhl0⟩:=Zou (W:=writes x) (cs:=cs) (bs:=bs) hR;exact Zdg N (Ya2 hcs (ρs:=ρ) (λs r' ρ a w h1 h2=>Zcz hm hΓ x p ro (hW.imp_right λh=>h) E W0 n0 ρ0 _ _ _ r' (st.d++D) ρ a w h1 h2) N _ ρ a w hr hR0 hhl0 λ_ _=>rfl)
  | loopGR cs bs g t p=>
   rw[veC]at hr;split at hr
   ·rename_i st1 hprep
    cases hok:cs.all (Uao · (writes x))&&(Uao g (writes x)&&(!Uao g cs&&bs.all (Nat.blt · st.h.length))) with
    |false=>rw[hok]at hr;cases hr
    | true=>
     rw[hok]at hr;simp only[Q7,Bool.not_eq_true',jH]at hok;simp only[Q1]at hr;obtain⟨ρ1,hR1,hs1,hl1,hle1,hst,hst2,hd1,hren1⟩:=Yhn hR hprep;obtain⟨hR0,hhl0⟩:=Zou (W:=writes x) (cs:=cs++[g]) (bs:=bs++[st.h.length]) hR1;have hlow:∀(i:Nat) (u:SV),st.s[i]?=some u->Ua6 st.h.length u=true:=λi u hu=>(hR.slots i u hu).lt
     have hlowB:∀(k:Nat) (b:VB),k<st.h.length->st1.h[k]?=some b->Uax st.h.length b=true:=λk b hk hb=>by
      rcases hst2 k hk with h|h
      ·rw[h]at hb;exact(hR.heap.is k b hb).lt
      ·rw[h]at hb;cases hb;rfl
     have hgc:g ∉ cs:=λh=>by rw[Zdx.2 h]at hok;exact absurd hok.2.2.1 (by simp)
     exact Zdg N (Zun (ρs:=ρ) (λc hc=>Zdx.1 (hok.1 c hc)) hs1 hl1 hd1 hst (Zdx.1 hok.2.1) hgc (λb hb=>by have:=hok.2.2.2 b hb;simp[Nat.blt]at this;omega) hlow hlowB hR.bound
      (λs r' ρ a w h1 h2=>Zcz hm hΓ x p ro (hW.imp_right λh=>h) E W0 n0 ρ0 _ _ _ r' (st1.d++D) ρ a w h1 h2) N _ ρ1 a w hr hR0 (hle1.trans hhl0) hren1)
   ·cases hr
  | loopR cs bs p=>
   rw[veC]at hr;cases hcs:cs.all (Uao · (writes x)) with
   |false=>rw[hcs]at hr;cases hr
   |true=>rw[hcs]at hr;simp only[Q1]at hr;obtain⟨hR0,hhl0⟩:=Zou (W:=writes x) (cs:=cs) (bs:=bs) hR;exact Zdg N (Zwh hcs (ρs:=ρ) (λs r' ρ a w h1 h2=>Zcz hm hΓ x p ro (hW.imp_right λh=>h) E W0 n0 ρ0 _ _ _ r' (st.d++D) ρ a w h1 h2) N _ ρ a w hr hR0 hhl0 λ_ _=>rfl)
 | .rangeFunc f ps as b,p,ro,hW,E,W0,n0,ρ0,α,st,K,r,D,ρ,a,w,hr,hR=>by
  cases p with
  |one=>simp[veC]at hr
  |two p q=>simp[veC]at hr
  |loop cs bs p=>simp[veC]at hr
  |loopG cs bs g e p=>simp[veC]at hr
  |loopR cs bs p=>simp[veC]at hr
  |loopGR cs bs g e p=>simp[veC]at hr
  |loopB cs bs g e p=>simp[veC]at hr
  |iterB bs g e p=>simp[veC]at hr
  |jump l cs bs p q=>simp[veC]at hr
  |sc p=>simp[veC]at hr
  |iter bs p=>
   rcases hW with rfl|h
   ·exact Yck hΓ (λl st1 r' ρ1 a1 W hni hv hR1=>Zcz hm hΓ b p (some l) (.inr hni) [] W _ ρ1 _ st1 _ r' [] ρ1 a1 W hv hR1) hr hR
   ·simp[Ua7]at h
 |.scope b,p,ro,hW,E,W0,n0,ρ0,α,st,K,r,D,ρ,a,w,hr,hR=>by simp[veC]at hr
 |.label l,p,ro,hW,E,W0,n0,ρ0,α,st,K,r,D,ρ,a,w,hr,hR=>Yk1 ⟨ρ,st,by simpa [veC] using hr,hR,.refl _ _ _ _⟩
 |.goto l,p,ro,hW,E,W0,n0,ρ0,α,st,K,r,D,ρ,a,w,hr,hR=>wpX_goto ⟨ρ,st,by simpa [veC] using hr,hR,.refl _ _ _ _⟩
 |.refuse l,p,ro,hW,E,W0,n0,ρ0,α,st,K,r,D,ρ,a,w,hr,hR=>by simp[veC]at hr
def Ueb(mn:Md)(ro:Option Nat)(P:Program)(c:Code)(l:Nat)(Q:Exit->Act->World->Prop):Nat->Act->World->Prop
 |0,_,_=>False
 |m+1,a,w=>WpX mn ro P c (Exit.hop l (Ueb mn ro P c l Q m) Q) a w
theorem Ygn{c rest:Code}{l m:Nat}{a:Act}{v:World}{Q:Exit->Act->World->Prop}(hf:findLabel c l=some rest)(first:WpX mn ro P c (Exit.hop l (Ueb mn ro P rest l Q m) Q) a v):WpX mn ro P (.scope c) Q a v:=λPr hC b hb hkd k cs G w hfit hv hQ=>by
 have hg:gotoIn l (.inScope c::k)=some (.code rest :: .inScope c::k):=by simp[gotoIn,hf]
 have leave:∀(e:Exit) (a':Act) (v':World),(∀l',e ≠ .goto l')->Q e a' v'->∀G' w',FitM mn G' w'->Ge v' (view G' w')->Arr Pr b (.inScope c::k) cs e a' G' w':=by
  intro e a' v' hne hq G' w' hf' hv';cases e with
  |normal=>exact hC.calm hf' rfl (λw=>Yot) λw₂ hf₂ hg₂=>hQ .normal a' v' hq G' w₂ hf₂ (hv'.trans hg₂)
  |exit id'=>
   have hx:exitTo id' (.inScope c::k)=exitTo id' k:=by simp[exitTo]
   have:=hQ (.exit id') a' v' hq G' w' hf' hv';exact⟨λk' hk=>this.1 k' (by rwa [hx]at hk),λhk=>this.2 (by rwa [hx]at hk)⟩
  |goto l'=>exact absurd rfl (hne l')
  |ret=>exact hQ .ret a' v' hq G' w' hf' hv'
  |panic ch=>trivial
  |outgrown=>trivial
 have key:∀(m:Nat) (a:Act) (v:World),Ueb mn ro P rest l Q m a v->∀(G:Gh) (w:World),FitM mn G w->Ge v (view G w)->Pr G w (gr (b.atR a (.code rest :: .inScope c::k)) cs):=by
  intro m
  induction m with
  |zero=>intro a v h;exact h.elim
  | succ m ih=>
   intro a v h G w hfit hv;refine h Pr hC b hb hkd (.inScope c::k) cs G w hfit hv λe a' v' hq G' w' hf' hv'=> ?_
   cases e with
   | goto l'=>
    obtain⟨rfl,hJ⟩:=hq;refine⟨λk' hk=> ?_,λhk=> ?_⟩
    ·rw[hg]at hk
     cases hk;exact ih a' v' hJ G' w' hf' hv'
    ·rw[hg]at hk;cases hk
   |normal=>exact leave .normal a' v' (by simp) hq G' w' hf' hv'
   |exit id=>exact leave (.exit id) a' v' (by simp) hq G' w' hf' hv'
   |ret=>exact leave .ret a' v' (by simp) hq G' w' hf' hv'
   |panic ch=>trivial
   |outgrown=>trivial
 exact hC.calm hfit rfl (λw=>sg_scope) λw₁ hf₁ hg₁=>first Pr hC b hb hkd (.inScope c::k) cs G w₁ hf₁ (hv.trans hg₁) λe a' v' hq G' w' hf' hv'=>by
  cases e with
  | goto l'=>
   obtain⟨rfl,hJ⟩:=hq;refine⟨λk' hk=> ?_,λhk=> ?_⟩
   ·rw[hg]at hk
    cases hk;exact key m a' v' hJ G' w' hf' hv'
   ·rw[hg]at hk;cases hk
  |normal=>exact leave .normal a' v' (by simp) hq G' w' hf' hv'
  |exit id=>exact leave (.exit id) a' v' (by simp) hq G' w' hf' hv'
  |ret=>exact leave .ret a' v' (by simp) hq G' w' hf' hv'
  |panic ch=>trivial
  |outgrown=>trivial
theorem Yd4{c:Code}{p:Plan}{l:Nat}{cs bs:List Nat}(hcs:cs.all (Uao · (writes c))=true){α:Type}{K:Exit->St->Option α}{r:α}{st stt:St}{ρs ρt:Nat->Ad}{Wt:List Nat}(hWt:∀x∈writes c,x∈Wt)(hEt:Ext Wt stt.h.length ρt ρs stt st)
  (body:∀ (s:LS) (r':Stp LS (Exit×LS)) (ρ:Nat→Ad) (a:Act) (w:World),
   Ucb P Γ N c p l cs bs st s=some r'->RS E P W0 n0 (st.d++D) ρ0 ρ (head (writes c) cs bs st s) a w ->
   WpX mn ro P c (λe a' w'=>∃ρ' st',Ufx l st.h.length cs bs e st'=some r'/\RS E P W0 n0 (st.d++D) ρ0 ρ' st' a' w'/\Ext (writes c) (head (writes c) cs bs st s).h.length ρ ρ' (head (writes c) cs bs st s) st') a w) :
  ∀(m:Nat) (s:LS) (ρ:Nat->Ad) (a:Act) (w:World),
   Uaj (Uab (Ucb P Γ N c p l cs bs st) m s) (λe s=>K e (left (writes c) cs bs st s))=some r ->
   RS E P W0 n0 (st.d++D) ρ0 ρ (head (writes c) cs bs st s) a w->HLe st.h (head (writes c) cs bs st s).h->(∀k,k<st.h.length->ρ k=ρs k) ->
   ∃m',m=m'+1/\WpX mn ro P c (Exit.hop l (Ueb mn ro P (.seq .skip c) l (HopQ E P W0 n0 D ρ0 K r Wt ρt stt) m') (HopQ E P W0 n0 D ρ0 K r Wt ρt stt)) a w
 |0,s,ρ,a,w,hr,_,_,_=>by simp[Uab,Uaj]at hr
 | m+1,s,ρ,a,w,hr,hR,hhl,hren=>by
  rw[Uab]at hr;refine⟨m,rfl,?_⟩;have moreE:∀{o:Option LS} {s':LS},Ua1 (X:=Exit×LS) o=some (.more s')->o=some s':=λ{o s'} h=>by cases o<;>cases h;rfl
  have moreN:∀{o:Option LS} {x:Exit×LS},Ua1 (X:=Exit×LS) o=some (.done x)->False:=λ{o x} h=>by cases o<;>cases h
  have doneE:∀{o:Option LS} {e:Exit} {x:Exit×LS},Ua8 e o=some (.done x)->∃s',o=some s'/\x=(e,s'):=λ{o e x} h=>by cases o<;>cases h;exact⟨_,rfl,rfl⟩
  have doneN:∀{o:Option LS} {e:Exit} {s':LS},Ua8 e o=some (.more s')->False:=λ{o e s'} h=>by cases o<;>cases h
  cases hs':Ucb P Γ N c p l cs bs st s with
  |none=>rw[hs']at hr;simp[Uaj]at hr
  | some x=>
   rw[hs']at hr;cases x with
   | more s'=>
    dsimp only at hr;refine WpX.mono (body s _ ρ a w hs' hR) ?_;rintro e a' w' ⟨ρ',st',hk,hR',hE⟩;cases e with
    | goto l'=>
     simp only[Ufx]at hk;cases hb:jC l' l with
     |false=>rw[hb]at hk;cases hk
     |true=>
      rw[hb]at hk;obtain⟨rfl,h1,h2,h3⟩:=Yli (moreE hk);obtain⟨hR2,hhl2⟩:=Zo7 hR hR' hE hhl h1 h2 h3;obtain⟨m',rfl,hrec⟩:=Yd4 hcs hWt hEt body m _ ρ' a' w' hr hR2 hhl2 λk hk'=>(hE.ren k (by rw[show (head (writes c) cs bs st s).h.length=st.h.length from Zaw _ _ _];exact hk')).trans (hren k hk')
      exact⟨jG hb,Zax (Zgg hrec)⟩
    |normal=>exact(doneN hk).elim
    |exit id=>exact(doneN hk).elim
    |ret=>exact(doneN hk).elim
    |panic ch=>cases hk
    |outgrown=>cases hk
   | done x=>
    simp only[Uaj]at hr;refine WpX.mono (body s _ ρ a w hs' hR) ?_;rintro e a' w' ⟨ρ',st',hk,hR',hE⟩;have fin:Ua8 e (tail st.h.length cs bs st')=some (.done x)->HopQ E P W0 n0 D ρ0 K r Wt ρt stt e a' w':=λh=>by
     obtain⟨s',hs,rfl⟩:=doneE h;obtain⟨rfl,h1,h2,h3⟩:=Yli hs;obtain⟨hR2,hhl2⟩:=Zo7 hR hR' hE hhl h1 h2 h3;obtain⟨h4,h5⟩:=Zxy hcs hR2 hhl2 λk hk'=>(hE.ren k (by rw[show (head (writes c) cs bs st s).h.length=st.h.length from Zaw _ _ _];exact hk')).trans (hren k hk')
     exact⟨ρ',_,hr,h4,hEt.trans (h5.mono hWt hEt.hlen)⟩
    cases e with
    |goto l'=>
     simp only[Ufx]at hk;cases hb:jC l' l with
     |false=>rw[hb]at hk;cases hk
     |true=>rw[hb]at hk;exact(moreN hk).elim
    |normal=>exact fin hk
    |exit id=>exact fin hk
    |ret=>exact fin hk
    |panic ch=>cases hk
    |outgrown=>cases hk
theorem Ydp (hm:P.follows .mixedOrders=true) (hΓ:ConsOkX mn P (Ual mn P) Γ) (hW:ro=none) {W0:World} {n0:Nat} {ρ0:Nat→Ad} {α:Type} {K:Exit→St→Option α} {r:α} {D E:List Nat} {Wt:List Nat} {ρt:Nat→Ad} {stt:St} (hKg:∀ l st,K (.goto l) st=none) {j:JD} :
  ∀(c:Code) (p:Plan) (ρ:Nat->Ad) (st:St) (a:Act) (w:World),jd c p=some j->(∀x∈writes c,x∈Wt)->veSc P Γ N c p α st K=some r->RS E P W0 n0 D ρ0 ρ st a w->Ext Wt stt.h.length ρt ρ stt st ->
   WpX mn ro P c (Exit.hop j.l (Ueb mn ro P (.seq .skip j.z) j.l (HopQ E P W0 n0 D ρ0 K r Wt ρt stt) N) (HopQ E P W0 n0 D ρ0 K r Wt ρt stt)) a w
 | .seq x y,.two p q,ρ,st,a,w,hj,hWc,hr,hR,hEt=>by
  simp only[jd]at hj;split at hj
  ·rename_i j' hjy
   cases hb:(findLabel x j'.l).isNone with
   |false=>rw[hb]at hj;cases hj
   |true=>
    rw[hb]at hj;cases hj;rw[veSc]at hr;refine Zax (WpX.mono (Zcz hm hΓ x p ro (.inl hW) E W0 n0 ρ0 α st _ r D ρ a w hr hR) ?_);rintro e a1 w1 ⟨ρ1,st1,hk,hR1,hE1⟩;have hE2:=hEt.trans (hE1.mono (λi hi=>hWc i (jD _ hi)) hEt.hlen);cases e with
    |normal=>exact Ydp hm hΓ hW hKg y q ρ1 st1 a1 w1 hjy (λi hi=>hWc i (jL _ hi)) hk hR1 hE2
    |goto l=>exact absurd hk (by rw[show kSeq (veSc P Γ N y q α) K (.goto l) st1=K (.goto l) st1 from rfl,hKg];simp)
    |exit id=>exact⟨ρ1,st1,hk,hR1,hE2⟩
    |ret=>exact⟨ρ1,st1,hk,hR1,hE2⟩
    |panic ch=>exact⟨ρ1,st1,hk,hR1,hE2⟩
    |outgrown=>exact⟨ρ1,st1,hk,hR1,hE2⟩
  ·cases hj
 | .seq x y,.jump l cs bs p q,ρ,st,a,w,hj,hWc,hr,hR,hEt=>by
  simp only[jd]at hj;split at hj
  ·rename_i z hz
   cases hb:(findLabel x l).isNone with
   |false=>rw[hb]at hj;cases hj
   | true=>
    rw[hb]at hj;cases hj;rw[veSc]at hr;rw[hz]at hr;dsimp only at hr|-
    have hy:=Yj2 hz;cases hcs:cs.all (Uao · (writes z)) with
    |false=>rw[hcs]at hr;cases hr
    | true=>
     rw[hcs,Q1]at hr;refine Zax (WpX.mono (Zcz hm hΓ x p ro (.inl hW) E W0 n0 ρ0 α st _ r D ρ a w hr hR) ?_);rintro e a1 w1 ⟨ρ1,st1,hk,hR1,hE1⟩;have hE2:=hEt.trans (hE1.mono (λi hi=>hWc i (jD _ hi)) hEt.hlen);cases e with
     | normal=>
      simp only[kSeq]at hk;have hwz:∀i∈writes z,i∈Wt:=λi hi=>hWc i (jL _ (by rw[hy];exact jL _ hi))
      obtain⟨hR0,hhl0⟩:=Zou (W:=writes z) (cs:=cs) (bs:=bs) hR1;obtain⟨N',hN,hrounds⟩:=Yd4 (P:=P) (Γ:=Γ) (mn:=mn) (ro:=ro) (N:=N) (W0:=W0) (n0:=n0) (D:=D) (ρ0:=ρ0) hcs (p:=q) (l:=l) hwz hE2 (λs r' ρ a w h1 h2=>Zcz hm hΓ z q ro (.inl hW) E W0 n0 ρ0 _ _ _ r' (st1.d++D) ρ a w h1 h2) N _ ρ1 a1 w1 hk hR0 hhl0 (λ_ _=>rfl)
      -- the first round, from the label itself
      show WpX mn ro P y _ a1 w1
      rw[hy];generalize hQ:HopQ E P W0 n0 D ρ0 K r Wt ρt stt=Q at hrounds|-
      refine Zax (Yk1 ?_)
      show WpX mn ro P z _ a1 w1
      have hN2:∀(m:Nat) (a:Act) (w:World),Ueb mn ro P (.seq .skip z) l Q m a w->Ueb mn ro P (.seq .skip z) l Q (m+1) a w:=by
       intro m
       induction m with
       |zero=>intro a w h;exact h.elim
       |succ m ih=>
        intro a w h;refine WpX.mono h ?_;intro e a' w' he;cases e with
        |goto l'=>exact⟨he.1,ih a' w' he.2⟩
        |_=>exact he
      refine WpX.mono hrounds λe a' w' he=> ?_
      cases e with
      |goto l'=>exact⟨he.1,by have:=hN2 _ a' w' he.2;rw[<- hN]at this;exact this⟩
      |_=>exact he
     |goto l'=>exact absurd hk (by simp only[kSeq];rw[hKg];simp)
     |exit id=>exact⟨ρ1,st1,hk,hR1,hE2⟩
     |ret=>exact⟨ρ1,st1,hk,hR1,hE2⟩
     |panic ch=>exact⟨ρ1,st1,hk,hR1,hE2⟩
     |outgrown=>exact⟨ρ1,st1,hk,hR1,hE2⟩
  ·cases hj
 |.seq x y,.one,_,_,_,_,hj,_,_,_,_ | .seq x y,.loop _ _ _,_,_,_,_,hj,_,_,_,_ | .seq x y,.loopG _ _ _ _ _,_,_,_,_,hj,_,_,_,_ | .seq x y,.loopR _ _ _,_,_,_,_,hj,_,_,_,_ | .seq x y,.loopGR _ _ _ _ _,_,_,_,_,hj,_,_,_,_ | .seq x y,.iter _ _,_,_,_,_,hj,_,_,_,_ | .seq x y,.sc _,_,_,_,_,hj,_,_,_,_=>by simp[jd]at hj
 |.skip,_,_,_,_,_,hj,_,_,_,_ | .region _ _ _,_,_,_,_,_,hj,_,_,_,_ | .cond _ _ _,_,_,_,_,_,hj,_,_,_,_ | .block _ _,_,_,_,_,_,hj,_,_,_,_ | .loop _,_,_,_,_,_,hj,_,_,_,_ | .rangeFunc _ _ _ _,_,_,_,_,_,hj,_,_,_,_ | .exit _,_,_,_,_,_,hj,_,_,_,_ | .scope _,_,_,_,_,_,hj,_,_,_,_ | .label _,_,_,_,_,_,hj,_,_,_,_ | .goto _,_,_,_,_,_,hj,_,_,_,_ | .ret,_,_,_,_,_,hj,_,_,_,_ | .refuse _,_,_,_,_,_,hj,_,_,_,_=>by simp[jd]at hj
theorem Yh1(hm:P.follows .mixedOrders=true)(hΓ:ConsOkX mn P (Ual mn P) Γ)(hW:ro=none){W0:World}{n0:Nat}{ρ0:Nat->Ad}{α:Type}{K:Exit->St->Option α}{r:α}{D E:List Nat}:
  ∀(c:Code) (p:Plan) (ρ:Nat->Ad) (st:St) (a:Act) (w:World),veF P Γ N c p α st K=some r->RS E P W0 n0 D ρ0 ρ st a w ->
   WpX mn ro P c (λe a' w'=>∃ρ' st',K e st'=some r/\RS E P W0 n0 D ρ0 ρ' st' a' w'/\Ext (writes c) st.h.length ρ ρ' st st') a w
 | .seq x y,.two p q,ρ,st,a,w,hr,hR=>by
  rw[veF]at hr;refine Zax (WpX.mono (Zcz hm hΓ x p ro (.inl hW) E W0 n0 ρ0 α st _ r D ρ a w hr hR) ?_);rintro e a1 w1 ⟨ρ1,st1,hk,hR1,hE1⟩;cases e with
  |normal=>refine WpX.mono (Yh1 hm hΓ hW y q ρ1 st1 a1 w1 hk hR1) ?_;rintro e2 a2 w2 ⟨ρ2,st2,hk2,hR2,hE2⟩;exact⟨ρ2,st2,hk2,hR2,Yqt hE1 hE2⟩
  |exit id=>exact⟨ρ1,st1,hk,hR1,hE1.mono (λ_ h=>jD _ h) (jB _)⟩
  |goto l=>exact⟨ρ1,st1,hk,hR1,hE1.mono (λ_ h=>jD _ h) (jB _)⟩
  |ret=>exact⟨ρ1,st1,hk,hR1,hE1.mono (λ_ h=>jD _ h) (jB _)⟩
  |panic ch=>exact⟨ρ1,st1,hk,hR1,hE1.mono (λ_ h=>jD _ h) (jB _)⟩
  |outgrown=>exact⟨ρ1,st1,hk,hR1,hE1.mono (λ_ h=>jD _ h) (jB _)⟩
 | .scope x,p,ρ,st,a,w,hr,hR=>by
  rw[veF]at hr;split at hr
  ·rename_i j hj
   refine Ygn (Yqh hj) (m:=N) ?_;have:=Ydp (K:=Ub3 K) (ρt:=ρ) (stt:=st) (Wt:=writes x) hm hΓ hW (λl st=>rfl) x p ρ st a w hj (λ_ h=>h) hr hR (.refl _ _ _ _);have up:∀(e:Exit) (a':Act) (w':World),HopQ E P W0 n0 D ρ0 (Ub3 K) r (writes x) ρ st e a' w'->∃ρ' st',K e st'=some r/\RS E P W0 n0 D ρ0 ρ' st' a' w'/\Ext (writes (.scope x)) st.h.length ρ ρ' st st':=λe a' w' ⟨ρ',st',h1,h2,h3⟩=>⟨ρ',st',Yp9 h1,h2,h3⟩
   have hops:∀(m:Nat) (a:Act) (w:World),Ueb mn ro P (.seq .skip j.z) j.l (HopQ E P W0 n0 D ρ0 (Ub3 K) r (writes x) ρ st) m a w->Ueb mn ro P (.seq .skip j.z) j.l (λe a' w'=>∃ρ' st',K e st'=some r/\RS E P W0 n0 D ρ0 ρ' st' a' w'/\Ext (writes (.scope x)) st.h.length ρ ρ' st st') m a w:=by
    intro m
    induction m with
    |zero=>intro a w h;exact h.elim
    |succ m ih=>
     intro a w h;refine WpX.mono h λe a' w' he=> ?_
     cases e with
     |goto l'=>exact⟨he.1,ih a' w' he.2⟩
     |_=>exact up _ _ _ he
   refine WpX.mono this λe a' w' he=> ?_
   cases e with
   |goto l'=>exact⟨he.1,hops _ a' w' he.2⟩
   |_=>exact up _ _ _ he
  ·cases hr
 |.seq x y,.one,_,_,_,_,hr,_ | .seq x y,.loop _ _ _,_,_,_,_,hr,_ | .seq x y,.loopG _ _ _ _ _,_,_,_,_,hr,_ | .seq x y,.loopR _ _ _,_,_,_,_,hr,_ | .seq x y,.loopGR _ _ _ _ _,_,_,_,_,hr,_ | .seq x y,.iter _ _,_,_,_,_,hr,_ | .seq x y,.sc _,_,_,_,_,hr,_ | .seq x y,.jump _ _ _ _ _,_,_,_,_,hr,_=>by simp[veF]at hr
 |.skip,_,_,_,_,_,hr,_ | .region _ _ _,_,_,_,_,_,hr,_ | .cond _ _ _,_,_,_,_,_,hr,_ | .block _ _,_,_,_,_,_,hr,_ | .loop _,_,_,_,_,_,hr,_ | .rangeFunc _ _ _ _,_,_,_,_,_,hr,_ | .exit _,_,_,_,_,_,hr,_ | .label _,_,_,_,_,_,hr,_ | .goto _,_,_,_,_,_,hr,_ | .ret,_,_,_,_,_,hr,_ | .refuse _,_,_,_,_,_,hr,_=>by simp[veF]at hr
theorem Ypm(hm:P.follows .mixedOrders=true)(hΓ:ConsOkX mn P (Ual mn P) Γ)(hW:ro=none){W0:World}{n0:Nat}{ρ0:Nat->Ad}{α:Type}{K:Exit->St->Option α}{r:α}{D E:List Nat}
  (c:Code) (p:Plan) (ρ:Nat→Ad) (st:St) (a:Act) (w:World) (hr:veT P Γ N c p α st K=some r) (hR:RS E P W0 n0 D ρ0 ρ st a w) :
   WpX mn ro P c (λe a' w'=>∃ρ' st',K e st'=some r/\RS E P W0 n0 D ρ0 ρ' st' a' w'/\Ext (writes c) st.h.length ρ ρ' st st') a w:=by
 cases p with
 |sc p=>exact Yh1 hm hΓ hW c p ρ st a w hr hR
 |_=>exact Zcz hm hΓ c _ ro (.inl hW) E W0 n0 ρ0 α st K r D ρ a w hr hR
end
end Go.Proofs.YtdfefaanfiheoaaGreatDoor.Vc
/- Functions of the symbolic run, in company. No program is named. -/
namespace Go.Proofs.YtdfefaanfiheoaaGreatDoor.Vc
open Go.RowKit Go.Conc Go.Proofs.YtdfefaanfiheoaaGreatDoor.Ve
variable {mn:Md}
section
variable {P:Program} {Γ:Cons} {N:Nat}
def Ucl(P:Program)(fn:Func)(tmps:Array Value)(R:Value->World->Prop)(ds:List Deferred)(v:World):Prop:=
 ∃W0,DefOk W0 ds v/\∀wx:World,Kept (λk=>W0.heap.size<=k) v wx->(∀(k:Nat) c t fr,v.heap[k]?=some (Obj.cells c t fr)->wx.heap[k]?=some (Obj.cells c t fr))->∃r,(results fn tmps).run P wx=.ok r wx/\R r wx
theorem Zln(fn:Func)(tmps:Array Value):Simple P (results fn tmps):=by
 unfold results;refine .bind (Ya7 _ (λr=> ?_) _) λ_=>.pure _
 cases r with
 |tmp t=>exact .pure _
 |cell a t=>exact .bind (Yig _) λ_=>Zug _ _
theorem Yj3{fr:Frame}{cs:List Frame}{w w':World}{m:Nat}{ds:List Deferred}{es:Array Event}(hm:fr.mode=.returning)(hd:fr.defers={ target:=.collected m,args:=#[] }::ds)(hr:(Instr.takeDeferred m).runT P w #[]=(.ok [] w',es)):
  stepG P mn.main (gr fr cs) w=.go (gr { fr with defers:=ds } cs) w' (seen P fr.fn es):=by
 simp[gr,stepG,unwind,hm,hd,hr,GStep.after,-Sem.runT_eq]
theorem Yaz{Pr:Gh->World->Goroutine->Prop}(hC:Closed P mn.main Pr){f:FuncId}{fn:Func}(hf:P.funcs[f]?=some fn){tmps:Array Value}{R:Value->World->Prop}{cs:List Frame}
  (hQ:∀v' fr,fr.fn=f->Uco P fr R v'->∀G' w',FitM mn G' w'->Ge v' (view G' w')->Pr G' w' (gr fr cs)) :
  ∀(ds:List Deferred) (fr:Frame) (v:World),fr.fn=f->fr.mode=.returning->fr.kind=.normal->fr.tmps=tmps->fr.defers=ds->Ucl P fn tmps R ds v->∀(G:Gh) (w:World),FitM mn G w->Ge v (view G w)->Pr G w (gr fr cs)
 | [],fr,v,h1,h2,h3,h4,h5,⟨W0,_,hl⟩,G,w,hfit,hv=>hQ v fr h1 ⟨h2,h5,h3,fn,by rw [h1];exact hf,fun v₁ hg=>by
   obtain⟨r,q1,q2⟩:=hl v₁ (hg.kept _) λk c t fr hk=>hg.at hk
   exact⟨r,by rw[h4];exact(Zln fn tmps).tr q1,q2⟩⟩ G w hfit hv
 | d::ds,fr,v,h1,h2,h3,h4,h5,⟨W0,hd,hl⟩,G,w,hfit,hv=>by
  refine hC.step G w _ hfit rfl λw₁ hr₁=> ?_
  have hf₁:=hfit.rely hr₁;have hg₁:=hv.trans (hr₁.view hfit);generalize hv₁:view G w₁=v₁ at hg₁;have hd₁:=hd.same (hg₁.kept _);obtain⟨m,rfl,hm,hb⟩:=hd₁.all d (List.mem_cons_self ..);obtain⟨w₂,es,e1,e2,e3⟩:=Zrl (P:=P) hb G w₁ hf₁ hv₁ #[];refine⟨_,w₂,_,Yj3 h2 h5 e1,by simpa using e3.seen fr.fn,?_⟩;have hlt:m<v₁.heap.size:=(Array.getElem?_eq_some_iff.1 hb).1;have hk:Kept (λk=>W0.heap.size<=k) v (v₁.putObj m (.deferred none)):=(hg₁.kept _).trans ⟨rfl,rfl,rfl,by simp[World.putObj],λk hk hne=>World.putObj_heap_other (by omega)⟩;have hc:∀k c t fr,v.heap[k]?=some (Obj.cells c t fr)->(v₁.putObj m (.deferred none)).heap[k]?=some (Obj.cells c t fr):=λk c t fr hc=>by
   rw[World.putObj_heap_other (by rintro rfl;rw[hg₁.at hc]at hb;cases hb)];exact hg₁.at hc
  have hpw:=List.pairwise_cons.1 hd₁.diff;refine Yaz hC hf hQ ds { fr with defers:=ds } (v₁.putObj m (.deferred none)) h1 h2 h3 h4 rfl ⟨W0,⟨λe he=> ?_,hpw.2⟩,λwx q1 q2=>hl wx (hk.trans (q1.mono λ_ _ h=>h)) λk c t fr hh=>q2 k c t fr (hc k c t fr hh)⟩ _ w₂ (hf₁.did e3) (by rw[<- e2];exact Ge.refl _);obtain⟨q,rfl,h1,h2⟩:=hd₁.all e (List.mem_cons_of_mem _ he);refine⟨q,rfl,h1,?_⟩;rw[World.putObj_heap_other (by rintro rfl;exact hpw.1 _ he _ rfl rfl)];exact h2
theorem Zki{f:FuncId}{fn:Func}(hf:P.funcs[f]?=some fn){c:Code}(hb:fn.body=some c){args:Array Value}{v:World}{R:Value->World->Prop}
  (h:WpX mn none P c (λe a' v'=>(e=.normal\/e=.ret)/\Ucl P fn a'.tmps R a'.defers v') { tmps:=args++jA (fn.ntmps - args.size) undef,defers:=[] } v):Uaz mn P f args v R:=λPr hC cs G w hfit hv hQ=>by
 let b:Frame:={ fn:=f,tmps:=#[],todo:=[],defers:=[],mode:=.run,kind:=.normal }
 have he:Frame.enter P f args .normal=b.atR { tmps:=args++jA (fn.ntmps - args.size) undef,defers:=[] } [.code c]:=by simp[Frame.enter,Frame.atR,b,hf,hb]
 rw[he];refine h Pr hC b rfl rfl [] cs G w hfit hv λe a' v' hq G' w' hf' hv'=> ?_
 obtain⟨hex,hl⟩:=hq;have fin:∀(k:List Item) (w:World),stepG P mn.main (gr (b.atR a' k) cs) w=.go (gr { b.atR a' k with mode:=.returning } cs) w #[]->True:=λ_ _ _=>trivial
 have go:∀k:List Item,(∀w,stepG P mn.main (gr (b.atR a' k) cs) w=.go (gr { b.atR a' k with mode:=.returning } cs) w #[])->Pr G' w' (gr (b.atR a' k) cs):=λk hs=>
  hC.calm hf' rfl hs λw₁ hf₁ hg=>Yaz hC hf hQ a'.defers _ v' rfl rfl rfl rfl rfl hl G' w₁ hf₁ (hv'.trans hg)
 rcases hex with rfl|rfl
 ·exact go [] λw=>by simp[gr,stepG,stepG.exec,Frame.atR,b]
 ·exact λk₁=>go _ λw=>by simp[gr,stepG,stepG.exec,Frame.atR,b]
theorem funX_ok (hm:P.follows .mixedOrders=true) (hΓ:ConsOkX mn P (Ual mn P) Γ) {f:FuncId} {fn:Func} (hf:P.funcs[f]? = some fn) {c:Code} (hb:fn.body=some c) {res:List ResultVar} (hres:fn.results.toList=res) {nt:Nat} (hnt:fn.ntmps=nt) (p:Plan) :
  Uac mn P f (funV P Γ N res nt c p):=by
 intro ρ h w args vals r ef hno hr hA hH;refine Zki hf hb ?_;have hlen:args.length=vals.length:=hA.1
 have hR:R P w h.length [] ρ ρ (entry nt args h) { tmps:=vals.toArray++jA (fn.ntmps - vals.toArray.size) undef,defers:=[] } w:=by
  refine⟨by simp[entry,hlen,hnt],λi v hv=> ?_,hH,λ_ _=>rfl,λk hk hp=> ?_,Kept.refl _ w,λn len C e _ h=>absurd h (hno n len C e),DefOk.nil _ _,jB _⟩
  ·simp only[entry]at hv|-
   by_cases hi:i<args.length
   ·rw[jJ (by simpa using hi),List.getElem?_map,jE hi]at hv
    simp only[Option.map_some,Q8]at hv;subst hv;have:(vals.toArray++jA (fn.ntmps - vals.toArray.size) undef).getD i undef=vals[i]'(by omega):=by rw[jN,Array.getElem?_append_left (by simp;omega)];simp[show i<vals.length by omega]
    rw[this];exact hA.2 i _ _ (jE hi) (jE (by omega))
   ·rw[List.getElem?_append_right (by simp;omega),List.getElem?_replicate]at hv
    split at hv
    ·cases hv
     have:(vals.toArray++jA (fn.ntmps - vals.toArray.size) undef).getD i undef=undef:=by rw[jN,Array.getElem?_append_right (by simp;omega),Array.getElem?_replicate];split<;>rfl
     rw[this];rfl
    ·cases hv
  ·exfalso
   cases hp with
   |row e=>have:=(jF.1 e).1;simp only[entry]at this;omega
   |one e=>have:=(jF.1 e).1;simp only[entry]at this;omega
   |own e _ _=>have:=(jF.1 e).1;simp only[entry]at this;omega
 refine WpX.mono (Ypm hm hΓ rfl c p ρ _ _ w hr hR) ?_;rintro e a' w' ⟨ρ',st',hk,hR',hE⟩
 have key:finA P h res st'=some (r,ef,true) →
   Ucl P fn a'.tmps (λv w'=>Uay P ρ h w r ef v w') a'.defers w':=by
  intro hk;unfold finA at hk;cases hcl:Ueo h.length st'.d with
  | false=>
   rw[hcl]at hk;simp only[Q2]at hk;cases hv0:ansW P st' res with
   |none=>rw[hv0]at hk;cases hk
   |some vv0=>
   cases hfirst:Ueq h.length st'.d with
   |none=>rw[hv0,hfirst]at hk;cases hk
   |some m=>
   rw[hv0,hfirst]at hk;dsimp only at hk;cases hone:oneD h.length m st'.d with
   |false=>rw[hone]at hk;cases hk
   |true=>
   rw[hone]at hk;simp only[Q1]at hk;have hmlt:=Ylb hfirst;have hρ:ρ' m=ρ m:=hE.ren m hmlt;have hk0:Kept (λk=>k=(ρ m).a) w w':=hR'.keptR.mono λk _ ⟨q,h1,h2,h3⟩=>by
    rcases h2 with h2|h2
    ·rw[<- h3,Yni hone q h2 h1]
    ·cases h2
   have hkx2:∀wx:World,Kept (λk=>w.heap.size<=k) w' wx->Kept (λk=>k=(ρ m).a) w wx:=λwx hkx=>
    ⟨hkx.os.trans hk0.os,hkx.tape.trans hk0.tape,hkx.output.trans hk0.output,jI hk0.size hkx.size,λk hk he=>(hkx.block k (jK hk hk0.size) (by omega)).trans (hk0.block k hk he)⟩
   have hresW:∀ wx:World,Kept (fun k=>w.heap.size≤k) w' wx→(∀ (k:Nat) c t fr,w'.heap[k]? = some (Obj.cells c t fr)→wx.heap[k]? = some (Obj.cells c t fr))→∃ v,(results fn a'.tmps).run P wx = .ok v wx∧IsV P ρ h vv0 v:=fun wx hkx hcx=>by
    cases hre:res with
    |nil=>rw[hre]at hv0;simp only[ansW,Q8]at hv0;subst hv0;rw[hre]at hres;exact⟨undef,by simp[results,Array.toList_eq_nil_iff.1 hres];rfl,rfl⟩
    | cons r0 l0=>
     rw[hre]at hv0;simp only[ansW]at hv0;split at hv0
     ·rename_i ys hys
      cases hd:ys.all dataR with
      |false=>rw[hd]at hv0;cases hv0
      | true=>
       rw[hd]at hv0;simp only[Q1,Q8]at hv0;subst hv0;have hHx:HIs P ρ' st'.h wx:=⟨λn b hb=>(hR'.heap.is n b hb).world' hkx.size (λg c t fr hc=>hcx _ _ _ _ hc) λc t fr hc=>hcx _ _ _ _ hc,hR'.heap.inj,hR'.heap.far⟩;obtain⟨vs,hrun2,hall⟩:=Zfp hR'.slots hHx (fn:=fn) (by rw[hres,hre];exact hys);have hall2:Uap P ρ h ys vs:=by refine⟨hall.1,λi y v hy hv=> ?_⟩;rw[jH]at hd;have h1:=hall.2 i y v hy hv;have h2:=hd y (jM hy);cases y<;>first|exact h1|cases h2
       refine⟨_,hrun2,?_⟩
       match ys,vs,hall2 with
       |[],[],h2=>exact⟨[],rfl,h2⟩
       |[y],[v],h2=>exact h2.2 0 y v rfl rfl
       |y::z::l,v::u::vs,h2=>refine⟨v::u::vs,?_,h2⟩;rw[dif_neg (by simp)]
       |[],v::vs,h2=>exact absurd h2.1 (by simp)
       |[y],[],h2=>exact absurd h2.1 (by simp)
       |[y],v::u::vs,h2=>exact absurd h2.1 (by simp)
       |y::z::l,[],h2=>exact absurd h2.1 (by simp)
       |y::z::l,[v],h2=>exact absurd h2.1 (by simp)
     ·cases hv0
   split at hk
   ·rename_i C t C0 t0 hmt hm0
    cases hbt:jC t t0 with
    |false=>rw[hbt]at hk;cases hk
    |true=>rw[hbt]at hk;obtain rfl:=jG hbt;simp only[Q1,Q8,Q0]at hk;obtain⟨rfl,rfl,-⟩:=hk;refine⟨_,hR'.defers,λwx hkx hcx=> ?_⟩;obtain⟨v,hrun,hiv⟩:=hresW wx hkx hcx;refine⟨v,hrun,hiv,.inl ⟨_,_,_,hm0,rfl⟩,hkx2 wx hkx,?_⟩;have hB:=(hR'.heap.is m _ hmt).row;rw[hρ]at hB;exact⟨hcx _ _ _ _ hB.1,hB.2⟩
   ·rename_i len C e0 len0 C0 e1 hmt hm0
    cases hbl:Nat.blt 0 len with
    |false=>rw[hbl]at hk;cases hk
    | true=>
     rw[hbl]at hk;simp only[Q1,Q8,Q0]at hk;obtain⟨rfl,rfl,-⟩:=hk;have hl0:1<=len:=by simpa [Nat.blt] using hbl
     obtain⟨rfl,rfl⟩:len0=len/\e1=e0:=by
      rcases(hE.hle m).sl _ _ _ _ hm0 with ⟨C',h1⟩ | ⟨h1,_⟩
      ·rw[hmt]at h1
       cases h1;exact⟨rfl,rfl⟩
      ·cases h1
     refine⟨_,hR'.defers,λwx hkx hcx=> ?_⟩;obtain⟨v,hrun,hiv⟩:=hresW wx hkx hcx;refine⟨v,hrun,hiv,.inr (.inl ⟨_,_,_,_,_,rfl,hm0,rfl,by omega⟩),hkx2 wx hkx,?_⟩;have hB:=hR'.heap.is m _ hmt;rw[hρ]at hB;exact BIs.world' (b:=.sl .lent _ C _) ⟨hB.1,hB.2⟩ hkx.size (λg c t fr hc=>hcx _ _ _ _ hc) λc t fr hc=>hcx _ _ _ _ hc
   ·cases hk
  | true=>
   rw[hcl]at hk;simp only[Q1]at hk;split at hk
   ·rename_i l hl
    cases hrl:l.all (Ubr h.length) with
    | false=>
     rw[hrl]at hk;simp only[Q2]at hk;unfold newRes at hk;split at hk
     ·rename_i i m hfst
      obtain⟨-,hli,hml⟩:=Yhl hfst;rw[Nat.sub_zero]at hli;split at hk
      ·rename_i len C e hm
       have hkept0:Kept (λ_=>False) w w':=hR'.keptR.mono λk _ ⟨m,h1,h2,_⟩=>by
        rcases h2 with h2|h2
        ·have:=Zla hcl m h2
         omega
        ·cases h2
       cases hb1:jC l.length 1 with
       | true=>
        rw[hb1]at hk;simp only[Q1,Q8,Q0]at hk;obtain⟨rfl,rfl,-⟩:=hk;refine⟨_,hR'.defers,λwx hkx hcx=> ?_⟩;have hHx:HIs P ρ' st'.h wx:=⟨λn b hb=>(hR'.heap.is n b hb).world' hkx.size (λg c t fr hc=>hcx _ _ _ _ hc) λc t fr hc=>hcx _ _ _ _ hc,hR'.heap.inj,hR'.heap.far⟩;obtain⟨vs,hrun2,hall⟩:=Zfp hR'.slots hHx (fn:=fn) (by rw[hres];exact hl);have hkept:Kept (λ_=>False) w wx:=⟨hkx.os.trans hkept0.os,hkx.tape.trans hkept0.tape,hkx.output.trans hkept0.output,jI hkept0.size hkx.size,λk hk he=>(hkx.block k (jK hk hkept0.size) (by omega)).trans (hkept0.block k hk he)⟩;have h1l:=jG hb1
        match l,vs,h1l,hall,hrun2,hli with
        |[y],[v],_,hall,hrun2,hli=>
         have hi0:i=0:=by have:=(jF.1 hli).1;simp at this;exact this
         subst hi0;simp only[List.getElem?_cons_zero,Q8]at hli;subst hli;obtain⟨ad,cap,h2,h3,h4⟩:=Is.l_of (hall.2 0 _ v rfl rfl) hm;refine⟨v,hrun2,ρ' m,ad,cap,h2,⟨(h4 rfl).1,λh0=>⟨h3 h0,(h4 rfl).2 h0⟩⟩,λh0=>hR'.freshR m hml (.own hm rfl h0),hkept,?_⟩;exact hHx.is m _ hm
        |[y],[],_,hall,_,_=>exact absurd hall.1 (by simp)
        |[y],_::_::_,_,hall,_,_=>exact absurd hall.1 (by simp)
       | false=>
        rw[hb1]at hk;simp only[Q2]at hk;cases hra0:(l.set i .x).all (Ubr h.length) && !Nat.ble 1000000 i with
        |false=>rw[hra0]at hk;cases hk
        | true=>
         rw[hra0]at hk;obtain⟨hra,hlen0⟩:=Bool.and_eq_true_iff.1 hra0;simp only[Q1,Q8,Q0]at hk;obtain⟨rfl,rfl,-⟩:=hk;refine⟨_,hR'.defers,λwx hkx hcx=> ?_⟩;have hHx:HIs P ρ' st'.h wx:=⟨λn b hb=>(hR'.heap.is n b hb).world' hkx.size (λg c t fr hc=>hcx _ _ _ _ hc) λc t fr hc=>hcx _ _ _ _ hc,hR'.heap.inj,hR'.heap.far⟩;obtain⟨vs,hrun2,hall⟩:=Zfp hR'.slots hHx (fn:=fn) (by rw[hres];exact hl);have hkept:Kept (λ_=>False) w wx:=⟨hkx.os.trans hkept0.os,hkx.tape.trans hkept0.tape,hkx.output.trans hkept0.output,jI hkept0.size hkx.size,λk hk he=>(hkx.block k (jK hk hkept0.size) (by omega)).trans (hkept0.block k hk he)⟩;have hne1:vs.toArray.size≠1:=by rw[List.size_toArray,<- hall.1];intro e;rw[e]at hb1;cases hb1
         rw[dif_neg hne1]at hrun2;have hilt:=(jF.1 hli).1;have hvi:=jE (show i<vs.length by rw[<- hall.1];exact hilt);obtain⟨ad,cap,h2,h3,h4⟩:=Is.l_of (hall.2 i _ _ hli hvi) hm;have hh:∀k,k<h.length->h[k]?=st'.h[k]?:=λk hk=>by
          refine(hE.heap k hk λhd=> ?_).symm;have:=Zla hcl k hd;omega
         have hall2:Uap P ρ h (l.set i .x) vs:=by
          refine⟨by simpa using hall.1,λk y v hy hv=> ?_⟩
          by_cases e:i=k
          ·subst e
           rw[List.getElem?_set_self hilt]at hy;cases hy;trivial
          ·have hy':=hy
           rw[List.getElem?_set_ne e]at hy;rw[jH]at hra;have h1:=(hall.2 k y v hy hv).cut hh (hra y (jM hy'));exact h1.mono (HLe.refl _) λk hk=>(hE.ren k (Zsx hk)).symm
         have hismall:Nat.ble 1000000 i=false:=by
          cases hbi:Nat.ble 1000000 i with
          |false=>rfl
          |true=>rw[hbi]at hlen0;cases hlen0
         refine⟨_,hrun2,ρ' m,ad,cap,by simp only[Ud9,hismall,Q2];exact⟨_,vs,rfl,rfl,hall2,by rw[hvi,h2]⟩,⟨(h4 rfl).1,λh0=>⟨h3 h0,(h4 rfl).2 h0⟩⟩,λh0=>hR'.freshR m hml (.own hm rfl h0),hkept,?_⟩;exact hHx.is m _ hm
      ·cases hk
     ·unfold Ugu at hk
      split at hk
      ·rename_i m hfst
       obtain⟨hml,j0,D0,T0,ns0,i0,hj0,hi0⟩:=Yhb hfst;split at hk
       ·rename_i len C e hm
        cases hok:Nat.ble h.length 1000000&&l.all (okH h.length m) with
        |false=>rw[hok]at hk;cases hk
        |true=>
        rw[hok]at hk;simp only[Q1,Q8,Q0]at hk;obtain⟨rfl,rfl,-⟩:=hk;obtain⟨hsm,hok⟩:=Bool.and_eq_true_iff.1 hok;have hsm:=Nat.le_of_ble_eq_true hsm;have hkept0:Kept (λ_=>False) w w':=hR'.keptR.mono λk _ ⟨m,h1,h2,_⟩=>by
         rcases h2 with h2|h2
         ·have:=Zla hcl m h2
          omega
         ·cases h2
        refine⟨_,hR'.defers,λwx hkx hcx=> ?_⟩;have hHx:HIs P ρ' st'.h wx:=⟨λn b hb=>(hR'.heap.is n b hb).world' hkx.size (λg c t fr hc=>hcx _ _ _ _ hc) λc t fr hc=>hcx _ _ _ _ hc,hR'.heap.inj,hR'.heap.far⟩;obtain⟨vs,hrun2,hall⟩:=Zfp hR'.slots hHx (fn:=fn) (by rw[hres];exact hl);have hkept:Kept (λ_=>False) w wx:=⟨hkx.os.trans hkept0.os,hkx.tape.trans hkept0.tape,hkx.output.trans hkept0.output,jI hkept0.size hkx.size,λk hk he=>(hkx.block k (jK hk hkept0.size) (by omega)).trans (hkept0.block k hk he)⟩;have hj0lt:j0<vs.length:=by rw[<- hall.1];exact(jF.1 hj0).1
        obtain⟨D0',-,-,hR0⟩:=hall.2 j0 _ _ hj0 (jE hj0lt);obtain⟨-,ad,l0,c0,-,hIL⟩:=hR0.refs i0 m (Yji hR0.uniq hi0);obtain⟨ad',cap',h2,h3,h4⟩:=Is.l_of (P:=P) hIL hm;cases h2;have hh:∀k,k<h.length->h[k]?=st'.h[k]?:=λk hk=>by
         refine(hE.heap k hk λhd=> ?_).symm;have:=Zla hcl k hd;omega
        refine⟨_,hrun2,ρ' m,ad,c0,?_,⟨(h4 rfl).1,λh0=>⟨h3 h0,(h4 rfl).2 h0⟩⟩,λh0=>hR'.freshR m hml (.own hm rfl h0),hkept,hHx.is m _ hm⟩;have e1:Nat.ble 1000000 1000000=true:=rfl;simp only[Ud9,e1,Q1];intro ρ2 h2 id hle2 hren2 hsl2 hid;exact Yqi (hole_all hm hh (λk hk=>(hE.ren k (Zsx hk)).symm) hsm hml hok hall hIL hle2 hren2 hid)
       ·cases hk
      ·cases hk
    | true=>
     rw[hrl]at hk;simp only[Q1,Q8,Q0]at hk;obtain⟨rfl,rfl,-⟩:=hk;refine⟨_,hR'.defers,λwx hkx hcx=> ?_⟩;have hHx:HIs P ρ' st'.h wx:=⟨λn b hb=>(hR'.heap.is n b hb).world' hkx.size (λg c t fr hc=>hcx _ _ _ _ hc) λc t fr hc=>hcx _ _ _ _ hc,hR'.heap.inj,hR'.heap.far⟩;obtain⟨vs,hrun2,hall⟩:=Zfp hR'.slots hHx (fn:=fn) (by rw[hres];exact hl);have hh:∀k,k<h.length->h[k]?=st'.h[k]?:=λk hk=>by
      refine(hE.heap k hk λhd=> ?_).symm;have:=Zla hcl k hd;omega
     have hall2:Uap P ρ h l vs:=by refine⟨hall.1,λi y v hy hv=> ?_⟩;rw[jH]at hrl;have h1:=(hall.2 i y v hy hv).cut hh (hrl y (jM hy));exact h1.mono (HLe.refl _) λk hk=>(hE.ren k (Zsx hk)).symm
     have hkept0:Kept (λ_=>False) w w':=hR'.keptR.mono λk _ ⟨m,h1,h2,_⟩=>by
      rcases h2 with h2|h2
      ·have:=Zla hcl m h2
       omega
      ·cases h2
     have hkept:Kept (λ_=>False) w wx:=⟨hkx.os.trans hkept0.os,hkx.tape.trans hkept0.tape,hkx.output.trans hkept0.output,jI hkept0.size hkx.size,λk hk he=>(hkx.block k (jK hk hkept0.size) (by omega)).trans (hkept0.block k hk he)⟩;refine⟨_,hrun2,?_,hkept⟩
     match l,vs,hall2 with
     |[],[],h2=>exact⟨[],rfl,h2⟩
     |[y],[v],h2=>exact h2.2 0 y v rfl rfl
     |y::z::l,v::u::vs,h2=>refine⟨v::u::vs,?_,h2⟩;rw[dif_neg (by simp)]
     |[],v::vs,h2=>exact absurd h2.1 (by simp)
     |[y],[],h2=>exact absurd h2.1 (by simp)
     |[y],v::u::vs,h2=>exact absurd h2.1 (by simp)
     |y::z::l,[],h2=>exact absurd h2.1 (by simp)
     |y::z::l,[v],h2=>exact absurd h2.1 (by simp)
   ·cases hk
 cases e with
 |normal=>exact⟨.inl rfl,key hk⟩
 |ret=>exact⟨.inr rfl,key hk⟩
 |exit id=>cases hk
 |goto l=>cases hk
 |panic ch=>cases hk
 |outgrown=>cases hk
theorem ansX_ok(hm:P.follows .mixedOrders=true)(hΓ:ConsOkX mn P (Ual mn P) Γ){f:FuncId}{fn:Func}(hf:P.funcs[f]?=some fn)(hb:fn.body.isNone=false)(l:List (List Nat×List Nat)):
  Uac mn P f (ansV P Γ N fn l):=by
 cases hc:fn.body with
 |none=>rw[hc]at hb;cases hb
 |some c=>
  have:codeOf fn=c:=by unfold codeOf;rw[hc]
  exact λρ h w args vals r e hr hA hH=>funX_ok hm hΓ hf (by rw[hc,this]) rfl rfl _ ρ h w args vals r e hr hA hH
theorem ansY(g:ConsOkX mn P (Ual mn P) Γ){f:FuncId}(fn:Func)(l:List (List Nat×List Nat))(hm:P.follows .mixedOrders=true:=by kernel_rfl)(hf:P.funcs[f]?=some fn:=by kernel_rfl)(hb:fn.body.isNone=false:=by kernel_rfl):
  Uac mn P f (ansV P Γ N fn l):=ansX_ok hm g hf hb l
end
end Go.Proofs.YtdfefaanfiheoaaGreatDoor.Vc
/- Contracts of the symbolic run, in company. No program is named. -/
namespace Go.Proofs.YtdfefaanfiheoaaGreatDoor.Vc
open Go.RowKit Go.Conc Go.Proofs.YtdfefaanfiheoaaGreatDoor.Ve
variable {mn:Md}
section
variable {P:Program} {Γ:Cons} {N:Nat}
theorem mKn:ConsOkX mn P (Ual mn P) (mkΓ []):=by refine⟨λ_ _=>Zhq,?_,?_,?_,?_,?_⟩<;>(intro f F h;cases h)
theorem Yei{m:List (String×Con)}(hm:∀q∈m,Ufg mn P q.1 q.2){Γ:Cons}(h:ConsOkX mn P (Ual mn P) Γ):ConsOkX mn P (Ual mn P) (withM m Γ):=by
 refine⟨h.e,h.c,h.n,h.i,h.s,λnm F hF=> ?_⟩;simp only[withM]at hF
 induction m with
 |nil=>cases hF
 | cons q r ih=>
  simp only[lookS]at hF;cases hb:nm==q.1 with
  |true=>rw[hb]at hF;cases hF;rw[eq_of_beq hb];exact hm q (List.mem_cons_self ..)
  |false=>rw[hb]at hF;exact ih (λx hx=>hm x (List.mem_cons_of_mem _ hx)) hF
theorem mkΓx_nilX:ConsOkX mn P (Ual mn P) (mkΓx [] [] []):=mKn
theorem mKw{s:List (FuncId×SCon)}{g:FuncId}{G:Con}{c:List (FuncId×Con)}{n:List (FuncId×NCon)}{i:List (FuncId×ICon)}(h1:Ubb mn P g G)(h2:EntX P g)(h3:ConsOkX mn P (Ual mn P) (mkΓw s c n i)):ConsOkX mn P (Ual mn P) (mkΓw s ((g,G)::c) n i):=⟨h3.e,λf F h=>by
 simp only[mkΓw,Ue2]at h;cases hb:jC f g with
 |true=>rw[hb]at h;obtain rfl:=jG hb;cases h;exact⟨h1,h2⟩
 |false=>rw[hb]at h;exact h3.c f F h,h3.n,h3.i,h3.s,h3.m⟩
theorem mkΓw_nX{s:List (FuncId×SCon)}{g:FuncId}{G:NCon}{c:List (FuncId×Con)}{n:List (FuncId×NCon)}{i:List (FuncId×ICon)}(h1:Ubn mn P g G)(h2:EntX P g)(h3:ConsOkX mn P (Ual mn P) (mkΓw s c n i)):ConsOkX mn P (Ual mn P) (mkΓw s c ((g,G)::n) i):=⟨h3.e,h3.c,λf F h=>by
 simp only[mkΓw,Ue2]at h;cases hb:jC f g with
 |true=>rw[hb]at h;obtain rfl:=jG hb;cases h;exact⟨h1,h2⟩
 |false=>rw[hb]at h;exact h3.n f F h,h3.i,h3.s,h3.m⟩
theorem mkΓw_iX{s:List (FuncId×SCon)}{g:FuncId}{G:ICon}{c:List (FuncId×Con)}{n:List (FuncId×NCon)}{i:List (FuncId×ICon)}(h1:Ual mn P g G)(h2:EntX P g)(h3:ConsOkX mn P (Ual mn P) (mkΓw s c n i)):ConsOkX mn P (Ual mn P) (mkΓw s c n ((g,G)::i)):=⟨h3.e,h3.c,h3.n,λf F h=>by
 simp only[mkΓw,Ve.look]at h;cases hb:jC f g with
 |true=>rw[hb]at h;obtain rfl:=jG hb;cases h;exact⟨h1,h2⟩
 |false=>rw[hb]at h;exact h3.i f F h,h3.s,h3.m⟩
theorem mkΓw_sX{s:List (FuncId×SCon)}{g:FuncId}{G:SCon}{c:List (FuncId×Con)}{n:List (FuncId×NCon)}{i:List (FuncId×ICon)}(h1:Ubb mn P g (λargs h=>Uah (G args h)))(h2:EntX P g)(h3:ConsOkX mn P (Ual mn P) (mkΓw s c n i)):ConsOkX mn P (Ual mn P) (mkΓw ((g,G)::s) c n i):=⟨h3.e,h3.c,h3.n,h3.i,λf F h=>by
 simp only[mkΓw,Ue2]at h;cases hb:jC f g with
 |true=>rw[hb]at h;obtain rfl:=jG hb;cases h;exact⟨h1,h2⟩
 |false=>rw[hb]at h;exact h3.s f F h,h3.m⟩
theorem mKx{g:FuncId}{G:Con}{c:List (FuncId×Con)}{n:List (FuncId×NCon)}{i:List (FuncId×ICon)}(h1:Ubb mn P g G)(h2:EntX P g)(h3:ConsOkX mn P (Ual mn P) (mkΓx c n i)):ConsOkX mn P (Ual mn P) (mkΓx ((g,G)::c) n i):=mKw h1 h2 h3
theorem mkΓx_nX{g:FuncId}{G:NCon}{c:List (FuncId×Con)}{n:List (FuncId×NCon)}{i:List (FuncId×ICon)}(h1:Ubn mn P g G)(h2:EntX P g)(h3:ConsOkX mn P (Ual mn P) (mkΓx c n i)):ConsOkX mn P (Ual mn P) (mkΓx c ((g,G)::n) i):=mkΓw_nX h1 h2 h3
theorem mkΓx_iX{g:FuncId}{G:ICon}{c:List (FuncId×Con)}{n:List (FuncId×NCon)}{i:List (FuncId×ICon)}(h1:Ual mn P g G)(h2:EntX P g)(h3:ConsOkX mn P (Ual mn P) (mkΓx c n i)):ConsOkX mn P (Ual mn P) (mkΓx c n ((g,G)::i)):=mkΓw_iX h1 h2 h3
theorem mKc{g:FuncId}{G:Con}{r:List (FuncId×Con)}(h1:Ubb mn P g G)(h2:EntX P g)(h3:ConsOkX mn P (Ual mn P) (mkΓ r)):ConsOkX mn P (Ual mn P) (mkΓ ((g,G)::r)):=mKx h1 h2 h3
theorem Uac.of{f:FuncId}{G G':Con}(h:Uac mn P f G)(hle:∀ρ h w args vals r e,Uap P ρ h args vals->HIs P ρ h w->G' args h=some (r,e,true)->G args h=some (r,e,true)):Uac mn P f G':=
 λρ hh w args vals r e hn hr hA hH=>h ρ hh w args vals r e hn (hle ρ hh w args vals r e hA hH hr) hA hH
theorem Yjj {gl wr:Bool} {f:FuncId} {G:Con} (hG:Uac mn P f G):Ubb mn P f (conX gl wr G):=by
 intro ρ h w args vals r e hr hA hH;unfold conX wrapL at hr;cases hok:Udb (ld gl h).length args&&Ubs (ld gl h++Uaq args++Ua5 h (Uaq args)) with
 |false=>rw[hok]at hr;cases hr
 | true=>
  rw[hok]at hr;simp only[Q7]at hok;simp only[Q1]at hr;split at hr
  ·rename_i h1 h2 hrows hsls
   have hpre:∀n∈ld gl h,∀y t,h[n]?≠some (.one y t):=λn hn y t e=>by
    obtain⟨i,hi⟩:=List.mem_iff_getElem?.1 hn;obtain⟨q1,g,t',a,x,q2⟩:=Ypt (jF.1 hi).1;rw[q1]at hi;cases hi;rw[q2]at e;cases e
   obtain⟨hlen,hget⟩:=lent_get hpre hrows hsls;generalize hh':h1++h2=h' at hr hlen hget;generalize hidsE:ld gl h++Uaq args++Ua5 h (Uaq args)=ids at hlen hget hok;have hsub:∀(k n:Nat),(ld gl h++Uaq args)[k]?=some n->ids[k]?=some n:=λk n hk=>by
    rw[<- hidsE,jJ (jF.1 hk).1];exact hk
   have hgl:∀n,n<(ld gl h).length->h'[n]?=h[n]?:=λn hn=>by
    obtain⟨h1,g,t,a,x,h2⟩:=Ypt hn;obtain⟨b,b',h3,h4,h5⟩:=hget n n (hsub n n (by rw[jJ hn];exact h1));rw[h2]at h3;cases h3;cases h5;rw[h4,h2]
   have hgl':∀n,n<(ld gl h).length->h[n]?=h'[n]?:=λn hn=>(hgl n hn).symm
   have hA':=Zs0 (P:=P) (h':=h') (ρ:=ρ) hgl hget args vals (ld gl h) hok.1 hsub hA;have idx0:∀{k:Nat} {b:VB},h'[k]?=some b->∃n b0,ids[k]?=some n/\h[n]?=some b0/\LB wr ids b0 b:=λ{k b} hb=>by
    have hk:k<ids.length:=by rw[<- hlen];exact(jF.1 hb).1
    obtain⟨bb,bb',h1,h2,h3⟩:=hget k _ (jE hk);rw[h2]at hb;cases hb;exact⟨_,bb,jE hk,h1,h3⟩
   have idxS:∀{k:Nat} {a:SlK} {len:Nat} {C:Array Value} {t:TypeId},h'[k]?=some (.sl a len C t)->∃n a0,ids[k]?=some n/\h[n]?=some (.sl a0 len C t)/\a=lend wr a0:=λ{k a len C t} hb=>by
    obtain⟨n,b0,h1,h2,h3⟩:=idx0 hb;cases h3;exact⟨n,_,h1,h2,rfl⟩
   have hno:NoOwn h':=λk len C e hk=>by
    obtain⟨n,a0,_,_,h3⟩:=idxS hk;exact lend_own h3.symm
   have hH':HIs P (λk=>ρ (ids.getD k 0)) h' w:=by
    have out:∀{k:Nat},present h' k->∃n,ids[k]?=some n/\present h n:=λ{k} hp=>by
     cases hp with
     |row e=>obtain⟨n,b0,h1,h2,h3⟩:=idx0 e;cases h3;exact⟨n,h1,.row h2⟩
     |one e=>obtain⟨n,b0,h1,h2,h3⟩:=idx0 e;cases h3<;>exact⟨n,h1,.one h2⟩
     |own e hk h0=>obtain⟨n,a0,h1,h2,h3⟩:=idxS e;exact⟨n,h1,.own h2 (by rw[<- Ydz,<- h3];exact hk) h0⟩
    refine⟨λk b hb=> ?_,λk q hp hq e=> ?_,λk b x h1 h2 m hp=> ?_⟩
    ·obtain⟨n,b0,q1,q2,q3⟩:=idx0 hb
     have hB:=hH.is n _ q2;cases q3 with
     |row C t=>simp only[Zjf q1];exact hB
     |gl g t a x=>exact hB
     |sl a len C t=>simp only[Zjf q1];exact⟨by rw[Yde];exact hB.1,λh=>hB.2 (Yj7 h)⟩
     |oneR D t' t hren=>simp only[Zjf q1];obtain⟨v,⟨D',rfl,hW,hR⟩,hg⟩:=hB;exact⟨_,⟨D',rfl,hW,hR.lent hget hren⟩,hg⟩
     |oneL t hk=>simp only[Zjf q1];obtain⟨v,hv,hg⟩:=hB;exact⟨v,Yif (P:=P) hget hk hv,hg⟩
     |oneV y t=>simp only[Zjf q1];obtain⟨v,hv,hg⟩:=hB;exact⟨v,hv,hg⟩
    ·obtain⟨n,h1,h2⟩:=out hp
     obtain⟨m,h3,h4⟩:=out hq;simp only[Zjf h1,Zjf h3]at e;have:=hH.inj n m h2 h4 e;subst this;exact Yg5 hok.2 k q n h1 h3
    ·obtain⟨n,b0,h3,h4,h5⟩:=idx0 h1
     obtain⟨m',h6,h7⟩:=out hp;simp only[Zjf h6];refine hH.far n b0 x h4 ?_ m' h7;cases h5 with
     |sl a len C e=>exact Yq9 (b:=.sl a len C e) h2
     |gl g t a x=>exact h2
     |_=>exact h2.elim
   split at hr
   ·rename_i r' g hGr
    cases hd:Ugc (ld gl h).length r' with
    | false=>
     rw[hd]at hr;simp only[Q2]at hr;split at hr
     ·rename_i r2 hm
      simp only[Q8,Q0]at hr;obtain⟨rfl,rfl,rfl⟩:=hr;have hm':mapV (ld gl h).length ids r'=some r2:=Yrj hsub hm;refine(hG _ h' w _ vals _ _ hno hGr hA' hH').mono ?_;rintro v w' ⟨hi,hk⟩;exact⟨mapV_is hgl' hget hm' hi,hk⟩
     ·cases hr
    |true=>rw[hd]at hr;simp only[Q1,Q8,Q0]at hr;obtain⟨rfl,rfl,rfl⟩:=hr;refine(hG _ h' w _ vals _ _ hno hGr hA' hH').mono ?_;rintro v w' ⟨hi,hk⟩;exact⟨Yi2 hgl' hd hi,hk⟩
   ·rename_i r' m b g hGr
    cases hd:Ugc (ld gl h).length r' with
    |false=>rw[hd]at hr;cases hr
    |true=>
    rw[hd,Q1]at hr;split at hr
    ·rename_i q hq
     have hq:=hsub _ _ hq;split at hr
     ·rename_i b' hb'
      simp only[Q8,Q0]at hr;obtain⟨rfl,rfl,rfl⟩:=hr;refine(hG _ h' w _ vals _ _ hno hGr hA' hH').mono ?_;rintro v w' ⟨hv,hkp,hk,hB⟩;simp only[Zjf hq]at hk hB;rcases hkp with ⟨C,t,D,hrow,rfl⟩ | ⟨k,len,C,t,D,hmk,hrow,rfl,h0⟩ | ⟨y,t,y',hrow,rfl⟩
      ·obtain⟨n,b0,h1,h2,h3⟩:=idx0 hrow
       cases h3;rw[hq]at h1;cases h1;rw[h2]at hb';cases hb';exact⟨Yi2 hgl' hd hv,.inl ⟨_,_,_,h2,rfl⟩,hk,hB⟩
      ·obtain⟨n,a0,h1,h2,h3⟩:=idxS hrow
       rw[hq]at h1;cases h1;rw[h2]at hb';cases hb';subst h3;exact⟨Yi2 hgl' hd hv,.inr (.inl ⟨_,_,_,_,_,Yj7 hmk,h2,rfl,h0⟩),hk,⟨by rw[<- Yde wr];exact hB.1,λ_ hl=>hB.2 hmk hl⟩⟩
      ·exfalso
       cases hq2:h[q]? with
       |none=>rw[hq2]at hb';cases hb'
       |some b0=>rw[hq2]at hb';cases b0<;>cases hb'
     ·cases hr
    ·cases hr
   ·rename_i len C e g hGr
    simp only[Q8,Q0]at hr;obtain⟨rfl,rfl,rfl⟩:=hr;refine(hG _ h' w _ vals _ _ hno hGr hA' hH').mono ?_;rintro v w' hE;exact hE
   ·rename_i v0 i len C e g hGr
    cases hbig:Nat.ble 1000000 i with
    | true=>
     rw[hbig]at hr;simp only[Q1]at hr;cases hd:Uci (ld gl h).length v0 with
     |false=>rw[hd]at hr;cases hr
     | true=>
      rw[hd]at hr;simp only[Q1,Q8,Q0]at hr;obtain⟨rfl,rfl,rfl⟩:=hr;refine(hG _ h' w _ vals _ _ hno hGr hA' hH').mono ?_;rintro v w' ⟨g,ad,cap,hN,hE⟩;refine⟨g,ad,cap,?_,hE⟩;simp only[Ud9,hbig,Q1]at hN|-
      intro ρ3 h3 id hle3 hren3 hsl3 hid3;obtain⟨a3,l3,C3,e3,hb3⟩:=Yc9 hsl3;have hlast:(h'++[VB.sl a3 l3 C3 e3])[h'.length]?=some (.sl a3 l3 C3 e3):=by simp
      refine hole_isV (id2:=h'.length) (ρ2:=λk=>if k=h'.length then ρ3 id else ρ (ids.getD k 0)) (h2:=h'++[.sl a3 l3 C3 e3]) (λn hn=> ?_) (λv hv=> ?_) hd (hN _ _ h'.length (λn=> ?_) (λn hp=>if_neg (λe=> ?_)) (by unfold Ua4;rw[hlast]) ?_)
      ·have hn':n<h'.length:=by rw[hlen,<- hidsE];simp;omega
       rw[jJ hn',hgl n hn];obtain⟨h1,g',t,a,x,h2⟩:=Ypt hn;rw[h2];exact(hle3 n).gl _ _ _ _ h2
      ·rcases hv with hv | ⟨a,l,C',e',ad',cap',q1,q2,q3,q4⟩
       ·rw[hlast]at hv;cases hv
       ·rw[hlast]at q1
        cases q1;simp only[adOf,if_true]at q3 q4;exact .inr ⟨_,_,_,_,ad',cap',hb3,q2,q3,q4⟩
      ·by_cases hn:n<h'.length
       ·exact .same (jJ hn)
       ·refine⟨λC t k=> ?_,λy t k=> ?_,λ_ _ C _ k=> ?_,λk=> ?_,λ_ _ _ _ k=> ?_⟩<;>(rw[List.getElem?_eq_none (by omega)]at k;cases k)
      ·have:=Zsx hp
       omega
      ·rcases hid3 with hv | ⟨a,l,C',e',ad',cap',q1,q2,q3,q4⟩
       ·rw[hb3]at hv;cases hv
       ·rw[hb3]at q1
        cases q1;exact .inr ⟨_,_,_,_,ad',cap',hlast,q2,by simpa only [adOf,if_true] using q3,by simpa only [if_true] using q4⟩
    |false=>
    rw[hbig]at hr;simp only[Q2]at hr;split at hr
    ·rename_i l
     cases hd:l.all (Ugn (ld gl h).length) with
     |false=>rw[hd]at hr;cases hr
     |true=>rw[hd]at hr;simp only[Q1,Q8,Q0]at hr;obtain⟨rfl,rfl,rfl⟩:=hr;refine(hG _ h' w _ vals _ _ hno hGr hA' hH').mono ?_;rintro v w' ⟨g,ad,cap,hN,hE⟩;simp only[Ud9,hbig,Q2]at hN;obtain⟨l',vs,he,hvv,hA2,hi⟩:=hN;cases he;rw[jH]at hd;refine⟨g,ad,cap,?_,hE⟩;simp only[Ud9,hbig,Q2];exact⟨l,vs,rfl,hvv,⟨hA2.1,λk y u hy hu=>Yn1 hgl' (hd y (jM hy)) (hA2.2 k y u hy hu)⟩,hi⟩
    ·cases hr
   ·cases hr
   ·cases hr
  ·cases hr
theorem conL_okX{wr:Bool}{f:FuncId}{G:Con}(hG:Uac mn P f G):Ubb mn P f (conL wr G):=Yjj hG
theorem Yp5{gl wr:Bool}{f:FuncId}{S:SCon}(hS:Uac mn P f (λargs h=>Uah (S args h))):Ubb mn P f (λargs h=>Uah (conSX gl wr S args h)):=by
 have e:(λargs h=>Uah (conSX gl wr S args h))=conX gl wr (λargs h=>Uah (S args h)):=by
  funext args h;unfold conSX conX;cases Udb (ld gl h).length args&&Ubs (ld gl h++Uaq args++Ua5 h (Uaq args)) with
  |false=>rfl
  |true=>
   simp only[Q1];split
   ·rw[Yap]
   ·rfl
 rw[e];exact Yjj hS
theorem Yp2{wr:Bool}{f:FuncId}{S:SCon}(hS:Uac mn P f (λargs h=>Uah (S args h))):Ubb mn P f (λargs h=>Uah (conSL wr S args h)):=Yp5 hS
theorem Zid{f:FuncId}{G:Con}(hG:Uac mn P f G):Ubb mn P f (conG G):=Yjj hG
theorem Yk3{f:FuncId}{S:SCon}(hS:Uac mn P f (λargs h=>Uah (S args h))):Ubb mn P f (λargs h=>Uah (conSW S args h)):=Yp2 hS
theorem Zae{f:FuncId}{G:Con}(hG:Uac mn P f G):Ubb mn P f (con G):=conL_okX hG
theorem Uac.nil{f:FuncId}{G:Con}(hG:Uac mn P f G)(i:Nat)(e:TypeId):Uac mn P f (λargs h=>nilN i e (G args h)):=by
 intro ρ h w args vals r ef hn hr hA hH;dsimp only at hr;cases hg:G args h with
 |none=>rw[hg]at hr;cases hr
 | some q=>
  obtain⟨v,ef',g⟩:=q;rw[hg]at hr;unfold nilN at hr;split at hr
  ·rename_i l g' heq
   cases heq;split at hr
   ·rename_i hl
    cases hbig:Nat.ble 1000000 i with
    |true=>rw[hbig]at hr;cases hr
    |false=>
    rw[hbig]at hr;simp only[Q2,Q8,Q0]at hr;obtain⟨rfl,rfl,rfl⟩:=hr;refine(hG ρ h w args vals _ _ hn hg hA hH).mono ?_;rintro vv w' ⟨⟨vs,rfl,hall⟩,hk⟩;have hlt:i<l.length:=(jF.1 hl).1;have hvi:=hall.2 i _ _ hl (jE (show i<vs.length by rw[<- hall.1];exact hlt));refine⟨⟨0,0⟩,none,0,by simp only[Ud9,hbig,Q2];exact⟨_,vs,rfl,rfl,⟨by rw[List.length_set];exact hall.1,λj y u hy hu=>nil_all hall j y u hy hu⟩,nil_get hall hl hvi⟩,⟨λ_=>rfl,λh0=>absurd rfl h0⟩,λh0=>absurd rfl h0,hk,Yom⟩
   ·simp only[Q8,Q0]at hr
    obtain⟨rfl,rfl,rfl⟩:=hr;exact hG ρ h w args vals _ _ hn hg hA hH
  ·rename_i g' heq
   cases heq;simp only[Q8,Q0]at hr;obtain⟨rfl,rfl,rfl⟩:=hr;refine(hG ρ h w args vals _ _ hn hg hA hH).mono ?_;rintro vv w' ⟨hv,hk⟩;exact⟨⟨0,0⟩,none,0,hv,⟨λ_=>rfl,λh0=>absurd rfl h0⟩,λh0=>absurd rfl h0,hk,Yom⟩
  ·cases hr
   exact hG ρ h w args vals _ _ hn hg hA hH
theorem Ynd (hm:P.follows .mixedOrders=true) (hΓ:ConsOkX mn P (Ual mn P) Γ) {f:FuncId} {fn:Func} (hf:P.funcs[f]? = some fn) (hb:fn.body.isNone=false) (l:List (List Nat×List Nat)) :
  Ubn mn P f (ansN P Γ N fn l):=by
 cases hc:fn.body with
 |none=>rw[hc]at hb;cases hb
 |some c=>
 have hco:codeOf fn=c:=by unfold codeOf;rw[hc]
 intro ρ h w args vals cc hr hA hH;unfold ansN at hr;cases hd:args.all Uee with
 |false=>rw[hd]at hr;cases hr
 |true=>
 rw[hd,hco]at hr;simp only[Q1]at hr;rw[jH]at hd;refine Zki hf hc ?_;have hlen:args.length=vals.length:=hA.1;have hA0:Uap P ρ [] args vals:=⟨hA.1,λi y v hy hv=>Yjb (hd y (jM hy)) (hA.2 i y v hy hv)⟩
 have hR:R P w 0 [] ρ ρ (entry fn.ntmps args []) { tmps:=vals.toArray++jA (fn.ntmps - vals.toArray.size) undef,defers:=[] } w:=by
  refine⟨by simp[entry,hlen],λi v hv=> ?_,⟨λn b hb=>by simp[entry]at hb,λn m hp=> ?_,λn b k h1=>by simp[entry]at h1⟩,λ_ h=>absurd h (Nat.not_lt_zero _),λk hk hp=> ?_,Kept.refl _ w,λn _ _ _ h=>absurd h (Nat.not_lt_zero _),DefOk.nil _ _,Nat.zero_le _⟩
  ·simp only[entry]at hv|-
   by_cases hi:i<args.length
   ·rw[jJ (by simpa using hi),List.getElem?_map,jE hi]at hv
    simp only[Option.map_some,Q8]at hv;subst hv;have:(vals.toArray++jA (fn.ntmps - vals.toArray.size) undef).getD i undef=vals[i]'(by omega):=by rw[jN,Array.getElem?_append_left (by simp;omega)];simp[show i<vals.length by omega]
    rw[this];exact hA0.2 i _ _ (jE hi) (jE (by omega))
   ·rw[List.getElem?_append_right (by simp;omega),List.getElem?_replicate]at hv
    split at hv
    ·cases hv
     have:(vals.toArray++jA (fn.ntmps - vals.toArray.size) undef).getD i undef=undef:=by rw[jN,Array.getElem?_append_right (by simp;omega),Array.getElem?_replicate];split<;>rfl
     rw[this];rfl
    ·cases hv
  ·exfalso
   cases hp with
   |row e=>simp[entry]at e
   |one e=>simp[entry]at e
   |own e _ _=>simp[entry]at e
  ·exfalso
   cases hp with
   |row e=>simp[entry]at e
   |one e=>simp[entry]at e
   |own e _ _=>simp[entry]at e
 refine WpX.mono (Zcz hm hΓ c _ none (.inl rfl) [] w 0 ρ _ _ _ cc [] ρ _ w hr hR) ?_;rintro e a' w' ⟨ρ',st',hk,hR',hE⟩
 have key:finN P fn.results.toList st'=some cc →
   Ucl P fn a'.tmps (λe w'=>∃gs:List Nat,e=(.func (.func cc.f) #[] (gs.map λg=>Value.pointer (some ⟨g,0,none⟩)).toArray)/\gs.length=cc.rows.length/\gs.Nodup /\
    (∀(j g:Nat) (r:Array Value×TypeId),gs[j]?=some g->cc.rows[j]?=some r->w.heap.size<=g/\w'.heap[g]?=some (.cells r.1 r.2 (0,0))/\WT P r.2 r.1)/\Kept (λ_=>False) w w') a'.defers w':=by
  intro hk;unfold finN at hk;split at hk
  ·rename_i f' ns hl
   cases hnd:Ubs ns with
   |false=>rw[hnd]at hk;cases hk
   | true=>
    rw[hnd]at hk;simp only[Q1]at hk;split at hk
    ·rename_i rs hrs
     cases hk;obtain⟨hrl,hrow⟩:=Yhq hrs;refine⟨_,hR'.defers,λwx hkx hcx=> ?_⟩;have hHx:HIs P ρ' st'.h wx:=⟨λn b hb=>(hR'.heap.is n b hb).world' hkx.size (λg c t fr hc=>hcx _ _ _ _ hc) λc t fr hc=>hcx _ _ _ _ hc,hR'.heap.inj,hR'.heap.far⟩;obtain⟨vs,hrun,hall⟩:=Zfp hR'.slots hHx hl
     match vs,hall,hrun with
     | [v],hall,hrun2=>
      obtain⟨hv,hpr⟩:=hall.2 0 _ v rfl rfl;have hkept:Kept (λ_=>False) w w':=hR'.keptR.mono λk _ ⟨m,h1,_⟩=>absurd h1 (Nat.not_lt_zero _)
      refine⟨v,hrun2,ns.map (λn=>(ρ' n).a),?_,by simp[hrl],?_,λj g r hj hr=> ?_,?_⟩
      ·rw[hv,List.map_map];rfl
      ·exact Ykz (Zq1 hnd) λa ha b hb e=>hR'.heap.inj a b (hpr a ha).present (hpr b hb).present e
      ·rw[List.getElem?_map]at hj
       cases hn:ns[j]? with
       |none=>rw[hn]at hj;cases hj
       |some n=>rw[hn]at hj;simp only[Option.map_some,Q8]at hj;subst hj;have hb:=hrow j n r hn hr;obtain⟨q1,q2⟩:=(hHx.is n _ hb);exact⟨hR'.freshR n (Nat.zero_le _) (.row hb),q1,q2⟩
      ·exact⟨hkx.os.trans hkept.os,hkx.tape.trans hkept.tape,hkx.output.trans hkept.output,jI hkept.size hkx.size,λk hk he=>(hkx.block k (jK hk hkept.size) (by omega)).trans (hkept.block k hk he)⟩
     |[],hall,_=>exact absurd hall.1 (by simp)
     |_::_::_,hall,_=>exact absurd hall.1 (by simp)
    ·cases hk
  ·cases hk
 cases e with
 |normal=>exact⟨.inl rfl,key hk⟩
 |ret=>exact⟨.inr rfl,key hk⟩
 |exit id=>cases hk
 |goto l=>cases hk
 |panic ch=>cases hk
 |outgrown=>cases hk
theorem Ubn.of{f:FuncId}{G G':NCon}(h:Ubn mn P f G)(hle:∀ρ h args vals c,Uap P ρ h args vals->G' args=some c->G args=some c):Ubn mn P f G':=
 λρ hh w args vals c hr hA hH=>h ρ hh w args vals c (hle ρ hh args vals c hA hr) hA hH
end
end Go.Proofs.YtdfefaanfiheoaaGreatDoor.Vc
/- A worker whose function is one region that ends in a send: (1) the orders of a region whose last operation waits for all; (2) from the go statement to the send, and behind it. No program is named. -/
namespace Go.Proofs.YtdfefaanfiheoaaGreatDoor.Vc
open Go.RowKit Go.Conc Go.Proofs.YtdfefaanfiheoaaGreatDoor.Ve
variable {mn:Md}
abbrev Ue9:Md:=⟨false,λ_=>none⟩
def lastB(ops:Array Oper)(s:Nat):Nat->Array Bool->Bool
 |0,listed=>Region.ready .any ops.pop listed==[]&&(Region.ready .any ops (listed.push false)==[s]&&Region.ready .any ops ((listed.push false).setIfInBounds s true)==[])
 |fuel+1,listed=>Region.ready .any ops (listed.push false)==Region.ready .any ops.pop listed&&(!(Region.ready .any ops.pop listed).isEmpty&&(Region.ready .any ops.pop listed).all λi=>decide (i<listed.size)&&lastB ops s fuel (listed.setIfInBounds i true))
theorem Yn4{ops:Array Oper}{fuel t:Nat}{listed:Array Bool}{i:Nat}(hi:(Region.ready .any ops listed)[t % (Region.ready .any ops listed).length]?=some i):
  Region.linearise.go .any ops (fuel+1) t listed []=i::Region.linearise.go .any ops fuel (t / (Region.ready .any ops listed).length) (listed.setIfInBounds i true) []:=by
 simp only[Region.linearise.go];change (match (Region.ready .any ops listed)[t % (Region.ready .any ops listed).length]? with
   |some i=>Region.linearise.go .any ops fuel (t / (Region.ready .any ops listed).length) (listed.setIfInBounds i true) [i]
   |none=>[].reverse)=_
 rw[hi];simp only[];rw[linearise_go_acc,List.reverse_singleton,List.singleton_append]
theorem Yno{listed:Array Bool}{i:Nat}(hi:i<listed.size)(x b:Bool):(listed.push b).setIfInBounds i x=(listed.setIfInBounds i x).push b:=by
 apply Array.ext_getElem?;intro j;rw[Array.getElem?_push,Array.getElem?_setIfInBounds,Array.getElem?_push,Array.getElem?_setIfInBounds];simp only[Array.size_setIfInBounds,Array.size_push]
 by_cases hj:j=listed.size
 ·subst hj
  rw[if_neg (by omega),if_pos rfl,if_pos rfl]
 ·rw[if_neg hj,if_neg hj]
  by_cases hij:i=j
  ·subst hij;rw[if_pos rfl,if_pos rfl,if_pos (by omega),if_pos hi]
  ·rw[if_neg hij,if_neg hij]
theorem Yk9{rs:List Nat}(h:rs.isEmpty=false)(t:Nat):∃i,rs[t % rs.length]?=some i/\i∈rs:=by
 have hl:0<rs.length:=by cases rs with
  |nil=>cases h
  |cons a l=>simp
 exact⟨rs[t % rs.length]'(Nat.mod_lt _ hl),jE (Nat.mod_lt _ hl),List.getElem_mem _⟩
theorem Yl2{ops:Array Oper}{s:Nat}:∀(fuel t:Nat) (listed:Array Bool),lastB ops s fuel listed=true ->
  Region.linearise.go .any ops (fuel+1) t (listed.push false) []=(Region.linearise.go .any ops (fuel+1) t (listed.push false) []).dropLast++[s]
 |0,t,listed,h=>by
  simp only[lastB,Q7,beq_iff_eq]at h;obtain⟨h1,h2,h3⟩:=h;have hi:(Region.ready .any ops (listed.push false))[t % (Region.ready .any ops (listed.push false)).length]?=some s:=by rw[h2];simp[Nat.mod_one]
  rw[Yn4 hi];simp[Region.linearise.go]
 |fuel+1,t,listed,h=>by
  simp only[lastB,Q7,beq_iff_eq,jH,Bool.not_eq_true',decide_eq_true_eq]at h;obtain⟨h1,h2,h3⟩:=h;obtain⟨i,hi,him⟩:=Yk9 h2 t;rw[<- h1]at hi;obtain⟨h4,h5⟩:=h3 i him;rw[Yn4 hi,Yno h4];have ih:=Yl2 fuel (t / (Region.ready .any ops (listed.push false)).length) (listed.setIfInBounds i true) h5;generalize Region.linearise.go .any ops (fuel+1) (t / (Region.ready .any ops (listed.push false)).length) ((listed.setIfInBounds i true).push false) []=L at ih;rw[ih,<- List.cons_append,List.dropLast_concat]
theorem Yio{P:Program}{ops:Array Oper}{s:Nat}(hs:ops.size=s+1)(hg:∀o∈ops,o.guard=none){K:Act->World->Prop}:∀(fuel t:Nat) (listed:Array Bool) (a:Act) (v:World),listed.size=s->lastB ops s fuel listed=true ->
  AnyX mn P ops.pop K fuel listed a v->OpsX mn P ops K (Region.linearise.go .any ops (fuel+1) t (listed.push false) []).dropLast a v
 |0,t,listed,a,v,hl,h,hX=>by
  simp only[lastB,Q7,beq_iff_eq]at h;obtain⟨h1,h2,h3⟩:=h;have hi:(Region.ready .any ops (listed.push false))[t % (Region.ready .any ops (listed.push false)).length]?=some s:=by rw[h2];simp[Nat.mod_one]
  rw[Yn4 hi]
  simpa [Region.linearise.go,OpsX] using hX.2
 | fuel+1,t,listed,a,v,hl,h,hX=>by
  simp only[lastB,Q7,beq_iff_eq,jH,Bool.not_eq_true',decide_eq_true_eq]at h;obtain⟨h1,h2,h3⟩:=h;obtain⟨i,hi,him⟩:=Yk9 h2 t;have hX':=hX.2 i him;have e1:=h1;rw[<- h1]at hi;obtain⟨h4,h5⟩:=h3 i him;rw[Yn4 hi,Yno h4,Yl2 fuel _ _ h5,<- List.cons_append,List.dropLast_concat,OpsX];have hops:ops.pop[i]?=ops[i]?:=by rw[Array.getElem?_pop,if_pos (by omega)]
  have hw:∀o,ops[i]?=some o->∀y,Region.wanted o y=true:=λo ho y=>by
   unfold Region.wanted;rw[hg o (Array.mem_of_getElem? ho)]
  unfold OpIX at hX'|-
  rw[hops]at hX';cases ho:ops[i]? with
  |none=>rw[ho]at hX';exact Yio hs hg fuel _ _ a v (by simpa using hl) h5 hX'
  |some o=>
   rw[ho]at hX';dsimp only at hX'|-
   rw[if_pos (hw o ho _)]at hX'|-
   exact hX'.mono λa v hk=>Yio hs hg fuel _ _ a v (by simpa using hl) h5 hk
theorem Yov{P:Program}{c:Nat}{vv:Value}:Closed P false (GoW P c vv) where
 step:=λG w g hf hr h=>.step G w g hf hr (λw₁ h₁=>let ⟨g',w',es,q1,q2,_⟩:=h w₁ h₁;⟨g',w',es,q1,q2⟩) λw₁ h₁ g' w' es hs=>by
  obtain⟨g₂,w₂,es₂,q1,q2,q3⟩:=h w₁ h₁;rw[q1]at hs;cases hs;exact q3
 spawn:=λe=>by cases e
 recv:=λe=>by cases e
abbrev botF(P:Program):Frame:={ (default:Frame) with fn:=P.funcs.size,defers:=[],mode:=.panicking [goexitEntry] }
theorem Yo3{P:Program}{b:Frame}{fn:Func}(hf:P.funcs[b.fn]?=some fn)(hr:fn.results=#[])(hk:b.kind=.deferred)(hro:b.roundOf=none){T:Array Value}{ops:Array Oper}:Conc.QuitsIn P 4 (gr (b.atR ⟨T,[]⟩ [.inRegion ops []]) [botF P]):=by
 refine .inr ⟨rfl,_,λw=>Zp6 (mn:=Ue9),?_⟩;refine .inr ⟨rfl,gr { b.atR ⟨T,[]⟩ [] with mode:=.returning } [botF P],λw=>by simp[gr,stepG,stepG.exec,Frame.atR,hro],?_⟩;refine .inr ⟨rfl,gr (botF P) [],λw=> ?_,?_⟩
 ·simp[gr,stepG,unwind,doReturn,results,Frame.atR,hf,hr,hk,seen,GStep.after,goexitEntry]
 refine .inr ⟨rfl,{ gr (botF P) [] with status:=.finished },λw=> ?_,rfl⟩;simp[gr,stepG,unwind,goexitEntry,Frame.catches];rfl
theorem sg_comm{P:Program}{b:Frame}{a:Act}{k:List Item}{cs:List Frame}{w:World}{ops:Array Oper}{i:Nat}{rest:List Nat}{o:Oper}{cases:Array CommCase}{bl:Bool}{sh:CommShape}(ho:ops[i]?=some o)(hk:b.kind ≠ .early)
  (hw:Region.wanted o (yielded ops a.tmps)=true) (hd:∀c,o.op ≠ .defer c) (hr:(execOp a.eval o).runT P w #[]=(.ok (.comm cases bl sh) w,#[])) :
  stepG P mn.main (gr (b.atR a (.inRegion ops (i::rest)::k)) cs) w=.comm (gr (b.atR a (.inRegion ops (i::rest)::k)) cs) cases bl sh w #[]:=by
 have hke:(b.kind==CallKind.early)=false:=by simpa using hk
 rw[Ue7 ho hw hd];simp only[stepG.apply,if_true,hr,Frame.atR,hke,Bool.false_eq_true,if_false,GStep.after,gr,Array.append_empty];simp[seen]
theorem sg_born{P:Program}{d:Deferred}{f:FuncId}{args:Array Value}{w:World}(hn:∃x ys,d.target=.fn x ys)(hi:(invoke d.target d.args).runT P w #[]=(.ok (.enter f args) w,#[])):
  stepG P mn.main (Uc9 P d) w=.go (gr (Frame.enter P f args .deferred) [botF P]) w #[]:=by
 obtain⟨x,ys,hn⟩:=hn;obtain⟨tg,as⟩:=d;dsimp only at hn hi;subst hn;simp[stepG,unwind,callDeferred,hi,GStep.after,seen,gr,-Sem.runT_eq]
theorem Yo1{P:Program}{f:FuncId}{fn:Func}(hf:P.funcs[f]?=some fn){id:Nat}{ops:Array Oper}(hb:fn.body=some (.region id ops true))(hr:fn.results=#[])(hm:P.follows .mixedOrders=true)
  {s:Nat} (hs:ops.size=s+1) (hg:∀o∈ops,o.guard=none) (hc:lastB ops s s (jA s false)=true) {d:Deferred} {args:Array Value} (hn:∃x ys,d.target=.fn x ys) (hi:∀w,(invoke d.target d.args).runT P w #[]=(.ok (.enter f args) w,#[]))
  {c:Nat} {vv z:Value} {G:Gh} {w:World} (hfit0:Fit G w) (hF:G.F=λ_=>none) {o:Oper} (ho:ops[s]?=some o) (hd:∀c,o.op ≠ .defer c)
  (hX:AnyX Ue9 P ops.pop (λa v=>a.defers=[]/\∀w,(execOp a.eval o).runT P w #[]=(.ok (.comm #[Conc.scase c vv z] true .send) w,#[])) s (jA s false) { tmps:=args++jA (fn.ntmps - args.size) undef,defers:=[] } (view G w)) :
  GoW P c vv G w (Uc9 P d):=by
 have hC:Closed P Ue9.main (GoW P c vv):=Yov;have hfit:FitM Ue9 G w:=⟨hfit0,hF⟩;refine hC.calm hfit rfl (λw=>sg_born hn (hi w)) λw₁ hf₁ hg₁=> ?_
 let b:Frame:={ fn:=f,tmps:=#[],todo:=[],defers:=[],mode:=.run,kind:=.deferred }
 have he:Frame.enter P f args .deferred=b.atR { tmps:=args++jA (fn.ntmps - args.size) undef,defers:=[] } [.code (.region id ops true)]:=by simp[Frame.enter,Frame.atR,b,hf,hb]
 rw[he];have hbk:b.kind ≠ .early:=by intro e;cases e
 refine hC.step G w₁ _ hf₁.toFit rfl λw₂ hr₂=>⟨_,_,_,Zul,⟨rfl,rfl,rfl,jB _,λ_ _ _=>rfl,λe he=>by simp at he⟩,?_⟩
 have hf₂:=hf₁.rely hr₂;rw[show G.grow w₂.heap.size ({ w₂ with drawn:=w₂.drawn+1 }:World).heap.size=G from Gh.grow_self G _];simp only[Region.schedule,hm,Bool.true_or,if_true];generalize w₂.tape w₂.drawn (.order b.fn id)=t;have hrep:jA ops.size false=(jA s false).push false:=by rw[hs,Array.replicate_succ]
 have hlin:Region.linearise .any ops t=(Region.linearise.go .any ops (s+1) t ((jA s false).push false) []).dropLast++[s]:=by rw[<- Yl2 s t _ hc];unfold Region.linearise;rw[hrep,hs]
 rw[hlin];have hops:=Yio (mn:=Ue9) (P:=P) hs hg s t (jA s false) _ _ (by simp) hc hX;refine Zm0 hC hbk [s] _ _ _ hops G _ (hf₂.drew _) ((hg₁.trans (hr₂.view hf₁.toFit)).trans (by rw[Ykg];exact Ypy _ _)) λa' v' hk G' w' hf' hv'=> ?_
 obtain⟨hdf,hsend⟩:=hk;have hw:Region.wanted o (yielded ops a'.tmps)=true:=by unfold Region.wanted;rw[hg o (Array.mem_of_getElem? ho)]
 refine .stop G' w' _ hf'.toFit ⟨rfl,gr (b.atR a' [.inRegion ops [s]]) [botF P],z,4,?_,λw₃ hr₃=>⟨#[],sg_comm (mn:=Ue9) ho hbk hw hd (hsend w₃),λe he=>by simp at he⟩⟩;have hfin:(b.atR a' [.inRegion ops [s]]).finish undef=b.atR (a'.put o.dst undef) [.inRegion ops []]:=by rw[Frame.finish_atR,ho];rfl
 have hsv:Conc.served (gr (b.atR a' [.inRegion ops [s]]) [botF P]) undef=gr (b.atR (a'.put o.dst undef) [.inRegion ops []]) [botF P]:=by rw[<- hfin];rfl
 rw[hsv];have e2:a'.put o.dst undef=⟨(a'.put o.dst undef).tmps,[]⟩:=by
  have:(a'.put o.dst undef).defers=a'.defers:=by cases o.dst<;>rfl
  rw[hdf]at this;cases hp:a'.put o.dst undef;rw[hp]at this;simp only at this;subst this;rfl
 rw[e2];exact Yo3 hf hr rfl rfl
end Go.Proofs.YtdfefaanfiheoaaGreatDoor.Vc
/- Yields, in company; operations one by one. No program is named. -/
namespace Go.Proofs.YtdfefaanfiheoaaGreatDoor.Vc
open Go.RowKit Go.Conc Go.Proofs.YtdfefaanfiheoaaGreatDoor.Ve
variable {mn:Md}
theorem Yqp{P:Program}{o:Oper}{a:Act}{v:World}{K:Act->World->Prop}{c:Call}{y:Operand}{l:Nat}{R:Value->World->Prop}(ho:o.op=.call c)(hc:c.callee=.value y)(hy:a.eval y=.func (.yield l) #[] #[])
  (h:YieldX mn P l (c.args.map a.eval) v R) (hK:∀r v',R r v'->K (a.put o.dst r) v'):OpX mn P o a v K:=by
 have hns:∀c,o.op ≠ .defer c:=λc hc=>by rw[ho]at hc;cases hc
 have hx:execOp a.eval o=Instr.yield l (c.args.map a.eval):=by
  unfold execOp;rw[ho];simp only[resolve,hc,hy,Deferred.ofValue]
  show Instr.yield l _=_
  congr 1;rw[<- Array.toList_inj];simp
 refine⟨hns,λv₁ h₁=> ?_⟩;obtain⟨f,tmps,assign,body,ht,hr⟩:=h v₁ h₁;exact .inr (.inr (.inr ⟨l,f,tmps,assign,body,v₁,by rw[hx];exact ht,hr.mono λr v' hR=>hK r v' hR⟩))
theorem Zo0{P:Program}{ops:Array Oper}{K:Act->World->Prop}{i:Nat}{rest:List Nat}{a:Act}{v:World}{o:Oper}(ho:ops[i]?=some o)(hg:o.guard=none)(h:OpX mn P o a v (OpsX mn P ops K rest)):OpsX mn P ops K (i::rest) a v:=by unfold OpsX OpIX;rw[ho];dsimp only;rw[if_pos (by unfold Region.wanted;rw[hg])];exact h
section
variable {P:Program} {o:Oper} {a:Act} {v:World} {K:Act->World->Prop}
theorem Yp6{vv:Value}(hns:∀c,o.op ≠ .defer c)(hs:Simple P (execOp a.eval o))(hr:∀v₁,Ge v v₁->(execOp a.eval o).run P v₁=.ok (.value vv) v₁)(h:∀v₁,Ge v v₁->K (a.put o.dst vv) v₁):OpX mn P o a v K:=
 ⟨hns,λv₁ h₁=>.inl ⟨vv,v₁,hs.tr (hr v₁ h₁),h v₁ h₁⟩⟩
theorem Ymz{T:TypeId}{x:Operand}{vv:Value}(ho:o.op=.load T x)(hr:∀v₁,Ge v v₁->(Instr.loadAt T (a.eval x)).run P v₁=.ok vv v₁)(h:∀v₁,Ge v v₁->K (a.put o.dst vv) v₁):OpX mn P o a v K:=
 Yp6 (λc hc=>by rw[ho]at hc;cases hc) (by unfold execOp;rw[ho];exact .bind (Zy3 _ _) λ_=>.pure _) (λv₁ h₁=>by unfold execOp;rw[ho];dsimp only;rw[Sem.run_bind,hr v₁ h₁];rfl) h
theorem Ye4{f:FuncId}{args:Array Value}{c:Call}{y:Operand}{R:Value->World->Prop}(ho:o.op=.call c)(hc:c.callee=.value y)(hy:a.eval y=.func (.func f) #[] #[])(he:EntX P f)(hargs:c.args.map a.eval=args)
  (h:∀v₁,Ge v v₁->Uaz mn P f args v₁ R) (hK:∀r v',R r v'->K (a.put o.dst r) v'):OpX mn P o a v K:=by
 have hx:execOp a.eval o=callFunc f args:=by
  subst hargs;unfold execOp;rw[ho];simp only[resolve,hc,hy,Deferred.ofValue]
  show callFunc f _=_
  congr 1;rw[<- Array.toList_inj];simp
 exact⟨(λc' hc'=>by rw[ho]at hc';cases hc'),λv₁ h₁=>.inr (.inr (.inl ⟨f,args,v₁,by rw[hx];exact(he.2 _).tr (he.1 _ v₁),(h v₁ h₁).mono hK⟩))⟩
end
end Go.Proofs.YtdfefaanfiheoaaGreatDoor.Vc
