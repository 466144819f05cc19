/- Codes of the symbolic run, in company. No program is named. -/
import Derived.Test.YtnhilgpdgicgfaaVcB
namespace Go.Proofs.Ytnhilgpdgicgfaa.Vc
open Go.RowKit Go.Conc Go.Proofs.Ytnhilgpdgicgfaa.Ve
section
set_option linter.unusedVariables false
set_option linter.unusedSimpArgs false
variable {mn:Md}
def IConOkX(mn:Md)(P:Program)(f:FuncId)(I:ICon):Prop:=
 ∀ρ h v ns Y,I (getH h ns) h=some Y->Y.ok=true->HIs P ρ h v->(∀n∈ns,celled h n) ->
  (∀(pre:List Y.X) (x:Y.X),pre++[x] <+: Y.xs->∀y∈Y.enc x,known y=true/\Is P ρ h y (Ve.valOf y)) /\
  SeqS (sfOf P h) mn P f (ns.map λm=>Value.pointer (some ⟨ρ m,0,none⟩)).toArray (λx=>((Y.enc x).map Ve.valOf).toArray) (KeepL ((ns.map λm=>(ρ m).a)++(glL h++boxL ρ h ns))) Y.xs v
section
variable {P:Program} {Γ:Cons} {N:Nat} {W0:World} {n0:Nat} {D E:List Nat} {ρ0:Nat->Ad} {ro:Option Nat}
theorem asgLX{ops:Array Oper}{V:World}:∀(l:List Oper) (i:Nat),ops.toList.drop i=l->∀{m:List (Nat×Nat)},asgL l=some m->∀{a a₀:Act} {v:World},actAsg m a=a₀->Ge V v ->
  OpsX mn P ops (Exit.then (λa w=>a=a₀/\Ge V w) (λ_ _ _=>False) .normal) (List.range' i l.length) a v
 |[],i,_,m,hm,a,a₀,v,ha,hv=>by
  simp only[asgL,Option.some.injEq]at hm;subst hm;exact⟨ha,hv⟩
 | o::l,i,hl,m,hm,a,a₀,v,ha,hv=>by
  have ho:ops[i]?=some o:=by
   have:=congrArg (λx=>x[0]?) hl
   simpa using this
  have hl':ops.toList.drop (i+1)=l:=by
   have:=congrArg List.tail hl
   simpa [List.tail_drop] using this
  unfold asgL at hm;split at hm
  ·rename_i heq;cases heq
  ·rename_i d p ty pos aft r heq;obtain⟨rfl,rfl⟩:=List.cons.inj heq;split at hm
   ·rename_i m' hm';cases hm;rw[List.length_cons,List.range'_succ,OpsX];exact opIX_of ho (by simp[Region.wanted]) (pickX (λc hc=>by cases hc) rfl λv₁ hg=>asgLX _ (i+1) hl' hm' ha (hv.trans hg))
   ·cases hm
  ·cases hm
theorem asgX{as:Code}{l:List (Nat×Nat)}(hl:asgOf as=some l){a:Act}{v:World}:WpX mn ro P as (Exit.then (λa' w=>a'=actAsg l a/\Ge v w) λ_ _ _=>False) a v:=by
 unfold asgOf at hl;split at hl
 ·cases hl;exact wpX_skip ⟨rfl,Ge.refl _⟩
 ·rename_i id ops;refine wpX_region ?_;rw[List.range_eq_range',<- Array.length_toList];exact asgLX ops.toList 0 rfl hl rfl (Ge.refl _)
 ·cases hl
theorem rangeFuncX_core{ra rb:List VB->List Nat->Bool}(hra:∀{h:List VB} {l:List Nat},ra h l=true->∀n∈l,celled h n)(hrb:∀{h:List VB} {l:List Nat},rb h l=true->∀n∈l,wrote h n)(hrx:∀{h:List VB} {l l':List Nat},ra h l=true->rb h l'=true->∀(m k:Nat) (t:TypeId) (kk:SlK) (len:Nat) (C:Array Value) (e:TypeId),m∈l->h[m]?=some (.one (.l k) t)->h[k]?=some (.sl kk len C e)->k ∉ l')(hΓ:ConsOkX mn P (IConOkX mn P) Γ){g:Operand}{ps:Array Tmp}{as x:Code}{bs:List Nat}{p:Plan}{α:Type}{K:Exit->St->Option α}{r:α}{ρ:Nat->Ad}{st:St}{a:Act}{w:World}
  (body:∀ (l:Nat) (st1:St) (r':Stp BS (Exit×BS)) (ρ1:Nat→Ad) (a1:Act) (W:World),noIter p=true→veC P Γ N x p (Stp BS (Exit×BS)) st1 (kBodyI st.h.length bs)=some r'→R P W st.h.length [] ρ1 ρ1 st1 a1 W →
   WpX mn (some l) P x (λe a' w'=>∃ρ' st',kBodyI st.h.length bs e st'=some r'/\R P W st.h.length [] ρ1 ρ' st' a' w'/\Ext (writes x) st1.h.length ρ1 ρ' st1 st') a1 W)
  (hr:(match iterOf Γ st.h (asA (evO st.s g)),asgOf as with
  | some (ns,Y),some l=>
   bif Y.ok then (bif ra st.h ns&&rb st.h bs&&apart ns bs&&noIter p&&noOwn st.h then
    bindI (foldI (λy hb=>bif Nat.beq (Y.enc y).length ps.toList.length then veC P Γ N x p (Stp BS (Exit×BS)) (headI bs ps.toList l st (Y.enc y) hb) (kBodyI st.h.length bs) else none) Y.xs (getH st.h bs)) (λhb=>K .normal (leftI bs st hb)) (λe hb=>K e (leftI bs st hb)) else none) else none
  |_,_=>none)=some r) (hR:RS E P W0 n0 D ρ0 ρ st a w) :
  WpX mn none P (.rangeFunc g ps as x) (λe a' w'=>∃ρ' st',K e st'=some r/\RS E P W0 n0 D ρ0 ρ' st' a' w'/\Ext (writes (.rangeFunc g ps as x)) st.h.length ρ ρ' st st') a w:=by
 split at hr
 case h_2=>cases hr
 rename_i ns Y l hit hasg;cases hyok:Y.ok with
 |false=>rw[hyok]at hr;cases hr
 |true=>
 rw[hyok]at hr;simp only[cond_true]at hr;cases hok:ra st.h ns&&rb st.h bs&&apart ns bs&&noIter p&&noOwn st.h with
 |false=>rw[hok]at hr;cases hr
 |true=>
 rw[hok]at hr;simp only[cond_true]at hr;simp only[Bool.and_eq_true]at hok;obtain⟨⟨⟨⟨hns,hbs⟩,hap⟩,hni⟩,hown⟩:=hok;have hown:=noOwn_ne hown;have hrx:=hrx hns hbs;have hns:=hra hns;have hbs:=hrb hbs;have hap:=apart_mem hap;generalize hstep:(λ(y:Y.X) (hb:BS)=>bif Nat.beq (Y.enc y).length ps.toList.length then veC P Γ N x p (Stp BS (Exit×BS)) (headI bs ps.toList l st (Y.enc y) hb) (kBodyI st.h.length bs) else none)=step at hr
 -- the iterator
 unfold iterOf at hit;have hgv:=asA_is (evO_is hR.slots g);split at hit
 case h_2=>cases hit
 rename_i f ns' hcl;split at hit
 case h_2=>cases hit
 rename_i I hI;split at hit
 case h_2=>cases hit
 rename_i Y' hY;simp only[Option.some.injEq,Prod.mk.injEq]at hit;obtain⟨rfl,rfl⟩:=hit;rw[hcl]at hgv;obtain⟨hgv,-⟩:=hgv;obtain⟨hico,hent⟩:=hΓ.i f I hI;obtain⟨hknown,hseq⟩:=hico ρ st.h w ns' Y' hY hyok hR.heap hns;have hW0:W0.heap.size<=w.heap.size:=hR.kept.size;have hmarks:∀m,({ target:=.collected m,args:=#[] }:Deferred)∈a.defers->m<w.heap.size:=λm hm=>by
  obtain⟨m',e,_,h2⟩:=hR.defers.all _ hm;cases e;exact(Array.getElem?_eq_some_iff.1 h2).1
 let RH:(Nat->Ad)->BS->World->Prop:=λρ' hb W=>RS E P W0 n0 (st.d++D) ρ0 ρ' { s:=st.s,h:=setMany st.h bs hb,d:=bs } a W/\(∀k,k<st.h.length->ρ' k=ρ k)/\HLe st.h (setMany st.h bs hb)
 have hRHown:∀{ρ' hb W W' row},RH ρ' hb W->W.grownBy W' row->(∀r,row=some r->w.heap.size<=r/\∃o:Obj,W.heap[r]?=some o/\o.isCells=false)->RH ρ' hb W':=
  λ h hg hrow=>⟨h.1.grown hg hrow hW0 hmarks (λ n E c hn=>by
   dsimp only at hn
   by_cases hb':n∈bs
   ·obtain⟨b,e',q,-⟩:=((hbs n hb').hle h.2.2).cases;rw[e']at hn;cases hn;exact absurd rfl (q _ _)
   ·rw[setMany_other _ _ _ hb']at hn;rw[h.2.1 n (List.getElem?_eq_some_iff.1 hn).1];exact hR.heap.lt (.mp hn)),h.2⟩
 have hself:setMany st.h bs (getH st.h bs)=st.h:=by
  refine List.ext_getElem? λi=> ?_
  rw[setMany_get (g:=λc=>st.h.getD c .no) bs _ _ i (getH_map _ _)];split
  ·rename_i h;rw[List.getD_eq_getElem?_getD,List.getElem?_eq_getElem h.2];rfl
  ·rfl
 have hfin:∀{ρ' hb W} {ds:List Deferred},RH ρ' hb W->DefOk W0 ds W->RS E P W0 n0 D ρ0 ρ' (leftI bs st hb) { a with defers:=ds } W/\Ext (writes (.rangeFunc g ps as x)) st.h.length ρ ρ' st (leftI bs st hb):=by
  rintro ρ' hb W ds ⟨h1,h2,h3⟩ hds;refine⟨⟨h1.len,h1.slots,h1.heap,h1.base,h1.fresh,h1.kept.mono λk _ ⟨m,e1,e2,e3⟩=>⟨m,e1,?_,e3⟩,h1.own0,hds,h1.bound⟩,⟨λ_ _=>rfl,rfl,λm hm hd=> ?_,λm hm=>List.mem_append_right _ hm,?_,h3,h2⟩⟩
  ·simp only[leftI,List.mem_append]at e2|-
   rcases e2 with e2 | (e2|e2)|e2
   ·exact .inl (.inl e2)
   ·exact .inl (.inr e2)
   ·exact .inr (.inl e2)
   ·exact .inr (.inr e2)
  ·simp only[leftI]at hd|-
   exact setMany_other _ _ _ λhb'=>hd (List.mem_append_left _ hb')
  ·simp only[leftI];rw[setMany_len];exact Nat.le_refl _
 have hpush:∀{ρ' hb W} {Dk:Nat},RH ρ' hb W->w.heap.size<=Dk->W.heap[Dk]?=some (.deferred (some []))->DefOk W0 ({ target:=.collected Dk,args:=#[] }::a.defers) W:=λh hD hm=>
  h.1.defers.push (Nat.le_trans hW0 hD) hm λk hk=>by have:=hmarks k hk;omega
 have hone:∀(pre:List Y'.X) (y:Y'.X) (hb:BS),foldI step pre (getH st.h bs)=some (.more hb)->pre++[y] <+: Y'.xs ->
   ∃r',step y hb=some r'/\foldI step (pre++[y]) (getH st.h bs)=some r'/\(Y'.enc y).length=ps.toList.length/\veC P Γ N x p (Stp BS (Exit×BS)) (headI bs ps.toList l st (Y'.enc y) hb) (kBodyI st.h.length bs)=some r':=by
  rintro pre y hb hf ⟨suf,hsuf⟩;cases hs:step y hb with
  |none=>rw[<- hsuf,List.append_assoc,foldI_app,hf]at hr;simp[foldI,hs,bindI]at hr
  | some r'=>
   refine⟨r',rfl,?_,?_⟩
   ·rw[foldI_app,hf];simp only[foldI,hs];cases r'<;>rfl
   ·rw[<- hstep]at hs;dsimp only at hs;cases hb':Nat.beq (Y'.enc y).length ps.toList.length with
    |false=>rw[hb']at hs;cases hs
    |true=>rw[hb']at hs;exact⟨Nat.eq_of_beq_eq_true hb',hs⟩
 refine wpX_rangeFunc_V (α:=Y'.X) (v0:=w) hgv hent hseq
  (λ{A B C} h k q hq Ce t fr e=>k q hq Ce t fr (h q hq Ce t fr e))
  (fun W l' o o' hl ho hc _ k hk C t fr e=>by
   have:l'≠k:=λe'=>by subst e';rw[ho]at e;cases e;cases hc
   rw[World.putObj_heap_other (Ne.symm this)];exact e)
  (λ{A B} hAB k _ C t fr e=>hAB.at e)
  (Ge.refl w)
  (λpre W=>∃ρ' hb,foldI step pre (getH st.h bs)=some (.more hb)/\RH ρ' hb W)
  (λc pre W=>∃ρ' hb e,foldI step pre (getH st.h bs)=some (.done (e,hb))/\c=exCode e/\(e=.ret\/∃id,e=.exit id)/\RH ρ' hb W)
  ?hps ?hI ?hIx ?h0 (λy=>actAsg l { tmps:=(ps.zip ((Y'.enc y).map Ve.valOf).toArray).foldl (λt (p,v)=>t.setIfInBounds p v) a.tmps,defers:=[] }) ?hassign ?hbody ?hdone ?hstop
 case hps=>
  rintro pre y W ⟨ρ',hb,hf,-⟩ hpre;obtain⟨r',hs,-,hlen,-⟩:=hone pre y hb hf hpre;simp[hlen]
 case hI=>exact λpre W W' row ⟨ρ',hb,h1,h2⟩ hg hrow=>⟨ρ',hb,h1,hRHown h2 hg hrow⟩
 case hIx=>exact λc pre W W' row ⟨ρ',hb,e,h1,h2,h3,h4⟩ hg hrow=>⟨ρ',hb,e,h1,h2,h3,hRHown h4 hg hrow⟩
 case h0=>
  refine⟨ρ,getH st.h bs,rfl,⟨hR.len,?_,?_,hR.base,?_,hR.kept.mono λk _ ⟨m,e1,e2,e3⟩=>⟨m,e1,.inr (by simp only[List.mem_append];exact or_assoc.2 e2),e3⟩,?_,hR.defers,?_⟩,λ_ _=>rfl,?_⟩
  all_goals ((try dsimp only);rw[hself])
  ·exact hR.slots
  ·exact hR.heap
  ·exact hR.fresh
  ·exact hR.own0
  ·exact hR.bound
  ·exact HLe.refl _
 case hassign=>exact λl' y W=>asgX hasg
 case hbody=>
  rintro l' pre y W hl' - ⟨ρ',hb,hf,h1,h2,h3⟩ hpre;obtain⟨r',hs,hf',hlen,hv⟩:=hone pre y hb hf hpre;have hlenh:(setMany st.h bs hb).length=st.h.length:=setMany_len _ _ _;have hroot:=h1.root (E':=[]) λk len C e he=>by
   dsimp only at he
   by_cases hkb:k∈bs
   ·obtain⟨b,e2,-,q,-⟩:=((hbs k hkb).hle h3).cases;rw[e2]at he;cases he;exact absurd rfl (q _ _ _)
   ·rw[setMany_other _ _ _ hkb]at he;exact absurd he (hown k len C e)
  dsimp only at hroot;rw[hlenh]at hroot;have hA:AllIs P ρ' (setMany st.h bs hb) (Y'.enc y) ((Y'.enc y).map Ve.valOf):=vals_known (hknown pre y hpre);have hset:=(RS.setPs ps.toList (Y'.enc y) ((Y'.enc y).map Ve.valOf) hroot hlen hA).runAsg l;dsimp only at hset;have hact:(ps.zip ((Y'.enc y).map Ve.valOf).toArray).foldl (λt (x:Nat×Value)=>t.setIfInBounds x.1 x.2) a.tmps=(ps.toList.zip ((Y'.enc y).map Ve.valOf)).foldl (λt (x:Nat×Value)=>t.setIfInBounds x.1 x.2) a.tmps:=by rw[<- Array.foldl_toList,Array.toList_zip]
  refine WpX.mono (body l' (headI bs ps.toList l st (Y'.enc y) hb) r' ρ' _ W hni hv (by
   simp only[headI];rw[hact];exact hset)) ?_
  rintro e a2 W2 ⟨ρ2,st2,hk,hR2,hE⟩;have hE':Ext (writes x) st.h.length ρ' ρ2 { s:=runAsg l (setPs st.s ps.toList (Y'.enc y)),h:=setMany st.h bs hb,d:=[] } st2:=by have:=hE;simp only[headI]at this;rw[hlenh]at this;exact this
  have good:∀{s:BS},tailI st.h.length bs st2=some s->s=getH st2.h bs/\dirtyOk st.h.length bs st2.d=true/\(getH st2.h bs).all (refLtB st.h.length)=true:=by
   intro s h;unfold tailI at h;cases hok':dirtyOk st.h.length bs st2.d&&(getH st2.h bs).all (refLtB st.h.length) with
   |false=>rw[hok']at h;cases h
   |true=>rw[hok']at h;simp only[cond_true,Option.some.injEq]at h;simp only[Bool.and_eq_true]at hok';exact⟨h.symm,hok'.1,hok'.2⟩
  have moreE:∀{o:Option BS},moreStp (X:=Exit×BS) o=some r'->∃s',o=some s'/\r'=.more s':=λ{o} h=>by cases o<;>cases h;exact⟨_,rfl,rfl⟩
  have doneE:∀{o:Option BS} {e:Exit},doneStp e o=some r'->∃s',o=some s'/\r'=.done (e,s'):=λ{o e} h=>by cases o<;>cases h;exact⟨_,rfl,rfl⟩
  have keeps:dirtyOk st.h.length bs st2.d=true->(getH st2.h bs).all (refLtB st.h.length)=true->RH ρ2 (getH st2.h bs) W2/\KeepsS (sfOf P st.h) w.heap.size W W2/\KeepL ((ns'.map λm=>(ρ m).a)++(glL st.h++boxL ρ st.h ns')) W W2:=λg1 g2=>by
   obtain⟨k1,k2,k3,k4,k5,k6⟩:=next_headI hbs h1 h3 hR2 hE' g1 g2;refine⟨⟨k1,λk hp=>(k3 k hp).trans (h2 k hp),k2⟩,⟨k6,λk hk hlt _=>k5 k hlt λb hb' e=> ?_⟩,?_⟩
   ·have h1b:=h2 b (hbs b hb').lt;have:=hR.heap.lt (hbs b hb').present;rw[h1b]at e;omega
   intro q hq C t fr hk';rcases List.mem_append.1 hq with hq|hq
   case inr=>
    refine k4 _ C t fr hk' λb hb' e=> ?_
    rcases List.mem_append.1 hq with hq|hq
    ·obtain⟨n,bg,hg,hfg⟩:=glL_mem hq;obtain⟨bg',hg',hfg'⟩:=far_hle (h3 n) hg hfg;exact h1.heap.far n _ q hg' hfg' b ((hbs b hb').hle h3).present e
    ·obtain⟨m,k,tk,c,len,Ck,ek,em,e1,e2,e3,e4,rfl⟩:=boxL_mem hq;have hkb:k ∉ bs:=hrx m k _ _ _ _ _ em e1 e2;have hkp:present (setMany st.h bs hb) k:=.own (by rw[setMany_other _ _ _ hkb];exact e2) e3 e4;have:b=k:=h1.heap.inj b k ((hbs b hb').hle h3).present hkp (by rw[e,h2 k (List.getElem?_eq_some_iff.1 e2).1]);exact hkb (this ▸ hb')
   obtain⟨m,hm,rfl⟩:=List.mem_map.1 hq;refine k4 _ C t fr hk' λb hb' e=> ?_
   have:b=m:=h1.heap.inj b m ((hbs b hb').hle h3).present ((hns m hm).hle h3).present (by rw[e,h2 m (hns m hm).lt]);exact hap b hb' (this ▸ hm)
  cases e with
  |normal=>obtain⟨s',ht,rfl⟩:=moreE hk;obtain⟨rfl,g1,g2⟩:=good ht;obtain⟨q1,q2,q3⟩:=keeps g1 g2;exact⟨q2,q3,ρ2,_,hf',q1⟩
  |ret=>obtain⟨s',ht,rfl⟩:=doneE hk;obtain⟨rfl,g1,g2⟩:=good ht;obtain⟨q1,q2,q3⟩:=keeps g1 g2;exact⟨q2,ρ2,_,.ret,hf',rfl,.inl rfl,q1⟩
  |exit id=>obtain⟨s',ht,rfl⟩:=doneE hk;obtain⟨rfl,g1,g2⟩:=good ht;obtain⟨q1,q2,q3⟩:=keeps g1 g2;exact⟨q2,ρ2,_,.exit id,hf',rfl,.inr ⟨id,rfl⟩,q1⟩
  |goto l=>cases hk
  |panic ch=>cases hk
  |outgrown=>cases hk
 case hdone=>
  rintro Dk W hD ⟨ρ',hb,hf,hRH⟩ hm;rw[hf]at hr;obtain⟨h1,h2⟩:=hfin hRH (hpush hRH hD hm);exact⟨ρ',_,hr,h1,h2⟩
 case hstop=>
  rintro Dk c pre W hD ⟨suf,hsuf⟩ ⟨ρ',hb,e,hf,rfl,he,hRH⟩ hm;rw[<- hsuf,foldI_app,hf]at hr;obtain⟨h1,h2⟩:=hfin hRH (hpush hRH hD hm);rcases he with rfl | ⟨id,rfl⟩
  ·exact wpX_ret ⟨ρ',_,hr,h1,h2⟩
  ·exact wpX_exit ⟨ρ',_,hr,h1,h2⟩
theorem rangeFuncX_sound(hΓ:ConsOkX mn P (IConOkX mn P) Γ){g:Operand}{ps:Array Tmp}{as x:Code}{bs:List Nat}{p:Plan}{α:Type}{K:Exit->St->Option α}{r:α}{ρ:Nat->Ad}{st:St}{a:Act}{w:World}
  (body:∀ (l:Nat) (st1:St) (r':Stp BS (Exit×BS)) (ρ1:Nat→Ad) (a1:Act) (W:World),noIter p=true→veC P Γ N x p (Stp BS (Exit×BS)) st1 (kBodyI (spendSt st).h.length bs)=some r'→R P W (spendSt st).h.length [] ρ1 ρ1 st1 a1 W →
   WpX mn (some l) P x (λe a' w'=>∃ρ' st',kBodyI (spendSt st).h.length bs e st'=some r'/\R P W (spendSt st).h.length [] ρ1 ρ' st' a' w'/\Ext (writes x) st1.h.length ρ1 ρ' st1 st') a1 W)
  (hr:veC P Γ N (.rangeFunc g ps as x) (.iter bs p) α st K=some r) (hR:RS E P W0 n0 D ρ0 ρ st a w) :
  WpX mn none P (.rangeFunc g ps as x) (λe a' w'=>∃ρ' st',K e st'=some r/\RS E P W0 n0 D ρ0 ρ' st' a' w'/\Ext (writes (.rangeFunc g ps as x)) st.h.length ρ ρ' st st') a w:=by
 rw[veC]at hr;obtain⟨hR',hE⟩:=hR.spend (writes (.rangeFunc g ps as x)) st.h.length;refine WpX.mono (rangeFuncX_core rowsAll_celled (λh n hn=>.inl (rowsAll_celled h n hn)) (λ_ hb m k t kk len C e _ _ e2 hk=>by rcases rowsAll_celled hb k hk with ⟨_,_,e5⟩ | ⟨_,_,e5⟩<;>(rw[e2]at e5;cases e5)) hΓ body hr hR') ?_;rintro e a' w' ⟨ρ',st',k1,k2,k3⟩;exact⟨ρ',st',k1,k2,hE.trans (k3.mono (λ_ h=>h) (by simp[spendSt]))⟩
theorem rangeFuncX_soundL(hΓ:ConsOkX mn P (IConOkX mn P) Γ){g:Operand}{ps:Array Tmp}{as x:Code}{bs:List Nat}{p:Plan}{α:Type}{K:Exit->St->Option α}{r:α}{ρ:Nat->Ad}{st:St}{a:Act}{w:World}
  (body:∀ (l:Nat) (st1:St) (r':Stp BS (Exit×BS)) (ρ1:Nat→Ad) (a1:Act) (W:World),noIter p=true→veC P Γ N x p (Stp BS (Exit×BS)) st1 (kBodyI (lendS st).h.length bs)=some r'→R P W (lendS st).h.length [] ρ1 ρ1 st1 a1 W →
   WpX mn (some l) P x (λe a' w'=>∃ρ' st',kBodyI (lendS st).h.length bs e st'=some r'/\R P W (lendS st).h.length [] ρ1 ρ' st' a' w'/\Ext (writes x) st1.h.length ρ1 ρ' st1 st') a1 W)
  (hr:veC P Γ N (.rangeFunc g ps as x) (.iterL bs p) α st K=some r) (hR:RS E P W0 n0 D ρ0 ρ st a w) :
  WpX mn none P (.rangeFunc g ps as x) (λe a' w'=>∃ρ' st',K e st'=some r/\RS E P W0 n0 D ρ0 ρ' st' a' w'/\Ext (writes (.rangeFunc g ps as x)) st.h.length ρ ρ' st st') a w:=by
 rw[veC]at hr;have hR':RS E P W0 n0 D ρ0 ρ (lendS st) a w:=hR.lo (lend_lo st.h) (by simp) (λn len C e hn he=>absurd he (lend_no _ _ _ _ _))
 let K':Exit->St->Option α:=λe st1=>K e { s:=st1.s,h:=reown st.h st1.h,d:=st1.d }
 have hr':(match iterOf Γ (lendS st).h (asA (evO (lendS st).s g)),asgOf as with
  | some (ns,Y),some l=>
   bif Y.ok then (bif cellAll (lendS st).h ns&&cellAll (lendS st).h bs&&apart ns bs&&noIter p&&noOwn (lendS st).h then
    bindI (foldI (λy hb=>bif Nat.beq (Y.enc y).length ps.toList.length then veC P Γ N x p (Stp BS (Exit×BS)) (headI bs ps.toList l (lendS st) (Y.enc y) hb) (kBodyI (lendS st).h.length bs) else none) Y.xs (getH (lendS st).h bs)) (λhb=>K' .normal (leftI bs (lendS st) hb)) (λe hb=>K' e (leftI bs (lendS st) hb)) else none) else none
  |_,_=>none)=some r:=by
  cases h1:iterOf Γ (lendS st).h (asA (evO (lendS st).s g)) with
  |none=>rw[h1]at hr;cases hr
  | some q=>
   rw[h1]at hr;cases h2:asgOf as with
   |none=>rw[h2]at hr;cases hr
   | some l=>
    rw[h2]at hr;dsimp only at hr|-
    cases hok:cellAll (lendS st).h q.1&&cellAll (lendS st).h bs&&apart q.1 bs&&noIter p&&noOwn (lendS st).h with
    |false=>rw[hok]at hr;cases hy:q.2.ok<;>rw[hy]at hr<;>cases hr
    | true=>
     rw[hok]at hr;have hb:=cellAll_mem (by simp only[Bool.and_eq_true]at hok;exact hok.1.1.1.2);have e1:∀(e:Exit) (hb:BS),K e (leftI bs st hb)=K' e (leftI bs (lendS st) hb):=λe hb'=>by
      show _=K e _
      unfold leftI lendS;dsimp only;rw[reown_left hb' hb]
     simp only[e1]at hr;exact hr
 refine WpX.mono (rangeFuncX_core cellAll_mem (λh n hn=>.inl (cellAll_mem h n hn)) (λ_ hb m k t kk len C e _ _ e2 hk=>by rcases cellAll_mem hb k hk with ⟨_,_,e5⟩ | ⟨_,_,e5⟩<;>(rw[e2]at e5;cases e5)) hΓ body hr' hR') ?_;rintro e a' w' ⟨ρ',st',k1,k2,k3⟩;refine⟨ρ',{ s:=st'.s,h:=reown st.h st'.h,d:=st'.d },k1,k2.lo (reown_lo _ _) (reown_len _ _) (λn len C e hn he=> ?_),⟨k3.slots,k3.len,λn hn hd=> ?_,k3.dirty,?_,λn=> ?_,λn hn=>k3.ren n (by show n<(st.h.map lendV).length;simpa using hn)⟩⟩
 ·rcases reown_own he with ⟨len',C',e',h⟩|h
  ·have h1:(lendS st).h[n]?=some (.sl .lent len' C' e'):=by
    show (st.h.map lendV)[n]?=_
    rw[lend_get,h];rfl
   rcases(k3.hle n).sl _ _ _ _ h1 with ⟨C2,h2⟩ | ⟨h2,-⟩
   ·rw[reown_get,h,h2]at he;cases he;exact hR.own0 n _ _ _ hn h
   ·cases h2
  ·exact k2.own0 n len C e hn h
 ·have h1:st'.h[n]?=(st.h.map lendV)[n]?:=k3.heap n (by show n<(st.h.map lendV).length;simpa using hn) hd;rw[reown_get,h1,lend_get];cases st.h[n]? with
  |none=>rfl
  |some b=>
   cases b with
   |sl k len C e=>cases k<;>rfl
   |_=>rfl
 ·have:=k3.hlen;rw[reown_len]
  simpa [lendS] using this
 ·have k:=k3.hle n;have hl:∀{b:VB},st.h[n]?=some b->(lendS st).h[n]?=some (lendV b):=λ{b} h=>by
   show (st.h.map lendV)[n]?=_
   rw[lend_get,h];rfl
  have hn:∀{b c:VB},st.h[n]?=some b->st'.h[n]?=some c->(∀len C e,b=.sl .own len C e->False)->(reown st.h st'.h)[n]?=some c:=λ{b c} hb hc hno=>by
   rw[reown_get,hb,hc,Option.map_some];split
   ·rename_i h;cases h;exact(hno _ _ _ rfl).elim
   ·rfl
  refine⟨λC t h=> ?_,λy t h=> ?_,λa len C e h=> ?_,λh=> ?_,λg t a x h=> ?_,λE c h=> ?_⟩
  ·obtain⟨C',h'⟩:=k.row C t (hl h);exact⟨C',hn h h' λ_ _ _ q=>nomatch q⟩
  ·obtain⟨C',h'⟩:=k.one y t (hl h);exact⟨C',hn h h' λ_ _ _ q=>nomatch q⟩
  ·cases a with
   |own=>
    rcases k.sl .lent len C e (hl h) with ⟨C',h'⟩ | ⟨h',-⟩
    ·exact .inl ⟨C',by rw[reown_get,h,h'];rfl⟩
    ·cases h'
   |lent=>
    rcases k.sl .lent len C e (hl h) with ⟨C',h'⟩ | ⟨h',-⟩
    ·exact .inl ⟨C',hn h h' λ_ _ _ q=>nomatch q⟩
    ·cases h'
   |came c=>
    rcases k.sl (.came c) len C e (hl h) with ⟨C',h'⟩ | ⟨h',-⟩
    ·exact .inl ⟨C',hn h h' λ_ _ _ q=>nomatch q⟩
    ·cases h'
  ·exact hn h (k.sp (hl h)) λ_ _ _ q=>nomatch q
  ·exact hn h (k.gl g t a x (hl h)) λ_ _ _ q=>nomatch q
  ·obtain⟨E1,c1,h'⟩:=k.mp E c (hl h);exact⟨E1,c1,hn h h' λ_ _ _ q=>nomatch q⟩
def wrB(h:List VB)(l:List Nat):Bool:=wrAll h l&&lentPos h l
theorem wrB_mem{h:List VB}:∀{l:List Nat},wrB h l=true->∀n∈l,wrote h n
 |[],_,n,hn=>by cases hn
 | m::r,hw,n,hn=>by
  unfold wrB at hw;rw[Bool.and_eq_true]at hw;obtain⟨h1,h2⟩:=hw;simp only[wrAll,Bool.and_eq_true]at h1;obtain⟨h1,h3⟩:=h1;simp only[lentPos]at h2;cases hb:h[m]? with
  |none=>rw[hb]at h1;cases h1
  | some b=>
   rw[hb]at h1 h2;rcases List.mem_cons.1 hn with rfl|hn
   ·cases b with
    |row C t=>exact .inl (.inl ⟨C,t,hb⟩)
    |one y t=>exact .inl (.inr ⟨y,t,hb⟩)
    | sl k len C e=>
     cases k with
     |lent=>simp only[Bool.and_eq_true]at h2;refine .inr ⟨len,C,e,hb,λh0=> ?_⟩;rw[h0]at h2;cases h2.1
     |_=>cases h1
    |_=>cases h1
   ·refine wrB_mem (l:=r) ?_ n hn;unfold wrB;rw[h3,Bool.true_and];cases b with
    |sl k len C e=>cases k with|lent=>simp only[Bool.and_eq_true]at h2;exact h2.2|_=>exact h2
    |_=>exact h2
theorem rangeFuncX_soundW(hΓ:ConsOkX mn P (IConOkX mn P) Γ){g:Operand}{ps:Array Tmp}{as x:Code}{bs:List Nat}{p:Plan}{α:Type}{K:Exit->St->Option α}{r:α}{ρ:Nat->Ad}{st:St}{a:Act}{w:World}
  (body:∀ (l:Nat) (st1:St) (r':Stp BS (Exit×BS)) (ρ1:Nat→Ad) (a1:Act) (W:World),noIter p=true→veC P Γ N x p (Stp BS (Exit×BS)) st1 (kBodyI (lendS st).h.length bs)=some r'→R P W (lendS st).h.length [] ρ1 ρ1 st1 a1 W →
   WpX mn (some l) P x (λe a' w'=>∃ρ' st',kBodyI (lendS st).h.length bs e st'=some r'/\R P W (lendS st).h.length [] ρ1 ρ' st' a' w'/\Ext (writes x) st1.h.length ρ1 ρ' st1 st') a1 W)
  (hr:veC P Γ N (.rangeFunc g ps as x) (.iterW bs p) α st K=some r) (hR:RS E P W0 n0 D ρ0 ρ st a w) :
  WpX mn none P (.rangeFunc g ps as x) (λe a' w'=>∃ρ' st',K e st'=some r/\RS E P W0 n0 D ρ0 ρ' st' a' w'/\Ext (writes (.rangeFunc g ps as x)) st.h.length ρ ρ' st st') a w:=by
 rw[veC]at hr;have hR':RS E P W0 n0 D ρ0 ρ (lendS st) a w:=hR.lo (lend_lo st.h) (by simp) (λn len C e hn he=>absurd he (lend_no _ _ _ _ _))
 let K':Exit->St->Option α:=λe st1=>K e (reS st st1)
 have hr':(match iterOf Γ (lendS st).h (asA (evO (lendS st).s g)),asgOf as with
  | some (ns,Y),some l=>
   bif Y.ok then (bif rowsAll (lendS st).h ns&&wrB (lendS st).h bs&&apart ns bs&&noIter p&&noOwn (lendS st).h then
    bindI (foldI (λy hb=>bif Nat.beq (Y.enc y).length ps.toList.length then veC P Γ N x p (Stp BS (Exit×BS)) (headI bs ps.toList l (lendS st) (Y.enc y) hb) (kBodyI (lendS st).h.length bs) else none) Y.xs (getH (lendS st).h bs)) (λhb=>K' .normal (leftI bs (lendS st) hb)) (λe hb=>K' e (leftI bs (lendS st) hb)) else none) else none
  |_,_=>none)=some r:=by
  cases h1:iterOf Γ (lendS st).h (asA (evO (lendS st).s g)) with
  |none=>rw[h1]at hr;cases hr
  | some q=>
   rw[h1]at hr;cases h2:asgOf as with
   |none=>rw[h2]at hr;cases hr
   | some l=>
    rw[h2]at hr;dsimp only at hr|-
    cases hl:lentPos (lendS st).h bs with
    |false=>rw[hl]at hr;cases hy:q.2.ok<;>rw[hy]at hr<;>cases hr
    |true=>rw[hl]at hr;unfold wrB;rw[hl,Bool.and_true];exact hr
 refine WpX.mono (rangeFuncX_core rowsAll_celled wrB_mem (λhn _ m k t kk len C e hm e1 _=>by obtain⟨C',t',e3⟩:=rowsAll_mem hn m hm;rw[e1]at e3;cases e3) hΓ body hr' hR') ?_;rintro e a' w' ⟨ρ',st',k1,k2,k3⟩;refine⟨ρ',{ s:=st'.s,h:=reown st.h st'.h,d:=st'.d },k1,k2.lo (reown_lo _ _) (reown_len _ _) (λn len C e hn he=> ?_),⟨k3.slots,k3.len,λn hn hd=> ?_,k3.dirty,?_,λn=> ?_,λn hn=>k3.ren n (by show n<(st.h.map lendV).length;simpa using hn)⟩⟩
 ·rcases reown_own he with ⟨len',C',e',h⟩|h
  ·have h1:(lendS st).h[n]?=some (.sl .lent len' C' e'):=by
    show (st.h.map lendV)[n]?=_
    rw[lend_get,h];rfl
   rcases(k3.hle n).sl _ _ _ _ h1 with ⟨C2,h2⟩ | ⟨h2,-⟩
   ·rw[reown_get,h,h2]at he;cases he;exact hR.own0 n _ _ _ hn h
   ·cases h2
  ·exact k2.own0 n len C e hn h
 ·have h1:st'.h[n]?=(st.h.map lendV)[n]?:=k3.heap n (by show n<(st.h.map lendV).length;simpa using hn) hd;rw[reown_get,h1,lend_get];cases st.h[n]? with
  |none=>rfl
  |some b=>
   cases b with
   |sl k len C e=>cases k<;>rfl
   |_=>rfl
 ·have:=k3.hlen;rw[reown_len]
  simpa [lendS] using this
 ·have k:=k3.hle n;have hl:∀{b:VB},st.h[n]?=some b->(lendS st).h[n]?=some (lendV b):=λ{b} h=>by
   show (st.h.map lendV)[n]?=_
   rw[lend_get,h];rfl
  have hn:∀{b c:VB},st.h[n]?=some b->st'.h[n]?=some c->(∀len C e,b=.sl .own len C e->False)->(reown st.h st'.h)[n]?=some c:=λ{b c} hb hc hno=>by
   rw[reown_get,hb,hc,Option.map_some];split
   ·rename_i h;cases h;exact(hno _ _ _ rfl).elim
   ·rfl
  refine⟨λC t h=> ?_,λy t h=> ?_,λa len C e h=> ?_,λh=> ?_,λg t a x h=> ?_,λE c h=> ?_⟩
  ·obtain⟨C',h'⟩:=k.row C t (hl h);exact⟨C',hn h h' λ_ _ _ q=>nomatch q⟩
  ·obtain⟨C',h'⟩:=k.one y t (hl h);exact⟨C',hn h h' λ_ _ _ q=>nomatch q⟩
  ·cases a with
   |own=>
    rcases k.sl .lent len C e (hl h) with ⟨C',h'⟩ | ⟨h',-⟩
    ·exact .inl ⟨C',by rw[reown_get,h,h'];rfl⟩
    ·cases h'
   |lent=>
    rcases k.sl .lent len C e (hl h) with ⟨C',h'⟩ | ⟨h',-⟩
    ·exact .inl ⟨C',hn h h' λ_ _ _ q=>nomatch q⟩
    ·cases h'
   |came c=>
    rcases k.sl (.came c) len C e (hl h) with ⟨C',h'⟩ | ⟨h',-⟩
    ·exact .inl ⟨C',hn h h' λ_ _ _ q=>nomatch q⟩
    ·cases h'
  ·exact hn h (k.sp (hl h)) λ_ _ _ q=>nomatch q
  ·exact hn h (k.gl g t a x (hl h)) λ_ _ _ q=>nomatch q
  ·obtain⟨E1,c1,h'⟩:=k.mp E c (hl h);exact⟨E1,c1,hn h h' λ_ _ _ q=>nomatch q⟩
theorem put_root{W1 W:World}{n1:Nat}{ρs ρ1:Nat->Ad}{st1:St}{a1:Act}(hR:R P W1 n1 [] ρs ρ1 st1 a1 W){l:Nat}{r0:Loop}(hlt:l<W.heap.size)(hlt1:l<W1.heap.size)(h1:W1.heap[l]?=some (.loop r0))(h2:W.heap[l]?=some (.loop r0))(r1:Loop)(hmp:∀(n:Nat) E c,st1.h[n]?=some (.mp E c)->(ρ1 n).a≠l):
  R P (W1.putObj l (.loop r1)) n1 [] ρs ρ1 st1 a1 (W.putObj l (.loop r1)):=by
 have hcell:∀(k:Nat) C t fr,W.heap[k]?=some (Obj.cells C t fr)->(W.putObj l (.loop r1)).heap[k]?=some (Obj.cells C t fr):=λk C t fr hk=>by
  have:l≠k:=λe=>by subst e;rw[h2]at hk;cases hk
  rw[World.putObj_heap_other (Ne.symm this)];exact hk
 have hsz:(W.putObj l (.loop r1)).heap.size=W.heap.size:=by simp[World.putObj]
 have hsz1:(W1.putObj l (.loop r1)).heap.size=W1.heap.size:=by simp[World.putObj]
 refine⟨hR.len,hR.slots,⟨λk b hb=> ?_,hR.heap.inj,hR.heap.far⟩,hR.base,λn hn hp=>by rw[hsz1];exact hR.fresh n hn hp,⟨hR.kept.os,hR.kept.tape,hR.kept.output,by rw[hsz,hsz1];exact hR.kept.size,λk hk he=> ?_⟩,hR.own0,⟨λd hd=> ?_,hR.defers.diff⟩,hR.bound⟩
 ·have:=hR.heap.is k b hb;cases b with
  |no=>trivial
  |row C t=>exact⟨hcell _ _ _ _ this.1,this.2⟩
  |one y t=>obtain⟨v,h1,h2⟩:=this;exact⟨v,h1,hcell _ _ _ _ h2⟩
  |sl x len C t=>exact⟨this.1.cells (by rw[hsz];exact Nat.le_refl _) hcell,λh1 h2=>let ⟨q1,C',t',q2,q3⟩:=this.2 h1 h2;⟨q1,C',t',hcell _ _ _ _ q2,q3⟩⟩
  |gl g t a x=>exact this.glCells hcell
  |mp E c=>
   show (W.putObj l (.loop r1)).heap[(ρ1 k).a]?=_
   rw[World.putObj_heap_other (hmp k E c hb)];exact this
  |sp=>trivial
 ·by_cases e:k=l
  ·subst e;rw[World.putObj_heap_same hlt,World.putObj_heap_same hlt1]
  ·rw[World.putObj_heap_other e,World.putObj_heap_other e];exact hR.kept.block k (by rw[hsz1]at hk;exact hk) he
 ·obtain⟨m,e,q1,q2⟩:=hR.defers.all d hd;refine⟨m,e,by rw[hsz1];exact q1,?_⟩;rw[World.putObj_heap_other (by omega)];exact q2
theorem rangeFuncX_coreA{ra:List VB->List Nat->Bool}(hra:∀{h:List VB} {l:List Nat},ra h l=true->∀n∈l,celled h n)(hm:P.follows .mixedOrders=true)(hΓ:ConsOkX mn P (IConOkX mn P) Γ){g:Operand}{ps:Array Tmp}{as x:Code}{bs:List Nat}{p:Plan}{α:Type}{K:Exit->St->Option α}{r:α}{ρ:Nat->Ad}{st:St}{a:Act}{w:World}
  (body:∀ (l:Nat) (st1:St) (r':Stp BS (Exit×BS)) (ρs ρ1:Nat→Ad) (a1:Act) (W1 W:World),noIter p=true→veC P Γ N x p (Stp BS (Exit×BS)) st1 (kBodyI st.h.length bs)=some r'→R P W1 st.h.length [] ρs ρ1 st1 a1 W →
   WpX mn (some l) P x (λe a' w'=>∃ρ' st',kBodyI st.h.length bs e st'=some r'/\R P W1 st.h.length [] ρs ρ' st' a' w'/\Ext (writes x) st1.h.length ρ1 ρ' st1 st') a1 W)
  (hr:(match iterOf Γ st.h (asA (evO st.s g)),asgR as with
  | some (ns,Y),some (l,ops)=>
   bif Y.ok then (bif ra st.h ns&&ra st.h bs&&apart ns bs&&noIter p&&noOwn st.h then
    bindI (foldI (λy hb=>bif Nat.beq (Y.enc y).length ps.toList.length then veReg P Γ ops false (headI bs ps.toList l st (Y.enc y) hb) (kAsg st.h.length λst1=>veC P Γ N x p (Stp BS (Exit×BS)) st1 (kBodyI st.h.length bs)) else none) Y.xs (getH st.h bs)) (λhb=>K .normal (leftI bs st hb)) (λe hb=>K e (leftI bs st hb)) else none) else none
  |_,_=>none)=some r) (hR:RS E P W0 n0 D ρ0 ρ st a w) :
  WpX mn none P (.rangeFunc g ps as x) (λe a' w'=>∃ρ' st',K e st'=some r/\RS E P W0 n0 D ρ0 ρ' st' a' w'/\Ext (writes (.rangeFunc g ps as x)) st.h.length ρ ρ' st st') a w:=by
 split at hr
 case h_2=>cases hr
 rename_i ns Y l ops hit hasg;cases hyok:Y.ok with
 |false=>rw[hyok]at hr;cases hr
 |true=>
 rw[hyok]at hr;simp only[cond_true]at hr;cases hok:ra st.h ns&&ra st.h bs&&apart ns bs&&noIter p&&noOwn st.h with
 |false=>rw[hok]at hr;cases hr
 |true=>
 rw[hok]at hr;simp only[cond_true]at hr;simp only[Bool.and_eq_true]at hok;obtain⟨⟨⟨⟨hns,hbs⟩,hap⟩,hni⟩,hown⟩:=hok;have hown:=noOwn_ne hown;have hns:=hra hns;have hbs:=hra hbs;have hap:=apart_mem hap;generalize hstep:(λ(y:Y.X) (hb:BS)=>bif Nat.beq (Y.enc y).length ps.toList.length then veReg P Γ ops false (headI bs ps.toList l st (Y.enc y) hb) (kAsg st.h.length λst1=>veC P Γ N x p (Stp BS (Exit×BS)) st1 (kBodyI st.h.length bs)) else none)=step at hr
 -- the iterator
 unfold iterOf at hit;have hgv:=asA_is (evO_is hR.slots g);split at hit
 case h_2=>cases hit
 rename_i f ns' hcl;split at hit
 case h_2=>cases hit
 rename_i I hI;split at hit
 case h_2=>cases hit
 rename_i Y' hY;simp only[Option.some.injEq,Prod.mk.injEq]at hit;obtain⟨rfl,rfl⟩:=hit;rw[hcl]at hgv;obtain⟨hgv,-⟩:=hgv;obtain⟨hico,hent⟩:=hΓ.i f I hI;obtain⟨hknown,hseq⟩:=hico ρ st.h w ns' Y' hY hyok hR.heap hns;have hW0:W0.heap.size<=w.heap.size:=hR.kept.size;have hmarks:∀m,({ target:=.collected m,args:=#[] }:Deferred)∈a.defers->m<w.heap.size:=λm hm=>by
  obtain⟨m',e,_,h2⟩:=hR.defers.all _ hm;cases e;exact(Array.getElem?_eq_some_iff.1 h2).1
 let RH:(Nat->Ad)->BS->World->Prop:=λρ' hb W=>RS E P W0 n0 (st.d++D) ρ0 ρ' { s:=st.s,h:=setMany st.h bs hb,d:=bs } a W/\(∀k,k<st.h.length->ρ' k=ρ k)/\HLe st.h (setMany st.h bs hb)
 have hRHown:∀{ρ' hb W W' row},RH ρ' hb W->W.grownBy W' row->(∀r,row=some r->w.heap.size<=r/\∃o:Obj,W.heap[r]?=some o/\o.isCells=false)->RH ρ' hb W':=
  λ h hg hrow=>⟨h.1.grown hg hrow hW0 hmarks (λ n E c hn=>by
   dsimp only at hn
   by_cases hb':n∈bs
   ·rcases(hbs n hb').hle h.2.2 with ⟨_,_,e'⟩ | ⟨_,_,e'⟩<;>(rw[e']at hn;cases hn)
   ·rw[setMany_other _ _ _ hb']at hn;rw[h.2.1 n (List.getElem?_eq_some_iff.1 hn).1];exact hR.heap.lt (.mp hn)),h.2⟩
 have hself:setMany st.h bs (getH st.h bs)=st.h:=by
  refine List.ext_getElem? λi=> ?_
  rw[setMany_get (g:=λc=>st.h.getD c .no) bs _ _ i (getH_map _ _)];split
  ·rename_i h;rw[List.getD_eq_getElem?_getD,List.getElem?_eq_getElem h.2];rfl
  ·rfl
 have hfin:∀{ρ' hb W} {ds:List Deferred},RH ρ' hb W->DefOk W0 ds W->RS E P W0 n0 D ρ0 ρ' (leftI bs st hb) { a with defers:=ds } W/\Ext (writes (.rangeFunc g ps as x)) st.h.length ρ ρ' st (leftI bs st hb):=by
  rintro ρ' hb W ds ⟨h1,h2,h3⟩ hds;refine⟨⟨h1.len,h1.slots,h1.heap,h1.base,h1.fresh,h1.kept.mono λk _ ⟨m,e1,e2,e3⟩=>⟨m,e1,?_,e3⟩,h1.own0,hds,h1.bound⟩,⟨λ_ _=>rfl,rfl,λm hm hd=> ?_,λm hm=>List.mem_append_right _ hm,?_,h3,h2⟩⟩
  ·simp only[leftI,List.mem_append]at e2|-
   rcases e2 with e2 | (e2|e2)|e2
   ·exact .inl (.inl e2)
   ·exact .inl (.inr e2)
   ·exact .inr (.inl e2)
   ·exact .inr (.inr e2)
  ·simp only[leftI]at hd|-
   exact setMany_other _ _ _ λhb'=>hd (List.mem_append_left _ hb')
  ·simp only[leftI];rw[setMany_len];exact Nat.le_refl _
 have hpush:∀{ρ' hb W} {Dk:Nat},RH ρ' hb W->w.heap.size<=Dk->W.heap[Dk]?=some (.deferred (some []))->DefOk W0 ({ target:=.collected Dk,args:=#[] }::a.defers) W:=λh hD hm=>
  h.1.defers.push (Nat.le_trans hW0 hD) hm λk hk=>by have:=hmarks k hk;omega
 have hone:∀(pre:List Y'.X) (y:Y'.X) (hb:BS),foldI step pre (getH st.h bs)=some (.more hb)->pre++[y] <+: Y'.xs ->
   ∃r',step y hb=some r'/\foldI step (pre++[y]) (getH st.h bs)=some r'/\(Y'.enc y).length=ps.toList.length/\veReg P Γ ops false (headI bs ps.toList l st (Y'.enc y) hb) (kAsg st.h.length λst1=>veC P Γ N x p (Stp BS (Exit×BS)) st1 (kBodyI st.h.length bs))=some r':=by
  rintro pre y hb hf ⟨suf,hsuf⟩;cases hs:step y hb with
  |none=>rw[<- hsuf,List.append_assoc,foldI_app,hf]at hr;simp[foldI,hs,bindI]at hr
  | some r'=>
   refine⟨r',rfl,?_,?_⟩
   ·rw[foldI_app,hf];simp only[foldI,hs];cases r'<;>rfl
   ·rw[<- hstep]at hs;dsimp only at hs;cases hb':Nat.beq (Y'.enc y).length ps.toList.length with
    |false=>rw[hb']at hs;cases hs
    |true=>rw[hb']at hs;exact⟨Nat.eq_of_beq_eq_true hb',hs⟩
 refine wpX_rangeFunc_A (α:=Y'.X) (v0:=w) hgv hent hseq
  (λ{A B C} h k q hq Ce t fr e=>k q hq Ce t fr (h q hq Ce t fr e))
  (fun W l' o o' hl ho hc _ k hk C t fr e=>by
   have:l'≠k:=λe'=>by subst e';rw[ho]at e;cases e;cases hc
   rw[World.putObj_heap_other (Ne.symm this)];exact e)
  (λ{A B} hAB k _ C t fr e=>hAB.at e)
  (Ge.refl w)
  (λpre W=>∃ρ' hb,foldI step pre (getH st.h bs)=some (.more hb)/\RH ρ' hb W)
  (λc pre W=>∃ρ' hb e,foldI step pre (getH st.h bs)=some (.done (e,hb))/\c=exCode e/\(e=.ret\/∃id,e=.exit id)/\RH ρ' hb W)
  ?hps ?hI ?hIx ?h0
  (fun pre y W1 a1 W=>∃ ρ' hb r' ρ1 st1,foldI step (pre++[y]) (getH st.h bs)=some r'∧RH ρ' hb W1∧veC P Γ N x p (Stp BS (Exit×BS)) st1 (kBodyI st.h.length bs)=some r'∧R P W1 st.h.length [] ρ' ρ1 st1 a1 W∧Ge W1 W∧st1.d.all (Nat.ble st.h.length)=true ∧
   Ext (wrL ops.toList) st.h.length ρ' ρ1 { s:=runAsg l (setPs st.s ps.toList (Y'.enc y)),h:=setMany st.h bs hb,d:=[] } st1)
  (λ⟨ρ',hb,r',ρ1,st1,k1,k2,k3,k4,k5,k6⟩ hg=>⟨ρ',hb,r',ρ1,st1,k1,k2,k3,RS.ge k4 hg,k5.trans hg,k6⟩) (λ⟨_,_,_,_,_,_,_,_,_,k5,_⟩=>k5) ?hassign ?hbody ?hdone ?hstop
 case hps=>
  rintro pre y W ⟨ρ',hb,hf,-⟩ hpre;obtain⟨r',hs,-,hlen,-⟩:=hone pre y hb hf hpre;simp[hlen]
 case hI=>exact λpre W W' row ⟨ρ',hb,h1,h2⟩ hg hrow=>⟨ρ',hb,h1,hRHown h2 hg hrow⟩
 case hIx=>exact λc pre W W' row ⟨ρ',hb,e,h1,h2,h3,h4⟩ hg hrow=>⟨ρ',hb,e,h1,h2,h3,hRHown h4 hg hrow⟩
 case h0=>
  refine⟨ρ,getH st.h bs,rfl,⟨hR.len,?_,?_,hR.base,?_,hR.kept.mono λk _ ⟨m,e1,e2,e3⟩=>⟨m,e1,.inr (by simp only[List.mem_append];exact or_assoc.2 e2),e3⟩,?_,hR.defers,?_⟩,λ_ _=>rfl,?_⟩
  all_goals ((try dsimp only);rw[hself])
  ·exact hR.slots
  ·exact hR.heap
  ·exact hR.fresh
  ·exact hR.own0
  ·exact hR.bound
  ·exact HLe.refl _
 case hassign=>
  rintro l' pre y W ⟨ρ',hb,hf,h1,h2,h3⟩ hpre;obtain⟨r',hs,hf',hlen,hv⟩:=hone pre y hb hf hpre;have hlenh:(setMany st.h bs hb).length=st.h.length:=setMany_len _ _ _;have hroot:=h1.root (E':=[]) λk len C e he=>by
   dsimp only at he
   by_cases hkb:k∈bs
   ·rcases(hbs k hkb).hle h3 with ⟨_,_,e2⟩ | ⟨_,_,e2⟩<;>(rw[e2]at he;cases he)
   ·rw[setMany_other _ _ _ hkb]at he;exact absurd he (hown k len C e)
  dsimp only at hroot;rw[hlenh]at hroot;have hA:AllIs P ρ' (setMany st.h bs hb) (Y'.enc y) ((Y'.enc y).map Ve.valOf):=vals_known (hknown pre y hpre);have hset:=(RS.setPs ps.toList (Y'.enc y) ((Y'.enc y).map Ve.valOf) hroot hlen hA).runAsg l;dsimp only at hset;have hact:(ps.zip ((Y'.enc y).map Ve.valOf).toArray).foldl (λt (x:Nat×Value)=>t.setIfInBounds x.1 x.2) a.tmps=(ps.toList.zip ((Y'.enc y).map Ve.valOf)).foldl (λt (x:Nat×Value)=>t.setIfInBounds x.1 x.2) a.tmps:=by rw[<- Array.foldl_toList,Array.toList_zip]
  unfold asgR at hasg;split at hasg
  case h_2=>cases hasg
  rename_i a0 id ops';split at hasg
  case h_2=>cases hasg
  rename_i l0 hl0;cases hasg;refine wpX_seq (WpX.mono (asgX hl0) ?_);rintro e a1 w1 hq;cases e with
  | normal=>
   obtain⟨rfl,hg1⟩:=hq;have hset1:=RS.ge hset hg1;rw[<- hact]at hset1;refine veRegX_sound hm hΓ (Q:=Exit.then _ _) hset1 hv λρ2 st2 a2 w2 hk2 hR2 hE2=> ?_
   unfold kAsg at hk2;cases hd:st2.d.all (Nat.ble st.h.length) with
   |false=>rw[hd]at hk2;cases hk2
   |true=>
   rw[hd,cond_true]at hk2;have hk3:=hR2.kept.mono (E':=λ_=>False) λk _ ⟨n,q1,q2,_⟩=>by
    rcases q2 with q2|q2|q2
    ·have:=Nat.le_of_ble_eq_true (List.all_eq_true.1 hd n q2);omega
    ·cases q2
    ·cases q2
   refine⟨ρ',hb,r',ρ2,st2,hf',⟨h1,h2,h3⟩,hk2,hR2,⟨hk3.os,hk3.tape,hk3.output,hk3.size,λk hlt=>hk3.block k hlt not_false⟩,hd,?_⟩;have:=hE2;simp only at this;rw[hlenh]at this;exact this
  |_=>exact hq.elim
 case hbody=>
  rintro l' pre y W1 Wb a1 r0 r1 hl' hl0 - hpre ⟨ρ',hb,r',ρ1,st1,hf',⟨h1,h2,h3⟩,hv,hR1,hg1,hd1,hE1⟩;have hlenh:(setMany st.h bs hb).length=st.h.length:=setMany_len _ _ _;have hlW:=hg1.at hl0;have hlt1:=(Array.getElem?_eq_some_iff.1 hl0).1;have hltW:=(Array.getElem?_eq_some_iff.1 hlW).1;have hob:∃o:Obj,W1.heap[l']?=some o/\o.isCells=false:=⟨_,hl0,rfl⟩;have hRH1:RH ρ' hb (W1.putObj l' (.loop r1)):=hRHown ⟨h1,h2,h3⟩ (row:=some l') ⟨rfl,rfl,rfl,by simp[World.putObj],λk hk hne=>World.putObj_heap_other λe=>hne (by rw[e])⟩ λr e=>by cases e;exact⟨hl',hob⟩
  have hR1':=put_root hR1 hltW hlt1 hl0 hlW r1 (λn E c hn=>by
   by_cases hb':n<st.h.length
   ·have hn':(setMany st.h bs hb)[n]?=some (.mp E c):=by
     rw[<- hn];exact(hE1.heap n hb' λhd=>by have:=Nat.le_of_ble_eq_true (List.all_eq_true.1 hd1 n hd);omega).symm
    by_cases hbb:n∈bs
    ·rcases(hbs n hbb).hle h3 with ⟨_,_,e'⟩ | ⟨_,_,e'⟩<;>(rw[e']at hn';cases hn')
    ·intro e;have hh:W1.heap[(ρ' n).a]?=some (.map E c):=h1.heap.is n _ hn';rw[hE1.ren n hb']at e;rw[show (ρ' n).a=l' from e]at hh;rw[hl0]at hh;cases hh
   ·intro e;have:=hR1.freshR n (by omega) (.mp hn);omega)
  clear hR1 hg1 hlW hltW hlt1 hl0 hob h1;generalize W1.putObj l' (.loop r1)=W at hRH1 hR1'|-
  obtain⟨h1,-,-⟩:=hRH1;refine WpX.mono (body l' st1 r' ρ' ρ1 a1 _ _ hni hv hR1') ?_;rintro e a2 W2 ⟨ρ2,st2,hk,hR2,hEx⟩;have hE':Ext (wrL ops.toList++writes x) st.h.length ρ' ρ2 { s:=runAsg l (setPs st.s ps.toList (Y'.enc y)),h:=setMany st.h bs hb,d:=[] } st2:=
   (hE1.mono (λ_ h=>List.mem_append_left _ h) (Nat.le_refl _)).trans (hEx.mono (λ_ h=>List.mem_append_right _ h) (by have:=hE1.hlen;dsimp only at this;omega))
  have good:∀{s:BS},tailI st.h.length bs st2=some s->s=getH st2.h bs/\dirtyOk st.h.length bs st2.d=true/\(getH st2.h bs).all (refLtB st.h.length)=true:=by
   intro s h;unfold tailI at h;cases hok':dirtyOk st.h.length bs st2.d&&(getH st2.h bs).all (refLtB st.h.length) with
   |false=>rw[hok']at h;cases h
   |true=>rw[hok']at h;simp only[cond_true,Option.some.injEq]at h;simp only[Bool.and_eq_true]at hok';exact⟨h.symm,hok'.1,hok'.2⟩
  have moreE:∀{o:Option BS},moreStp (X:=Exit×BS) o=some r'->∃s',o=some s'/\r'=.more s':=λ{o} h=>by cases o<;>cases h;exact⟨_,rfl,rfl⟩
  have doneE:∀{o:Option BS} {e:Exit},doneStp e o=some r'->∃s',o=some s'/\r'=.done (e,s'):=λ{o e} h=>by cases o<;>cases h;exact⟨_,rfl,rfl⟩
  have keeps:dirtyOk st.h.length bs st2.d=true->(getH st2.h bs).all (refLtB st.h.length)=true->RH ρ2 (getH st2.h bs) W2/\KeepsS (sfOf P st.h) w.heap.size W W2/\KeepL ((ns'.map λm=>(ρ m).a)++(glL st.h++boxL ρ st.h ns')) W W2:=λg1 g2=>by
   obtain⟨k1,k2,k3,k4,k5,k6⟩:=next_headI (λb hb=>.inl (hbs b hb)) h1 h3 hR2 hE' g1 g2;refine⟨⟨k1,λk hp=>(k3 k hp).trans (h2 k hp),k2⟩,⟨k6,λk hk hlt _=>k5 k hlt λb hb' e=> ?_⟩,?_⟩
   ·have h1b:=h2 b (hbs b hb').lt;have:=hR.heap.lt (hbs b hb').present;rw[h1b]at e;omega
   intro q hq C t fr hk';rcases List.mem_append.1 hq with hq|hq
   case inr=>
    refine k4 _ C t fr hk' λb hb' e=> ?_
    rcases List.mem_append.1 hq with hq|hq
    ·obtain⟨n,bg,hg,hfg⟩:=glL_mem hq;obtain⟨bg',hg',hfg'⟩:=far_hle (h3 n) hg hfg;exact h1.heap.far n _ q hg' hfg' b ((hbs b hb').hle h3).present e
    ·obtain⟨m,k,tk,c,len,Ck,ek,-,-,e2,e3,e4,rfl⟩:=boxL_mem hq;have hkb:k ∉ bs:=λhk=>by rcases hbs k hk with ⟨_,_,e5⟩ | ⟨_,_,e5⟩<;>(rw[e2]at e5;cases e5)
     have hkp:present (setMany st.h bs hb) k:=.own (by rw[setMany_other _ _ _ hkb];exact e2) e3 e4;have:b=k:=h1.heap.inj b k ((hbs b hb').hle h3).present hkp (by rw[e,h2 k (List.getElem?_eq_some_iff.1 e2).1]);exact hkb (this ▸ hb')
   obtain⟨m,hm,rfl⟩:=List.mem_map.1 hq;refine k4 _ C t fr hk' λb hb' e=> ?_
   have:b=m:=h1.heap.inj b m ((hbs b hb').hle h3).present ((hns m hm).hle h3).present (by rw[e,h2 m (hns m hm).lt]);exact hap b hb' (this ▸ hm)
  cases e with
  |normal=>obtain⟨s',ht,rfl⟩:=moreE hk;obtain⟨rfl,g1,g2⟩:=good ht;obtain⟨q1,q2,q3⟩:=keeps g1 g2;exact⟨q2,q3,ρ2,_,hf',q1⟩
  |ret=>obtain⟨s',ht,rfl⟩:=doneE hk;obtain⟨rfl,g1,g2⟩:=good ht;obtain⟨q1,q2,q3⟩:=keeps g1 g2;exact⟨q2,ρ2,_,.ret,hf',rfl,.inl rfl,q1⟩
  |exit id=>obtain⟨s',ht,rfl⟩:=doneE hk;obtain⟨rfl,g1,g2⟩:=good ht;obtain⟨q1,q2,q3⟩:=keeps g1 g2;exact⟨q2,ρ2,_,.exit id,hf',rfl,.inr ⟨id,rfl⟩,q1⟩
  |goto l=>cases hk
  |panic ch=>cases hk
  |outgrown=>cases hk
 case hdone=>
  rintro Dk W hD ⟨ρ',hb,hf,hRH⟩ hm;rw[hf]at hr;obtain⟨h1,h2⟩:=hfin hRH (hpush hRH hD hm);exact⟨ρ',_,hr,h1,h2⟩
 case hstop=>
  rintro Dk c pre W hD ⟨suf,hsuf⟩ ⟨ρ',hb,e,hf,rfl,he,hRH⟩ hm;rw[<- hsuf,foldI_app,hf]at hr;obtain⟨h1,h2⟩:=hfin hRH (hpush hRH hD hm);rcases he with rfl | ⟨id,rfl⟩
  ·exact wpX_ret ⟨ρ',_,hr,h1,h2⟩
  ·exact wpX_exit ⟨ρ',_,hr,h1,h2⟩
theorem rangeFuncX_soundA(hm:P.follows .mixedOrders=true)(hΓ:ConsOkX mn P (IConOkX mn P) Γ){g:Operand}{ps:Array Tmp}{as x:Code}{bs:List Nat}{p:Plan}{α:Type}{K:Exit->St->Option α}{r:α}{ρ:Nat->Ad}{st:St}{a:Act}{w:World}
  (body:∀ (l:Nat) (st1:St) (r':Stp BS (Exit×BS)) (ρs ρ1:Nat→Ad) (a1:Act) (W1 W:World),noIter p=true→veC P Γ N x p (Stp BS (Exit×BS)) st1 (kBodyI (lendS st).h.length bs)=some r'→R P W1 (lendS st).h.length [] ρs ρ1 st1 a1 W →
   WpX mn (some l) P x (λe a' w'=>∃ρ' st',kBodyI (lendS st).h.length bs e st'=some r'/\R P W1 (lendS st).h.length [] ρs ρ' st' a' w'/\Ext (writes x) st1.h.length ρ1 ρ' st1 st') a1 W)
  (hr:veC P Γ N (.rangeFunc g ps as x) (.iterA bs p) α st K=some r) (hR:RS E P W0 n0 D ρ0 ρ st a w) :
  WpX mn none P (.rangeFunc g ps as x) (λe a' w'=>∃ρ' st',K e st'=some r/\RS E P W0 n0 D ρ0 ρ' st' a' w'/\Ext (writes (.rangeFunc g ps as x)) st.h.length ρ ρ' st st') a w:=by
 rw[veC]at hr;have hR':RS E P W0 n0 D ρ0 ρ (lendS st) a w:=hR.lo (lend_lo st.h) (by simp) (λn len C e hn he=>absurd he (lend_no _ _ _ _ _))
 let K':Exit->St->Option α:=λe st1=>K e { s:=st1.s,h:=reown st.h st1.h,d:=st1.d }
 have hr':(match iterOf Γ (lendS st).h (asA (evO (lendS st).s g)),asgR as with
  | some (ns,Y),some (l,ops)=>
   bif Y.ok then (bif cellAll (lendS st).h ns&&cellAll (lendS st).h bs&&apart ns bs&&noIter p&&noOwn (lendS st).h then
    bindI (foldI (λy hb=>bif Nat.beq (Y.enc y).length ps.toList.length then veReg P Γ ops false (headI bs ps.toList l (lendS st) (Y.enc y) hb) (kAsg (lendS st).h.length λst1=>veC P Γ N x p (Stp BS (Exit×BS)) st1 (kBodyI (lendS st).h.length bs)) else none) Y.xs (getH (lendS st).h bs)) (λhb=>K' .normal (leftI bs (lendS st) hb)) (λe hb=>K' e (leftI bs (lendS st) hb)) else none) else none
  |_,_=>none)=some r:=by
  cases h1:iterOf Γ (lendS st).h (asA (evO (lendS st).s g)) with
  |none=>rw[h1]at hr;cases hr
  | some q=>
   rw[h1]at hr;cases h2:asgR as with
   |none=>rw[h2]at hr;cases hr
   | some lo=>
    obtain⟨l,ops⟩:=lo;rw[h2]at hr;dsimp only at hr|-
    cases hok:cellAll (lendS st).h q.1&&cellAll (lendS st).h bs&&apart q.1 bs&&noIter p&&noOwn (lendS st).h with
    |false=>rw[hok]at hr;cases hy:q.2.ok<;>rw[hy]at hr<;>cases hr
    | true=>
     rw[hok]at hr;have hb:=cellAll_mem (by simp only[Bool.and_eq_true]at hok;exact hok.1.1.1.2);have e1:∀(e:Exit) (hb:BS),K e (leftI bs st hb)=K' e (leftI bs (lendS st) hb):=λe hb'=>by
      show _=K e _
      unfold leftI lendS;dsimp only;rw[reown_left hb' hb]
     simp only[e1]at hr;exact hr
 refine WpX.mono (rangeFuncX_coreA cellAll_mem hm hΓ body hr' hR') ?_;rintro e a' w' ⟨ρ',st',k1,k2,k3⟩;refine⟨ρ',{ s:=st'.s,h:=reown st.h st'.h,d:=st'.d },k1,k2.lo (reown_lo _ _) (reown_len _ _) (λn len C e hn he=> ?_),⟨k3.slots,k3.len,λn hn hd=> ?_,k3.dirty,?_,λn=> ?_,λn hn=>k3.ren n (by show n<(st.h.map lendV).length;simpa using hn)⟩⟩
 ·rcases reown_own he with ⟨len',C',e',h⟩|h
  ·have h1:(lendS st).h[n]?=some (.sl .lent len' C' e'):=by
    show (st.h.map lendV)[n]?=_
    rw[lend_get,h];rfl
   rcases(k3.hle n).sl _ _ _ _ h1 with ⟨C2,h2⟩ | ⟨h2,-⟩
   ·rw[reown_get,h,h2]at he;cases he;exact hR.own0 n _ _ _ hn h
   ·cases h2
  ·exact k2.own0 n len C e hn h
 ·have h1:st'.h[n]?=(st.h.map lendV)[n]?:=k3.heap n (by show n<(st.h.map lendV).length;simpa using hn) hd;rw[reown_get,h1,lend_get];cases st.h[n]? with
  |none=>rfl
  |some b=>
   cases b with
   |sl k len C e=>cases k<;>rfl
   |_=>rfl
 ·have:=k3.hlen;rw[reown_len]
  simpa [lendS] using this
 ·have k:=k3.hle n;have hl:∀{b:VB},st.h[n]?=some b->(lendS st).h[n]?=some (lendV b):=λ{b} h=>by
   show (st.h.map lendV)[n]?=_
   rw[lend_get,h];rfl
  have hn:∀{b c:VB},st.h[n]?=some b->st'.h[n]?=some c->(∀len C e,b=.sl .own len C e->False)->(reown st.h st'.h)[n]?=some c:=λ{b c} hb hc hno=>by
   rw[reown_get,hb,hc,Option.map_some];split
   ·rename_i h;cases h;exact(hno _ _ _ rfl).elim
   ·rfl
  refine⟨λC t h=> ?_,λy t h=> ?_,λa len C e h=> ?_,λh=> ?_,λg t a x h=> ?_,λE c h=> ?_⟩
  ·obtain⟨C',h'⟩:=k.row C t (hl h);exact⟨C',hn h h' λ_ _ _ q=>nomatch q⟩
  ·obtain⟨C',h'⟩:=k.one y t (hl h);exact⟨C',hn h h' λ_ _ _ q=>nomatch q⟩
  ·cases a with
   |own=>
    rcases k.sl .lent len C e (hl h) with ⟨C',h'⟩ | ⟨h',-⟩
    ·exact .inl ⟨C',by rw[reown_get,h,h'];rfl⟩
    ·cases h'
   |lent=>
    rcases k.sl .lent len C e (hl h) with ⟨C',h'⟩ | ⟨h',-⟩
    ·exact .inl ⟨C',hn h h' λ_ _ _ q=>nomatch q⟩
    ·cases h'
   |came c=>
    rcases k.sl (.came c) len C e (hl h) with ⟨C',h'⟩ | ⟨h',-⟩
    ·exact .inl ⟨C',hn h h' λ_ _ _ q=>nomatch q⟩
    ·cases h'
  ·exact hn h (k.sp (hl h)) λ_ _ _ q=>nomatch q
  ·exact hn h (k.gl g t a x (hl h)) λ_ _ _ q=>nomatch q
  ·obtain⟨E1,c1,h'⟩:=k.mp E c (hl h);exact⟨E1,c1,hn h h' λ_ _ _ q=>nomatch q⟩
theorem rangeFuncX_coreB(hΓ:ConsOkX mn P (IConOkX mn P) Γ){g0:Operand}{ps:Array Tmp}{as x:Code}{bs:List Nat}{g:Nat}{t:TypeId}{p:Plan}{α:Type}{K:Exit->St->Option α}{r:α}{ρs ρ:Nat->Ad}{st0 st:St}{a:Act}{w:World}{T:TypeId}{y1:SA}{len0:Nat}{C0:Array Value}
  (body:∀ (l:Nat) (E':List Nat) (st1:St) (r':Stp BS (Exit×BS)) (ρ1:Nat→Ad) (a1:Act) (W:World),noIter p=true→veC P Γ N x p (Stp BS (Exit×BS)) st1 (kBodyIB Γ.e y1 st0.h.length bs g t)=some r'→RS E' P W (st0.h.length+1) [] ρ1 ρ1 st1 a1 W →
   WpX mn (some l) P x (λe a' w'=>∃ρ' st',kBodyIB Γ.e y1 st0.h.length bs g t e st'=some r'/\RS E' P W (st0.h.length+1) [] ρ1 ρ' st' a' w'/\Ext (writes x) st1.h.length ρ1 ρ' st1 st') a1 W)
  (hs1:st.s=st0.s) (hl1:st.h.length=st0.h.length+1) (hle1:HLe st0.h st.h) (hg1:st.h[g]?=some (.one y1 T)) (hbR0:BoxR st0.h.length st0.h.length y1 y1) (hgl:g<st0.h.length) (hm1:st.h[st0.h.length]?=some (.sl .own len0 C0 t)) (hgd:g∈st.d) (hst:∀n,n<st0.h.length->n ∉ st.d->st.h[n]?=st0.h[n]?) (hd1:∀n∈st0.d,n∈st.d) (hrens:∀k,k<st0.h.length->ρ k=ρs k)
  (hlow:∀(i:Nat) (u:SV),st.s[i]?=some u->refLtV st0.h.length u=true) (hlowB:∀(k:Nat) (b:VB),k<st0.h.length->k≠g->st.h[k]?=some b->refLtB st0.h.length b=true) (hn0:n0<=st0.h.length)
  (hr:(match iterOf Γ st.h (asA (evO st.s g0)),asgOf as with
   | some (ns,Y),some l=>
    bif Y.ok then (bif rowsAll st.h ns&&(rowsAll st.h bs&&(apart ns bs&&(noIter p&&(softT P t&&(noOwn (st.h.take st0.h.length)&&(bs.all (Nat.blt · st0.h.length)&&Nat.blt g st0.h.length)))))) then
     bindI (foldI (λy hb=>bif Nat.beq (Y.enc y).length ps.toList.length then veC P Γ N x p (Stp BS (Exit×BS)) (headI (bs++[st0.h.length]) ps.toList l st (Y.enc y) hb) (kBodyIB Γ.e y1 st0.h.length bs g t) else none) Y.xs (getH st.h (bs++[st0.h.length]))) (λhb=>K .normal (leftI (bs++[st0.h.length]) st hb)) (λe hb=>K e (leftI (bs++[st0.h.length]) st hb)) else none) else none
   |_,_=>none)=some r) (hR:RS E P W0 n0 D ρ0 ρ st a w) :
  WpX mn none P (.rangeFunc g0 ps as x) (λe a' w'=>∃ρ' st',K e st'=some r/\RS E P W0 n0 D ρ0 ρ' st' a' w'/\Ext (writes (.rangeFunc g0 ps as x)) st0.h.length ρs ρ' st0 st') a w:=by
 split at hr
 case h_2=>cases hr
 rename_i ns Y l hit hasg;cases hyok:Y.ok with
 |false=>rw[hyok]at hr;cases hr
 |true=>
 rw[hyok]at hr;simp only[cond_true]at hr;cases hok:rowsAll st.h ns&&(rowsAll st.h bs&&(apart ns bs&&(noIter p&&(softT P t&&(noOwn (st.h.take st0.h.length)&&(bs.all (Nat.blt · st0.h.length)&&Nat.blt g st0.h.length)))))) with
 |false=>rw[hok]at hr;cases hr
 |true=>
 rw[hok]at hr;simp only[cond_true]at hr;simp only[Bool.and_eq_true]at hok;obtain⟨hns,hbs,hap,hni,hsoft,hown,hblt,-⟩:=hok;generalize hm:st0.h.length=m at *;have hown:∀(k len:Nat) (C:Array Value) (e:TypeId),k<m->st.h[k]?≠some (.sl .own len C e):=λk len C e hk he=>noOwn_ne hown k len C e (by rw[List.getElem?_take,if_pos hk];exact he)
 have hns:=rowsAll_mem hns;have hbs:=rowsAll_mem hbs;have hap:=apart_mem hap;have hblt:∀b∈bs,b<m:=λb hb=>by
  rw[List.all_eq_true]at hblt;have:=hblt b hb;simp[Nat.blt]at this;omega
 have hbs2:∀b∈bs,(∃C t,st.h[b]?=some (.row C t))/\b<m:=λb hb=>⟨hbs b hb,hblt b hb⟩
 generalize hstep:(λ(y:Y.X) (hb:BS)=>bif Nat.beq (Y.enc y).length ps.toList.length then veC P Γ N x p (Stp BS (Exit×BS)) (headI (bs++[m]) ps.toList l st (Y.enc y) hb) (kBodyIB Γ.e y1 m bs g t) else none)=step at hr
 -- the iterator
 unfold iterOf at hit;have hgv:=asA_is (evO_is hR.slots g0);split at hit
 case h_2=>cases hit
 rename_i f ns' hcl;split at hit
 case h_2=>cases hit
 rename_i I hI;split at hit
 case h_2=>cases hit
 rename_i Y' hY;simp only[Option.some.injEq,Prod.mk.injEq]at hit;obtain⟨rfl,rfl⟩:=hit;rw[hcl]at hgv;obtain⟨hgv,-⟩:=hgv;obtain⟨hico,hent⟩:=hΓ.i f I hI;obtain⟨hknown,hseq⟩:=hico ρ st.h w ns' Y' hY hyok hR.heap (λn hn=>.inl (hns n hn));have hnm:∀q∈ns',q<m:=λq hq=>by
  obtain⟨C,t',e⟩:=hns q hq;have hlt:=(List.getElem?_eq_some_iff.1 e).1
  by_cases hqm:q=m
  ·subst hqm;rw[hm1]at e;cases e
  ·omega
 have hW0:W0.heap.size<=w.heap.size:=hR.kept.size;have hmarks:∀m,({ target:=.collected m,args:=#[] }:Deferred)∈a.defers->m<w.heap.size:=λm hm=>by
  obtain⟨m',e,_,h2⟩:=hR.defers.all _ hm;cases e;exact(Array.getElem?_eq_some_iff.1 h2).1
 let HH:BS->List VB:=λhb=>setMany st.h (bs++[m]) hb
 let RH:(Nat->Ad)->BS->World->Prop:=λρ' hb W=>RS E P W0 n0 (st.d++D) ρ0 ρ' { s:=st.s,h:=setMany st.h (bs++[m]) hb,d:=bs++[m] } a W/\(∀k,k<m->ρ' k=ρ k)/\HLe st0.h (setMany st.h (bs++[m]) hb)/\(∀k,k<m->HLeN st.h (setMany st.h (bs++[m]) hb) k)/\∃len C,(setMany st.h (bs++[m]) hb)[m]?=some (.sl .own len C t)
 have hRHown:∀{ρ' hb W W' row},RH ρ' hb W->W.grownBy W' row->(∀r,row=some r->w.heap.size<=r/\∃o:Obj,W.heap[r]?=some o/\o.isCells=false)->RH ρ' hb W':=
  λ h hg hrow=>⟨h.1.grown hg hrow hW0 hmarks (λ n E c hn=>by
   dsimp only at hn
   by_cases hb':n∈bs++[m]
   ·rcases List.mem_append.1 hb' with hb' | hb'
    ·obtain⟨⟨C,t,e⟩,hlt⟩:=hbs2 n hb';obtain⟨C',e'⟩:=(h.2.2.2.1 n hlt).row _ _ e;rw[e']at hn;cases hn
    ·obtain rfl:=List.mem_singleton.1 hb';obtain⟨_,_,e'⟩:=h.2.2.2.2;rw[e']at hn;cases hn
   ·rw[setMany_other _ _ _ hb']at hn;have hlt:=(List.getElem?_eq_some_iff.1 hn).1;have hne:n≠m:=λe=>hb' (List.mem_append_right _ (List.mem_singleton.2 e))
    rw[h.2.1 n (by omega)];exact hR.heap.lt (.mp hn)),h.2⟩
 have hself:setMany st.h (bs++[m]) (getH st.h (bs++[m]))=st.h:=by
  refine List.ext_getElem? λi=> ?_
  rw[setMany_get (g:=λc=>st.h.getD c .no) (bs++[m]) _ _ i (getH_map _ _)];split
  ·rename_i h;rw[List.getD_eq_getElem?_getD,List.getElem?_eq_getElem h.2];rfl
  ·rfl
 have hfin:∀{ρ' hb W} {ds:List Deferred},RH ρ' hb W->DefOk W0 ds W->RS E P W0 n0 D ρ0 ρ' (leftI (bs++[m]) st hb) { a with defers:=ds } W/\Ext (writes (.rangeFunc g0 ps as x)) m ρs ρ' st0 (leftI (bs++[m]) st hb):=by
  rintro ρ' hb W ds ⟨h1,h2,h3,-,-⟩ hds;refine⟨⟨h1.len,h1.slots,h1.heap,h1.base,h1.fresh,h1.kept.mono λk _ ⟨q,e1,e2,e3⟩=>⟨q,e1,?_,e3⟩,h1.own0,hds,h1.bound⟩,⟨λi _=>by simp only[leftI];rw[hs1],by simp only[leftI];rw[hs1],λq hq hd=> ?_,λq hq=>List.mem_append_right _ (hd1 q hq),?_,h3,λq hq=>(h2 q hq).trans (hrens q hq)⟩⟩
  ·simp only[leftI,List.mem_append]at e2|-
   rcases e2 with e2 | (e2|e2)|e2
   ·exact .inl (.inl e2)
   ·exact .inl (.inr e2)
   ·exact .inr (.inl e2)
   ·exact .inr (.inr e2)
  ·simp only[leftI]at hd|-
   rw[setMany_other _ _ _ λhb'=>hd (List.mem_append_left _ hb')];exact hst q hq λh=>hd (List.mem_append_right _ h)
  ·simp only[leftI];rw[setMany_len,hl1];omega
 have hpush:∀{ρ' hb W} {Dk:Nat},RH ρ' hb W->w.heap.size<=Dk->W.heap[Dk]?=some (.deferred (some []))->DefOk W0 ({ target:=.collected Dk,args:=#[] }::a.defers) W:=λh hD hm=>
  h.1.defers.push (Nat.le_trans hW0 hD) hm λk hk=>by have:=hmarks k hk;omega
 have hone:∀(pre:List Y'.X) (y:Y'.X) (hb:BS),foldI step pre (getH st.h (bs++[m]))=some (.more hb)->pre++[y] <+: Y'.xs ->
   ∃r',step y hb=some r'/\foldI step (pre++[y]) (getH st.h (bs++[m]))=some r'/\(Y'.enc y).length=ps.toList.length/\veC P Γ N x p (Stp BS (Exit×BS)) (headI (bs++[m]) ps.toList l st (Y'.enc y) hb) (kBodyIB Γ.e y1 m bs g t)=some r':=by
  rintro pre y hb hf ⟨suf,hsuf⟩;cases hs:step y hb with
  |none=>rw[<- hsuf,List.append_assoc,foldI_app,hf]at hr;simp[foldI,hs,bindI]at hr
  | some r'=>
   refine⟨r',rfl,?_,?_⟩
   ·rw[foldI_app,hf];simp only[foldI,hs];cases r'<;>rfl
   ·rw[<- hstep]at hs;dsimp only at hs;cases hb':Nat.beq (Y'.enc y).length ps.toList.length with
    |false=>rw[hb']at hs;cases hs
    |true=>rw[hb']at hs;exact⟨Nat.eq_of_beq_eq_true hb',hs⟩
 refine wpX_rangeFunc_V (α:=Y'.X) (v0:=w) hgv hent hseq
  (λ{A B C} h k q hq Ce t fr e=>k q hq Ce t fr (h q hq Ce t fr e))
  (fun W l' o o' hl ho hc _ k hk C t fr e=>by
   have:l'≠k:=λe'=>by subst e';rw[ho]at e;cases e;cases hc
   rw[World.putObj_heap_other (Ne.symm this)];exact e)
  (λ{A B} hAB k _ C t fr e=>hAB.at e)
  (Ge.refl w)
  (λpre W=>∃ρ' hb,foldI step pre (getH st.h (bs++[m]))=some (.more hb)/\RH ρ' hb W)
  (λc pre W=>∃ρ' hb e,foldI step pre (getH st.h (bs++[m]))=some (.done (e,hb))/\c=exCode e/\(e=.ret\/∃id,e=.exit id)/\RH ρ' hb W)
  ?hps ?hI ?hIx ?h0 (λy=>actAsg l { tmps:=(ps.zip ((Y'.enc y).map Ve.valOf).toArray).foldl (λt (p,v)=>t.setIfInBounds p v) a.tmps,defers:=[] }) ?hassign ?hbody ?hdone ?hstop
 case hps=>
  rintro pre y W ⟨ρ',hb,hf,-⟩ hpre;obtain⟨r',hs,-,hlen,-⟩:=hone pre y hb hf hpre;simp[hlen]
 case hI=>exact λpre W W' row ⟨ρ',hb,h1,h2⟩ hg hrow=>⟨ρ',hb,h1,hRHown h2 hg hrow⟩
 case hIx=>exact λc pre W W' row ⟨ρ',hb,e,h1,h2,h3,h4⟩ hg hrow=>⟨ρ',hb,e,h1,h2,h3,hRHown h4 hg hrow⟩
 case h0=>
  refine⟨ρ,getH st.h (bs++[m]),rfl,⟨hR.len,?_,?_,hR.base,?_,hR.kept.mono λk _ ⟨q,e1,e2,e3⟩=>⟨q,e1,.inr (by simp only[List.mem_append];exact or_assoc.2 e2),e3⟩,?_,hR.defers,?_⟩,λ_ _=>rfl,?_,λ_ _=> ?_,?_⟩
  all_goals ((try dsimp only);rw[hself])
  ·exact hR.slots
  ·exact hR.heap
  ·exact hR.fresh
  ·exact hR.own0
  ·exact hR.bound
  ·exact hle1
  ·exact .same rfl
  ·exact⟨_,_,hm1⟩
 case hassign=>exact λl' y W=>asgX hasg
 case hbody=>
  rintro l' pre y W hl' - ⟨ρ',hb,hf,h1,h2,h3,h4,len,C,hmo⟩ hpre;obtain⟨r',hs,hf',hlen,hv⟩:=hone pre y hb hf hpre;have hlenh:(setMany st.h (bs++[m]) hb).length=m+1:=by rw[setMany_len];exact hl1
  -- an empty slice's block lies nowhere
  obtain⟨ρ1,hR1,hre1,hz⟩:∃ρ1:Nat->Ad,RS E P W0 n0 (st.d++D) ρ0 ρ1 { s:=st.s,h:=setMany st.h (bs++[m]) hb,d:=bs++[m] } a W/\(∀k,k<m->ρ1 k=ρ' k)/\(len=0->W.heap.size<=(ρ1 m).a):=by
   by_cases h0:len=0
   ·subst h0;exact⟨_,h1.reown hmo hn0 ⟨W.heap.size,0⟩,λk hk=>if_neg (by omega),λ_=>by simp⟩
   ·exact⟨ρ',h1,λ_ _=>rfl,λh=>absurd h h0⟩
  have h2:∀k,k<m->ρ1 k=ρ k:=λk hk=>(hre1 k hk).trans (h2 k hk)
  clear h1 hre1;have hroot:=hR1.root (E':=if len=0 then [] else [m]) λk len' C' e he=>by
   dsimp only at he;have hkl:k<m+1:=by rw[<- hlenh];exact(List.getElem?_eq_some_iff.1 he).1
   by_cases hkm:k=m
   ·subst hkm;rw[hmo]at he;cases he
    by_cases h0:len=0
    ·exact .inl h0
    ·rw[if_neg h0];exact .inr (List.mem_singleton.2 rfl)
   ·exfalso
    by_cases hkb:k∈bs
    ·obtain⟨C',t',e1⟩:=hbs k hkb;obtain⟨C2,e2⟩:=(h4 k (by omega)).row _ _ e1;rw[e2]at he;cases he
    ·rw[setMany_other _ _ _ (λh=>by rcases List.mem_append.1 h with h|h;exact hkb h;simp at h;omega)]at he;exact hown k _ _ _ (by omega) he
  dsimp only at hroot;rw[hlenh]at hroot;have hE':∀q∈(if len=0 then ([]:List Nat) else [m]),q=m/\len≠0:=λq hq=>by
   by_cases h0:len=0
   ·rw[if_pos h0]at hq;cases hq
   ·rw[if_neg h0]at hq;exact⟨List.mem_singleton.1 hq,h0⟩
  have hA:AllIs P ρ1 (setMany st.h (bs++[m]) hb) (Y'.enc y) ((Y'.enc y).map Ve.valOf):=vals_known (hknown pre y hpre);have hset:=(RS.setPs ps.toList (Y'.enc y) ((Y'.enc y).map Ve.valOf) hroot hlen hA).runAsg l;dsimp only at hset;have hact:(ps.zip ((Y'.enc y).map Ve.valOf).toArray).foldl (λt (x:Nat×Value)=>t.setIfInBounds x.1 x.2) a.tmps=(ps.toList.zip ((Y'.enc y).map Ve.valOf)).foldl (λt (x:Nat×Value)=>t.setIfInBounds x.1 x.2) a.tmps:=by rw[<- Array.foldl_toList,Array.toList_zip]
  refine WpX.mono (body l' _ (headI (bs++[m]) ps.toList l st (Y'.enc y) hb) r' ρ1 _ W hni hv (by
   simp only[headI];rw[hact];exact hset)) ?_
  rintro e a2 W2 ⟨ρ2,st2,hk,hR2,hE⟩;replace hk:=kBodyIB_q hk;have hE2:Ext (writes x) (m+1) ρ1 ρ2 { s:=runAsg l (setPs st.s ps.toList (Y'.enc y)),h:=setMany st.h (bs++[m]) hb,d:=[] } st2:=by have:=hE;simp only[headI]at this;rw[hlenh]at this;exact this
  have good:∀{s:BS},tailIB Γ.e y1 m bs g t st2=some s->∃n T2 len2 C2 y',s=getH st2.h bs++[.sl .own len2 C2 t]/\st2.h[g]?=some (.one y' T2)/\BoxR m n y1 y'/\st2.h[n]?=some (.sl .own len2 C2 t)/\m<=n/\dirtyOk m (g::bs) st2.d=true/\(getH st2.h bs).all (refLtB m)=true:=by
   intro s h;unfold tailIB at h;split at h
   case h_2=>cases h
   rename_i b hgb';obtain⟨n,T2,len2,C2,y',hg,hbR,hown2,hmn,rfl⟩:=grownB_is hΓ.e hbR0 hgb';cases hok':dirtyOk m (g::bs) st2.d&&(getH st2.h bs).all (refLtB m) with
   |false=>rw[hok']at h;cases h
   |true=>rw[hok']at h;simp only[cond_true,Option.some.injEq]at h;simp only[Bool.and_eq_true]at hok';exact⟨n,T2,len2,C2,y',h.symm,hg,hbR,hown2,hmn,hok'.1,hok'.2⟩
  have moreE:∀{o:Option BS},moreStp (X:=Exit×BS) o=some r'->∃s',o=some s'/\r'=.more s':=λ{o} h=>by cases o<;>cases h;exact⟨_,rfl,rfl⟩
  have doneE:∀{o:Option BS} {e:Exit},doneStp e o=some r'->∃s',o=some s'/\r'=.done (e,s'):=λ{o e} h=>by cases o<;>cases h;exact⟨_,rfl,rfl⟩
  have hsf:∀t,softT P t=true->sfOf P st.h t=true:=λt ht=>by
   unfold sfOf;rw[ht,Bool.and_true];cases hno:noOwn st.h with|false=>rfl|true=>exact absurd hm1 (noOwn_ne hno _ _ _ _)
  have keeps:∀ {s:BS},tailIB Γ.e y1 m bs g t st2=some s→∃ ρ3,RH ρ3 s W2∧KeepsX P w.heap.size W W2∧KeepL ((ns'.map fun m=>(ρ m).a)++(glL st.h++boxL ρ st.h ns')) W W2:=fun {s} hts=>by
   obtain⟨n,T2,len2,C2,y',rfl,hg,hbR,hown2,hmn,g1,g2⟩:=good hts;obtain⟨k1,k2,k3,k4,k5,k6,k7⟩:=next_headIB (h0:=st0.h) hm hl1 hg1 hgl hgd hbs2 hlow hown hn0 hlowB hmo h3 h4 hR1 hz hE' hR2 hE2 hg hbR hown2 hmn g1 g2;have hhg:(setMany st.h (bs++[m]) hb)[g]?=some (.one y1 T):=by
    rw[setMany_other _ _ _ (λh=>by
     rcases List.mem_append.1 h with h|h
     ·obtain⟨C',t',e1⟩:=hbs g h;rw[hg1]at e1;cases e1
     ·simp at h;omega)]
    exact hg1
   have hrowp:∀b∈bs,present (setMany st.h (bs++[m]) hb) b:=λb hb'=>by
    obtain⟨Cb,tb,eb⟩:=hbs b hb';obtain⟨Cb',eb'⟩:=(h4 b (hblt b hb')).row _ _ eb;exact .row eb'
   have hgp:∀b∈g::bs,present (setMany st.h (bs++[m]) hb) b:=λb hb'=>by
    rcases List.mem_cons.1 hb' with rfl|hb'
    ·exact .one hhg
    ·exact hrowp b hb'
   have hgb2:∀b∈g::bs,b<m:=λb hb'=>by
    rcases List.mem_cons.1 hb' with rfl|hb'
    ·exact hgl
    ·exact hblt b hb'
   have hold:∀b∈g::bs,(ρ1 b).a<w.heap.size:=λb hb'=>by
    rw[h2 b (hgb2 b hb')];rcases List.mem_cons.1 hb' with rfl|hb'
    ·exact hR.heap.lt (.one hg1)
    ·obtain⟨C,t',eb⟩:=hbs b hb';exact hR.heap.lt (.row eb)
   refine⟨_,⟨k1,λk hk=> ?_,k2,k3,_,_,k4⟩,⟨k7,λk hk hlt hs=>k6 k hlt (λb hb' e=> ?_) λh0 e=> ?_⟩,?_⟩
   ·show (if k=m then ρ2 n else ρ2 k)=ρ k
    rw[if_neg (by omega),k5 k hk,h2 k hk]
   ·have:=hold b hb';omega
   ·obtain⟨_,C',t',hc,hor⟩:=(hR1.heap.is m _ hmo).2 rfl h0;rw[e]at hc;have:=hs _ _ _ hc;rcases hor with ⟨-,hst⟩ | ⟨rfl,-⟩
    ·rw[hst]at this;cases this
    ·rw[hsoft]at this;cases this
   ·intro q hq C' t' fr hk';have hqlt:q<W.heap.size:=(Array.getElem?_eq_some_iff.1 hk').1;rw[k6 q hqlt (λb hb' e=> ?_) λh0 e=> ?_]
    ·exact hk'
    ·rcases List.mem_append.1 hq with hq|hq
     case inr=>
      rcases List.mem_append.1 hq with hq|hq
      case inr=>
       obtain⟨m9,_,_,_,_,_,_,hm9,e9,_⟩:=boxL_mem hq;obtain⟨_,_,e8⟩:=hns m9 hm9;rw[e8]at e9;cases e9
      obtain⟨n',bg,hg',hfg⟩:=glL_mem hq;have hn'm:n'<m:=by
       have hlt:=(List.getElem?_eq_some_iff.1 hg').1
       by_cases hqm:n'=m
       ·subst hqm;rw[hm1]at hg';cases hg';exact hfg.elim
       ·omega
      obtain⟨_,hg2,hf2⟩:=far_hle (h4 n' hn'm) hg' hfg;exact hR1.heap.far n' _ q hg2 hf2 b (hgp b hb') e
     obtain⟨m',hm',rfl⟩:=List.mem_map.1 hq;obtain⟨Cm,tm,em⟩:=hns m' hm';obtain⟨Cm',em'⟩:=(h4 m' (hnm m' hm')).row _ _ em;have hbm:b=m':=hR1.heap.inj b m' (hgp b hb') (.row em') (by rw[e,h2 m' (hnm m' hm')]);rcases List.mem_cons.1 hb' with hbg|hb'
     ·subst hbm;subst hbg;rw[hg1]at em;cases em
     ·exact hap b hb' (hbm ▸ hm')
    ·have hpm:present (setMany st.h (bs++[m]) hb) m:=.own hmo rfl h0;rcases List.mem_append.1 hq with hq|hq
     case inr=>
      rcases List.mem_append.1 hq with hq|hq
      case inr=>
       obtain⟨m9,_,_,_,_,_,_,hm9,e9,_⟩:=boxL_mem hq;obtain⟨_,_,e8⟩:=hns m9 hm9;rw[e8]at e9;cases e9
      obtain⟨n',bg,hg',hfg⟩:=glL_mem hq;have hn'm:n'<m:=by
       have hlt:=(List.getElem?_eq_some_iff.1 hg').1
       by_cases hqm:n'=m
       ·subst hqm;rw[hm1]at hg';cases hg';exact hfg.elim
       ·omega
      obtain⟨_,hg2,hf2⟩:=far_hle (h4 n' hn'm) hg' hfg;exact hR1.heap.far n' _ q hg2 hf2 m hpm e
     obtain⟨m',hm',rfl⟩:=List.mem_map.1 hq;obtain⟨Cm,tm,em⟩:=hns m' hm';obtain⟨Cm',em'⟩:=(h4 m' (hnm m' hm')).row _ _ em;have hbm:m=m':=hR1.heap.inj m m' hpm (.row em') (by rw[e,h2 m' (hnm m' hm')]);have:=hnm m' hm';omega
  cases e with
  |normal=>obtain⟨s',ht,rfl⟩:=moreE hk;obtain⟨ρ3,q1,q2,q3⟩:=keeps ht;exact⟨q2.weak hsf,q3,ρ3,_,hf',q1⟩
  |ret=>obtain⟨s',ht,rfl⟩:=doneE hk;obtain⟨ρ3,q1,q2,q3⟩:=keeps ht;exact⟨q2.weak hsf,ρ3,_,.ret,hf',rfl,.inl rfl,q1⟩
  |exit id=>obtain⟨s',ht,rfl⟩:=doneE hk;obtain⟨ρ3,q1,q2,q3⟩:=keeps ht;exact⟨q2.weak hsf,ρ3,_,.exit id,hf',rfl,.inr ⟨id,rfl⟩,q1⟩
  |goto l=>cases hk
  |panic ch=>cases hk
  |outgrown=>cases hk
 case hdone=>
  rintro Dk W hD ⟨ρ',hb,hf,hRH⟩ hm;rw[hf]at hr;obtain⟨h1,h2⟩:=hfin hRH (hpush hRH hD hm);exact⟨ρ',_,hr,h1,h2⟩
 case hstop=>
  rintro Dk c pre W hD ⟨suf,hsuf⟩ ⟨ρ',hb,e,hf,rfl,he,hRH⟩ hm;rw[<- hsuf,foldI_app,hf]at hr;obtain⟨h1,h2⟩:=hfin hRH (hpush hRH hD hm);rcases he with rfl | ⟨id,rfl⟩
  ·exact wpX_ret ⟨ρ',_,hr,h1,h2⟩
  ·exact wpX_exit ⟨ρ',_,hr,h1,h2⟩
theorem rangeFuncX_soundB(hΓ:ConsOkX mn P (IConOkX mn P) Γ){g0:Operand}{ps:Array Tmp}{as x:Code}{bs:List Nat}{g:Nat}{t:TypeId}{p:Plan}{α:Type}{K:Exit->St->Option α}{r:α}{ρ:Nat->Ad}{st:St}{a:Act}{w:World}
  (body:∀ (y1:SA) (l:Nat) (E':List Nat) (st1:St) (r':Stp BS (Exit×BS)) (ρ1:Nat→Ad) (a1:Act) (W:World),noIter p=true→veC P Γ N x p (Stp BS (Exit×BS)) st1 (kBodyIB Γ.e y1 st.h.length bs g t)=some r'→RS E' P W (st.h.length+1) [] ρ1 ρ1 st1 a1 W →
   WpX mn (some l) P x (λe a' w'=>∃ρ' st',kBodyIB Γ.e y1 st.h.length bs g t e st'=some r'/\RS E' P W (st.h.length+1) [] ρ1 ρ' st' a' w'/\Ext (writes x) st1.h.length ρ1 ρ' st1 st') a1 W)
  (hr:veC P Γ N (.rangeFunc g0 ps as x) (.iterB bs g t p) α st K=some r) (hR:RS E P W0 n0 D ρ0 ρ st a w) :
  WpX mn none P (.rangeFunc g0 ps as x) (λe a' w'=>∃ρ' st',K e st'=some r/\RS E P W0 n0 D ρ0 ρ' st' a' w'/\Ext (writes (.rangeFunc g0 ps as x)) st.h.length ρ ρ' st st') a w:=by
 rw[veC]at hr;split at hr
 case h_2=>cases hr
 rename_i st1 hprep;obtain⟨ρ1,T,len,C,y1,hR1,hs1,hl1,hle1,hg1,hbR0,hgl,hm1,hgd,hst,hst2,hd1,hren1⟩:=prepB_sound hR hprep;have hby:boxY st1 g=y1:=by unfold boxY;rw[hg1]
 rw[hby]at hr;refine rangeFuncX_coreB (ρs:=ρ) (st0:=st) hΓ (body y1) hs1 hl1 hle1 hg1 hbR0 hgl hm1 hgd hst hd1 hren1 (λi u hu=> ?_) (λk b hk hkg hb=> ?_) hR.bound hr hR1
 ·rw[hs1]at hu;exact(hR.slots i u hu).lt
 ·rcases hst2 k hk hkg with h|h
  ·rw[h]at hb;exact(hR.heap.is k b hb).lt
  ·rw[h]at hb;cases hb;rfl
theorem loopX_rounds{c:Code}{p:Plan}{cs bs:List Nat}(hcs:cs.all (elemN · (writes c))=true){α:Type}{K:Exit->St->Option α}{r:α}{st:St}{ρs:Nat->Ad}
  (body:∀ (s:LS) (r':Stp LS (Exit×LS)) (ρ:Nat→Ad) (a:Act) (w:World),
   veC P Γ N c p (Stp LS (Exit×LS)) (head (writes c) cs bs st s) (kBody st.h.length cs bs)=some r'->RS E P W0 n0 (st.d++D) ρ0 ρ (head (writes c) cs bs st s) a w ->
   WpX mn ro P c (λe a' w'=>∃ρ' st',kBody st.h.length cs bs e st'=some r'/\RS E P W0 n0 (st.d++D) ρ0 ρ' st' a' w'/\Ext (writes c) (head (writes c) cs bs st s).h.length ρ ρ' (head (writes c) cs bs st s) st') a w) :
  ∀(m:Nat) (s:LS) (ρ:Nat->Ad) (a:Act) (w:World),
   bindX (iterO (λs=>veC P Γ N c p (Stp LS (Exit×LS)) (head (writes c) cs bs st s) (kBody st.h.length cs bs)) m s) (λe s=>K e (left (writes c) cs bs st s))=some r ->
   RS E P W0 n0 (st.d++D) ρ0 ρ (head (writes c) cs bs st s) a w->HLe st.h (head (writes c) cs bs st s).h->(∀k,k<st.h.length->ρ k=ρs k) ->
   RoundsX mn ro P c (λe a' w'=>∃ρ' st',K e st'=some r/\RS E P W0 n0 D ρ0 ρ' st' a' w'/\Ext (writes c) st.h.length ρs ρ' st st') m a w
 |0,s,ρ,a,w,hr,_,_,_=>by simp[iterO,bindX]at hr
 | m+1,s,ρ,a,w,hr,hR,hhl,hren=>by
  rw[iterO]at hr;rw[RoundsX];have good:∀{st':St} {s':LS},tail st.h.length cs bs st'=some s'->s'=(getS st'.s cs,getH st'.h bs)/\dirtyOk st.h.length bs st'.d=true/\(getS st'.s cs).all (refLtV st.h.length)=true/\(getH st'.h bs).all (refLtB st.h.length)=true:=by
   intro st' s' h;unfold tail at h;cases hok:dirtyOk st.h.length bs st'.d&&((getS st'.s cs).all (refLtV st.h.length)&&(getH st'.h bs).all (refLtB st.h.length)) with
   |false=>rw[hok]at h;cases h
   |true=>rw[hok]at h;simp only[cond_true,Option.some.injEq]at h;simp only[Bool.and_eq_true]at hok;exact⟨h.symm,hok.1,hok.2.1,hok.2.2⟩
  have moreE:∀{o:Option LS} {s':LS},moreStp (X:=Exit×LS) o=some (.more s')->o=some s':=λ{o s'} h=>by cases o<;>cases h;rfl
  have moreN:∀{o:Option LS} {x:Exit×LS},moreStp (X:=Exit×LS) o=some (.done x)->False:=λ{o x} h=>by cases o<;>cases h
  have doneE:∀{o:Option LS} {e:Exit} {x:Exit×LS},doneStp e o=some (.done x)->∃s',o=some s'/\x=(e,s'):=λ{o e x} h=>by cases o<;>cases h;exact⟨_,rfl,rfl⟩
  have doneN:∀{o:Option LS} {e:Exit} {s':LS},doneStp e o=some (.more s')->False:=λ{o e s'} h=>by cases o<;>cases h
  cases hs':veC P Γ N c p (Stp LS (Exit×LS)) (head (writes c) cs bs st s) (kBody st.h.length cs bs) with
  |none=>rw[hs']at hr;simp[bindX]at hr
  | some x=>
   rw[hs']at hr;cases x with
   | more s'=>
    dsimp only at hr;refine WpX.mono (body s _ ρ a w hs' hR) ?_;rintro e a' w' ⟨ρ',st',hk,hR',hE⟩;cases e with
    |normal=>obtain⟨rfl,h1,h2,h3⟩:=good (moreE hk);obtain⟨hR2,hhl2⟩:=next_head hR hR' hE hhl h1 h2 h3;exact loopX_rounds hcs body m _ ρ' a' w' hr hR2 hhl2 λk hk'=>(hE.ren k (by rw[show (head (writes c) cs bs st s).h.length=st.h.length from setMany_len _ _ _];exact hk')).trans (hren k hk')
    |exit id=>exact(doneN hk).elim
    |goto l=>exact(doneN hk).elim
    |ret=>exact(doneN hk).elim
    |panic ch=>cases hk
    |outgrown=>cases hk
   | done x=>
    simp only[bindX]at hr;refine WpX.mono (body s _ ρ a w hs' hR) ?_;rintro e a' w' ⟨ρ',st',hk,hR',hE⟩;have fin:doneStp e (tail st.h.length cs bs st')=some (.done x)->∃ρ' st',K e st'=some r/\RS E P W0 n0 D ρ0 ρ' st' a' w'/\Ext (writes c) st.h.length ρs ρ' st st':=λh=>by
     obtain⟨s',hs,rfl⟩:=doneE h;obtain⟨rfl,h1,h2,h3⟩:=good hs;obtain⟨hR2,hhl2⟩:=next_head hR hR' hE hhl h1 h2 h3;obtain⟨h4,h5⟩:=left_loop hcs hR2 hhl2 λk hk'=>(hE.ren k (by rw[show (head (writes c) cs bs st s).h.length=st.h.length from setMany_len _ _ _];exact hk')).trans (hren k hk')
     exact⟨ρ',_,hr,h4,h5⟩
    cases e with
    |normal=>exact(moreN hk).elim
    |exit id=>exact fin hk
    |goto l=>exact fin hk
    |ret=>exact fin hk
    |panic ch=>cases hk
    |outgrown=>cases hk
theorem loopX_roundsR{c:Code}{p:Plan}{cs bs:List Nat}(hcs:cs.all (elemN · (writes c))=true){α:Type}{K:Exit->St->Option α}{r:α}{st:St}{ρs:Nat->Ad}
  (body:∀ (s:LS) (r':Stp LS ((Exit×LS) ⊕ α)) (ρ:Nat→Ad) (a:Act) (w:World),
   veC P Γ N c p (Stp LS ((Exit×LS)⊕α)) (head (writes c) cs bs st s) (kBodyR st.h.length cs bs st K)=some r'->RS E P W0 n0 (st.d++D) ρ0 ρ (head (writes c) cs bs st s) a w ->
   WpX mn ro P c (λe a' w'=>∃ρ' st',kBodyR st.h.length cs bs st K e st'=some r'/\RS E P W0 n0 (st.d++D) ρ0 ρ' st' a' w'/\Ext (writes c) (head (writes c) cs bs st s).h.length ρ ρ' (head (writes c) cs bs st s) st') a w) :
  ∀(m:Nat) (s:LS) (ρ:Nat->Ad) (a:Act) (w:World),
   bindR (iterO (λs=>veC P Γ N c p (Stp LS ((Exit×LS)⊕α)) (head (writes c) cs bs st s) (kBodyR st.h.length cs bs st K)) m s) (λe s=>K e (left (writes c) cs bs st s))=some r ->
   RS E P W0 n0 (st.d++D) ρ0 ρ (head (writes c) cs bs st s) a w->HLe st.h (head (writes c) cs bs st s).h->(∀k,k<st.h.length->ρ k=ρs k) ->
   RoundsX mn ro P c (λe a' w'=>∃ρ' st',K e st'=some r/\RS E P W0 n0 D ρ0 ρ' st' a' w'/\Ext (writes c) st.h.length ρs ρ' st st') m a w
 |0,s,ρ,a,w,hr,_,_,_=>by simp[iterO,bindR]at hr
 | m+1,s,ρ,a,w,hr,hR,hhl,hren=>by
  rw[iterO]at hr;rw[RoundsX];have good:∀{st':St} {s':LS},tail st.h.length cs bs st'=some s'->s'=(getS st'.s cs,getH st'.h bs)/\dirtyOk st.h.length bs st'.d=true/\(getS st'.s cs).all (refLtV st.h.length)=true/\(getH st'.h bs).all (refLtB st.h.length)=true:=by
   intro st' s' h;unfold tail at h;cases hok:dirtyOk st.h.length bs st'.d&&((getS st'.s cs).all (refLtV st.h.length)&&(getH st'.h bs).all (refLtB st.h.length)) with
   |false=>rw[hok]at h;cases h
   |true=>rw[hok]at h;simp only[cond_true,Option.some.injEq]at h;simp only[Bool.and_eq_true]at hok;exact⟨h.symm,hok.1,hok.2.1,hok.2.2⟩
  have moreE:∀{o:Option LS} {s':LS},moreStp (X:=(Exit×LS)⊕α) o=some (.more s')->o=some s':=λ{o s'} h=>by cases o<;>cases h;rfl
  have moreN:∀{o:Option LS} {x:(Exit×LS)⊕α},moreStp (X:=(Exit×LS)⊕α) o=some (.done x)->False:=λ{o x} h=>by cases o<;>cases h
  have doneE:∀{o:Option LS} {e:Exit} {x:(Exit×LS)⊕α},doneI e o=some (.done x)->∃s',o=some s'/\x=.inl (e,s'):=λ{o e x} h=>by cases o<;>cases h;exact⟨_,rfl,rfl⟩
  have doneN:∀{o:Option LS} {e:Exit} {s':LS},doneI (α:=α) e o=some (.more s')->False:=λ{o e s'} h=>by cases o<;>cases h
  have doneAN:∀{o:Option α} {s':LS},doneA (S:=LS) o=some (.more s')->False:=λ{o s'} h=>by cases o<;>cases h
  cases hs':veC P Γ N c p (Stp LS ((Exit×LS)⊕α)) (head (writes c) cs bs st s) (kBodyR st.h.length cs bs st K) with
  |none=>rw[hs']at hr;simp[bindR]at hr
  | some x=>
   rw[hs']at hr;cases x with
   | more s'=>
    dsimp only at hr;refine WpX.mono (body s _ ρ a w hs' hR) ?_;rintro e a' w' ⟨ρ',st',hk,hR',hE⟩;cases e with
    |normal=>obtain⟨rfl,h1,h2,h3⟩:=good (moreE hk);obtain⟨hR2,hhl2⟩:=next_head hR hR' hE hhl h1 h2 h3;exact loopX_roundsR hcs body m _ ρ' a' w' hr hR2 hhl2 λk hk'=>(hE.ren k (by rw[show (head (writes c) cs bs st s).h.length=st.h.length from setMany_len _ _ _];exact hk')).trans (hren k hk')
    |exit id=>exact(doneN hk).elim
    |goto l=>exact(doneN hk).elim
    |ret=>exact(doneAN hk).elim
    |panic ch=>cases hk
    |outgrown=>cases hk
   | done x=>
    refine WpX.mono (body s _ ρ a w hs' hR) ?_;rintro e a' w' ⟨ρ',st',hk,hR',hE⟩;have fin:doneI e (tail st.h.length cs bs st')=some (.done x)->∃ρ' st',K e st'=some r/\RS E P W0 n0 D ρ0 ρ' st' a' w'/\Ext (writes c) st.h.length ρs ρ' st st':=λh=>by
     obtain⟨s',hs,rfl⟩:=doneE h;simp only[bindR]at hr;obtain⟨rfl,h1,h2,h3⟩:=good hs;obtain⟨hR2,hhl2⟩:=next_head hR hR' hE hhl h1 h2 h3;obtain⟨h4,h5⟩:=left_loop hcs hR2 hhl2 λk hk'=>(hE.ren k (by rw[show (head (writes c) cs bs st s).h.length=st.h.length from setMany_len _ _ _];exact hk')).trans (hren k hk')
     exact⟨ρ',_,hr,h4,h5⟩
    cases e with
    |normal=>exact(moreN hk).elim
    |exit id=>exact fin hk
    |goto l=>exact fin hk
    | ret=>
     have hk2:doneA (S:=LS) (K .ret (fixR bs st st'))=some (.done x):=hk;cases hkr:K .ret (fixR bs st st') with
     |none=>rw[hkr]at hk2;cases hk2
     |some r0=>rw[hkr]at hk2;cases hk2;simp only[bindR]at hr;cases hr;exact⟨ρ',_,hkr,fix_R hR',(left_loop hcs hR hhl hren).2.trans (fix_ext hE (Nat.le_of_eq (setMany_len _ _ _).symm))⟩
    |panic ch=>cases hk
    |outgrown=>cases hk
theorem loopX_roundsG{c:Code}{p:Plan}{cs bs:List Nat}{g:Nat}{t:TypeId}{st st1:St}(hcs:∀x∈cs,x∈writes c)(hs1:st1.s=st.s.set g (.a (.l st.h.length)))(hl1:st1.h.length=st.h.length+1)(hd1:∀n∈st.d,n∈st1.d)(hst:∀n,n<st.h.length->n ∉ st1.d->st1.h[n]?=st.h[n]?)(hgW:g∈writes c)(hgc:g ∉ cs)(hbs:∀b∈bs,b<st.h.length)
  (hlow:∀(i:Nat) (u:SV),st.s[i]?=some u->refLtV st.h.length u=true) (hlowB:∀(k:Nat) (b:VB),k<st.h.length->st1.h[k]?=some b->refLtB st.h.length b=true) (hn0:n0<=st.h.length)
  {α:Type} {K:Exit->St->Option α} {r:α} {ρs:Nat->Ad}
  (body:∀ (s:LS) (r':Stp LS (Exit×LS)) (ρ:Nat→Ad) (a:Act) (w:World),
   veC P Γ N c p (Stp LS (Exit×LS)) (head (writes c) (cs++[g]) (bs++[st.h.length]) st1 s) (kBodyG st.h.length cs bs g t)=some r'->RS E P W0 n0 (st1.d++D) ρ0 ρ (head (writes c) (cs++[g]) (bs++[st.h.length]) st1 s) a w ->
   WpX mn ro P c (λe a' w'=>∃ρ' st',kBodyG st.h.length cs bs g t e st'=some r'/\RS E P W0 n0 (st1.d++D) ρ0 ρ' st' a' w'/\Ext (writes c) (head (writes c) (cs++[g]) (bs++[st.h.length]) st1 s).h.length ρ ρ' (head (writes c) (cs++[g]) (bs++[st.h.length]) st1 s) st') a w) :
  ∀(m:Nat) (s:LS) (ρ:Nat->Ad) (a:Act) (w:World),
   bindX (iterO (λs=>veC P Γ N c p (Stp LS (Exit×LS)) (head (writes c) (cs++[g]) (bs++[st.h.length]) st1 s) (kBodyG st.h.length cs bs g t)) m s) (λe s=>K e (left (writes c) (cs++[g]) (bs++[st.h.length]) st1 s))=some r ->
   RS E P W0 n0 (st1.d++D) ρ0 ρ (head (writes c) (cs++[g]) (bs++[st.h.length]) st1 s) a w->HLe st.h (head (writes c) (cs++[g]) (bs++[st.h.length]) st1 s).h->(∀k,k<st.h.length->ρ k=ρs k) ->
   RoundsX mn ro P c (λe a' w'=>∃ρ' st',K e st'=some r/\RS E P W0 n0 D ρ0 ρ' st' a' w'/\Ext (writes c) st.h.length ρs ρ' st st') m a w
 |0,s,ρ,a,w,hr,_,_,_=>by simp[iterO,bindX]at hr
 | m+1,s,ρ,a,w,hr,hR,hhl,hren=>by
  rw[iterO]at hr;rw[RoundsX];have good:∀{st':St} {s':LS} {ρ':Nat->Ad} {a':Act} {w':World},tailG st.h.length cs bs g t st'=some s'->RS E P W0 n0 (st1.d++D) ρ0 ρ' st' a' w'->Ext (writes c) (head (writes c) (cs++[g]) (bs++[st.h.length]) st1 s).h.length ρ ρ' (head (writes c) (cs++[g]) (bs++[st.h.length]) st1 s) st' ->
    ∃ρ2,RS E P W0 n0 (st1.d++D) ρ0 ρ2 (head (writes c) (cs++[g]) (bs++[st.h.length]) st1 s') a' w'/\HLe st.h (head (writes c) (cs++[g]) (bs++[st.h.length]) st1 s').h/\∀k,k<st.h.length->ρ2 k=ρs k:=by
   intro st' s' ρ' a' w' h hR' hE;unfold tailG at h;split at h
   ·rename_i n hg;split at h
    ·rename_i len C e' hown;cases hok:Nat.beq t e'&&(Nat.ble st.h.length n&&(dirtyOk st.h.length bs st'.d&&((getS st'.s cs).all (refLtV st.h.length)&&(getH st'.h bs).all (refLtB st.h.length)))) with
     |false=>rw[hok]at h;cases h
     |true=>
      rw[hok]at h;simp only[cond_true,Option.some.injEq]at h;simp only[Bool.and_eq_true]at hok;obtain rfl:=Nat.eq_of_beq_eq_true hok.1;subst h;obtain⟨h1,h2⟩:=next_headG hs1 hl1 hgW hgc hbs hlow hlowB hn0 hR hR' hE hhl hg hown (Nat.le_of_ble_eq_true hok.2.1) hok.2.2.1 hok.2.2.2.1 hok.2.2.2.2;refine⟨_,h1,h2,λk hk=> ?_⟩
      show (if k=st.h.length then ρ' n else ρ' k)=ρs k
      rw[if_neg (by omega)];exact(hE.ren k (by rw[show (head (writes c) (cs++[g]) (bs++[st.h.length]) st1 s).h.length=st1.h.length from setMany_len _ _ _,hl1];omega)).trans (hren k hk)
    ·cases h
   ·cases h
  have moreE:∀{o:Option LS} {s':LS},moreStp (X:=Exit×LS) o=some (.more s')->o=some s':=λ{o s'} h=>by cases o<;>cases h;rfl
  have moreN:∀{o:Option LS} {x:Exit×LS},moreStp (X:=Exit×LS) o=some (.done x)->False:=λ{o x} h=>by cases o<;>cases h
  have doneE:∀{o:Option LS} {e:Exit} {x:Exit×LS},doneStp e o=some (.done x)->∃s',o=some s'/\x=(e,s'):=λ{o e x} h=>by cases o<;>cases h;exact⟨_,rfl,rfl⟩
  have doneN:∀{o:Option LS} {e:Exit} {s':LS},doneStp e o=some (.more s')->False:=λ{o e s'} h=>by cases o<;>cases h
  cases hs':veC P Γ N c p (Stp LS (Exit×LS)) (head (writes c) (cs++[g]) (bs++[st.h.length]) st1 s) (kBodyG st.h.length cs bs g t) with
  |none=>rw[hs']at hr;simp[bindX]at hr
  | some x=>
   rw[hs']at hr;cases x with
   | more s'=>
    dsimp only at hr;refine WpX.mono (body s _ ρ a w hs' hR) ?_;rintro e a' w' ⟨ρ',st',hk,hR',hE⟩;cases e with
    |normal=>obtain⟨ρ2,hR2,hhl2,hren2⟩:=good (moreE hk) hR' hE;exact loopX_roundsG hcs hs1 hl1 hd1 hst hgW hgc hbs hlow hlowB hn0 body m _ ρ2 a' w' hr hR2 hhl2 hren2
    |exit id=>exact(doneN hk).elim
    |goto l=>exact(doneN hk).elim
    |ret=>exact(doneN hk).elim
    |panic ch=>cases hk
    |outgrown=>cases hk
   | done x=>
    simp only[bindX]at hr;refine WpX.mono (body s _ ρ a w hs' hR) ?_;rintro e a' w' ⟨ρ',st',hk,hR',hE⟩;have fin:doneStp e (tailG st.h.length cs bs g t st')=some (.done x)->∃ρ' st',K e st'=some r/\RS E P W0 n0 D ρ0 ρ' st' a' w'/\Ext (writes c) st.h.length ρs ρ' st st':=λh=>by
     obtain⟨s',hs,rfl⟩:=doneE h;obtain⟨ρ2,hR2,hhl2,hren2⟩:=good hs hR' hE;obtain⟨h4,h5⟩:=left_loopG hs1 hl1 hd1 hst hgW hcs hR2 hhl2 hren2;exact⟨ρ2,_,hr,h4,h5⟩
    cases e with
    |normal=>exact(moreN hk).elim
    |exit id=>exact fin hk
    |goto l=>exact fin hk
    |ret=>exact fin hk
    |panic ch=>cases hk
    |outgrown=>cases hk
theorem loopX_roundsM{c:Code}{p:Plan}{cs bs:List Nat}{gs:List (Nat×TypeId)}{st st1:St}(hcs:∀x∈cs,x∈writes c)(hs1:∀i,i ∉ gs.map (·.1)->st1.s[i]?=st.s[i]?)(hs1l:st1.s.length=st.s.length)(hl1:st1.h.length=st.h.length+gs.length)(hd1:∀n∈st.d,n∈st1.d)(hst:∀n,n<st.h.length->n ∉ st1.d->st1.h[n]?=st.h[n]?)(hgW:∀g∈gs.map (·.1),g∈writes c)(hgc:∀g∈gs.map (·.1),g ∉ cs)(hgn:(gs.map (·.1)).Nodup)(hbs:∀b∈bs,b<st.h.length)
  (hlow:∀(i:Nat) (u:SV),st.s[i]?=some u->refLtV st.h.length u=true) (hlowB:∀(k:Nat) (b:VB),k<st.h.length->st1.h[k]?=some b->refLtB st.h.length b=true) (hn0:n0<=st.h.length)
  {α:Type} {K:Exit->St->Option α} {r:α} {ρs:Nat->Ad}
  (body:∀ (s:LS) (r':Stp LS (Exit×LS)) (ρ:Nat→Ad) (a:Act) (w:World),
   veC P Γ N c p (Stp LS (Exit×LS)) (head (writes c) (cs++gs.map (·.1)) (bs++List.range' st.h.length gs.length) st1 s) (kBodyM st.h.length cs bs gs)=some r'->RS E P W0 n0 (st1.d++D) ρ0 ρ (head (writes c) (cs++gs.map (·.1)) (bs++List.range' st.h.length gs.length) st1 s) a w ->
   WpX mn ro P c (λe a' w'=>∃ρ' st',kBodyM st.h.length cs bs gs e st'=some r'/\RS E P W0 n0 (st1.d++D) ρ0 ρ' st' a' w'/\Ext (writes c) (head (writes c) (cs++gs.map (·.1)) (bs++List.range' st.h.length gs.length) st1 s).h.length ρ ρ' (head (writes c) (cs++gs.map (·.1)) (bs++List.range' st.h.length gs.length) st1 s) st') a w) :
  ∀(m:Nat) (s:LS) (ρ:Nat->Ad) (a:Act) (w:World),
   bindX (iterO (λs=>veC P Γ N c p (Stp LS (Exit×LS)) (head (writes c) (cs++gs.map (·.1)) (bs++List.range' st.h.length gs.length) st1 s) (kBodyM st.h.length cs bs gs)) m s) (λe s=>K e (left (writes c) (cs++gs.map (·.1)) (bs++List.range' st.h.length gs.length) st1 s))=some r ->
   RS E P W0 n0 (st1.d++D) ρ0 ρ (head (writes c) (cs++gs.map (·.1)) (bs++List.range' st.h.length gs.length) st1 s) a w->HLe st.h (head (writes c) (cs++gs.map (·.1)) (bs++List.range' st.h.length gs.length) st1 s).h->(∀k,k<st.h.length->ρ k=ρs k) ->
   RoundsX mn ro P c (λe a' w'=>∃ρ' st',K e st'=some r/\RS E P W0 n0 D ρ0 ρ' st' a' w'/\Ext (writes c) st.h.length ρs ρ' st st') m a w
 |0,s,ρ,a,w,hr,_,_,_=>by simp[iterO,bindX]at hr
 | m+1,s,ρ,a,w,hr,hR,hhl,hren=>by
  rw[iterO]at hr;rw[RoundsX];have good:∀{st':St} {s':LS} {ρ':Nat->Ad} {a':Act} {w':World},tailM st.h.length cs bs gs st'=some s'->RS E P W0 n0 (st1.d++D) ρ0 ρ' st' a' w'->Ext (writes c) (head (writes c) (cs++gs.map (·.1)) (bs++List.range' st.h.length gs.length) st1 s).h.length ρ ρ' (head (writes c) (cs++gs.map (·.1)) (bs++List.range' st.h.length gs.length) st1 s) st' ->
    ∃ρ2,RS E P W0 n0 (st1.d++D) ρ0 ρ2 (head (writes c) (cs++gs.map (·.1)) (bs++List.range' st.h.length gs.length) st1 s') a' w'/\HLe st.h (head (writes c) (cs++gs.map (·.1)) (bs++List.range' st.h.length gs.length) st1 s').h/\∀k,k<st.h.length->ρ2 k=ρs k:=by
   intro st' s' ρ' a' w' h hR' hE;unfold tailM at h;split at h
   ·rename_i q hgr;cases hok:nodupN q.1&&(dirtyOk st.h.length bs st'.d&&((getS st'.s cs).all (refLtV st.h.length)&&(getH st'.h bs).all (refLtB st.h.length))) with
    |false=>rw[hok]at h;cases h
    |true=>
     rw[hok]at h;simp only[cond_true,Option.some.injEq]at h;simp only[Bool.and_eq_true]at hok;subst h;obtain⟨h1,h2⟩:=next_headM hs1 hs1l hl1 hgW hgc hgn hbs hlow hlowB hn0 hR' hE hhl hgr (nodupN_nodup hok.1) hok.2.1 hok.2.2.1 hok.2.2.2;refine⟨_,h1,h2,λk hk=> ?_⟩
     show (if k<st.h.length then ρ' k else _)=ρs k
     rw[if_pos hk];exact(hE.ren k (by rw[show (head (writes c) (cs++gs.map (·.1)) (bs++List.range' st.h.length gs.length) st1 s).h.length=st1.h.length from setMany_len _ _ _,hl1];omega)).trans (hren k hk)
   ·cases h
  have moreE:∀{o:Option LS} {s':LS},moreStp (X:=Exit×LS) o=some (.more s')->o=some s':=λ{o s'} h=>by cases o<;>cases h;rfl
  have moreN:∀{o:Option LS} {x:Exit×LS},moreStp (X:=Exit×LS) o=some (.done x)->False:=λ{o x} h=>by cases o<;>cases h
  have doneE:∀{o:Option LS} {e:Exit} {x:Exit×LS},doneStp e o=some (.done x)->∃s',o=some s'/\x=(e,s'):=λ{o e x} h=>by cases o<;>cases h;exact⟨_,rfl,rfl⟩
  have doneN:∀{o:Option LS} {e:Exit} {s':LS},doneStp e o=some (.more s')->False:=λ{o e s'} h=>by cases o<;>cases h
  cases hs':veC P Γ N c p (Stp LS (Exit×LS)) (head (writes c) (cs++gs.map (·.1)) (bs++List.range' st.h.length gs.length) st1 s) (kBodyM st.h.length cs bs gs) with
  |none=>rw[hs']at hr;simp[bindX]at hr
  | some x=>
   rw[hs']at hr;cases x with
   | more s'=>
    dsimp only at hr;refine WpX.mono (body s _ ρ a w hs' hR) ?_;rintro e a' w' ⟨ρ',st',hk,hR',hE⟩;cases e with
    |normal=>obtain⟨ρ2,hR2,hhl2,hren2⟩:=good (moreE hk) hR' hE;exact loopX_roundsM hcs hs1 hs1l hl1 hd1 hst hgW hgc hgn hbs hlow hlowB hn0 body m _ ρ2 a' w' hr hR2 hhl2 hren2
    |exit id=>exact(doneN hk).elim
    |goto l=>exact(doneN hk).elim
    |ret=>exact(doneN hk).elim
    |panic ch=>cases hk
    |outgrown=>cases hk
   | done x=>
    simp only[bindX]at hr;refine WpX.mono (body s _ ρ a w hs' hR) ?_;rintro e a' w' ⟨ρ',st',hk,hR',hE⟩;have fin:doneStp e (tailM st.h.length cs bs gs st')=some (.done x)->∃ρ' st',K e st'=some r/\RS E P W0 n0 D ρ0 ρ' st' a' w'/\Ext (writes c) st.h.length ρs ρ' st st':=λh=>by
     obtain⟨s',hs,rfl⟩:=doneE h;obtain⟨ρ2,hR2,hhl2,hren2⟩:=good hs hR' hE;obtain⟨h4,h5⟩:=left_loopM hs1 hs1l hl1 hd1 hst hgW hcs hR2 hhl2 hren2;exact⟨ρ2,_,hr,h4,h5⟩
    cases e with
    |normal=>exact(moreN hk).elim
    |exit id=>exact fin hk
    |goto l=>exact fin hk
    |ret=>exact fin hk
    |panic ch=>cases hk
    |outgrown=>cases hk
theorem loopX_roundsF{c:Code}{p:Plan}{cs bs:List Nat}{gs:List (Nat×TypeId)}{st st1:St}(hcs:∀x∈cs,x∈writes c)(hs1:∀i,i ∉ gs.map (·.1)->st1.s[i]?=st.s[i]?)(hs1l:st1.s.length=st.s.length)(hl1:st1.h.length=st.h.length+gs.length)(hd1:∀n∈st.d,n∈st1.d)(hst:∀n,n<st.h.length->n ∉ st1.d->st1.h[n]?=st.h[n]?)(hgW:∀g∈gs.map (·.1),g∈writes c)(hgc:∀g∈gs.map (·.1),g ∉ cs)(hgn:(gs.map (·.1)).Nodup)(hbs:∀b∈bs,b<st.h.length)
  (hlow:∀(i:Nat) (u:SV),st.s[i]?=some u->refLtV st.h.length u=true) (hlowB:∀(k:Nat) (b:VB),k<st.h.length->st1.h[k]?=some b->refLtB st.h.length b=true) (hn0:n0<=st.h.length)
  {α:Type} {K:Exit->St->Option α} {r:α} {ρs:Nat->Ad}
  (body:∀ (s:LS) (r':Stp LS (Exit×LS)) (ρ:Nat→Ad) (a:Act) (w:World),
   veC P Γ N c p (Stp LS (Exit×LS)) (head (writes c) (cs++gs.map (·.1)) (bs++List.range' st.h.length gs.length) st1 s) (kBodyF st.h.length cs bs gs)=some r'->RS E P W0 n0 (st1.d++D) ρ0 ρ (head (writes c) (cs++gs.map (·.1)) (bs++List.range' st.h.length gs.length) st1 s) a w ->
   WpX mn ro P c (λe a' w'=>∃ρ' st',kBodyF st.h.length cs bs gs e st'=some r'/\RS E P W0 n0 (st1.d++D) ρ0 ρ' st' a' w'/\Ext (writes c) (head (writes c) (cs++gs.map (·.1)) (bs++List.range' st.h.length gs.length) st1 s).h.length ρ ρ' (head (writes c) (cs++gs.map (·.1)) (bs++List.range' st.h.length gs.length) st1 s) st') a w) :
  ∀(m:Nat) (s:LS) (ρ:Nat->Ad) (a:Act) (w:World),
   bindX (iterO (λs=>veC P Γ N c p (Stp LS (Exit×LS)) (head (writes c) (cs++gs.map (·.1)) (bs++List.range' st.h.length gs.length) st1 s) (kBodyF st.h.length cs bs gs)) m s) (λe s=>K e (left (writes c) (cs++gs.map (·.1)) (bs++List.range' st.h.length gs.length) st1 s))=some r ->
   RS E P W0 n0 (st1.d++D) ρ0 ρ (head (writes c) (cs++gs.map (·.1)) (bs++List.range' st.h.length gs.length) st1 s) a w->HLe st.h (head (writes c) (cs++gs.map (·.1)) (bs++List.range' st.h.length gs.length) st1 s).h->(∀k,k<st.h.length->ρ k=ρs k) ->
   RoundsX mn ro P c (λe a' w'=>∃ρ' st',K e st'=some r/\RS E P W0 n0 D ρ0 ρ' st' a' w'/\Ext (writes c) st.h.length ρs ρ' st st') m a w
 |0,s,ρ,a,w,hr,_,_,_=>by simp[iterO,bindX]at hr
 | m+1,s,ρ,a,w,hr,hR,hhl,hren=>by
  rw[iterO]at hr;rw[RoundsX]
  have good:∀ {st':St} {s':LS} {ρ':Nat→Ad} {a':Act} {w':World},tailF st.h.length cs bs gs st'=some s'→RS E P W0 n0 (st1.d++D) ρ0 ρ' st' a' w'→Ext (writes c) (head (writes c) (cs++gs.map (·.1)) (bs++List.range' st.h.length gs.length) st1 s).h.length ρ ρ' (head (writes c) (cs++gs.map (·.1)) (bs++List.range' st.h.length gs.length) st1 s) st' →
    ∃ρ2,RS E P W0 n0 (st1.d++D) ρ0 ρ2 (head (writes c) (cs++gs.map (·.1)) (bs++List.range' st.h.length gs.length) st1 s') a' w'/\HLe st.h (head (writes c) (cs++gs.map (·.1)) (bs++List.range' st.h.length gs.length) st1 s').h/\∀k,k<st.h.length->ρ2 k=ρs k:=by
   intro st' s' ρ' a' w' h hR' hE;unfold tailF at h;split at h
   ·rename_i q hgr;cases hok:nodupN q.1&&(dirtyOk st.h.length bs st'.d&&((getS st'.s cs).all (refLtV st.h.length)&&(getH st'.h bs).all (refLtB st.h.length))) with
    |false=>rw[hok]at h;cases h
    | true=>
     rw[hok]at h;simp only[cond_true,Option.some.injEq]at h;simp only[Bool.and_eq_true]at hok;subst h;have hhlen:(head (writes c) (cs++gs.map (·.1)) (bs++List.range' st.h.length gs.length) st1 s).h.length=st.h.length+gs.length:=by rw[<- hl1];exact setMany_len _ _ _
     have hWc:∀i,i ∉ writes c->i ∉ cs++gs.map (·.1):=λi hi hc=>by
      rcases List.mem_append.1 hc with h|h
      ·exact hi (hcs i h)
      ·exact hi (hgW i h)
     have hE1:st'.s.length=st.s.length:=by rw[hE.len];simp only[head];rw[setMany_len,forget_len,hs1l]
     have hE2:∀k,k<st.h.length->k ∉ st'.d->k ∉ bs->st'.h[k]?=st1.h[k]?:=λk hk hkd hkb=>by
      rw[hE.heap k (by rw[hhlen];omega) hkd];simp only[head];exact setMany_other _ _ _ λh=>by
       rcases List.mem_append.1 h with h|h
       ·exact hkb h
       ·rw[List.mem_range'_1]at h;omega
     have hE3:∀i,i ∉ writes c->st'.s[i]?=st.s[i]?:=λi hi=>by
      rw[hE.slots i hi];simp only[head];rw[setMany_other _ _ _ (hWc i hi),forget_get,Nat.zero_add];have:elemN i (writes c)=false:=by cases h:elemN i (writes c) with|false=>rfl|true=>exact absurd (elemN_mem.1 h) hi
      rw[this,hs1 i (λh=>hi (hgW i h))];cases st.s[i]?<;>rfl
     have hE4:HLe st.h st'.h:=hhl.trans hE.hle;have hE5:st.h.length<=st'.h.length:=by have:=hE.hlen;omega
     obtain⟨h1,h2⟩:=next_headF hs1 hs1l hl1 hgW hgc hgn hbs hlow hlowB hn0 hR' hE1 hE2 hE3 hE4 hE5 hgr (nodupN_nodup hok.1) hok.2.1 hok.2.2.1 hok.2.2.2;refine⟨_,h1,h2,λk hk=> ?_⟩
     show (if k<st.h.length then ρ' k else _)=ρs k
     rw[if_pos hk];exact(hE.ren k (by rw[show (head (writes c) (cs++gs.map (·.1)) (bs++List.range' st.h.length gs.length) st1 s).h.length=st1.h.length from setMany_len _ _ _,hl1];omega)).trans (hren k hk)
   ·cases h
  have moreE:∀{o:Option LS} {s':LS},moreStp (X:=Exit×LS) o=some (.more s')->o=some s':=λ{o s'} h=>by cases o<;>cases h;rfl
  have moreN:∀{o:Option LS} {x:Exit×LS},moreStp (X:=Exit×LS) o=some (.done x)->False:=λ{o x} h=>by cases o<;>cases h
  have doneE:∀{o:Option LS} {e:Exit} {x:Exit×LS},doneStp e o=some (.done x)->∃s',o=some s'/\x=(e,s'):=λ{o e x} h=>by cases o<;>cases h;exact⟨_,rfl,rfl⟩
  have doneN:∀{o:Option LS} {e:Exit} {s':LS},doneStp e o=some (.more s')->False:=λ{o e s'} h=>by cases o<;>cases h
  cases hs':veC P Γ N c p (Stp LS (Exit×LS)) (head (writes c) (cs++gs.map (·.1)) (bs++List.range' st.h.length gs.length) st1 s) (kBodyF st.h.length cs bs gs) with
  |none=>rw[hs']at hr;simp[bindX]at hr
  | some x=>
   rw[hs']at hr;cases x with
   | more s'=>
    dsimp only at hr;refine WpX.mono (body s _ ρ a w hs' hR) ?_;rintro e a' w' ⟨ρ',st',hk,hR',hE⟩;cases e with
    |normal=>obtain⟨ρ2,hR2,hhl2,hren2⟩:=good (moreE hk) hR' hE;exact loopX_roundsF hcs hs1 hs1l hl1 hd1 hst hgW hgc hgn hbs hlow hlowB hn0 body m _ ρ2 a' w' hr hR2 hhl2 hren2
    |exit id=>exact(doneN hk).elim
    |goto l=>exact(doneN hk).elim
    |ret=>exact(doneN hk).elim
    |panic ch=>cases hk
    |outgrown=>cases hk
   | done x=>
    simp only[bindX]at hr;refine WpX.mono (body s _ ρ a w hs' hR) ?_;rintro e a' w' ⟨ρ',st',hk,hR',hE⟩;have fin:doneStp e (tailF st.h.length cs bs gs st')=some (.done x)->∃ρ' st',K e st'=some r/\RS E P W0 n0 D ρ0 ρ' st' a' w'/\Ext (writes c) st.h.length ρs ρ' st st':=λh=>by
     obtain⟨s',hs,rfl⟩:=doneE h;obtain⟨ρ2,hR2,hhl2,hren2⟩:=good hs hR' hE;obtain⟨h4,h5⟩:=left_loopM hs1 hs1l hl1 hd1 hst hgW hcs hR2 hhl2 hren2;exact⟨ρ2,_,hr,h4,h5⟩
    cases e with
    |normal=>exact(moreN hk).elim
    |exit id=>exact fin hk
    |goto l=>exact fin hk
    |ret=>exact fin hk
    |panic ch=>cases hk
    |outgrown=>cases hk
theorem loopX_roundsB{c:Code}{p:Plan}{cs bs:List Nat}{g:Nat}{t:TypeId}{st st1:St}(hcs:∀x∈cs,x∈writes c){T:TypeId}{y1:SA}(hq:∀a b,Γ.e a b=true ↔ a=b)(hs1:st1.s=st.s)(hl1:st1.h.length=st.h.length+1)(hg1:st1.h[g]?=some (.one y1 T))(hbR0:BoxR st.h.length st.h.length y1 y1)(hgl:g<st.h.length)(hgd:g∈st1.d)(hd1:∀n∈st.d,n∈st1.d)(hst:∀n,n<st.h.length->n ∉ st1.d->st1.h[n]?=st.h[n]?)(hgb:g ∉ bs)(hbs:∀b∈bs,b<st.h.length)
  (hlow:∀(i:Nat) (u:SV),st.s[i]?=some u->refLtV st.h.length u=true) (hlowB:∀(k:Nat) (b:VB),k<st.h.length->k≠g->st1.h[k]?=some b->refLtB st.h.length b=true) (hn0:n0<=st.h.length)
  {α:Type} {K:Exit->St->Option α} {r:α} {ρs:Nat->Ad}
  (body:∀ (s:LS) (r':Stp LS (Exit×LS)) (ρ:Nat→Ad) (a:Act) (w:World),
   veC P Γ N c p (Stp LS (Exit×LS)) (head (writes c) cs (bs++[st.h.length]) st1 s) (kBodyB Γ.e (boxY st1 g) st.h.length cs bs g t)=some r'->RS E P W0 n0 (st1.d++D) ρ0 ρ (head (writes c) cs (bs++[st.h.length]) st1 s) a w ->
   WpX mn ro P c (λe a' w'=>∃ρ' st',kBodyB Γ.e (boxY st1 g) st.h.length cs bs g t e st'=some r'/\RS E P W0 n0 (st1.d++D) ρ0 ρ' st' a' w'/\Ext (writes c) (head (writes c) cs (bs++[st.h.length]) st1 s).h.length ρ ρ' (head (writes c) cs (bs++[st.h.length]) st1 s) st') a w) :
  ∀(m:Nat) (s:LS) (ρ:Nat->Ad) (a:Act) (w:World),
   bindX (iterO (λs=>veC P Γ N c p (Stp LS (Exit×LS)) (head (writes c) cs (bs++[st.h.length]) st1 s) (kBodyB Γ.e (boxY st1 g) st.h.length cs bs g t)) m s) (λe s=>K e (left (writes c) cs (bs++[st.h.length]) st1 s))=some r ->
   RS E P W0 n0 (st1.d++D) ρ0 ρ (head (writes c) cs (bs++[st.h.length]) st1 s) a w->HLe st.h (head (writes c) cs (bs++[st.h.length]) st1 s).h->(∀k,k<st.h.length->ρ k=ρs k) ->
   RoundsX mn ro P c (λe a' w'=>∃ρ' st',K e st'=some r/\RS E P W0 n0 D ρ0 ρ' st' a' w'/\Ext (writes c) st.h.length ρs ρ' st st') m a w
 |0,s,ρ,a,w,hr,_,_,_=>by simp[iterO,bindX]at hr
 | m+1,s,ρ,a,w,hr,hR,hhl,hren=>by
  rw[iterO]at hr;rw[RoundsX];have good:∀{st':St} {s':LS} {ρ':Nat->Ad} {a':Act} {w':World},tailB Γ.e (boxY st1 g) st.h.length cs bs g t st'=some s'->RS E P W0 n0 (st1.d++D) ρ0 ρ' st' a' w'->Ext (writes c) (head (writes c) cs (bs++[st.h.length]) st1 s).h.length ρ ρ' (head (writes c) cs (bs++[st.h.length]) st1 s) st' ->
    ∃ρ2,RS E P W0 n0 (st1.d++D) ρ0 ρ2 (head (writes c) cs (bs++[st.h.length]) st1 s') a' w'/\HLe st.h (head (writes c) cs (bs++[st.h.length]) st1 s').h/\∀k,k<st.h.length->ρ2 k=ρs k:=by
   intro st' s' ρ' a' w' h hR' hE;unfold tailB at h;split at h
   case h_2=>cases h
   rename_i b hgb';have hby:boxY st1 g=y1:=by unfold boxY;rw[hg1]
   rw[hby]at hgb';obtain⟨n,T',len,C,y',hg,hbR,hown,hmn,rfl⟩:=grownB_is hq hbR0 hgb';cases hok:dirtyOk st.h.length (g::bs) st'.d&&((getS st'.s cs).all (refLtV st.h.length)&&(getH st'.h bs).all (refLtB st.h.length)) with
   |false=>rw[hok]at h;cases h
   |true=>
    rw[hok]at h;simp only[cond_true,Option.some.injEq]at h;simp only[Bool.and_eq_true]at hok;subst h;obtain⟨h1,h2⟩:=next_headB hs1 hl1 hg1 hgl hgb hbs hlow hlowB hn0 hR hR' (List.mem_append_left _ hgd) hE hhl hg hbR hown hmn hok.1 hok.2.1 hok.2.2;refine⟨_,h1,h2,λk hk=> ?_⟩
    show (if k=st.h.length then ρ' n else ρ' k)=ρs k
    rw[if_neg (by omega)];exact(hE.ren k (by rw[show (head (writes c) cs (bs++[st.h.length]) st1 s).h.length=st1.h.length from setMany_len _ _ _,hl1];omega)).trans (hren k hk)
  have moreE:∀{o:Option LS} {s':LS},moreStp (X:=Exit×LS) o=some (.more s')->o=some s':=λ{o s'} h=>by cases o<;>cases h;rfl
  have moreN:∀{o:Option LS} {x:Exit×LS},moreStp (X:=Exit×LS) o=some (.done x)->False:=λ{o x} h=>by cases o<;>cases h
  have doneE:∀{o:Option LS} {e:Exit} {x:Exit×LS},doneStp e o=some (.done x)->∃s',o=some s'/\x=(e,s'):=λ{o e x} h=>by cases o<;>cases h;exact⟨_,rfl,rfl⟩
  have doneN:∀{o:Option LS} {e:Exit} {s':LS},doneStp e o=some (.more s')->False:=λ{o e s'} h=>by cases o<;>cases h
  cases hs':veC P Γ N c p (Stp LS (Exit×LS)) (head (writes c) cs (bs++[st.h.length]) st1 s) (kBodyB Γ.e (boxY st1 g) st.h.length cs bs g t) with
  |none=>rw[hs']at hr;simp[bindX]at hr
  | some x=>
   rw[hs']at hr;cases x with
   | more s'=>
    dsimp only at hr;refine WpX.mono (body s _ ρ a w hs' hR) ?_;rintro e a' w' ⟨ρ',st',hk,hR',hE⟩;replace hk:=kBodyB_q hk;cases e with
    |normal=>obtain⟨ρ2,hR2,hhl2,hren2⟩:=good (moreE hk) hR' hE;exact loopX_roundsB hcs hq hs1 hl1 hg1 hbR0 hgl hgd hd1 hst hgb hbs hlow hlowB hn0 body m _ ρ2 a' w' hr hR2 hhl2 hren2
    |exit id=>exact(doneN hk).elim
    |goto l=>exact(doneN hk).elim
    |ret=>exact(doneN hk).elim
    |panic ch=>cases hk
    |outgrown=>cases hk
   | done x=>
    simp only[bindX]at hr;refine WpX.mono (body s _ ρ a w hs' hR) ?_;rintro e a' w' ⟨ρ',st',hk,hR',hE⟩;replace hk:=kBodyB_q hk;have fin:doneStp e (tailB Γ.e (boxY st1 g) st.h.length cs bs g t st')=some (.done x)->∃ρ' st',K e st'=some r/\RS E P W0 n0 D ρ0 ρ' st' a' w'/\Ext (writes c) st.h.length ρs ρ' st st':=λh=>by
     obtain⟨s',hs,rfl⟩:=doneE h;obtain⟨ρ2,hR2,hhl2,hren2⟩:=good hs hR' hE;obtain⟨h4,h5⟩:=left_loopB hs1 hl1 hd1 hst hcs hR2 hhl2 hren2;exact⟨ρ2,_,hr,h4,h5⟩
    cases e with
    |normal=>exact(moreN hk).elim
    |exit id=>exact fin hk
    |goto l=>exact fin hk
    |ret=>exact fin hk
    |panic ch=>cases hk
    |outgrown=>cases hk
theorem loopX_roundsGR{c:Code}{p:Plan}{cs bs:List Nat}{g:Nat}{t:TypeId}{st st1:St}(hcs:∀x∈cs,x∈writes c)(hs1:st1.s=st.s.set g (.a (.l st.h.length)))(hl1:st1.h.length=st.h.length+1)(hd1:∀n∈st.d,n∈st1.d)(hst:∀n,n<st.h.length->n ∉ st1.d->st1.h[n]?=st.h[n]?)(hgW:g∈writes c)(hgc:g ∉ cs)(hbs:∀b∈bs,b<st.h.length)
  (hlow:∀(i:Nat) (u:SV),st.s[i]?=some u->refLtV st.h.length u=true) (hlowB:∀(k:Nat) (b:VB),k<st.h.length->st1.h[k]?=some b->refLtB st.h.length b=true) (hn0:n0<=st.h.length)
  {α:Type} {K:Exit->St->Option α} {r:α} {ρs:Nat->Ad}
  (body:∀ (s:LS) (r':Stp LS ((Exit×LS) ⊕ α)) (ρ:Nat→Ad) (a:Act) (w:World),
   veC P Γ N c p (Stp LS ((Exit×LS)⊕α)) (head (writes c) (cs++[g]) (bs++[st.h.length]) st1 s) (kBodyGR st.h.length cs bs g t st1 K)=some r'->RS E P W0 n0 (st1.d++D) ρ0 ρ (head (writes c) (cs++[g]) (bs++[st.h.length]) st1 s) a w ->
   WpX mn ro P c (λe a' w'=>∃ρ' st',kBodyGR st.h.length cs bs g t st1 K e st'=some r'/\RS E P W0 n0 (st1.d++D) ρ0 ρ' st' a' w'/\Ext (writes c) (head (writes c) (cs++[g]) (bs++[st.h.length]) st1 s).h.length ρ ρ' (head (writes c) (cs++[g]) (bs++[st.h.length]) st1 s) st') a w) :
  ∀(m:Nat) (s:LS) (ρ:Nat->Ad) (a:Act) (w:World),
   bindR (iterO (λs=>veC P Γ N c p (Stp LS ((Exit×LS)⊕α)) (head (writes c) (cs++[g]) (bs++[st.h.length]) st1 s) (kBodyGR st.h.length cs bs g t st1 K)) m s) (λe s=>K e (left (writes c) (cs++[g]) (bs++[st.h.length]) st1 s))=some r ->
   RS E P W0 n0 (st1.d++D) ρ0 ρ (head (writes c) (cs++[g]) (bs++[st.h.length]) st1 s) a w->HLe st.h (head (writes c) (cs++[g]) (bs++[st.h.length]) st1 s).h->(∀k,k<st.h.length->ρ k=ρs k) ->
   RoundsX mn ro P c (λe a' w'=>∃ρ' st',K e st'=some r/\RS E P W0 n0 D ρ0 ρ' st' a' w'/\Ext (writes c) st.h.length ρs ρ' st st') m a w
 |0,s,ρ,a,w,hr,_,_,_=>by simp[iterO,bindR]at hr
 | m+1,s,ρ,a,w,hr,hR,hhl,hren=>by
  rw[iterO]at hr;rw[RoundsX];have good:∀{st':St} {s':LS} {ρ':Nat->Ad} {a':Act} {w':World},tailG st.h.length cs bs g t st'=some s'->RS E P W0 n0 (st1.d++D) ρ0 ρ' st' a' w'->Ext (writes c) (head (writes c) (cs++[g]) (bs++[st.h.length]) st1 s).h.length ρ ρ' (head (writes c) (cs++[g]) (bs++[st.h.length]) st1 s) st' ->
    ∃ρ2,RS E P W0 n0 (st1.d++D) ρ0 ρ2 (head (writes c) (cs++[g]) (bs++[st.h.length]) st1 s') a' w'/\HLe st.h (head (writes c) (cs++[g]) (bs++[st.h.length]) st1 s').h/\∀k,k<st.h.length->ρ2 k=ρs k:=by
   intro st' s' ρ' a' w' h hR' hE;unfold tailG at h;split at h
   ·rename_i n hg;split at h
    ·rename_i len C e' hown;cases hok:Nat.beq t e'&&(Nat.ble st.h.length n&&(dirtyOk st.h.length bs st'.d&&((getS st'.s cs).all (refLtV st.h.length)&&(getH st'.h bs).all (refLtB st.h.length)))) with
     |false=>rw[hok]at h;cases h
     |true=>
      rw[hok]at h;simp only[cond_true,Option.some.injEq]at h;simp only[Bool.and_eq_true]at hok;obtain rfl:=Nat.eq_of_beq_eq_true hok.1;subst h;obtain⟨h1,h2⟩:=next_headG hs1 hl1 hgW hgc hbs hlow hlowB hn0 hR hR' hE hhl hg hown (Nat.le_of_ble_eq_true hok.2.1) hok.2.2.1 hok.2.2.2.1 hok.2.2.2.2;refine⟨_,h1,h2,λk hk=> ?_⟩
      show (if k=st.h.length then ρ' n else ρ' k)=ρs k
      rw[if_neg (by omega)];exact(hE.ren k (by rw[show (head (writes c) (cs++[g]) (bs++[st.h.length]) st1 s).h.length=st1.h.length from setMany_len _ _ _,hl1];omega)).trans (hren k hk)
    ·cases h
   ·cases h
  have moreE:∀{o:Option LS} {s':LS},moreStp (X:=(Exit×LS)⊕α) o=some (.more s')->o=some s':=λ{o s'} h=>by cases o<;>cases h;rfl
  have moreN:∀{o:Option LS} {x:(Exit×LS)⊕α},moreStp (X:=(Exit×LS)⊕α) o=some (.done x)->False:=λ{o x} h=>by cases o<;>cases h
  have doneE:∀{o:Option LS} {e:Exit} {x:(Exit×LS)⊕α},doneI e o=some (.done x)->∃s',o=some s'/\x=.inl (e,s'):=λ{o e x} h=>by cases o<;>cases h;exact⟨_,rfl,rfl⟩
  have doneN:∀{o:Option LS} {e:Exit} {s':LS},doneI (α:=α) e o=some (.more s')->False:=λ{o e s'} h=>by cases o<;>cases h
  have doneAN:∀{o:Option α} {s':LS},doneA (S:=LS) o=some (.more s')->False:=λ{o s'} h=>by cases o<;>cases h
  cases hs':veC P Γ N c p (Stp LS ((Exit×LS)⊕α)) (head (writes c) (cs++[g]) (bs++[st.h.length]) st1 s) (kBodyGR st.h.length cs bs g t st1 K) with
  |none=>rw[hs']at hr;simp[bindR]at hr
  | some x=>
   rw[hs']at hr;cases x with
   | more s'=>
    dsimp only at hr;refine WpX.mono (body s _ ρ a w hs' hR) ?_;rintro e a' w' ⟨ρ',st',hk,hR',hE⟩;cases e with
    |normal=>obtain⟨ρ2,hR2,hhl2,hren2⟩:=good (moreE hk) hR' hE;exact loopX_roundsGR hcs hs1 hl1 hd1 hst hgW hgc hbs hlow hlowB hn0 body m _ ρ2 a' w' hr hR2 hhl2 hren2
    |exit id=>exact(doneN hk).elim
    |goto l=>exact(doneN hk).elim
    |ret=>exact(doneAN hk).elim
    |panic ch=>cases hk
    |outgrown=>cases hk
   | done x=>
    refine WpX.mono (body s _ ρ a w hs' hR) ?_;rintro e a' w' ⟨ρ',st',hk,hR',hE⟩;have fin:doneI e (tailG st.h.length cs bs g t st')=some (.done x)->∃ρ' st',K e st'=some r/\RS E P W0 n0 D ρ0 ρ' st' a' w'/\Ext (writes c) st.h.length ρs ρ' st st':=λh=>by
     obtain⟨s',hs,rfl⟩:=doneE h;simp only[bindR]at hr;obtain⟨ρ2,hR2,hhl2,hren2⟩:=good hs hR' hE;obtain⟨h4,h5⟩:=left_loopG hs1 hl1 hd1 hst hgW hcs hR2 hhl2 hren2;exact⟨ρ2,_,hr,h4,h5⟩
    cases e with
    |normal=>exact(moreN hk).elim
    |exit id=>exact fin hk
    |goto l=>exact fin hk
    | ret=>
     have hk2:doneA (S:=LS) (K .ret (fixR (bs++[st.h.length]) st1 st'))=some (.done x):=hk;cases hkr:K .ret (fixR (bs++[st.h.length]) st1 st') with
     |none=>rw[hkr]at hk2;cases hk2
     |some r0=>rw[hkr]at hk2;cases hk2;simp only[bindR]at hr;cases hr;exact⟨ρ',_,hkr,fix_R hR',(left_loopG hs1 hl1 hd1 hst hgW hcs hR hhl hren).2.trans (fix_ext hE (by rw[show (head (writes c) (cs++[g]) (bs++[st.h.length]) st1 s).h.length=st1.h.length from setMany_len _ _ _,hl1];omega))⟩
    |panic ch=>cases hk
    |outgrown=>cases hk
theorem veCX_sound (hm:P.follows .mixedOrders=true) (hΓ:ConsOkX mn P (IConOkX mn P) Γ):∀ (c:Code) (p:Plan) (ro:Option Nat) (hW:ro=none∨noIter p=true) (E:List Nat) (W0:World) (n0:Nat) (ρ0:Nat→Ad) (α:Type) (st:St) (K:Exit→St→Option α) (r:α) (D:List Nat) (ρ:Nat→Ad) (a:Act) (w:World),
  veC P Γ N c p α st K=some r->RS E P W0 n0 D ρ0 ρ st a w ->
  WpX mn ro P c (λe a' w'=>∃ρ' st',K e st'=some r/\RS E P W0 n0 D ρ0 ρ' st' a' w'/\Ext (writes c) st.h.length ρ ρ' st st') a w
 |.skip,p,ro,hW,E,W0,n0,ρ0,α,st,K,r,D,ρ,a,w,hr,hR=>wpX_skip ⟨ρ,st,by simpa [veC] using hr,hR,.refl _ _ _ _⟩
 |.region id ops draw,p,ro,hW,E,W0,n0,ρ0,α,st,K,r,D,ρ,a,w,hr,hR=>by
  rw[veC]at hr;exact veRegX_sound hm hΓ hR hr λρ' st' a' w' hk hR' hE=>⟨ρ',st',hk,hR',hE⟩
 |.exit id,p,ro,hW,E,W0,n0,ρ0,α,st,K,r,D,ρ,a,w,hr,hR=>wpX_exit ⟨ρ,st,by simpa [veC] using hr,hR,.refl _ _ _ _⟩
 |.ret,p,ro,hW,E,W0,n0,ρ0,α,st,K,r,D,ρ,a,w,hr,hR=>wpX_ret ⟨ρ,st,by simpa [veC] using hr,hR,.refl _ _ _ _⟩
 | .seq x y,p,ro,hW,E,W0,n0,ρ0,α,st,K,r,D,ρ,a,w,hr,hR=>by
  cases p with
  |one=>simp[veC]at hr
  |loop cs bs p=>simp[veC]at hr
  |loopG cs bs g e p=>simp[veC]at hr
  |loopR cs bs p=>simp[veC]at hr
  |loopGR cs bs g e p=>simp[veC]at hr
  |loopB cs bs g e p=>simp[veC]at hr
  |loopM cs bs gs p=>simp[veC]at hr
  |loopF cs bs gs p=>simp[veC]at hr
  |iterB bs g e p=>simp[veC]at hr
  |iterL bs p=>simp[veC]at hr
  |iterW bs p=>simp[veC]at hr
  |iterA bs p=>simp[veC]at hr
  |ng p=>simp[veC]at hr
  |jump l cs bs p q=>simp[veC]at hr
  |sc p=>simp[veC]at hr
  |iter bs p=>simp[veC]at hr
  | two p q=>
   rw[veC]at hr;refine wpX_seq (WpX.mono (veCX_sound hm hΓ x p ro (hW.imp_right λh=>by simp only[noIter,Bool.and_eq_true]at h;exact h.1) E W0 n0 ρ0 α st _ r D ρ a w hr hR) ?_);rintro e a1 w1 ⟨ρ1,st1,hk,hR1,hE1⟩;cases e with
   |normal=>refine WpX.mono (veCX_sound hm hΓ y q ro (hW.imp_right λh=>by simp only[noIter,Bool.and_eq_true]at h;exact h.2) E W0 n0 ρ0 α st1 K r D ρ1 a1 w1 hk hR1) ?_;rintro e2 a2 w2 ⟨ρ2,st2,hk2,hR2,hE2⟩;exact⟨ρ2,st2,hk2,hR2,ext_seq hE1 hE2⟩
   |exit id=>exact⟨ρ1,st1,hk,hR1,hE1.mono (λ_ h=>List.mem_append_left _ h) (Nat.le_refl _)⟩
   |goto l=>exact⟨ρ1,st1,hk,hR1,hE1.mono (λ_ h=>List.mem_append_left _ h) (Nat.le_refl _)⟩
   |ret=>exact⟨ρ1,st1,hk,hR1,hE1.mono (λ_ h=>List.mem_append_left _ h) (Nat.le_refl _)⟩
   |panic ch=>exact⟨ρ1,st1,hk,hR1,hE1.mono (λ_ h=>List.mem_append_left _ h) (Nat.le_refl _)⟩
   |outgrown=>exact⟨ρ1,st1,hk,hR1,hE1.mono (λ_ h=>List.mem_append_left _ h) (Nat.le_refl _)⟩
 | .cond c x y,p,ro,hW,E,W0,n0,ρ0,α,st,K,r,D,ρ,a,w,hr,hR=>by
  cases p with
  |one=>simp[veC]at hr
  |loop cs bs p=>simp[veC]at hr
  |loopG cs bs g e p=>simp[veC]at hr
  |loopR cs bs p=>simp[veC]at hr
  |loopGR cs bs g e p=>simp[veC]at hr
  |loopB cs bs g e p=>simp[veC]at hr
  |loopM cs bs gs p=>simp[veC]at hr
  |loopF cs bs gs p=>simp[veC]at hr
  |iterB bs g e p=>simp[veC]at hr
  |iterL bs p=>simp[veC]at hr
  |iterW bs p=>simp[veC]at hr
  |iterA bs p=>simp[veC]at hr
  |ng p=>simp[veC]at hr
  |jump l cs bs p q=>simp[veC]at hr
  |sc p=>simp[veC]at hr
  |iter bs p=>simp[veC]at hr
  | two p q=>
   rw[veC]at hr;have hc:=asA_is (evO_is hR.slots c);split at hr
   ·rename_i t ht;rw[ht]at hc;have hc:a.eval c=.bool t:=hc;cases t with
    |true=>refine wpX_cond_true hc (WpX.mono (veCX_sound hm hΓ x p ro (hW.imp_right λh=>by simp only[noIter,Bool.and_eq_true]at h;exact h.1) E W0 n0 ρ0 α st K r D ρ a w hr hR) ?_);rintro e2 a2 w2 ⟨ρ2,st2,hk2,hR2,hE2⟩;exact⟨ρ2,st2,hk2,hR2,hE2.mono (λ_ h=>List.mem_append_left _ h) (Nat.le_refl _)⟩
    |false=>refine wpX_cond_false hc (WpX.mono (veCX_sound hm hΓ y q ro (hW.imp_right λh=>by simp only[noIter,Bool.and_eq_true]at h;exact h.2) E W0 n0 ρ0 α st K r D ρ a w hr hR) ?_);rintro e2 a2 w2 ⟨ρ2,st2,hk2,hR2,hE2⟩;exact⟨ρ2,st2,hk2,hR2,hE2.mono (λ_ h=>List.mem_append_right _ h) (Nat.le_refl _)⟩
   ·cases hr
 | .block id x,p,ro,hW,E,W0,n0,ρ0,α,st,K,r,D,ρ,a,w,hr,hR=>by
  rw[veC]at hr;refine wpX_block (WpX.mono (veCX_sound hm hΓ x p ro hW E W0 n0 ρ0 α st _ r D ρ a w hr hR) ?_);rintro e a1 w1 ⟨ρ1,st1,hk,hR1,hE1⟩;cases e with
  | exit id'=>
   simp only[kBlock]at hk;unfold Exit.inBlock;cases hb:Nat.beq id' id with
   |true=>rw[hb]at hk;have:=Nat.eq_of_beq_eq_true hb;simp only[if_pos this];exact⟨ρ1,st1,hk,hR1,hE1⟩
   |false=>
    rw[hb]at hk;have:id'≠id:=λe=>by subst e;rw[Nat.beq_refl]at hb;cases hb
    simp only[if_neg this];exact⟨ρ1,st1,hk,hR1,hE1⟩
  |normal=>exact⟨ρ1,st1,hk,hR1,hE1⟩
  |goto l=>exact⟨ρ1,st1,hk,hR1,hE1⟩
  |ret=>exact⟨ρ1,st1,hk,hR1,hE1⟩
  |panic ch=>exact⟨ρ1,st1,hk,hR1,hE1⟩
  |outgrown=>exact⟨ρ1,st1,hk,hR1,hE1⟩
 | .loop x,p,ro,hW,E,W0,n0,ρ0,α,st,K,r,D,ρ,a,w,hr,hR=>by
  cases p with
  |one=>simp[veC]at hr
  |two p q=>simp[veC]at hr
  |iter bs p=>simp[veC]at hr
  |jump l cs bs p q=>simp[veC]at hr
  |sc p=>simp[veC]at hr
  |iterB bs g e p=>simp[veC]at hr
  |iterL bs p=>simp[veC]at hr
  |iterW bs p=>simp[veC]at hr
  |iterA bs p=>simp[veC]at hr
  |ng p=>simp[veC]at hr
  | loopB cs bs g t p=>
   rw[veC]at hr;split at hr
   ·rename_i st1 hprep;cases hok:cs.all (elemN · (writes x))&&(Nat.blt g st.h.length&&(!elemN g bs&&bs.all (Nat.blt · st.h.length))) with
    |false=>rw[hok]at hr;cases hr
    | true=>
     rw[hok]at hr;simp only[Bool.and_eq_true,Bool.not_eq_true',List.all_eq_true]at hok;simp only[cond_true]at hr;obtain⟨ρ1,T,len,C,y1,hR1,hs1,hl1,hle1,hg1,hbR0,hgl,hm1,hgd,hst,hst2,hd1,hren1⟩:=prepB_sound hR hprep;obtain⟨hR0,hhl0⟩:=first_head (W:=writes x) (cs:=cs) (bs:=bs++[st.h.length]) hR1;have hlow:∀(i:Nat) (u:SV),st.s[i]?=some u->refLtV st.h.length u=true:=λi u hu=>(hR.slots i u hu).lt
     have hlowB:∀(k:Nat) (b:VB),k<st.h.length->k≠g->st1.h[k]?=some b->refLtB st.h.length b=true:=λk b hk hkg hb=>by
      rcases hst2 k hk hkg with h|h
      ·rw[h]at hb;exact(hR.heap.is k b hb).lt
      ·rw[h]at hb;cases hb;rfl
     have hgb:g ∉ bs:=λh=>by rw[elemN_mem.2 h]at hok;exact absurd hok.2.2.1 (by simp)
     exact wpX_loop_rounds N (loopX_roundsB (ρs:=ρ) (λc hc=>elemN_mem.1 (hok.1 c hc)) hΓ.e hs1 hl1 hg1 hbR0 hgl hgd hd1 hst hgb (λb hb=>by have:=hok.2.2.2 b hb;simp[Nat.blt]at this;omega) hlow hlowB hR.bound
      (λs r' ρ a w h1 h2=>veCX_sound hm hΓ x p ro (hW.imp_right λh=>h) E W0 n0 ρ0 _ _ _ r' (st1.d++D) ρ a w h1 h2) N _ ρ1 a w hr hR0 (hle1.trans hhl0) hren1)
   ·cases hr
  | loopF cs bs gs p=>
   rw[veC]at hr;cases hok:cs.all (elemN · (writes x))&&(gs.all (λq=>elemN q.1 (writes x) && !elemN q.1 cs)&&(nodupN (gs.map (·.1))&&bs.all (Nat.blt · st.h.length))) with
   |false=>rw[hok]at hr;cases hr
   | true=>
    rw[hok]at hr;simp only[Bool.and_eq_true,Bool.not_eq_true',List.all_eq_true]at hok;simp only[cond_true]at hr;have hgW:∀g∈gs.map (·.1),g∈writes x:=λg hg=>by
     obtain⟨q,hq,rfl⟩:=List.mem_map.1 hg;exact elemN_mem.1 (hok.2.1 q hq).1
    have hcs:∀c∈cs,c∈writes x:=λc hc=>elemN_mem.1 (hok.1 c hc)
    have hgc:∀g∈gs.map (·.1),g ∉ cs:=λg hg h=>by
     obtain⟨q,hq,rfl⟩:=List.mem_map.1 hg;have:=(hok.2.1 q hq).2;rw[elemN_mem.2 h]at this;exact absurd this (by simp)
    have hbs:∀b∈bs,b<st.h.length:=λb hb=>by have:=hok.2.2.2 b hb;simp[Nat.blt]at this;omega
    have hlow:∀(i:Nat) (u:SV),st.s[i]?=some u->refLtV st.h.length u=true:=λi u hu=>(hR.slots i u hu).lt
    have hroom:∀k,k<st.h.length->(roomF gs.length st).h[k]?=st.h[k]?:=λk hk=>List.getElem?_append_left hk
    have hlowB:∀(k:Nat) (b:VB),k<st.h.length->(roomF gs.length st).h[k]?=some b->refLtB st.h.length b=true:=λk b hk hb=>by
     rw[hroom k hk]at hb;exact(hR.heap.is k b hb).lt
    have hl1:(roomF gs.length st).h.length=st.h.length+gs.length:=by simp[roomF]
    have hR0:RS E P W0 n0 (st.d++D) ρ0 ρ { s:=st.s,h:=st.h,d:=[] } a w:=⟨hR.len,hR.slots,hR.heap,hR.base,hR.fresh,hR.kept.mono λk _ ⟨q,h1,h2,h3⟩=>⟨q,h1,.inr (h2.elim (λh=>.inl (List.mem_append_left _ h)) λh=>h.imp (λh=>List.mem_append_right _ h) λh=>h),h3⟩,hR.own0,hR.defers,hR.bound⟩;have rounds:=λ(s0:LS) (ρ1:Nat->Ad) (a1:Act) (w1:World) h1 h2 h3 h4=>loopX_roundsF (st:=st) (st1:=roomF gs.length st) (K:=K) (r:=r) (ρs:=ρ) hcs (λ_ _=>rfl) rfl hl1 (λ_ h=>h) (λn hn _=>hroom n hn) hgW hgc (nodupN_nodup hok.2.2.1) hbs hlow hlowB hR.bound
      (λs r' ρ a w h1 h2=>veCX_sound hm hΓ x p ro (hW.imp_right λh=>h) E W0 n0 ρ0 _ _ _ r' (st.d++D) ρ a w h1 h2) N s0 ρ1 a1 w1 h1 h2 h3 h4
    refine wpX_loop_rounds (N+1) ?_;rw[RoundsX];refine WpX.mono (veCX_sound hm hΓ x p ro (hW.imp_right λh=>h) E W0 n0 ρ0 _ _ _ r (st.d++D) ρ a w hr hR0) ?_;rintro e a' w' ⟨ρ',st',hk,hR',hE⟩;have exit:∀{e},K e { s:=st'.s,h:=st'.h,d:=st'.d++st.d }=some r->∃ρ' st',K e st'=some r/\RS E P W0 n0 D ρ0 ρ' st' a' w'/\Ext (writes x) st.h.length ρ ρ' st st':=λhk=>
     ⟨ρ',_,hk,⟨hR'.len,hR'.slots,hR'.heap,hR'.base,hR'.fresh,hR'.kept.mono fun k _ ⟨q,h1,h2,h3⟩=>⟨q,h1,by
       rcases h2 with h|h|h
       ·exact .inl (List.mem_append_left _ h)
       ·rcases List.mem_append.1 h with h|h
        ·exact .inl (List.mem_append_right _ h)
        ·exact .inr (.inl h)
       ·exact .inr (.inr h),h3⟩,hR'.own0,hR'.defers,hR'.bound⟩,
      ⟨hE.slots,hE.len,λn hn hd=>hE.heap n hn λh=>hd (List.mem_append_left _ h),λn h=>List.mem_append_right _ h,hE.hlen,hE.hle,hE.ren⟩⟩
    cases e with
    | normal=>
     simp only[kFirst]at hk;split at hk
     case h_2=>cases hk
     rename_i s0 ht;unfold tailF at ht;split at ht
     case h_2=>cases ht
     rename_i q hgr;cases hok2:nodupN q.1&&(dirtyOk st.h.length bs st'.d&&((getS st'.s cs).all (refLtV st.h.length)&&(getH st'.h bs).all (refLtB st.h.length))) with
     |false=>rw[hok2]at ht;cases ht
     | true=>
      rw[hok2]at ht;simp only[cond_true,Option.some.injEq]at ht;simp only[Bool.and_eq_true]at hok2;subst ht;obtain⟨h1,h2⟩:=next_headF (W:=writes x) (cs:=cs) (bs:=bs) (st:=st) (st1:=roomF gs.length st) (λ_ _=>rfl) rfl hl1 hgW hgc (nodupN_nodup hok.2.2.1) hbs hlow hlowB hR.bound hR' hE.len (λk hk hd _=>(hE.heap k hk hd).trans (hroom k hk).symm) hE.slots hE.hle hE.hlen hgr (nodupN_nodup hok2.1) hok2.2.1 hok2.2.2.1 hok2.2.2.2;exact rounds _ _ a' w' hk h1 h2 λk hk=>by
       show (if k<st.h.length then ρ' k else _)=ρ k
       rw[if_pos hk];exact hE.ren k hk
    |exit id=>exact exit hk
    |goto l=>exact exit hk
    |ret=>exact exit hk
    |panic ch=>exact exit hk
    |outgrown=>exact exit hk
  | loopM cs bs gs p=>
   rw[veC]at hr;split at hr
   ·rename_i st1 hprep;cases hok:cs.all (elemN · (writes x))&&(gs.all (λq=>elemN q.1 (writes x) && !elemN q.1 cs)&&(nodupN (gs.map (·.1))&&bs.all (Nat.blt · st.h.length))) with
    |false=>rw[hok]at hr;cases hr
    | true=>
     rw[hok]at hr;simp only[Bool.and_eq_true,Bool.not_eq_true',List.all_eq_true]at hok;simp only[cond_true]at hr;obtain⟨ρ1,hR1,hs1,hs1l,hl1,hle1,hst,hst2,hd1,hren1⟩:=prepM_sound hR hprep;obtain⟨hR0,hhl0⟩:=first_head (W:=writes x) (cs:=cs++gs.map (·.1)) (bs:=bs++List.range' st.h.length gs.length) hR1;have hlow:∀(i:Nat) (u:SV),st.s[i]?=some u->refLtV st.h.length u=true:=λi u hu=>(hR.slots i u hu).lt
     have hlowB:∀(k:Nat) (b:VB),k<st.h.length->st1.h[k]?=some b->refLtB st.h.length b=true:=λk b hk hb=>by
      rcases hst2 k hk with h|h
      ·rw[h]at hb;exact(hR.heap.is k b hb).lt
      ·rw[h]at hb;cases hb;rfl
     have hgW:∀g∈gs.map (·.1),g∈writes x:=λg hg=>by
      obtain⟨q,hq,rfl⟩:=List.mem_map.1 hg;exact elemN_mem.1 (hok.2.1 q hq).1
     have hgc:∀g∈gs.map (·.1),g ∉ cs:=λg hg h=>by
      obtain⟨q,hq,rfl⟩:=List.mem_map.1 hg;have:=(hok.2.1 q hq).2;rw[elemN_mem.2 h]at this;exact absurd this (by simp)
     exact wpX_loop_rounds N (loopX_roundsM (ρs:=ρ) (λc hc=>elemN_mem.1 (hok.1 c hc)) hs1 hs1l hl1 hd1 hst hgW hgc (nodupN_nodup hok.2.2.1) (λb hb=>by have:=hok.2.2.2 b hb;simp[Nat.blt]at this;omega) hlow hlowB hR.bound
      (λs r' ρ a w h1 h2=>veCX_sound hm hΓ x p ro (hW.imp_right λh=>h) E W0 n0 ρ0 _ _ _ r' (st1.d++D) ρ a w h1 h2) N _ ρ1 a w hr hR0 (hle1.trans hhl0) hren1)
   ·cases hr
  | loopG cs bs g t p=>
   rw[veC]at hr;split at hr
   ·rename_i st1 hprep;cases hok:cs.all (elemN · (writes x))&&(elemN g (writes x)&&(!elemN g cs&&bs.all (Nat.blt · st.h.length))) with
    |false=>rw[hok]at hr;cases hr
    | true=>
     rw[hok]at hr;simp only[Bool.and_eq_true,Bool.not_eq_true',List.all_eq_true]at hok;simp only[cond_true]at hr;obtain⟨ρ1,hR1,hs1,hl1,hle1,hst,hst2,hd1,hren1⟩:=prep_sound hR hprep;obtain⟨hR0,hhl0⟩:=first_head (W:=writes x) (cs:=cs++[g]) (bs:=bs++[st.h.length]) hR1;have hlow:∀(i:Nat) (u:SV),st.s[i]?=some u->refLtV st.h.length u=true:=λi u hu=>(hR.slots i u hu).lt
     have hlowB:∀(k:Nat) (b:VB),k<st.h.length->st1.h[k]?=some b->refLtB st.h.length b=true:=λk b hk hb=>by
      rcases hst2 k hk with h|h
      ·rw[h]at hb;exact(hR.heap.is k b hb).lt
      ·rw[h]at hb;cases hb;rfl
     have hgc:g ∉ cs:=λh=>by rw[elemN_mem.2 h]at hok;exact absurd hok.2.2.1 (by simp)
     exact wpX_loop_rounds N (loopX_roundsG (ρs:=ρ) (λc hc=>elemN_mem.1 (hok.1 c hc)) hs1 hl1 hd1 hst (elemN_mem.1 hok.2.1) hgc (λb hb=>by have:=hok.2.2.2 b hb;simp[Nat.blt]at this;omega) hlow hlowB hR.bound
      (λs r' ρ a w h1 h2=>veCX_sound hm hΓ x p ro (hW.imp_right λh=>h) E W0 n0 ρ0 _ _ _ r' (st1.d++D) ρ a w h1 h2) N _ ρ1 a w hr hR0 (hle1.trans hhl0) hren1)
   ·cases hr
  | loop cs bs p=>
   rw[veC]at hr;cases hcs:cs.all (elemN · (writes x)) with
   |false=>rw[hcs]at hr;cases hr
   |true=>rw[hcs]at hr;simp only[cond_true]at hr;obtain⟨hR0,hhl0⟩:=first_head (W:=writes x) (cs:=cs) (bs:=bs) hR;exact wpX_loop_rounds N (loopX_rounds hcs (ρs:=ρ) (λs r' ρ a w h1 h2=>veCX_sound hm hΓ x p ro (hW.imp_right λh=>h) E W0 n0 ρ0 _ _ _ r' (st.d++D) ρ a w h1 h2) N _ ρ a w hr hR0 hhl0 λ_ _=>rfl)
  | loopGR cs bs g t p=>
   rw[veC]at hr;split at hr
   ·rename_i st1 hprep;cases hok:cs.all (elemN · (writes x))&&(elemN g (writes x)&&(!elemN g cs&&bs.all (Nat.blt · st.h.length))) with
    |false=>rw[hok]at hr;cases hr
    | true=>
     rw[hok]at hr;simp only[Bool.and_eq_true,Bool.not_eq_true',List.all_eq_true]at hok;simp only[cond_true]at hr;obtain⟨ρ1,hR1,hs1,hl1,hle1,hst,hst2,hd1,hren1⟩:=prep_sound hR hprep;obtain⟨hR0,hhl0⟩:=first_head (W:=writes x) (cs:=cs++[g]) (bs:=bs++[st.h.length]) hR1;have hlow:∀(i:Nat) (u:SV),st.s[i]?=some u->refLtV st.h.length u=true:=λi u hu=>(hR.slots i u hu).lt
     have hlowB:∀(k:Nat) (b:VB),k<st.h.length->st1.h[k]?=some b->refLtB st.h.length b=true:=λk b hk hb=>by
      rcases hst2 k hk with h|h
      ·rw[h]at hb;exact(hR.heap.is k b hb).lt
      ·rw[h]at hb;cases hb;rfl
     have hgc:g ∉ cs:=λh=>by rw[elemN_mem.2 h]at hok;exact absurd hok.2.2.1 (by simp)
     exact wpX_loop_rounds N (loopX_roundsGR (ρs:=ρ) (λc hc=>elemN_mem.1 (hok.1 c hc)) hs1 hl1 hd1 hst (elemN_mem.1 hok.2.1) hgc (λb hb=>by have:=hok.2.2.2 b hb;simp[Nat.blt]at this;omega) hlow hlowB hR.bound
      (λs r' ρ a w h1 h2=>veCX_sound hm hΓ x p ro (hW.imp_right λh=>h) E W0 n0 ρ0 _ _ _ r' (st1.d++D) ρ a w h1 h2) N _ ρ1 a w hr hR0 (hle1.trans hhl0) hren1)
   ·cases hr
  | loopR cs bs p=>
   rw[veC]at hr;cases hcs:cs.all (elemN · (writes x)) with
   |false=>rw[hcs]at hr;cases hr
   |true=>rw[hcs]at hr;simp only[cond_true]at hr;obtain⟨hR0,hhl0⟩:=first_head (W:=writes x) (cs:=cs) (bs:=bs) hR;exact wpX_loop_rounds N (loopX_roundsR hcs (ρs:=ρ) (λs r' ρ a w h1 h2=>veCX_sound hm hΓ x p ro (hW.imp_right λh=>h) E W0 n0 ρ0 _ _ _ r' (st.d++D) ρ a w h1 h2) N _ ρ a w hr hR0 hhl0 λ_ _=>rfl)
 | .rangeFunc f ps as b,p,ro,hW,E,W0,n0,ρ0,α,st,K,r,D,ρ,a,w,hr,hR=>by
  cases p with
  |one=>simp[veC]at hr
  |two p q=>simp[veC]at hr
  |loop cs bs p=>simp[veC]at hr
  |loopG cs bs g e p=>simp[veC]at hr
  |loopR cs bs p=>simp[veC]at hr
  |loopGR cs bs g e p=>simp[veC]at hr
  |loopB cs bs g e p=>simp[veC]at hr
  |loopM cs bs gs p=>simp[veC]at hr
  |loopF cs bs gs p=>simp[veC]at hr
  |iterB bs g e p=>
   rcases hW with rfl|h
   ·exact rangeFuncX_soundB hΓ (λy1 l E' st1 r' ρ1 a1 W hni hv hR1=>veCX_sound hm hΓ b p (some l) (.inr hni) E' W _ ρ1 _ st1 _ r' [] ρ1 a1 W hv hR1) hr hR
   ·simp[noIter]at h
  |jump l cs bs p q=>simp[veC]at hr
  |sc p=>simp[veC]at hr
  |iterL bs p=>
   rcases hW with rfl|h
   ·exact rangeFuncX_soundL hΓ (λl st1 r' ρ1 a1 W hni hv hR1=>veCX_sound hm hΓ b p (some l) (.inr hni) [] W _ ρ1 _ st1 _ r' [] ρ1 a1 W hv hR1) hr hR
   ·simp[noIter]at h
  |iterW bs p=>
   rcases hW with rfl|h
   ·exact rangeFuncX_soundW hΓ (λl st1 r' ρ1 a1 W hni hv hR1=>veCX_sound hm hΓ b p (some l) (.inr hni) [] W _ ρ1 _ st1 _ r' [] ρ1 a1 W hv hR1) hr hR
   ·simp[noIter]at h
  |ng p=>simp[veC]at hr
  |iterA bs p=>
   rcases hW with rfl|h
   ·exact rangeFuncX_soundA hm hΓ (λl st1 r' ρs ρ1 a1 W1 W hni hv hR1=>veCX_sound hm hΓ b p (some l) (.inr hni) [] W1 _ ρs _ st1 _ r' [] ρ1 a1 W hv hR1) hr hR
   ·simp[noIter]at h
  |iter bs p=>
   rcases hW with rfl|h
   ·exact rangeFuncX_sound hΓ (λl st1 r' ρ1 a1 W hni hv hR1=>veCX_sound hm hΓ b p (some l) (.inr hni) [] W _ ρ1 _ st1 _ r' [] ρ1 a1 W hv hR1) hr hR
   ·simp[noIter]at h
 | .scope b,p,ro,hW,E,W0,n0,ρ0,α,st,K,r,D,ρ,a,w,hr,hR=>by
  cases p with
  |ng p=>
   rw[veC]at hr;refine wpX_scope (WpX.mono (veCX_sound hm hΓ b p ro hW E W0 n0 ρ0 α st _ r D ρ a w hr hR) ?_);rintro e a1 w1 ⟨ρ1,st1,hk,hR1,hE1⟩;cases e with
   |goto l=>cases hk
   |normal=>exact⟨ρ1,st1,hk,hR1,hE1⟩
   |exit id=>exact⟨ρ1,st1,hk,hR1,hE1⟩
   |ret=>exact⟨ρ1,st1,hk,hR1,hE1⟩
   |panic ch=>exact⟨ρ1,st1,hk,hR1,hE1⟩
   |outgrown=>exact⟨ρ1,st1,hk,hR1,hE1⟩
  |_=>simp[veC]at hr
 |.label l,p,ro,hW,E,W0,n0,ρ0,α,st,K,r,D,ρ,a,w,hr,hR=>wpX_label ⟨ρ,st,by simpa [veC] using hr,hR,.refl _ _ _ _⟩
 |.goto l,p,ro,hW,E,W0,n0,ρ0,α,st,K,r,D,ρ,a,w,hr,hR=>wpX_goto ⟨ρ,st,by simpa [veC] using hr,hR,.refl _ _ _ _⟩
 |.refuse l,p,ro,hW,E,W0,n0,ρ0,α,st,K,r,D,ρ,a,w,hr,hR=>by simp[veC]at hr
def hopsX(mn:Md)(ro:Option Nat)(P:Program)(c:Code)(l:Nat)(Q:Exit->Act->World->Prop):Nat->Act->World->Prop
 |0,_,_=>False
 |m+1,a,w=>WpX mn ro P c (Exit.hop l (hopsX mn ro P c l Q m) Q) a w
theorem wpX_scope_hops{c rest:Code}{l m:Nat}{a:Act}{v:World}{Q:Exit->Act->World->Prop}(hf:findLabel c l=some rest)(first:WpX mn ro P c (Exit.hop l (hopsX mn ro P rest l Q m) Q) a v):WpX mn ro P (.scope c) Q a v:=λPr hC b hb hkd k cs G w hfit hv hQ=>by
 have hg:gotoIn l (.inScope c::k)=some (.code rest::.inScope c::k):=by simp[gotoIn,hf]
 have leave:∀(e:Exit) (a':Act) (v':World),(∀l',e ≠ .goto l')->Q e a' v'->∀G' w',FitM mn G' w'->Ge v' (view G' w')->Arr Pr b (.inScope c::k) cs e a' G' w':=by
  intro e a' v' hne hq G' w' hf' hv';cases e with
  |normal=>exact hC.calm hf' rfl (λw=>sg_inScope) λw₂ hf₂ hg₂=>hQ .normal a' v' hq G' w₂ hf₂ (hv'.trans hg₂)
  |exit id'=>
   have hx:exitTo id' (.inScope c::k)=exitTo id' k:=by simp[exitTo]
   have:=hQ (.exit id') a' v' hq G' w' hf' hv';exact⟨λk' hk=>this.1 k' (by rwa [hx]at hk),λhk=>this.2 (by rwa [hx]at hk)⟩
  |goto l'=>exact absurd rfl (hne l')
  |ret=>exact hQ .ret a' v' hq G' w' hf' hv'
  |panic ch=>trivial
  |outgrown=>trivial
 have key:∀(m:Nat) (a:Act) (v:World),hopsX mn ro P rest l Q m a v->∀(G:Gh) (w:World),FitM mn G w->Ge v (view G w)->Pr G w (gr (b.atR a (.code rest::.inScope c::k)) cs):=by
  intro m
  induction m with
  |zero=>intro a v h;exact h.elim
  | succ m ih=>
   intro a v h G w hfit hv;refine h Pr hC b hb hkd (.inScope c::k) cs G w hfit hv λe a' v' hq G' w' hf' hv'=> ?_
   cases e with
   | goto l'=>
    obtain⟨rfl,hJ⟩:=hq;refine⟨λk' hk=> ?_,λhk=> ?_⟩
    ·rw[hg]at hk;cases hk;exact ih a' v' hJ G' w' hf' hv'
    ·rw[hg]at hk;cases hk
   |normal=>exact leave .normal a' v' (by simp) hq G' w' hf' hv'
   |exit id=>exact leave (.exit id) a' v' (by simp) hq G' w' hf' hv'
   |ret=>exact leave .ret a' v' (by simp) hq G' w' hf' hv'
   |panic ch=>trivial
   |outgrown=>trivial
 exact hC.calm hfit rfl (λw=>sg_scope) λw₁ hf₁ hg₁=>first Pr hC b hb hkd (.inScope c::k) cs G w₁ hf₁ (hv.trans hg₁) λe a' v' hq G' w' hf' hv'=>by
  cases e with
  | goto l'=>
   obtain⟨rfl,hJ⟩:=hq;refine⟨λk' hk=> ?_,λhk=> ?_⟩
   ·rw[hg]at hk;cases hk;exact key m a' v' hJ G' w' hf' hv'
   ·rw[hg]at hk;cases hk
  |normal=>exact leave .normal a' v' (by simp) hq G' w' hf' hv'
  |exit id=>exact leave (.exit id) a' v' (by simp) hq G' w' hf' hv'
  |ret=>exact leave .ret a' v' (by simp) hq G' w' hf' hv'
  |panic ch=>trivial
  |outgrown=>trivial
theorem hopX_rounds{c:Code}{p:Plan}{l:Nat}{cs bs:List Nat}(hcs:cs.all (elemN · (writes c))=true){α:Type}{K:Exit->St->Option α}{r:α}{st stt:St}{ρs ρt:Nat->Ad}{Wt:List Nat}(hWt:∀x∈writes c,x∈Wt)(hEt:Ext Wt stt.h.length ρt ρs stt st)
  (body:∀ (s:LS) (r':Stp LS (Exit×LS)) (ρ:Nat→Ad) (a:Act) (w:World),
   stepVJ P Γ N c p l cs bs st s=some r'->RS E P W0 n0 (st.d++D) ρ0 ρ (head (writes c) cs bs st s) a w ->
   WpX mn ro P c (λe a' w'=>∃ρ' st',kBodyL l st.h.length cs bs e st'=some r'/\RS E P W0 n0 (st.d++D) ρ0 ρ' st' a' w'/\Ext (writes c) (head (writes c) cs bs st s).h.length ρ ρ' (head (writes c) cs bs st s) st') a w) :
  ∀(m:Nat) (s:LS) (ρ:Nat->Ad) (a:Act) (w:World),
   bindX (iterO (stepVJ P Γ N c p l cs bs st) m s) (λe s=>K e (left (writes c) cs bs st s))=some r ->
   RS E P W0 n0 (st.d++D) ρ0 ρ (head (writes c) cs bs st s) a w->HLe st.h (head (writes c) cs bs st s).h->(∀k,k<st.h.length->ρ k=ρs k) ->
   ∃m',m=m'+1/\WpX mn ro P c (Exit.hop l (hopsX mn ro P (.seq .skip c) l (HopQ E P W0 n0 D ρ0 K r Wt ρt stt) m') (HopQ E P W0 n0 D ρ0 K r Wt ρt stt)) a w
 |0,s,ρ,a,w,hr,_,_,_=>by simp[iterO,bindX]at hr
 | m+1,s,ρ,a,w,hr,hR,hhl,hren=>by
  rw[iterO]at hr;refine⟨m,rfl,?_⟩;have moreE:∀{o:Option LS} {s':LS},moreStp (X:=Exit×LS) o=some (.more s')->o=some s':=λ{o s'} h=>by cases o<;>cases h;rfl
  have moreN:∀{o:Option LS} {x:Exit×LS},moreStp (X:=Exit×LS) o=some (.done x)->False:=λ{o x} h=>by cases o<;>cases h
  have doneE:∀{o:Option LS} {e:Exit} {x:Exit×LS},doneStp e o=some (.done x)->∃s',o=some s'/\x=(e,s'):=λ{o e x} h=>by cases o<;>cases h;exact⟨_,rfl,rfl⟩
  have doneN:∀{o:Option LS} {e:Exit} {s':LS},doneStp e o=some (.more s')->False:=λ{o e s'} h=>by cases o<;>cases h
  cases hs':stepVJ P Γ N c p l cs bs st s with
  |none=>rw[hs']at hr;simp[bindX]at hr
  | some x=>
   rw[hs']at hr;cases x with
   | more s'=>
    dsimp only at hr;refine WpX.mono (body s _ ρ a w hs' hR) ?_;rintro e a' w' ⟨ρ',st',hk,hR',hE⟩;cases e with
    | goto l'=>
     simp only[kBodyL]at hk;cases hb:Nat.beq l' l with
     |false=>rw[hb]at hk;cases hk
     |true=>
      rw[hb]at hk;obtain⟨rfl,h1,h2,h3⟩:=tail_good (moreE hk);obtain⟨hR2,hhl2⟩:=next_head hR hR' hE hhl h1 h2 h3;obtain⟨m',rfl,hrec⟩:=hopX_rounds hcs hWt hEt body m _ ρ' a' w' hr hR2 hhl2 λk hk'=>(hE.ren k (by rw[show (head (writes c) cs bs st s).h.length=st.h.length from setMany_len _ _ _];exact hk')).trans (hren k hk')
      exact⟨Nat.eq_of_beq_eq_true hb,wpX_seq (wpX_skip hrec)⟩
    |normal=>exact(doneN hk).elim
    |exit id=>exact(doneN hk).elim
    |ret=>exact(doneN hk).elim
    |panic ch=>cases hk
    |outgrown=>cases hk
   | done x=>
    simp only[bindX]at hr;refine WpX.mono (body s _ ρ a w hs' hR) ?_;rintro e a' w' ⟨ρ',st',hk,hR',hE⟩;have fin:doneStp e (tail st.h.length cs bs st')=some (.done x)->HopQ E P W0 n0 D ρ0 K r Wt ρt stt e a' w':=λh=>by
     obtain⟨s',hs,rfl⟩:=doneE h;obtain⟨rfl,h1,h2,h3⟩:=tail_good hs;obtain⟨hR2,hhl2⟩:=next_head hR hR' hE hhl h1 h2 h3;obtain⟨h4,h5⟩:=left_loop hcs hR2 hhl2 λk hk'=>(hE.ren k (by rw[show (head (writes c) cs bs st s).h.length=st.h.length from setMany_len _ _ _];exact hk')).trans (hren k hk')
     exact⟨ρ',_,hr,h4,hEt.trans (h5.mono hWt hEt.hlen)⟩
    cases e with
    |goto l'=>
     simp only[kBodyL]at hk;cases hb:Nat.beq l' l with
     |false=>rw[hb]at hk;cases hk
     |true=>rw[hb]at hk;exact(moreN hk).elim
    |normal=>exact fin hk
    |exit id=>exact fin hk
    |ret=>exact fin hk
    |panic ch=>cases hk
    |outgrown=>cases hk
theorem veScX_sound (hm:P.follows .mixedOrders=true) (hΓ:ConsOkX mn P (IConOkX mn P) Γ) (hW:ro=none) {W0:World} {n0:Nat} {ρ0:Nat→Ad} {α:Type} {K:Exit→St→Option α} {r:α} {D E:List Nat} {Wt:List Nat} {ρt:Nat→Ad} {stt:St} (hKg:∀ l st,K (.goto l) st=none) {j:JD} :
  ∀(c:Code) (p:Plan) (ρ:Nat->Ad) (st:St) (a:Act) (w:World),jd c p=some j->(∀x∈writes c,x∈Wt)->veSc P Γ N c p α st K=some r->RS E P W0 n0 D ρ0 ρ st a w->Ext Wt stt.h.length ρt ρ stt st ->
   WpX mn ro P c (Exit.hop j.l (hopsX mn ro P (.seq .skip j.z) j.l (HopQ E P W0 n0 D ρ0 K r Wt ρt stt) N) (HopQ E P W0 n0 D ρ0 K r Wt ρt stt)) a w
 | .seq x y,.two p q,ρ,st,a,w,hj,hWc,hr,hR,hEt=>by
  simp only[jd]at hj;split at hj
  ·rename_i j' hjy;cases hb:(findLabel x j'.l).isNone with
   |false=>rw[hb]at hj;cases hj
   |true=>rw[hb]at hj;cases hj;rw[veSc]at hr;refine wpX_seq (WpX.mono (veCX_sound hm hΓ x p ro (.inl hW) E W0 n0 ρ0 α st _ r D ρ a w hr hR) ?_);rintro e a1 w1 ⟨ρ1,st1,hk,hR1,hE1⟩;have hE2:=hEt.trans (hE1.mono (λi hi=>hWc i (List.mem_append_left _ hi)) hEt.hlen);cases e with|normal=>exact veScX_sound hm hΓ hW hKg y q ρ1 st1 a1 w1 hjy (λi hi=>hWc i (List.mem_append_right _ hi)) hk hR1 hE2|goto l=>exact absurd hk (by rw[show kSeq (veSc P Γ N y q α) K (.goto l) st1=K (.goto l) st1 from rfl,hKg];simp)|exit id=>exact⟨ρ1,st1,hk,hR1,hE2⟩|ret=>exact⟨ρ1,st1,hk,hR1,hE2⟩|panic ch=>exact⟨ρ1,st1,hk,hR1,hE2⟩|outgrown=>exact⟨ρ1,st1,hk,hR1,hE2⟩
  ·cases hj
 | .seq x y,.jump l cs bs p q,ρ,st,a,w,hj,hWc,hr,hR,hEt=>by
  simp only[jd]at hj;split at hj
  ·rename_i z hz;cases hb:(findLabel x l).isNone with
   |false=>rw[hb]at hj;cases hj
   | true=>
    rw[hb]at hj;cases hj;rw[veSc]at hr;rw[hz]at hr;dsimp only at hr|-
    have hy:=afterL_is hz;cases hcs:cs.all (elemN · (writes z)) with
    |false=>rw[hcs]at hr;cases hr
    | true=>
     rw[hcs,cond_true]at hr;refine wpX_seq (WpX.mono (veCX_sound hm hΓ x p ro (.inl hW) E W0 n0 ρ0 α st _ r D ρ a w hr hR) ?_);rintro e a1 w1 ⟨ρ1,st1,hk,hR1,hE1⟩;have hE2:=hEt.trans (hE1.mono (λi hi=>hWc i (List.mem_append_left _ hi)) hEt.hlen);cases e with
     | normal=>
      simp only[kSeq]at hk;have hwz:∀i∈writes z,i∈Wt:=λi hi=>hWc i (List.mem_append_right _ (by rw[hy];exact List.mem_append_right _ hi))
      obtain⟨hR0,hhl0⟩:=first_head (W:=writes z) (cs:=cs) (bs:=bs) hR1;obtain⟨N',hN,hrounds⟩:=hopX_rounds (P:=P) (Γ:=Γ) (mn:=mn) (ro:=ro) (N:=N) (W0:=W0) (n0:=n0) (D:=D) (ρ0:=ρ0) hcs (p:=q) (l:=l) hwz hE2 (λs r' ρ a w h1 h2=>veCX_sound hm hΓ z q ro (.inl hW) E W0 n0 ρ0 _ _ _ r' (st1.d++D) ρ a w h1 h2) N _ ρ1 a1 w1 hk hR0 hhl0 (λ_ _=>rfl)
      -- the first round, from the label itself
      show WpX mn ro P y _ a1 w1
      rw[hy];generalize hQ:HopQ E P W0 n0 D ρ0 K r Wt ρt stt=Q at hrounds|-
      refine wpX_seq (wpX_label ?_)
      show WpX mn ro P z _ a1 w1
      have hN2:∀(m:Nat) (a:Act) (w:World),hopsX mn ro P (.seq .skip z) l Q m a w->hopsX mn ro P (.seq .skip z) l Q (m+1) a w:=by
       intro m
       induction m with
       |zero=>intro a w h;exact h.elim
       |succ m ih=>intro a w h;refine WpX.mono h ?_;intro e a' w' he;cases e with|goto l'=>exact⟨he.1,ih a' w' he.2⟩|_=>exact he
      refine WpX.mono hrounds λe a' w' he=> ?_
      cases e with|goto l'=>exact⟨he.1,by have:=hN2 _ a' w' he.2;rw[<- hN]at this;exact this⟩|_=>exact he
     |goto l'=>exact absurd hk (by simp only[kSeq];rw[hKg];simp)
     |exit id=>exact⟨ρ1,st1,hk,hR1,hE2⟩
     |ret=>exact⟨ρ1,st1,hk,hR1,hE2⟩
     |panic ch=>exact⟨ρ1,st1,hk,hR1,hE2⟩
     |outgrown=>exact⟨ρ1,st1,hk,hR1,hE2⟩
  ·cases hj
 |.seq x y,.one,_,_,_,_,hj,_,_,_,_ | .seq x y,.loop _ _ _,_,_,_,_,hj,_,_,_,_ | .seq x y,.loopG _ _ _ _ _,_,_,_,_,hj,_,_,_,_ | .seq x y,.loopR _ _ _,_,_,_,_,hj,_,_,_,_ | .seq x y,.loopGR _ _ _ _ _,_,_,_,_,hj,_,_,_,_ | .seq x y,.iter _ _,_,_,_,_,hj,_,_,_,_ | .seq x y,.sc _,_,_,_,_,hj,_,_,_,_=>by simp[jd]at hj
 |.skip,_,_,_,_,_,hj,_,_,_,_ | .region _ _ _,_,_,_,_,_,hj,_,_,_,_ | .cond _ _ _,_,_,_,_,_,hj,_,_,_,_ | .block _ _,_,_,_,_,_,hj,_,_,_,_ | .loop _,_,_,_,_,_,hj,_,_,_,_ | .rangeFunc _ _ _ _,_,_,_,_,_,hj,_,_,_,_ | .exit _,_,_,_,_,_,hj,_,_,_,_ | .scope _,_,_,_,_,_,hj,_,_,_,_ | .label _,_,_,_,_,_,hj,_,_,_,_ | .goto _,_,_,_,_,_,hj,_,_,_,_ | .ret,_,_,_,_,_,hj,_,_,_,_ | .refuse _,_,_,_,_,_,hj,_,_,_,_=>by simp[jd]at hj
theorem veFX_sound(hm:P.follows .mixedOrders=true)(hΓ:ConsOkX mn P (IConOkX mn P) Γ)(hW:ro=none){W0:World}{n0:Nat}{ρ0:Nat->Ad}{α:Type}{K:Exit->St->Option α}{r:α}{D E:List Nat}:
  ∀(c:Code) (p:Plan) (ρ:Nat->Ad) (st:St) (a:Act) (w:World),veF P Γ N c p α st K=some r->RS E P W0 n0 D ρ0 ρ st a w ->
   WpX mn ro P c (λe a' w'=>∃ρ' st',K e st'=some r/\RS E P W0 n0 D ρ0 ρ' st' a' w'/\Ext (writes c) st.h.length ρ ρ' st st') a w
 | .seq x y,.two p q,ρ,st,a,w,hr,hR=>by
  rw[veF]at hr;refine wpX_seq (WpX.mono (veCX_sound hm hΓ x p ro (.inl hW) E W0 n0 ρ0 α st _ r D ρ a w hr hR) ?_);rintro e a1 w1 ⟨ρ1,st1,hk,hR1,hE1⟩;cases e with
  |normal=>refine WpX.mono (veFX_sound hm hΓ hW y q ρ1 st1 a1 w1 hk hR1) ?_;rintro e2 a2 w2 ⟨ρ2,st2,hk2,hR2,hE2⟩;exact⟨ρ2,st2,hk2,hR2,ext_seq hE1 hE2⟩
  |exit id=>exact⟨ρ1,st1,hk,hR1,hE1.mono (λ_ h=>List.mem_append_left _ h) (Nat.le_refl _)⟩
  |goto l=>exact⟨ρ1,st1,hk,hR1,hE1.mono (λ_ h=>List.mem_append_left _ h) (Nat.le_refl _)⟩
  |ret=>exact⟨ρ1,st1,hk,hR1,hE1.mono (λ_ h=>List.mem_append_left _ h) (Nat.le_refl _)⟩
  |panic ch=>exact⟨ρ1,st1,hk,hR1,hE1.mono (λ_ h=>List.mem_append_left _ h) (Nat.le_refl _)⟩
  |outgrown=>exact⟨ρ1,st1,hk,hR1,hE1.mono (λ_ h=>List.mem_append_left _ h) (Nat.le_refl _)⟩
 | .scope x,p,ρ,st,a,w,hr,hR=>by
  rw[veF]at hr;split at hr
  ·rename_i j hj;refine wpX_scope_hops (jd_find hj) (m:=N) ?_;have:=veScX_sound (K:=kScope K) (ρt:=ρ) (stt:=st) (Wt:=writes x) hm hΓ hW (λl st=>rfl) x p ρ st a w hj (λ_ h=>h) hr hR (.refl _ _ _ _);have up:∀(e:Exit) (a':Act) (w':World),HopQ E P W0 n0 D ρ0 (kScope K) r (writes x) ρ st e a' w'->∃ρ' st',K e st'=some r/\RS E P W0 n0 D ρ0 ρ' st' a' w'/\Ext (writes (.scope x)) st.h.length ρ ρ' st st':=λe a' w' ⟨ρ',st',h1,h2,h3⟩=>⟨ρ',st',kScope_is h1,h2,h3⟩
   have hops:∀(m:Nat) (a:Act) (w:World),hopsX mn ro P (.seq .skip j.z) j.l (HopQ E P W0 n0 D ρ0 (kScope K) r (writes x) ρ st) m a w->hopsX mn ro P (.seq .skip j.z) j.l (λe a' w'=>∃ρ' st',K e st'=some r/\RS E P W0 n0 D ρ0 ρ' st' a' w'/\Ext (writes (.scope x)) st.h.length ρ ρ' st st') m a w:=by
    intro m
    induction m with
    |zero=>intro a w h;exact h.elim
    |succ m ih=>
     intro a w h;refine WpX.mono h λe a' w' he=> ?_
     cases e with|goto l'=>exact⟨he.1,ih a' w' he.2⟩|_=>exact up _ _ _ he
   refine WpX.mono this λe a' w' he=> ?_
   cases e with|goto l'=>exact⟨he.1,hops _ a' w' he.2⟩|_=>exact up _ _ _ he
  ·cases hr
 |.seq x y,.one,_,_,_,_,hr,_ | .seq x y,.loop _ _ _,_,_,_,_,hr,_ | .seq x y,.loopG _ _ _ _ _,_,_,_,_,hr,_ | .seq x y,.loopR _ _ _,_,_,_,_,hr,_ | .seq x y,.loopGR _ _ _ _ _,_,_,_,_,hr,_ | .seq x y,.iter _ _,_,_,_,_,hr,_ | .seq x y,.sc _,_,_,_,_,hr,_ | .seq x y,.jump _ _ _ _ _,_,_,_,_,hr,_=>by simp[veF]at hr
 |.skip,_,_,_,_,_,hr,_ | .region _ _ _,_,_,_,_,_,hr,_ | .cond _ _ _,_,_,_,_,_,hr,_ | .block _ _,_,_,_,_,_,hr,_ | .loop _,_,_,_,_,_,hr,_ | .rangeFunc _ _ _ _,_,_,_,_,_,hr,_ | .exit _,_,_,_,_,_,hr,_ | .label _,_,_,_,_,_,hr,_ | .goto _,_,_,_,_,_,hr,_ | .ret,_,_,_,_,_,hr,_ | .refuse _,_,_,_,_,_,hr,_=>by simp[veF]at hr
theorem veTX_sound(hm:P.follows .mixedOrders=true)(hΓ:ConsOkX mn P (IConOkX mn P) Γ)(hW:ro=none){W0:World}{n0:Nat}{ρ0:Nat->Ad}{α:Type}{K:Exit->St->Option α}{r:α}{D E:List Nat}
  (c:Code) (p:Plan) (ρ:Nat→Ad) (st:St) (a:Act) (w:World) (hr:veT P Γ N c p α st K=some r) (hR:RS E P W0 n0 D ρ0 ρ st a w) :
   WpX mn ro P c (λe a' w'=>∃ρ' st',K e st'=some r/\RS E P W0 n0 D ρ0 ρ' st' a' w'/\Ext (writes c) st.h.length ρ ρ' st st') a w:=by
 cases p with|sc p=>exact veFX_sound hm hΓ hW c p ρ st a w hr hR|_=>exact veCX_sound hm hΓ c _ ro (.inl hW) E W0 n0 ρ0 α st K r D ρ a w hr hR
end
end
section
set_option linter.unusedVariables false
set_option linter.unusedSimpArgs false
variable {mn:Md}
section
variable {P:Program} {Γ:Cons} {N:Nat}
def LeavesM(P:Program)(fn:Func)(tmps:Array Value)(R:Value->World->Prop)(ds:List Deferred)(v:World):Prop:=
 ∃W0,DefOk W0 ds v/\∀wx:World,Kept (λk=>W0.heap.size<=k) v wx->(∀(k:Nat) o,v.heap[k]?=some o->isDf o=false->wx.heap[k]?=some o)->∃r,(results fn tmps).run P wx=.ok r wx/\R r wx
theorem simple_results(fn:Func)(tmps:Array Value):Simple P (results fn tmps):=by
 unfold results;refine .bind (simple_mapMA _ (λr=> ?_) _) λ_=>.pure _
 cases r with|tmp t=>exact .pure _|cell a t=>exact .bind (simple_asAddr _) λ_=>simple_loadVar _ _
theorem sg_unwind{fr:Frame}{cs:List Frame}{w w':World}{m:Nat}{ds:List Deferred}{es:Array Event}(hm:fr.mode=.returning)(hd:fr.defers={ target:=.collected m,args:=#[] }::ds)(hr:(Instr.takeDeferred m).runT P w #[]=(.ok [] w',es)):
  stepG P mn.main (gr fr cs) w=.go (gr { fr with defers:=ds } cs) w' (seen P fr.fn es):=by
 simp[gr,stepG,unwind,hm,hd,hr,GStep.after,-Sem.runT_eq]
theorem unwind_marks{Pr:Gh->World->Goroutine->Prop}(hC:Closed P mn.main Pr){f:FuncId}{fn:Func}(hf:P.funcs[f]?=some fn){tmps:Array Value}{R:Value->World->Prop}{cs:List Frame}
  (hQ:∀v' fr,fr.fn=f->LeavesX P fr R v'->∀G' w',FitM mn G' w'->Ge v' (view G' w')->Pr G' w' (gr fr cs)) :
  ∀(ds:List Deferred) (fr:Frame) (v:World),fr.fn=f->fr.mode=.returning->fr.kind=.normal->fr.tmps=tmps->fr.defers=ds->LeavesM P fn tmps R ds v->∀(G:Gh) (w:World),FitM mn G w->Ge v (view G w)->Pr G w (gr fr cs)
 | [],fr,v,h1,h2,h3,h4,h5,⟨W0,_,hl⟩,G,w,hfit,hv=>hQ v fr h1 ⟨h2,h5,h3,fn,by rw [h1];exact hf,fun v₁ hg=>by
   obtain⟨r,q1,q2⟩:=hl v₁ (hg.kept _) λk o hk _=>hg.at hk
   exact⟨r,by rw[h4];exact(simple_results fn tmps).tr q1,q2⟩⟩ G w hfit hv
 | d::ds,fr,v,h1,h2,h3,h4,h5,⟨W0,hd,hl⟩,G,w,hfit,hv=>by
  refine hC.step G w _ hfit rfl λw₁ hr₁=> ?_
  have hf₁:=hfit.rely hr₁;have hg₁:=hv.trans (hr₁.view hfit);generalize hv₁:view G w₁=v₁ at hg₁;have hd₁:=hd.same (hg₁.kept _);obtain⟨m,rfl,hm,hb⟩:=hd₁.all d (List.mem_cons_self ..);obtain⟨w₂,es,e1,e2,e3⟩:=tr_takeDeferred (P:=P) hb G w₁ hf₁ hv₁ #[];refine⟨_,w₂,_,sg_unwind h2 h5 e1,by simpa using e3.seen fr.fn,?_⟩;have hlt:m<v₁.heap.size:=(Array.getElem?_eq_some_iff.1 hb).1;have hk:Kept (λk=>W0.heap.size<=k) v (v₁.putObj m (.deferred none)):=(hg₁.kept _).trans ⟨rfl,rfl,rfl,by simp[World.putObj],λk hk hne=>World.putObj_heap_other (by omega)⟩;have hc:∀k o,v.heap[k]?=some o->isDf o=false->(v₁.putObj m (.deferred none)).heap[k]?=some o:=λk o hc ho=>by
   rw[World.putObj_heap_other (by rintro rfl;rw[hg₁.at hc]at hb;cases hb;cases ho)];exact hg₁.at hc
  have hpw:=List.pairwise_cons.1 hd₁.diff;refine unwind_marks hC hf hQ ds { fr with defers:=ds } (v₁.putObj m (.deferred none)) h1 h2 h3 h4 rfl ⟨W0,⟨λe he=> ?_,hpw.2⟩,λwx q1 q2=>hl wx (hk.trans (q1.mono λ_ _ h=>h)) λk o hh ho=>q2 k o (hc k o hh ho) ho⟩ _ w₂ (hf₁.did e3) (by rw[<- e2];exact Ge.refl _);obtain⟨q,rfl,h1,h2⟩:=hd₁.all e (List.mem_cons_of_mem _ he);refine⟨q,rfl,h1,?_⟩;rw[World.putObj_heap_other (by rintro rfl;exact hpw.1 _ he _ rfl rfl)];exact h2
theorem callsX_of_marks{f:FuncId}{fn:Func}(hf:P.funcs[f]?=some fn){c:Code}(hb:fn.body=some c){args:Array Value}{v:World}{R:Value->World->Prop}
  (h:WpX mn none P c (λe a' v'=>(e=.normal\/e=.ret)/\LeavesM P fn a'.tmps R a'.defers v') { tmps:=args++Array.replicate (fn.ntmps - args.size) undef,defers:=[] } v):CallsX mn P f args v R:=λPr hC cs G w hfit hv hQ=>by
 let b:Frame:={ fn:=f,tmps:=#[],todo:=[],defers:=[],mode:=.run,kind:=.normal }
 have he:Frame.enter P f args .normal=b.atR { tmps:=args++Array.replicate (fn.ntmps - args.size) undef,defers:=[] } [.code c]:=by simp[Frame.enter,Frame.atR,b,hf,hb]
 rw[he];refine h Pr hC b rfl rfl [] cs G w hfit hv λe a' v' hq G' w' hf' hv'=> ?_
 obtain⟨hex,hl⟩:=hq;have fin:∀(k:List Item) (w:World),stepG P mn.main (gr (b.atR a' k) cs) w=.go (gr { b.atR a' k with mode:=.returning } cs) w #[]->True:=λ_ _ _=>trivial
 have go:∀k:List Item,(∀w,stepG P mn.main (gr (b.atR a' k) cs) w=.go (gr { b.atR a' k with mode:=.returning } cs) w #[])->Pr G' w' (gr (b.atR a' k) cs):=λk hs=>
  hC.calm hf' rfl hs λw₁ hf₁ hg=>unwind_marks hC hf hQ a'.defers _ v' rfl rfl rfl rfl rfl hl G' w₁ hf₁ (hv'.trans hg)
 rcases hex with rfl|rfl
 ·exact go [] λw=>by simp[gr,stepG,stepG.exec,Frame.atR,b]
 ·exact λk₁=>go _ λw=>by simp[gr,stepG,stepG.exec,Frame.atR,b]
theorem funX_ok (hm:P.follows .mixedOrders=true) (hΓ:ConsOkX mn P (IConOkX mn P) Γ) {f:FuncId} {fn:Func} (hf:P.funcs[f]? = some fn) {c:Code} (hb:fn.body=some c) {res:List ResultVar} (hres:fn.results.toList=res) {nt:Nat} (hnt:fn.ntmps=nt) (p:Plan) :
  ConOkX mn P f (funV P Γ N res nt c p):=by
 intro ρ h w args vals r ef hno hr hA hH;refine callsX_of_marks hf hb ?_;have hlen:args.length=vals.length:=hA.1
 have hR:R P w h.length [] ρ ρ (entry nt args h) { tmps:=vals.toArray++Array.replicate (fn.ntmps - vals.toArray.size) undef,defers:=[] } w:=by
  refine⟨by simp[entry,hlen,hnt],λi v hv=> ?_,hH,λ_ _=>rfl,λk hk hp=> ?_,Kept.refl _ w,λn len C e _ h=>absurd h (hno n len C e),DefOk.nil _ _,Nat.le_refl _⟩
  ·simp only[entry]at hv|-
   by_cases hi:i<args.length
   ·rw[List.getElem?_append_left (by simpa using hi),List.getElem?_map,List.getElem?_eq_getElem hi]at hv;simp only[Option.map_some,Option.some.injEq]at hv;subst hv;have:(vals.toArray++Array.replicate (fn.ntmps - vals.toArray.size) undef).getD i undef=vals[i]'(by omega):=by
     rw[Array.getD_eq_getD_getElem?,Array.getElem?_append_left (by simp;omega)];simp[show i<vals.length by omega]
    rw[this];exact hA.2 i _ _ (List.getElem?_eq_getElem hi) (List.getElem?_eq_getElem (by omega))
   ·rw[List.getElem?_append_right (by simp;omega),List.getElem?_replicate]at hv;split at hv
    ·cases hv;have:(vals.toArray++Array.replicate (fn.ntmps - vals.toArray.size) undef).getD i undef=undef:=by
      rw[Array.getD_eq_getD_getElem?,Array.getElem?_append_right (by simp;omega),Array.getElem?_replicate];split<;>rfl
     rw[this];rfl
    ·cases hv
  ·exfalso;cases hp with|row e=>have:=(List.getElem?_eq_some_iff.1 e).1;simp only[entry]at this;omega|one e=>have:=(List.getElem?_eq_some_iff.1 e).1;simp only[entry]at this;omega|mp e=>have:=(List.getElem?_eq_some_iff.1 e).1;simp only[entry]at this;omega|own e _ _=>have:=(List.getElem?_eq_some_iff.1 e).1;simp only[entry]at this;omega
 refine WpX.mono (veTX_sound hm hΓ rfl c p ρ _ _ w hr hR) ?_;rintro e a' w' ⟨ρ',st',hk,hR',hE⟩
 have key:finA P h res st'=some (r,ef,true) →
   LeavesM P fn a'.tmps (λv w'=>EffPost P ρ h w r ef v w') a'.defers w':=by
  intro hk;unfold finA at hk;cases hcl:cleanD h.length st'.d with
  | false=>
   rw[hcl]at hk;simp only[cond_false]at hk;cases hv0:ansW P st' res with
   |none=>rw[hv0]at hk;cases hk
   |some vv0=>
   cases hfirst:firstD h.length st'.d with
   |none=>rw[hv0,hfirst]at hk;cases hk
   |some m=>
   rw[hv0,hfirst]at hk;dsimp only at hk;cases hone:oneD h.length m st'.d with
   |false=>rw[hone]at hk;cases hk
   |true=>
   rw[hone]at hk;simp only[cond_true]at hk;have hmlt:=firstD_lt hfirst;have hρ:ρ' m=ρ m:=hE.ren m hmlt;have hk0:Kept (λk=>k=(ρ m).a) w w':=hR'.keptR.mono λk _ ⟨q,h1,h2,h3⟩=>by
    rcases h2 with h2|h2
    ·rw[<- h3,oneD_mem hone q h2 h1]
    ·cases h2
   have hkx2:∀wx:World,Kept (λk=>w.heap.size<=k) w' wx->Kept (λk=>k=(ρ m).a) w wx:=λwx hkx=>
    ⟨hkx.os.trans hk0.os,hkx.tape.trans hk0.tape,hkx.output.trans hk0.output,Nat.le_trans hk0.size hkx.size,λk hk he=>(hkx.block k (Nat.lt_of_lt_of_le hk hk0.size) (by omega)).trans (hk0.block k hk he)⟩
   have hresW:∀ wx:World,Kept (fun k=>w.heap.size≤k) w' wx→(∀ (k:Nat) o,w'.heap[k]? = some o→isDf o=false→wx.heap[k]? = some o)→∃ v,(results fn a'.tmps).run P wx = .ok v wx∧IsV P ρ h vv0 v:=fun wx hkx hcx=>by
    cases hre:res with
    |nil=>rw[hre]at hv0;simp only[ansW,Option.some.injEq]at hv0;subst hv0;rw[hre]at hres;exact⟨undef,by simp[results,Array.toList_eq_nil_iff.1 hres];rfl,rfl⟩
    | cons r0 l0=>
     rw[hre]at hv0;simp only[ansW]at hv0;split at hv0
     ·rename_i ys hys;cases hd:ys.all dataR with
      |false=>rw[hd]at hv0;cases hv0
      | true=>
       rw[hd]at hv0;simp only[cond_true,Option.some.injEq]at hv0;subst hv0;have hHx:HIs P ρ' st'.h wx:=⟨λn b hb=>(hR'.heap.is n b hb).world' hkx.size (λg c t fr hc=>hcx _ _ hc rfl) (λc t fr hc=>hcx _ _ hc rfl) λ_ _ hc=>hcx _ _ hc rfl,hR'.heap.inj,hR'.heap.far⟩;obtain⟨vs,hrun2,hall⟩:=resAll_results hR'.slots hHx (fn:=fn) (by rw[hres,hre];exact hys);have hall2:AllIs P ρ h ys vs:=by refine⟨hall.1,λi y v hy hv=> ?_⟩;rw[List.all_eq_true]at hd;have h1:=hall.2 i y v hy hv;have h2:=hd y (List.mem_of_getElem? hy);cases y<;>first|exact h1|cases h2
       refine⟨_,hrun2,?_⟩
       match ys,vs,hall2 with|[],[],h2=>exact⟨[],rfl,h2⟩|[y],[v],h2=>exact h2.2 0 y v rfl rfl|y::z::l,v::u::vs,h2=>refine⟨v::u::vs,?_,h2⟩;rw[dif_neg (by simp)]|[],v::vs,h2=>exact absurd h2.1 (by simp)|[y],[],h2=>exact absurd h2.1 (by simp)|[y],v::u::vs,h2=>exact absurd h2.1 (by simp)|y::z::l,[],h2=>exact absurd h2.1 (by simp)|y::z::l,[v],h2=>exact absurd h2.1 (by simp)
     ·cases hv0
   split at hk
   ·rename_i C t C0 t0 hmt hm0;cases hbt:Nat.beq t t0 with
    |false=>rw[hbt]at hk;cases hk
    |true=>rw[hbt]at hk;obtain rfl:=Nat.eq_of_beq_eq_true hbt;simp only[cond_true,Option.some.injEq,Prod.mk.injEq]at hk;obtain⟨rfl,rfl,-⟩:=hk;refine⟨_,hR'.defers,λwx hkx hcx=> ?_⟩;obtain⟨v,hrun,hiv⟩:=hresW wx hkx hcx;refine⟨v,hrun,hiv,.inl ⟨_,_,_,hm0,rfl⟩,hkx2 wx hkx,?_⟩;have hB:=(hR'.heap.is m _ hmt).row;rw[hρ]at hB;exact⟨hcx _ _ hB.1 rfl,hB.2⟩
   ·rename_i len C e0 len0 C0 e1 hmt hm0;cases hbl:Nat.blt 0 len with
    |false=>rw[hbl]at hk;cases hk
    | true=>
     rw[hbl]at hk;simp only[cond_true,Option.some.injEq,Prod.mk.injEq]at hk;obtain⟨rfl,rfl,-⟩:=hk;have hl0:1<=len:=by simpa [Nat.blt] using hbl
     obtain⟨rfl,rfl⟩:len0=len/\e1=e0:=by
      rcases(hE.hle m).sl _ _ _ _ hm0 with ⟨C',h1⟩ | ⟨h1,_⟩
      ·rw[hmt]at h1;cases h1;exact⟨rfl,rfl⟩
      ·cases h1
     refine⟨_,hR'.defers,λwx hkx hcx=> ?_⟩;obtain⟨v,hrun,hiv⟩:=hresW wx hkx hcx;refine⟨v,hrun,hiv,.inr (.inl ⟨_,_,_,_,_,rfl,hm0,rfl,by omega⟩),hkx2 wx hkx,?_⟩;have hB:=hR'.heap.is m _ hmt;rw[hρ]at hB;exact BIs.world' (b:=.sl .lent _ C _) ⟨hB.1,hB.2⟩ hkx.size (λg c t fr hc=>hcx _ _ hc rfl) (λc t fr hc=>hcx _ _ hc rfl) λ_ _ hc=>hcx _ _ hc rfl
   ·cases hk
  | true=>
   rw[hcl]at hk;simp only[cond_true]at hk;split at hk
   ·rename_i l hl;cases hrl:l.all (refLt h.length) with
    | false=>
     rw[hrl]at hk;simp only[cond_false]at hk;rcases hnk:newK P h.length st' l with _|r0
     rotate_left
     ·rw[hnk]at hk;obtain⟨v0,e0,b0⟩:=r0;dsimp only at hk;cases b0 with
      |false=>cases hk
      |true=>
      simp only[cond_true,Option.some.injEq,Prod.mk.injEq]at hk;obtain⟨rfl,rfl,-⟩:=hk;have hkept0:Kept (λ_=>False) w w':=hR'.keptR.mono λk _ ⟨m,h1,h2,_⟩=>by
       rcases h2 with h2|h2
       ·have:=cleanD_mem hcl m h2;omega
       ·cases h2
      refine⟨_,hR'.defers,λwx hkx hcx=> ?_⟩;have hHx:HIs P ρ' st'.h wx:=⟨λn b hb=>(hR'.heap.is n b hb).world' hkx.size (λg c t fr hc=>hcx _ _ hc rfl) (λc t fr hc=>hcx _ _ hc rfl) λ_ _ hc=>hcx _ _ hc rfl,hR'.heap.inj,hR'.heap.far⟩;obtain⟨vs,hrun2,hall⟩:=resAll_results hR'.slots hHx (fn:=fn) (by rw[hres];exact hl);have hkept:Kept (λ_=>False) w wx:=⟨hkx.os.trans hkept0.os,hkx.tape.trans hkept0.tape,hkx.output.trans hkept0.output,Nat.le_trans hkept0.size hkx.size,λk hk he=>(hkx.block k (Nat.lt_of_lt_of_le hk hkept0.size) (by omega)).trans (hkept0.block k hk he)⟩;obtain⟨y,vv,rfl,rfl,hp⟩:=newK_sound hnk hHx (λm h1 h2=>hR'.freshR m h1 h2) hkept hall ρ h;exact⟨vv,hrun2,hp⟩
     rw[hnk]at hk;dsimp only at hk;unfold newRes at hk;split at hk
     ·rename_i i m hfst;obtain⟨-,hli,hml⟩:=firstL_get hfst;rw[Nat.sub_zero]at hli;split at hk
      ·rename_i len C e hm;have hkept0:Kept (λ_=>False) w w':=hR'.keptR.mono λk _ ⟨m,h1,h2,_⟩=>by
        rcases h2 with h2|h2
        ·have:=cleanD_mem hcl m h2;omega
        ·cases h2
       cases hb1:Nat.beq l.length 1 with
       | true=>
        rw[hb1]at hk;simp only[cond_true,Option.some.injEq,Prod.mk.injEq]at hk;obtain⟨rfl,rfl,-⟩:=hk;refine⟨_,hR'.defers,λwx hkx hcx=> ?_⟩;have hHx:HIs P ρ' st'.h wx:=⟨λn b hb=>(hR'.heap.is n b hb).world' hkx.size (λg c t fr hc=>hcx _ _ hc rfl) (λc t fr hc=>hcx _ _ hc rfl) λ_ _ hc=>hcx _ _ hc rfl,hR'.heap.inj,hR'.heap.far⟩;obtain⟨vs,hrun2,hall⟩:=resAll_results hR'.slots hHx (fn:=fn) (by rw[hres];exact hl);have hkept:Kept (λ_=>False) w wx:=⟨hkx.os.trans hkept0.os,hkx.tape.trans hkept0.tape,hkx.output.trans hkept0.output,Nat.le_trans hkept0.size hkx.size,λk hk he=>(hkx.block k (Nat.lt_of_lt_of_le hk hkept0.size) (by omega)).trans (hkept0.block k hk he)⟩;have h1l:=Nat.eq_of_beq_eq_true hb1
        match l,vs,h1l,hall,hrun2,hli with
        |[y],[v],_,hall,hrun2,hli=>
         have hi0:i=0:=by have:=(List.getElem?_eq_some_iff.1 hli).1;simp at this;exact this
         subst hi0;simp only[List.getElem?_cons_zero,Option.some.injEq]at hli;subst hli;obtain⟨ad,cap,h2,h3,h4⟩:=Is.l_of (hall.2 0 _ v rfl rfl) hm;refine⟨v,hrun2,ρ' m,ad,cap,h2,⟨(h4 rfl).1,λh0=>⟨h3 h0,(h4 rfl).2 h0⟩⟩,λh0=>hR'.freshR m hml (.own hm rfl h0),hkept,?_⟩;exact hHx.is m _ hm
        |[y],[],_,hall,_,_=>exact absurd hall.1 (by simp)
        |[y],_::_::_,_,hall,_,_=>exact absurd hall.1 (by simp)
       | false=>
        rw[hb1]at hk;simp only[cond_false]at hk;cases hra0:(l.set i .x).all (refLt h.length) && !Nat.ble 1000000 i with
        |false=>rw[hra0]at hk;cases hk
        | true=>
         rw[hra0]at hk;obtain⟨hra,hlen0⟩:=Bool.and_eq_true_iff.1 hra0;simp only[cond_true,Option.some.injEq,Prod.mk.injEq]at hk;obtain⟨rfl,rfl,-⟩:=hk;refine⟨_,hR'.defers,λwx hkx hcx=> ?_⟩;have hHx:HIs P ρ' st'.h wx:=⟨λn b hb=>(hR'.heap.is n b hb).world' hkx.size (λg c t fr hc=>hcx _ _ hc rfl) (λc t fr hc=>hcx _ _ hc rfl) λ_ _ hc=>hcx _ _ hc rfl,hR'.heap.inj,hR'.heap.far⟩;obtain⟨vs,hrun2,hall⟩:=resAll_results hR'.slots hHx (fn:=fn) (by rw[hres];exact hl);have hkept:Kept (λ_=>False) w wx:=⟨hkx.os.trans hkept0.os,hkx.tape.trans hkept0.tape,hkx.output.trans hkept0.output,Nat.le_trans hkept0.size hkx.size,λk hk he=>(hkx.block k (Nat.lt_of_lt_of_le hk hkept0.size) (by omega)).trans (hkept0.block k hk he)⟩;have hne1:vs.toArray.size≠1:=by rw[List.size_toArray,<- hall.1];intro e;rw[e]at hb1;cases hb1
         rw[dif_neg hne1]at hrun2;have hilt:=(List.getElem?_eq_some_iff.1 hli).1;have hvi:=List.getElem?_eq_getElem (show i<vs.length by rw[<- hall.1];exact hilt);obtain⟨ad,cap,h2,h3,h4⟩:=Is.l_of (hall.2 i _ _ hli hvi) hm;have hh:∀k,k<h.length->h[k]?=st'.h[k]?:=λk hk=>by
          refine(hE.heap k hk λhd=> ?_).symm;have:=cleanD_mem hcl k hd;omega
         have hall2:AllIs P ρ h (l.set i .x) vs:=by
          refine⟨by simpa using hall.1,λk y v hy hv=> ?_⟩
          by_cases e:i=k
          ·subst e;rw[List.getElem?_set_self hilt]at hy;cases hy;trivial
          ·have hy':=hy;rw[List.getElem?_set_ne e]at hy;rw[List.all_eq_true]at hra;have h1:=(hall.2 k y v hy hv).cut hh (hra y (List.mem_of_getElem? hy'));exact h1.mono (HLe.refl _) λk hk=>(hE.ren k (present_lt hk)).symm
         have hismall:Nat.ble 1000000 i=false:=by cases hbi:Nat.ble 1000000 i with|false=>rfl|true=>rw[hbi]at hlen0;cases hlen0
         refine⟨_,hrun2,ρ' m,ad,cap,by simp only[NewIs,hismall,cond_false];exact⟨_,vs,rfl,rfl,hall2,by rw[hvi,h2]⟩,⟨(h4 rfl).1,λh0=>⟨h3 h0,(h4 rfl).2 h0⟩⟩,λh0=>hR'.freshR m hml (.own hm rfl h0),hkept,?_⟩;exact hHx.is m _ hm
      ·cases hk
     ·unfold newHole at hk;split at hk
      ·rename_i m hfst;obtain⟨hml,j0,D0,T0,ns0,i0,hj0,hi0⟩:=firstR_get hfst;split at hk
       ·rename_i len C e hm;cases hok:Nat.ble h.length 1000000&&l.all (okH h.length m) with
        |false=>rw[hok]at hk;cases hk
        |true=>
        rw[hok]at hk;simp only[cond_true,Option.some.injEq,Prod.mk.injEq]at hk;obtain⟨rfl,rfl,-⟩:=hk;obtain⟨hsm,hok⟩:=Bool.and_eq_true_iff.1 hok;have hsm:=Nat.le_of_ble_eq_true hsm;have hkept0:Kept (λ_=>False) w w':=hR'.keptR.mono λk _ ⟨m,h1,h2,_⟩=>by
         rcases h2 with h2|h2
         ·have:=cleanD_mem hcl m h2;omega
         ·cases h2
        refine⟨_,hR'.defers,λwx hkx hcx=> ?_⟩;have hHx:HIs P ρ' st'.h wx:=⟨λn b hb=>(hR'.heap.is n b hb).world' hkx.size (λg c t fr hc=>hcx _ _ hc rfl) (λc t fr hc=>hcx _ _ hc rfl) λ_ _ hc=>hcx _ _ hc rfl,hR'.heap.inj,hR'.heap.far⟩;obtain⟨vs,hrun2,hall⟩:=resAll_results hR'.slots hHx (fn:=fn) (by rw[hres];exact hl);have hkept:Kept (λ_=>False) w wx:=⟨hkx.os.trans hkept0.os,hkx.tape.trans hkept0.tape,hkx.output.trans hkept0.output,Nat.le_trans hkept0.size hkx.size,λk hk he=>(hkx.block k (Nat.lt_of_lt_of_le hk hkept0.size) (by omega)).trans (hkept0.block k hk he)⟩;have hj0lt:j0<vs.length:=by rw[<- hall.1];exact(List.getElem?_eq_some_iff.1 hj0).1
        obtain⟨D0',-,-,hR0⟩:=hall.2 j0 _ _ hj0 (List.getElem?_eq_getElem hj0lt);obtain⟨-,ad,l0,c0,-,hIL⟩:=hR0.refs i0 m (lookN_of hR0.uniq hi0);obtain⟨ad',cap',h2,h3,h4⟩:=Is.l_of (P:=P) hIL hm;cases h2;have hh:∀k,k<h.length->h[k]?=st'.h[k]?:=λk hk=>by
         refine(hE.heap k hk λhd=> ?_).symm;have:=cleanD_mem hcl k hd;omega
        refine⟨_,hrun2,ρ' m,ad,c0,?_,⟨(h4 rfl).1,λh0=>⟨h3 h0,(h4 rfl).2 h0⟩⟩,λh0=>hR'.freshR m hml (.own hm rfl h0),hkept,hHx.is m _ hm⟩;have e1:Nat.ble 1000000 1000000=true:=rfl;simp only[NewIs,e1,cond_true];intro ρ2 h2 id hle2 hren2 hsl2 hid;exact hole_pack (hole_all hm hh (λk hk=>(hE.ren k (present_lt hk)).symm) hsm hml hok hall hIL hle2 hren2 hid)
       ·cases hk
      ·cases hk
    | true=>
     rw[hrl]at hk;simp only[cond_true,Option.some.injEq,Prod.mk.injEq]at hk;obtain⟨rfl,rfl,-⟩:=hk;refine⟨_,hR'.defers,λwx hkx hcx=> ?_⟩;have hHx:HIs P ρ' st'.h wx:=⟨λn b hb=>(hR'.heap.is n b hb).world' hkx.size (λg c t fr hc=>hcx _ _ hc rfl) (λc t fr hc=>hcx _ _ hc rfl) λ_ _ hc=>hcx _ _ hc rfl,hR'.heap.inj,hR'.heap.far⟩;obtain⟨vs,hrun2,hall⟩:=resAll_results hR'.slots hHx (fn:=fn) (by rw[hres];exact hl);have hh:∀k,k<h.length->h[k]?=st'.h[k]?:=λk hk=>by
      refine(hE.heap k hk λhd=> ?_).symm;have:=cleanD_mem hcl k hd;omega
     have hall2:AllIs P ρ h l vs:=by refine⟨hall.1,λi y v hy hv=> ?_⟩;rw[List.all_eq_true]at hrl;have h1:=(hall.2 i y v hy hv).cut hh (hrl y (List.mem_of_getElem? hy));exact h1.mono (HLe.refl _) λk hk=>(hE.ren k (present_lt hk)).symm
     have hkept0:Kept (λ_=>False) w w':=hR'.keptR.mono λk _ ⟨m,h1,h2,_⟩=>by
      rcases h2 with h2|h2
      ·have:=cleanD_mem hcl m h2;omega
      ·cases h2
     have hkept:Kept (λ_=>False) w wx:=⟨hkx.os.trans hkept0.os,hkx.tape.trans hkept0.tape,hkx.output.trans hkept0.output,Nat.le_trans hkept0.size hkx.size,λk hk he=>(hkx.block k (Nat.lt_of_lt_of_le hk hkept0.size) (by omega)).trans (hkept0.block k hk he)⟩;refine⟨_,hrun2,?_,hkept⟩
     match l,vs,hall2 with|[],[],h2=>exact⟨[],rfl,h2⟩|[y],[v],h2=>exact h2.2 0 y v rfl rfl|y::z::l,v::u::vs,h2=>refine⟨v::u::vs,?_,h2⟩;rw[dif_neg (by simp)]|[],v::vs,h2=>exact absurd h2.1 (by simp)|[y],[],h2=>exact absurd h2.1 (by simp)|[y],v::u::vs,h2=>exact absurd h2.1 (by simp)|y::z::l,[],h2=>exact absurd h2.1 (by simp)|y::z::l,[v],h2=>exact absurd h2.1 (by simp)
   ·cases hk
 cases e with
 |normal=>exact⟨.inl rfl,key hk⟩
 |ret=>exact⟨.inr rfl,key hk⟩
 |exit id=>cases hk
 |goto l=>cases hk
 |panic ch=>cases hk
 |outgrown=>cases hk
open Classical in
theorem ansX_ok(hm:P.follows .mixedOrders=true)(hΓ:ConsOkX mn P (IConOkX mn P) Γ){f:FuncId}{fn:Func}(hf:P.funcs[f]?=some fn)(hb:fn.body.isNone=false)(l:List (List Nat×List Nat)):
  ConOkX mn P f (ansV P Γ N fn l):=by
 cases hc:fn.body with
 |none=>rw[hc]at hb;cases hb
 |some c=>
  have:codeOf fn=c:=by unfold codeOf;rw[hc]
  exact λρ h w args vals r e hr hA hH=>funX_ok hm hΓ hf (by rw[hc,this]) rfl rfl _ ρ h w args vals r e hr hA hH
end
end
section
set_option linter.unusedVariables false
set_option linter.unusedSimpArgs false
variable {mn:Md}
section
variable {P:Program} {Γ:Cons} {N:Nat}
theorem mKn:ConsOkX mn P (IConOkX mn P) (mkΓ []):=by refine⟨λ_ _=>sameB_iff,?_,?_,?_,?_,?_,λf F h=>nomatch (h:none=some F)⟩<;>(intro f F h;cases h)
theorem mkΓx_nilX:ConsOkX mn P (IConOkX mn P) (mkΓx [] [] []):=mKn
theorem mKw{s:List (FuncId×SCon)}{g:FuncId}{G:Con}{c:List (FuncId×Con)}{n:List (FuncId×NCon)}{i:List (FuncId×ICon)}(h1:ConOkCX mn P g G)(h2:EntX P g)(h3:ConsOkX mn P (IConOkX mn P) (mkΓw s c n i)):ConsOkX mn P (IConOkX mn P) (mkΓw s ((g,G)::c) n i):=⟨h3.e,λf F h=>by
 simp only[mkΓw,look0]at h;cases hb:Nat.beq f g with
 |true=>rw[hb]at h;obtain rfl:=Nat.eq_of_beq_eq_true hb;cases h;exact⟨h1,h2⟩
 |false=>rw[hb]at h;exact h3.c f F h,h3.n,h3.i,h3.s,h3.m,h3.x⟩
theorem mkΓw_nX{s:List (FuncId×SCon)}{g:FuncId}{G:NCon}{c:List (FuncId×Con)}{n:List (FuncId×NCon)}{i:List (FuncId×ICon)}(h1:NConOkX mn P g G)(h2:EntX P g)(h3:ConsOkX mn P (IConOkX mn P) (mkΓw s c n i)):ConsOkX mn P (IConOkX mn P) (mkΓw s c ((g,G)::n) i):=⟨h3.e,h3.c,λf F h=>by
 simp only[mkΓw,look0]at h;cases hb:Nat.beq f g with
 |true=>rw[hb]at h;obtain rfl:=Nat.eq_of_beq_eq_true hb;cases h;exact⟨h1,h2⟩
 |false=>rw[hb]at h;exact h3.n f F h,h3.i,h3.s,h3.m,h3.x⟩
theorem mkΓw_iX{s:List (FuncId×SCon)}{g:FuncId}{G:ICon}{c:List (FuncId×Con)}{n:List (FuncId×NCon)}{i:List (FuncId×ICon)}(h1:IConOkX mn P g G)(h2:EntX P g)(h3:ConsOkX mn P (IConOkX mn P) (mkΓw s c n i)):ConsOkX mn P (IConOkX mn P) (mkΓw s c n ((g,G)::i)):=⟨h3.e,h3.c,h3.n,λf F h=>by
 simp only[mkΓw,Ve.look]at h;cases hb:Nat.beq f g with
 |true=>rw[hb]at h;obtain rfl:=Nat.eq_of_beq_eq_true hb;cases h;exact⟨h1,h2⟩
 |false=>rw[hb]at h;exact h3.i f F h,h3.s,h3.m,h3.x⟩
theorem mkΓw_sX{s:List (FuncId×SCon)}{g:FuncId}{G:SCon}{c:List (FuncId×Con)}{n:List (FuncId×NCon)}{i:List (FuncId×ICon)}(h1:ConOkCX mn P g (λargs h=>wayRes (G args h)))(h2:EntX P g)(h3:ConsOkX mn P (IConOkX mn P) (mkΓw s c n i)):ConsOkX mn P (IConOkX mn P) (mkΓw ((g,G)::s) c n i):=⟨h3.e,h3.c,h3.n,h3.i,λf F h=>by
 simp only[mkΓw,look0]at h;cases hb:Nat.beq f g with
 |true=>rw[hb]at h;obtain rfl:=Nat.eq_of_beq_eq_true hb;cases h;exact⟨h1,h2⟩
 |false=>rw[hb]at h;exact h3.s f F h,h3.m,h3.x⟩
theorem mKx{g:FuncId}{G:Con}{c:List (FuncId×Con)}{n:List (FuncId×NCon)}{i:List (FuncId×ICon)}(h1:ConOkCX mn P g G)(h2:EntX P g)(h3:ConsOkX mn P (IConOkX mn P) (mkΓx c n i)):ConsOkX mn P (IConOkX mn P) (mkΓx ((g,G)::c) n i):=mKw h1 h2 h3
theorem mkΓx_nX{g:FuncId}{G:NCon}{c:List (FuncId×Con)}{n:List (FuncId×NCon)}{i:List (FuncId×ICon)}(h1:NConOkX mn P g G)(h2:EntX P g)(h3:ConsOkX mn P (IConOkX mn P) (mkΓx c n i)):ConsOkX mn P (IConOkX mn P) (mkΓx c ((g,G)::n) i):=mkΓw_nX h1 h2 h3
theorem mkΓx_iX{g:FuncId}{G:ICon}{c:List (FuncId×Con)}{n:List (FuncId×NCon)}{i:List (FuncId×ICon)}(h1:IConOkX mn P g G)(h2:EntX P g)(h3:ConsOkX mn P (IConOkX mn P) (mkΓx c n i)):ConsOkX mn P (IConOkX mn P) (mkΓx c n ((g,G)::i)):=mkΓw_iX h1 h2 h3
theorem mKc{g:FuncId}{G:Con}{r:List (FuncId×Con)}(h1:ConOkCX mn P g G)(h2:EntX P g)(h3:ConsOkX mn P (IConOkX mn P) (mkΓ r)):ConsOkX mn P (IConOkX mn P) (mkΓ ((g,G)::r)):=mKx h1 h2 h3
theorem ConOkX.of{f:FuncId}{G G':Con}(h:ConOkX mn P f G)(hle:∀ρ h w args vals r e,AllIs P ρ h args vals->HIs P ρ h w->G' args h=some (r,e,true)->G args h=some (r,e,true)):ConOkX mn P f G':=
 λρ hh w args vals r e hn hr hA hH=>h ρ hh w args vals r e hn (hle ρ hh w args vals r e hA hH hr) hA hH
theorem conX_okX {gl wr:Bool} {f:FuncId} {G:Con} (hG:ConOkX mn P f G):ConOkCX mn P f (conX gl wr G):=by
 intro ρ h w args vals r e hr hA hH;unfold conX wrapL at hr;cases hok:okArgs (ld gl h).length args&&nodupN (ld gl h++ptrsOf args++refsIn h (ptrsOf args)) with
 |false=>rw[hok]at hr;cases hr
 | true=>
  rw[hok]at hr;simp only[Bool.and_eq_true]at hok;simp only[cond_true]at hr;split at hr
  ·rename_i h1 h2 hrows hsls;have hpre:∀n∈ld gl h,∀y t,h[n]?≠some (.one y t):=λn hn y t e=>by
    obtain⟨i,hi⟩:=List.mem_iff_getElem?.1 hn;obtain⟨q1,g,t',a,x,q2⟩:=ld_get (List.getElem?_eq_some_iff.1 hi).1;rw[q1]at hi;cases hi;rw[q2]at e;cases e
   obtain⟨hlen,hget⟩:=lent_get hpre hrows hsls;generalize hh':h1++h2=h' at hr hlen hget;generalize hidsE:ld gl h++ptrsOf args++refsIn h (ptrsOf args)=ids at hlen hget hok;have hsub:∀(k n:Nat),(ld gl h++ptrsOf args)[k]?=some n->ids[k]?=some n:=λk n hk=>by
    rw[<- hidsE,List.getElem?_append_left (List.getElem?_eq_some_iff.1 hk).1];exact hk
   have hgl:∀n,n<(ld gl h).length->h'[n]?=h[n]?:=λn hn=>by
    obtain⟨h1,g,t,a,x,h2⟩:=ld_get hn;obtain⟨b,b',h3,h4,h5⟩:=hget n n (hsub n n (by rw[List.getElem?_append_left hn];exact h1));rw[h2]at h3;cases h3;cases h5;rw[h4,h2]
   have hgl':∀n,n<(ld gl h).length->h[n]?=h'[n]?:=λn hn=>(hgl n hn).symm
   have hA':=renum_is (P:=P) (h':=h') (ρ:=ρ) hgl hget args vals (ld gl h) hok.1 hsub hA;have idx0:∀{k:Nat} {b:VB},h'[k]?=some b->∃n b0,ids[k]?=some n/\h[n]?=some b0/\LB wr ids b0 b:=λ{k b} hb=>by
    have hk:k<ids.length:=by rw[<- hlen];exact(List.getElem?_eq_some_iff.1 hb).1
    obtain⟨bb,bb',h1,h2,h3⟩:=hget k _ (List.getElem?_eq_getElem hk);rw[h2]at hb;cases hb;exact⟨_,bb,List.getElem?_eq_getElem hk,h1,h3⟩
   have idxS:∀{k:Nat} {a:SlK} {len:Nat} {C:Array Value} {t:TypeId},h'[k]?=some (.sl a len C t)->∃n a0,ids[k]?=some n/\h[n]?=some (.sl a0 len C t)/\a=lend wr a0:=λ{k a len C t} hb=>by
    obtain⟨n,b0,h1,h2,h3⟩:=idx0 hb;cases h3;exact⟨n,_,h1,h2,rfl⟩
   have hno:NoOwn h':=λk len C e hk=>by
    obtain⟨n,a0,_,_,h3⟩:=idxS hk;exact lend_own h3.symm
   have hH':HIs P (λk=>ρ (ids.getD k 0)) h' w:=by
    have out:∀{k:Nat},present h' k->∃n,ids[k]?=some n/\present h n:=λ{k} hp=>by
     cases hp with
     |row e=>obtain⟨n,b0,h1,h2,h3⟩:=idx0 e;cases h3;exact⟨n,h1,.row h2⟩
     |one e=>obtain⟨n,b0,h1,h2,h3⟩:=idx0 e;cases h3<;>exact⟨n,h1,.one h2⟩
     |mp e=>obtain⟨n,b0,h1,h2,h3⟩:=idx0 e;cases h3<;>exact⟨n,h1,.one h2⟩
     |own e hk h0=>obtain⟨n,a0,h1,h2,h3⟩:=idxS e;exact⟨n,h1,.own h2 (by rw[<- lend_here,<- h3];exact hk) h0⟩
    refine⟨λk b hb=> ?_,λk q hp hq e=> ?_,λk b x h1 h2 m hp=> ?_⟩
    ·obtain⟨n,b0,q1,q2,q3⟩:=idx0 hb;have hB:=hH.is n _ q2;cases q3 with
     |row C t=>simp only[getD_of q1];exact hB
     |gl g t a x=>exact hB
     |sl a len C t=>simp only[getD_of q1];exact⟨by rw[adK_lend];exact hB.1,λh=>hB.2 (lend_mine h)⟩
     |oneR D t' t hren=>simp only[getD_of q1];obtain⟨v,⟨D',rfl,hW,hR⟩,hg⟩:=hB;exact⟨_,⟨D',rfl,hW,hR.lent hget hren⟩,hg⟩
     |oneL t hk=>simp only[getD_of q1];obtain⟨v,hv,hg⟩:=hB;exact⟨v,isL_lent (P:=P) hget hk hv,hg⟩
     |oneV y t=>simp only[getD_of q1];obtain⟨v,hv,hg⟩:=hB;exact⟨v,hv,hg⟩
    ·obtain⟨n,h1,h2⟩:=out hp;obtain⟨m,h3,h4⟩:=out hq;simp only[getD_of h1,getD_of h3]at e;have:=hH.inj n m h2 h4 e;subst this;exact nodupN_inj hok.2 k q n h1 h3
    ·obtain⟨n,b0,h3,h4,h5⟩:=idx0 h1;obtain⟨m',h6,h7⟩:=out hp;simp only[getD_of h6];refine hH.far n b0 x h4 ?_ m' h7;cases h5 with|sl a len C e=>exact farB_lend (b:=.sl a len C e) h2|gl g t a x=>exact h2|_=>exact h2.elim
   split at hr
   ·rename_i r' g hGr;cases hd:dataV (ld gl h).length r' with
    | false=>
     rw[hd]at hr;simp only[cond_false]at hr;split at hr
     ·rename_i r2 hm;simp only[Option.some.injEq,Prod.mk.injEq]at hr;obtain⟨rfl,rfl,rfl⟩:=hr;have hm':mapV (ld gl h).length ids r'=some r2:=mapV_more hsub hm;refine(hG _ h' w _ vals _ _ hno hGr hA' hH').mono ?_;rintro v w' ⟨hi,hk⟩;exact⟨mapV_is hgl' hget hm' hi,hk⟩
     ·cases hr
    |true=>rw[hd]at hr;simp only[cond_true,Option.some.injEq,Prod.mk.injEq]at hr;obtain⟨rfl,rfl,rfl⟩:=hr;refine(hG _ h' w _ vals _ _ hno hGr hA' hH').mono ?_;rintro v w' ⟨hi,hk⟩;exact⟨dataV_is hgl' hd hi,hk⟩
   ·rename_i r' m b g hGr;cases hd:dataV (ld gl h).length r' with
    |false=>rw[hd]at hr;cases hr
    |true=>
    rw[hd,cond_true]at hr;split at hr
    ·rename_i q hq;have hq:=hsub _ _ hq;split at hr
     ·rename_i b' hb';simp only[Option.some.injEq,Prod.mk.injEq]at hr;obtain⟨rfl,rfl,rfl⟩:=hr;refine(hG _ h' w _ vals _ _ hno hGr hA' hH').mono ?_;rintro v w' ⟨hv,hkp,hk,hB⟩;simp only[getD_of hq]at hk hB;rcases hkp with ⟨C,t,D,hrow,rfl⟩ | ⟨k,len,C,t,D,hmk,hrow,rfl,h0⟩ | ⟨y,t,y',hrow,rfl⟩ | ⟨E,c,E',c',hrow,rfl⟩
      ·obtain⟨n,b0,h1,h2,h3⟩:=idx0 hrow;cases h3;rw[hq]at h1;cases h1;rw[h2]at hb';cases hb';exact⟨dataV_is hgl' hd hv,.inl ⟨_,_,_,h2,rfl⟩,hk,hB⟩
      ·obtain⟨n,a0,h1,h2,h3⟩:=idxS hrow;rw[hq]at h1;cases h1;rw[h2]at hb';cases hb';subst h3;exact⟨dataV_is hgl' hd hv,.inr (.inl ⟨_,_,_,_,_,lend_mine hmk,h2,rfl,h0⟩),hk,⟨by rw[<- adK_lend wr];exact hB.1,λ_ hl=>hB.2 hmk hl⟩⟩
      ·exfalso;cases hq2:h[q]? with
       |none=>rw[hq2]at hb';cases hb'
       |some b0=>rw[hq2]at hb';cases b0<;>cases hb'
      ·exfalso;cases hq2:h[q]? with
       |none=>rw[hq2]at hb';cases hb'
       |some b0=>rw[hq2]at hb';cases b0<;>cases hb'
     ·cases hr
    ·cases hr
   ·rename_i len C e g hGr;simp only[Option.some.injEq,Prod.mk.injEq]at hr;obtain⟨rfl,rfl,rfl⟩:=hr;refine(hG _ h' w _ vals _ _ hno hGr hA' hH').mono ?_;rintro v w' hE;exact hE
   ·rename_i v0 i len C e g hGr;cases hbig:Nat.ble 1000000 i with
    | true=>
     rw[hbig]at hr;simp only[cond_true]at hr;cases hd:holeOnlyV (ld gl h).length v0 with
     |false=>rw[hd]at hr;cases hr
     | true=>
      rw[hd]at hr;simp only[cond_true,Option.some.injEq,Prod.mk.injEq]at hr;obtain⟨rfl,rfl,rfl⟩:=hr;refine(hG _ h' w _ vals _ _ hno hGr hA' hH').mono ?_;rintro v w' ⟨g,ad,cap,hN,hE⟩;refine⟨g,ad,cap,?_,hE⟩;simp only[NewIs,hbig,cond_true]at hN|-
      intro ρ3 h3 id hle3 hren3 hsl3 hid3;obtain⟨a3,l3,C3,e3,hb3⟩:=isSlB_sl hsl3;have hlast:(h'++[VB.sl a3 l3 C3 e3])[h'.length]?=some (.sl a3 l3 C3 e3):=by simp
      refine hole_isV (id2:=h'.length) (ρ2:=λk=>if k=h'.length then ρ3 id else ρ (ids.getD k 0)) (h2:=h'++[.sl a3 l3 C3 e3]) (λn hn=> ?_) (λv hv=> ?_) hd (hN _ _ h'.length (λn=> ?_) (λn hp=>if_neg (λe=> ?_)) (by unfold isSlB;rw[hlast]) ?_)
      ·have hn':n<h'.length:=by rw[hlen,<- hidsE];simp;omega
       rw[List.getElem?_append_left hn',hgl n hn];obtain⟨h1,g',t,a,x,h2⟩:=ld_get hn;rw[h2];exact(hle3 n).gl _ _ _ _ h2
      ·rcases hv with hv | ⟨a,l,C',e',ad',cap',q1,q2,q3,q4⟩
       ·rw[hlast]at hv;cases hv
       ·rw[hlast]at q1;cases q1;simp only[adOf,if_true]at q3 q4;exact .inr ⟨_,_,_,_,ad',cap',hb3,q2,q3,q4⟩
      ·by_cases hn:n<h'.length
       ·exact .same (List.getElem?_append_left hn)
       ·refine⟨λC t k=> ?_,λy t k=> ?_,λ_ _ C _ k=> ?_,λk=> ?_,λ_ _ _ _ k=> ?_,λ_ _ k=> ?_⟩<;>(rw[List.getElem?_eq_none (by omega)]at k;cases k)
      ·have:=present_lt hp;omega
      ·rcases hid3 with hv | ⟨a,l,C',e',ad',cap',q1,q2,q3,q4⟩
       ·rw[hb3]at hv;cases hv
       ·rw[hb3]at q1;cases q1;exact .inr ⟨_,_,_,_,ad',cap',hlast,q2,by simpa only [adOf,if_true] using q3,by simpa only [if_true] using q4⟩
    |false=>
    rw[hbig]at hr;simp only[cond_false]at hr;split at hr
    ·rename_i l;cases hd:l.all (dataX (ld gl h).length) with
     |false=>rw[hd]at hr;cases hr
     |true=>rw[hd]at hr;simp only[cond_true,Option.some.injEq,Prod.mk.injEq]at hr;obtain⟨rfl,rfl,rfl⟩:=hr;refine(hG _ h' w _ vals _ _ hno hGr hA' hH').mono ?_;rintro v w' ⟨g,ad,cap,hN,hE⟩;simp only[NewIs,hbig,cond_false]at hN;obtain⟨l',vs,he,hvv,hA2,hi⟩:=hN;cases he;rw[List.all_eq_true]at hd;refine⟨g,ad,cap,?_,hE⟩;simp only[NewIs,hbig,cond_false];exact⟨l,vs,rfl,hvv,⟨hA2.1,λk y u hy hu=>dataX_is hgl' (hd y (List.mem_of_getElem? hy)) (hA2.2 k y u hy hu)⟩,hi⟩
    ·cases hr
   ·cases hr
   ·cases hr
  ·cases hr
theorem conL_okX{wr:Bool}{f:FuncId}{G:Con}(hG:ConOkX mn P f G):ConOkCX mn P f (conL wr G):=conX_okX hG
theorem conSX_okX{gl wr:Bool}{f:FuncId}{S:SCon}(hS:ConOkX mn P f (λargs h=>wayRes (S args h))):ConOkCX mn P f (λargs h=>wayRes (conSX gl wr S args h)):=by
 have e:(λargs h=>wayRes (conSX gl wr S args h))=conX gl wr (λargs h=>wayRes (S args h)):=by
  funext args h;unfold conSX conX;cases okArgs (ld gl h).length args&&nodupN (ld gl h++ptrsOf args++refsIn h (ptrsOf args)) with
  |false=>rfl
  |true=>
   simp only[cond_true];split
   ·rw[wayRes_map]
   ·rfl
 rw[e];exact conX_okX hS
theorem conSL_okX{wr:Bool}{f:FuncId}{S:SCon}(hS:ConOkX mn P f (λargs h=>wayRes (S args h))):ConOkCX mn P f (λargs h=>wayRes (conSL wr S args h)):=conSX_okX hS
theorem conSW_okX{f:FuncId}{S:SCon}(hS:ConOkX mn P f (λargs h=>wayRes (S args h))):ConOkCX mn P f (λargs h=>wayRes (conSW S args h)):=conSL_okX hS
theorem con_okX{f:FuncId}{G:Con}(hG:ConOkX mn P f G):ConOkCX mn P f (con G):=conL_okX hG
theorem ConOkX.nil{f:FuncId}{G:Con}(hG:ConOkX mn P f G)(i:Nat)(e:TypeId):ConOkX mn P f (λargs h=>nilN i e (G args h)):=by
 intro ρ h w args vals r ef hn hr hA hH;dsimp only at hr;cases hg:G args h with
 |none=>rw[hg]at hr;cases hr
 | some q=>
  obtain⟨v,ef',g⟩:=q;rw[hg]at hr;unfold nilN at hr;split at hr
  ·rename_i l g' heq;cases heq;split at hr
   ·rename_i hl;cases hbig:Nat.ble 1000000 i with
    |true=>rw[hbig]at hr;cases hr
    |false=>
    rw[hbig]at hr;simp only[cond_false,Option.some.injEq,Prod.mk.injEq]at hr;obtain⟨rfl,rfl,rfl⟩:=hr;refine(hG ρ h w args vals _ _ hn hg hA hH).mono ?_;rintro vv w' ⟨⟨vs,rfl,hall⟩,hk⟩;have hlt:i<l.length:=(List.getElem?_eq_some_iff.1 hl).1;have hvi:=hall.2 i _ _ hl (List.getElem?_eq_getElem (show i<vs.length by rw[<- hall.1];exact hlt));refine⟨⟨0,0⟩,none,0,by simp only[NewIs,hbig,cond_false];exact⟨_,vs,rfl,rfl,⟨by rw[List.length_set];exact hall.1,λj y u hy hu=>nil_all hall j y u hy hu⟩,nil_get hall hl hvi⟩,⟨λ_=>rfl,λh0=>absurd rfl h0⟩,λh0=>absurd rfl h0,hk,nil_post⟩
   ·simp only[Option.some.injEq,Prod.mk.injEq]at hr;obtain⟨rfl,rfl,rfl⟩:=hr;exact hG ρ h w args vals _ _ hn hg hA hH
  ·rename_i g' heq;cases heq;simp only[Option.some.injEq,Prod.mk.injEq]at hr;obtain⟨rfl,rfl,rfl⟩:=hr;refine(hG ρ h w args vals _ _ hn hg hA hH).mono ?_;rintro vv w' ⟨hv,hk⟩;exact⟨⟨0,0⟩,none,0,hv,⟨λ_=>rfl,λh0=>absurd rfl h0⟩,λh0=>absurd rfl h0,hk,nil_post⟩
  ·cases hr;exact hG ρ h w args vals _ _ hn hg hA hH
end
end
section
set_option linter.unusedVariables false
set_option linter.unusedSimpArgs false
variable {mn:Md}
end
section
set_option linter.unusedVariables false
set_option linter.unusedSimpArgs false
variable {mn:Md}
theorem opX_yield{P:Program}{o:Oper}{a:Act}{v:World}{K:Act->World->Prop}{c:Call}{y:Operand}{l:Nat}{R:Value->World->Prop}(ho:o.op=.call c)(hc:c.callee=.value y)(hy:a.eval y=.func (.yield l) #[] #[])
  (h:YieldX mn P l (c.args.map a.eval) v R) (hK:∀r v',R r v'->K (a.put o.dst r) v'):OpX mn P o a v K:=by
 have hns:∀c,o.op ≠ .defer c:=λc hc=>by rw[ho]at hc;cases hc
 have hx:execOp a.eval o=Instr.yield l (c.args.map a.eval):=by
  unfold execOp;rw[ho];simp only[resolve,hc,hy,Deferred.ofValue]
  show Instr.yield l _=_
  congr 1;rw[<- Array.toList_inj];simp
 refine⟨hns,λv₁ h₁=> ?_⟩;obtain⟨f,tmps,assign,body,ht,hr⟩:=h v₁ h₁;exact .inr (.inr (.inr ⟨l,f,tmps,assign,body,v₁,by rw[hx];exact ht,hr.mono λr v' hR=>hK r v' hR⟩))
theorem opsX_cons{P:Program}{ops:Array Oper}{K:Act->World->Prop}{i:Nat}{rest:List Nat}{a:Act}{v:World}{o:Oper}(ho:ops[i]?=some o)(hg:o.guard=none)(h:OpX mn P o a v (OpsX mn P ops K rest)):OpsX mn P ops K (i::rest) a v:=by unfold OpsX OpIX;rw[ho];dsimp only;rw[if_pos (by unfold Region.wanted;rw[hg])];exact h
section
variable {P:Program} {o:Oper} {a:Act} {v:World} {K:Act->World->Prop}
end
end
end Go.Proofs.Ytnhilgpdgicgfaa.Vc
