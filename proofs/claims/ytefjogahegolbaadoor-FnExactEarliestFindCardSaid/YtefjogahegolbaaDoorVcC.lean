/- Codes of the symbolic run, in company. No program is named. -/
import Derived.Test.YtefjogahegolbaaDoorVcB
set_option linter.unusedVariables false
set_option linter.unusedSimpArgs false
open _root_.List renaming range'->jA,mem_append_left->jC,mem_append->jD,getElem?_eq_some_iff->jE,all_eq_true->jI,getElem?_eq_getElem->jJ,mem_append_right->jK,mem_map->jN,getElem?_append_left->jQ,mem_of_getElem?->jU,mem_singleton->jV,getD_eq_getElem?_getD->jX
open _root_.Array renaming replicate->jH,getElem?_eq_some_iff->jO,getD_eq_getD_getElem?->jW
open _root_.Nat renaming beq->jB,le_refl->jF,blt->jG,eq_of_beq_eq_true->jL,le_trans->jM,lt_of_lt_of_le->jR,le_of_ble_eq_true->jT
open _root_.Bool renaming not_eq_true'->jP
open _root_.Option renaming map_some->jS
namespace Go.Proofs.YtefjogahegolbaaDoor.Vc
open Go.RowKit Go.Conc Go.Proofs.YtefjogahegolbaaDoor.Ve
section
variable {mn:Md}
def Uah(mn:Md)(P:Program)(f:FuncId)(I:ICon):Prop:=
 ∀ρ h v ns Y,I (getH h ns) h=some Y->Y.ok=true->HIs P ρ h v->(∀n∈ns,Ubj h n) ->
  (∀(pre:List Y.X) (x:Y.X),pre++[x] <+: Y.xs->∀y∈Y.enc x,known y=true/\Is P ρ h y (Ve.valOf y)) /\
  SeqS (sfOf P h) mn P f (ns.map λm=>Value.pointer (some ⟨ρ m,0,none⟩)).toArray (λx=>((Y.enc x).map Ve.valOf).toArray) (Ub3 ((ns.map λm=>(ρ m).a)++(glL h++boxL ρ h ns))) Y.xs v
section
variable {P:Program} {Γ:Cons} {N:Nat} {W0:World} {n0:Nat} {D E:List Nat} {ρ0:Nat->Ad} {ro:Option Nat}
theorem asgLX{ops:Array Oper}{V:World}:∀(l:List Oper) (i:Nat),ops.toList.drop i=l->∀{m:List (Nat×Nat)},asgL l=some m->∀{a a₀:Act} {v:World},Ubl m a=a₀->Ge V v ->
  OpsX mn P ops (Exit.then (λa w=>a=a₀/\Ge V w) (λ_ _ _=>False) .normal) (jA i l.length) a v
 |[],i,_,m,hm,a,a₀,v,ha,hv=>by
  simp only[asgL,Q8]at hm;subst hm;exact⟨ha,hv⟩
 | o::l,i,hl,m,hm,a,a₀,v,ha,hv=>by
  have ho:ops[i]?=some o:=by
   have:=congrArg (λx=>x[0]?) hl
   simpa using this
  have hl':ops.toList.drop (i+1)=l:=by
   have:=congrArg List.tail hl
   simpa [List.tail_drop] using this
  unfold asgL at hm;split at hm
  ·rename_i heq;cases heq
  ·rename_i d p ty pos aft r heq;obtain⟨rfl,rfl⟩:=List.cons.inj heq;split at hm
   ·rename_i m' hm';cases hm;rw[List.length_cons,List.range'_succ,OpsX];exact Zlp ho (by simp[Region.wanted]) (pickX (λc hc=>by cases hc) rfl λv₁ hg=>asgLX _ (i+1) hl' hm' ha (hv.trans hg))
   ·cases hm
  ·cases hm
theorem asgX{as:Code}{l:List (Nat×Nat)}(hl:Udl as=some l){a:Act}{v:World}:WpX mn ro P as (Exit.then (λa' w=>a'=Ubl l a/\Ge v w) λ_ _ _=>False) a v:=by
 unfold Udl at hl;split at hl
 ·cases hl;exact Zeb ⟨rfl,Ge.refl _⟩
 ·rename_i id ops;refine Zar ?_;rw[List.range_eq_range',<- Array.length_toList];exact asgLX ops.toList 0 rfl hl rfl (Ge.refl _)
 ·cases hl
theorem Zph{ra:List VB->List Nat->Bool}(hra:∀{h:List VB} {l:List Nat},ra h l=true->∀n∈l,Ubj h n)(hΓ:ConsOkX mn P (Uah mn P) Γ){g:Operand}{ps:Array Tmp}{as x:Code}{bs:List Nat}{p:Plan}{α:Type}{K:Exit->St->Option α}{r:α}{ρ:Nat->Ad}{st:St}{a:Act}{w:World}
  (body:∀ (l:Nat) (st1:St) (r':Stp BS (Exit×BS)) (ρ1:Nat→Ad) (a1:Act) (W:World),Uao p=true→veC P Γ N x p (Stp BS (Exit×BS)) st1 (Ua6 st.h.length bs)=some r'→R P W st.h.length [] ρ1 ρ1 st1 a1 W →
   WpX mn (some l) P x (λe a' w'=>∃ρ' st',Ua6 st.h.length bs e st'=some r'/\R P W st.h.length [] ρ1 ρ' st' a' w'/\Ext (writes x) st1.h.length ρ1 ρ' st1 st') a1 W)
  (hr:(match Ubs Γ st.h (asA (evO st.s g)),Udl as with
  | some (ns,Y),some l=>
   bif Y.ok then (bif ra st.h ns&&ra st.h bs&&apart ns bs&&Uao p&&Ub1 st.h then
    Uby (Uas (λy hb=>bif jB (Y.enc y).length ps.toList.length then veC P Γ N x p (Stp BS (Exit×BS)) (Ubo bs ps.toList l st (Y.enc y) hb) (Ua6 st.h.length bs) else none) Y.xs (getH st.h bs)) (λhb=>K .normal (Uar bs st hb)) (λe hb=>K e (Uar bs st hb)) else none) else none
  |_,_=>none)=some r) (hR:RS E P W0 n0 D ρ0 ρ st a w) :
  WpX mn none P (.rangeFunc g ps as x) (λe a' w'=>∃ρ' st',K e st'=some r/\RS E P W0 n0 D ρ0 ρ' st' a' w'/\Ext (writes (.rangeFunc g ps as x)) st.h.length ρ ρ' st st') a w:=by
 split at hr
 case h_2=>cases hr
 rename_i ns Y l hit hasg;cases hyok:Y.ok with
 |false=>rw[hyok]at hr;cases hr
 |true=>
 rw[hyok]at hr;simp only[Q1]at hr;cases hok:ra st.h ns&&ra st.h bs&&apart ns bs&&Uao p&&Ub1 st.h with
 |false=>rw[hok]at hr;cases hr
 |true=>
 rw[hok]at hr;simp only[Q1]at hr;simp only[Q7]at hok;obtain⟨⟨⟨⟨hns,hbs⟩,hap⟩,hni⟩,hown⟩:=hok;have hown:=Zto hown;have hns:=hra hns;have hbs:=hra hbs;have hap:=Zts hap;generalize hstep:(λ(y:Y.X) (hb:BS)=>bif jB (Y.enc y).length ps.toList.length then veC P Γ N x p (Stp BS (Exit×BS)) (Ubo bs ps.toList l st (Y.enc y) hb) (Ua6 st.h.length bs) else none)=step at hr
 -- the iterator
 unfold Ubs at hit;have hgv:=Zby (Ziv hR.slots g);split at hit
 case h_2=>cases hit
 rename_i f ns' hcl;split at hit
 case h_2=>cases hit
 rename_i I hI;split at hit
 case h_2=>cases hit
 rename_i Y' hY;simp only[Q8,Q0]at hit;obtain⟨rfl,rfl⟩:=hit;rw[hcl]at hgv;obtain⟨hgv,-⟩:=hgv;obtain⟨hico,hent⟩:=hΓ.i f I hI;obtain⟨hknown,hseq⟩:=hico ρ st.h w ns' Y' hY hyok hR.heap hns;have hW0:W0.heap.size<=w.heap.size:=hR.kept.size;have hmarks:∀m,({ target:=.collected m,args:=#[] }:Deferred)∈a.defers->m<w.heap.size:=λm hm=>by
  obtain⟨m',e,_,h2⟩:=hR.defers.all _ hm;cases e;exact(jO.1 h2).1
 let RH:(Nat->Ad)->BS->World->Prop:=λρ' hb W=>RS E P W0 n0 (st.d++D) ρ0 ρ' { s:=st.s,h:=setMany st.h bs hb,d:=bs } a W/\(∀k,k<st.h.length->ρ' k=ρ k)/\HLe st.h (setMany st.h bs hb)
 have hRHown:∀{ρ' hb W W' row},RH ρ' hb W->W.grownBy W' row->(∀r,row=some r->w.heap.size<=r/\∃o:Obj,W.heap[r]?=some o/\o.isCells=false)->RH ρ' hb W':=
  λ h hg hrow=>⟨h.1.grown hg hrow hW0 hmarks (λ n E c hn=>by
   dsimp only at hn
   by_cases hb':n∈bs
   ·rcases(hbs n hb').hle h.2.2 with ⟨_,_,e'⟩ | ⟨_,_,e'⟩<;>(rw[e']at hn;cases hn)
   ·rw[Zad _ _ _ hb']at hn;rw[h.2.1 n (jE.1 hn).1];exact hR.heap.lt (.mp hn)),h.2⟩
 have hself:setMany st.h bs (getH st.h bs)=st.h:=by
  refine List.ext_getElem? λi=> ?_
  rw[Za9 (g:=λc=>st.h.getD c .no) bs _ _ i (Zgw _ _)];split
  ·rename_i h;rw[jX,jJ h.2];rfl
  ·rfl
 have hfin:∀{ρ' hb W} {ds:List Deferred},RH ρ' hb W->DefOk W0 ds W->RS E P W0 n0 D ρ0 ρ' (Uar bs st hb) { a with defers:=ds } W/\Ext (writes (.rangeFunc g ps as x)) st.h.length ρ ρ' st (Uar bs st hb):=by
  rintro ρ' hb W ds ⟨h1,h2,h3⟩ hds;refine⟨⟨h1.len,h1.slots,h1.heap,h1.base,h1.fresh,h1.kept.mono λk _ ⟨m,e1,e2,e3⟩=>⟨m,e1,?_,e3⟩,h1.own0,hds,h1.bound⟩,⟨λ_ _=>rfl,rfl,λm hm hd=> ?_,λm hm=>jK _ hm,?_,h3,h2⟩⟩
  ·simp only[Uar,jD]at e2|-
   rcases e2 with e2 | (e2|e2)|e2
   ·exact .inl (.inl e2)
   ·exact .inl (.inr e2)
   ·exact .inr (.inl e2)
   ·exact .inr (.inr e2)
  ·simp only[Uar]at hd|-
   exact Zad _ _ _ λhb'=>hd (jC _ hb')
  ·simp only[Uar];rw[Zag];exact jF _
 have hpush:∀{ρ' hb W} {Dk:Nat},RH ρ' hb W->w.heap.size<=Dk->W.heap[Dk]?=some (.deferred (some []))->DefOk W0 ({ target:=.collected Dk,args:=#[] }::a.defers) W:=λh hD hm=>
  h.1.defers.push (jM hW0 hD) hm λk hk=>by have:=hmarks k hk;omega
 have hone:∀(pre:List Y'.X) (y:Y'.X) (hb:BS),Uas step pre (getH st.h bs)=some (.more hb)->pre++[y] <+: Y'.xs ->
   ∃r',step y hb=some r'/\Uas step (pre++[y]) (getH st.h bs)=some r'/\(Y'.enc y).length=ps.toList.length/\veC P Γ N x p (Stp BS (Exit×BS)) (Ubo bs ps.toList l st (Y'.enc y) hb) (Ua6 st.h.length bs)=some r':=by
  rintro pre y hb hf ⟨suf,hsuf⟩;cases hs:step y hb with
  |none=>rw[<- hsuf,List.append_assoc,Zfr,hf]at hr;simp[Uas,hs,Uby]at hr
  | some r'=>
   refine⟨r',rfl,?_,?_⟩
   ·rw[Zfr,hf];simp only[Uas,hs];cases r'<;>rfl
   ·rw[<- hstep]at hs;dsimp only at hs;cases hb':jB (Y'.enc y).length ps.toList.length with
    |false=>rw[hb']at hs;cases hs
    |true=>rw[hb']at hs;exact⟨jL hb',hs⟩
 refine Zil (α:=Y'.X) (v0:=w) hgv hent hseq
  (λ{A B C} h k q hq Ce t fr e=>k q hq Ce t fr (h q hq Ce t fr e))
  (fun W l' o o' hl ho hc _ k hk C t fr e=>by
   have:l'≠k:=λe'=>by subst e';rw[ho]at e;cases e;cases hc
   rw[World.putObj_heap_other (Ne.symm this)];exact e)
  (λ{A B} hAB k _ C t fr e=>hAB.at e)
  (Ge.refl w)
  (λpre W=>∃ρ' hb,Uas step pre (getH st.h bs)=some (.more hb)/\RH ρ' hb W)
  (λc pre W=>∃ρ' hb e,Uas step pre (getH st.h bs)=some (.done (e,hb))/\c=Uf4 e/\(e=.ret\/∃id,e=.exit id)/\RH ρ' hb W)
  ?hps ?hI ?hIx ?h0 (λy=>Ubl l { tmps:=(ps.zip ((Y'.enc y).map Ve.valOf).toArray).foldl (λt (p,v)=>t.setIfInBounds p v) a.tmps,defers:=[] }) ?hassign ?hbody ?hdone ?hstop
 case hps=>
  rintro pre y W ⟨ρ',hb,hf,-⟩ hpre;obtain⟨r',hs,-,hlen,-⟩:=hone pre y hb hf hpre;simp[hlen]
 case hI=>exact λpre W W' row ⟨ρ',hb,h1,h2⟩ hg hrow=>⟨ρ',hb,h1,hRHown h2 hg hrow⟩
 case hIx=>exact λc pre W W' row ⟨ρ',hb,e,h1,h2,h3,h4⟩ hg hrow=>⟨ρ',hb,e,h1,h2,h3,hRHown h4 hg hrow⟩
 case h0=>
  refine⟨ρ,getH st.h bs,rfl,⟨hR.len,?_,?_,hR.base,?_,hR.kept.mono λk _ ⟨m,e1,e2,e3⟩=>⟨m,e1,.inr (by simp only[jD];exact or_assoc.2 e2),e3⟩,?_,hR.defers,?_⟩,λ_ _=>rfl,?_⟩
  all_goals ((try dsimp only);rw[hself])
  ·exact hR.slots
  ·exact hR.heap
  ·exact hR.fresh
  ·exact hR.own0
  ·exact hR.bound
  ·exact HLe.refl _
 case hassign=>exact λl' y W=>asgX hasg
 case hbody=>
  rintro l' pre y W hl' - ⟨ρ',hb,hf,h1,h2,h3⟩ hpre;obtain⟨r',hs,hf',hlen,hv⟩:=hone pre y hb hf hpre;have hlenh:(setMany st.h bs hb).length=st.h.length:=Zag _ _ _;have hroot:=h1.root (E':=[]) λk len C e he=>by
   dsimp only at he
   by_cases hkb:k∈bs
   ·rcases(hbs k hkb).hle h3 with ⟨_,_,e2⟩ | ⟨_,_,e2⟩<;>(rw[e2]at he;cases he)
   ·rw[Zad _ _ _ hkb]at he;exact absurd he (hown k len C e)
  dsimp only at hroot;rw[hlenh]at hroot;have hA:Uav P ρ' (setMany st.h bs hb) (Y'.enc y) ((Y'.enc y).map Ve.valOf):=Zu0 (hknown pre y hpre);have hset:=(RS.setPs ps.toList (Y'.enc y) ((Y'.enc y).map Ve.valOf) hroot hlen hA).runAsg l;dsimp only at hset;have hact:(ps.zip ((Y'.enc y).map Ve.valOf).toArray).foldl (λt (x:Nat×Value)=>t.setIfInBounds x.1 x.2) a.tmps=(ps.toList.zip ((Y'.enc y).map Ve.valOf)).foldl (λt (x:Nat×Value)=>t.setIfInBounds x.1 x.2) a.tmps:=by rw[<- Array.foldl_toList,Array.toList_zip]
  refine WpX.mono (body l' (Ubo bs ps.toList l st (Y'.enc y) hb) r' ρ' _ W hni hv (by
   simp only[Ubo];rw[hact];exact hset)) ?_
  rintro e a2 W2 ⟨ρ2,st2,hk,hR2,hE⟩;have hE':Ext (writes x) st.h.length ρ' ρ2 { s:=runAsg l (setPs st.s ps.toList (Y'.enc y)),h:=setMany st.h bs hb,d:=[] } st2:=by have:=hE;simp only[Ubo]at this;rw[hlenh]at this;exact this
  have good:∀{s:BS},Ue9 st.h.length bs st2=some s->s=getH st2.h bs/\Uak st.h.length bs st2.d=true/\(getH st2.h bs).all (Uaj st.h.length)=true:=by
   intro s h;unfold Ue9 at h;cases hok':Uak st.h.length bs st2.d&&(getH st2.h bs).all (Uaj st.h.length) with
   |false=>rw[hok']at h;cases h
   |true=>rw[hok']at h;simp only[Q1,Q8]at h;simp only[Q7]at hok';exact⟨h.symm,hok'.1,hok'.2⟩
  have moreE:∀{o:Option BS},Uat (X:=Exit×BS) o=some r'->∃s',o=some s'/\r'=.more s':=λ{o} h=>by cases o<;>cases h;exact⟨_,rfl,rfl⟩
  have doneE:∀{o:Option BS} {e:Exit},Uaq e o=some r'->∃s',o=some s'/\r'=.done (e,s'):=λ{o e} h=>by cases o<;>cases h;exact⟨_,rfl,rfl⟩
  have keeps:Uak st.h.length bs st2.d=true->(getH st2.h bs).all (Uaj st.h.length)=true->RH ρ2 (getH st2.h bs) W2/\KeepsS (sfOf P st.h) w.heap.size W W2/\Ub3 ((ns'.map λm=>(ρ m).a)++(glL st.h++boxL ρ st.h ns')) W W2:=λg1 g2=>by
   obtain⟨k1,k2,k3,k4,k5,k6⟩:=Yax hbs h1 h3 hR2 hE' g1 g2;refine⟨⟨k1,λk hp=>(k3 k hp).trans (h2 k hp),k2⟩,⟨k6,λk hk hlt _=>k5 k hlt λb hb' e=> ?_⟩,?_⟩
   ·have h1b:=h2 b (hbs b hb').lt;have:=hR.heap.lt (hbs b hb').present;rw[h1b]at e;omega
   intro q hq C t fr hk';rcases jD.1 hq with hq|hq
   case inr=>
    refine k4 _ C t fr hk' λb hb' e=> ?_
    rcases jD.1 hq with hq|hq
    ·obtain⟨n,bg,hg,hfg⟩:=Zzp hq;obtain⟨bg',hg',hfg'⟩:=Ycr (h3 n) hg hfg;exact h1.heap.far n _ q hg' hfg' b ((hbs b hb').hle h3).present e
    ·obtain⟨m,k,tk,c,len,Ck,ek,-,-,e2,e3,e4,rfl⟩:=Zs9 hq;have hkb:k ∉ bs:=λhk=>by rcases hbs k hk with ⟨_,_,e5⟩ | ⟨_,_,e5⟩<;>(rw[e2]at e5;cases e5)
     have hkp:present (setMany st.h bs hb) k:=.own (by rw[Zad _ _ _ hkb];exact e2) e3 e4;have:b=k:=h1.heap.inj b k ((hbs b hb').hle h3).present hkp (by rw[e,h2 k (jE.1 e2).1]);exact hkb (this ▸ hb')
   obtain⟨m,hm,rfl⟩:=jN.1 hq;refine k4 _ C t fr hk' λb hb' e=> ?_
   have:b=m:=h1.heap.inj b m ((hbs b hb').hle h3).present ((hns m hm).hle h3).present (by rw[e,h2 m (hns m hm).lt]);exact hap b hb' (this ▸ hm)
  cases e with
  |normal=>obtain⟨s',ht,rfl⟩:=moreE hk;obtain⟨rfl,g1,g2⟩:=good ht;obtain⟨q1,q2,q3⟩:=keeps g1 g2;exact⟨q2,q3,ρ2,_,hf',q1⟩
  |ret=>obtain⟨s',ht,rfl⟩:=doneE hk;obtain⟨rfl,g1,g2⟩:=good ht;obtain⟨q1,q2,q3⟩:=keeps g1 g2;exact⟨q2,ρ2,_,.ret,hf',rfl,.inl rfl,q1⟩
  |exit id=>obtain⟨s',ht,rfl⟩:=doneE hk;obtain⟨rfl,g1,g2⟩:=good ht;obtain⟨q1,q2,q3⟩:=keeps g1 g2;exact⟨q2,ρ2,_,.exit id,hf',rfl,.inr ⟨id,rfl⟩,q1⟩
  |goto l=>cases hk
  |panic ch=>cases hk
  |outgrown=>cases hk
 case hdone=>
  rintro Dk W hD ⟨ρ',hb,hf,hRH⟩ hm;rw[hf]at hr;obtain⟨h1,h2⟩:=hfin hRH (hpush hRH hD hm);exact⟨ρ',_,hr,h1,h2⟩
 case hstop=>
  rintro Dk c pre W hD ⟨suf,hsuf⟩ ⟨ρ',hb,e,hf,rfl,he,hRH⟩ hm;rw[<- hsuf,Zfr,hf]at hr;obtain⟨h1,h2⟩:=hfin hRH (hpush hRH hD hm);rcases he with rfl | ⟨id,rfl⟩
  ·exact Zgo ⟨ρ',_,hr,h1,h2⟩
  ·exact Zld ⟨ρ',_,hr,h1,h2⟩
theorem Zxf(hΓ:ConsOkX mn P (Uah mn P) Γ){g:Operand}{ps:Array Tmp}{as x:Code}{bs:List Nat}{p:Plan}{α:Type}{K:Exit->St->Option α}{r:α}{ρ:Nat->Ad}{st:St}{a:Act}{w:World}
  (body:∀ (l:Nat) (st1:St) (r':Stp BS (Exit×BS)) (ρ1:Nat→Ad) (a1:Act) (W:World),Uao p=true→veC P Γ N x p (Stp BS (Exit×BS)) st1 (Ua6 (Ubw st).h.length bs)=some r'→R P W (Ubw st).h.length [] ρ1 ρ1 st1 a1 W →
   WpX mn (some l) P x (λe a' w'=>∃ρ' st',Ua6 (Ubw st).h.length bs e st'=some r'/\R P W (Ubw st).h.length [] ρ1 ρ' st' a' w'/\Ext (writes x) st1.h.length ρ1 ρ' st1 st') a1 W)
  (hr:veC P Γ N (.rangeFunc g ps as x) (.iter bs p) α st K=some r) (hR:RS E P W0 n0 D ρ0 ρ st a w) :
  WpX mn none P (.rangeFunc g ps as x) (λe a' w'=>∃ρ' st',K e st'=some r/\RS E P W0 n0 D ρ0 ρ' st' a' w'/\Ext (writes (.rangeFunc g ps as x)) st.h.length ρ ρ' st st') a w:=by
 rw[veC]at hr;obtain⟨hR',hE⟩:=hR.spend (writes (.rangeFunc g ps as x)) st.h.length;refine WpX.mono (Zph Yaa hΓ body hr hR') ?_;rintro e a' w' ⟨ρ',st',k1,k2,k3⟩;exact⟨ρ',st',k1,k2,hE.trans (k3.mono (λ_ h=>h) (by simp[Ubw]))⟩
theorem Zvk(hΓ:ConsOkX mn P (Uah mn P) Γ){g:Operand}{ps:Array Tmp}{as x:Code}{bs:List Nat}{p:Plan}{α:Type}{K:Exit->St->Option α}{r:α}{ρ:Nat->Ad}{st:St}{a:Act}{w:World}
  (body:∀ (l:Nat) (st1:St) (r':Stp BS (Exit×BS)) (ρ1:Nat→Ad) (a1:Act) (W:World),Uao p=true→veC P Γ N x p (Stp BS (Exit×BS)) st1 (Ua6 (Uax st).h.length bs)=some r'→R P W (Uax st).h.length [] ρ1 ρ1 st1 a1 W →
   WpX mn (some l) P x (λe a' w'=>∃ρ' st',Ua6 (Uax st).h.length bs e st'=some r'/\R P W (Uax st).h.length [] ρ1 ρ' st' a' w'/\Ext (writes x) st1.h.length ρ1 ρ' st1 st') a1 W)
  (hr:veC P Γ N (.rangeFunc g ps as x) (.iterL bs p) α st K=some r) (hR:RS E P W0 n0 D ρ0 ρ st a w) :
  WpX mn none P (.rangeFunc g ps as x) (λe a' w'=>∃ρ' st',K e st'=some r/\RS E P W0 n0 D ρ0 ρ' st' a' w'/\Ext (writes (.rangeFunc g ps as x)) st.h.length ρ ρ' st st') a w:=by
 rw[veC]at hr;have hR':RS E P W0 n0 D ρ0 ρ (Uax st) a w:=hR.lo (Yj1 st.h) (by simp) (λn len C e hn he=>absurd he (Yjl _ _ _ _ _))
 let K':Exit->St->Option α:=λe st1=>K e { s:=st1.s,h:=reown st.h st1.h,d:=st1.d }
 have hr':(match Ubs Γ (Uax st).h (asA (evO (Uax st).s g)),Udl as with
  | some (ns,Y),some l=>
   bif Y.ok then (bif Ubb (Uax st).h ns&&Ubb (Uax st).h bs&&apart ns bs&&Uao p&&Ub1 (Uax st).h then
    Uby (Uas (λy hb=>bif jB (Y.enc y).length ps.toList.length then veC P Γ N x p (Stp BS (Exit×BS)) (Ubo bs ps.toList l (Uax st) (Y.enc y) hb) (Ua6 (Uax st).h.length bs) else none) Y.xs (getH (Uax st).h bs)) (λhb=>K' .normal (Uar bs (Uax st) hb)) (λe hb=>K' e (Uar bs (Uax st) hb)) else none) else none
  |_,_=>none)=some r:=by
  cases h1:Ubs Γ (Uax st).h (asA (evO (Uax st).s g)) with
  |none=>rw[h1]at hr;cases hr
  | some q=>
   rw[h1]at hr;cases h2:Udl as with
   |none=>rw[h2]at hr;cases hr
   | some l=>
    rw[h2]at hr;dsimp only at hr|-
    cases hok:Ubb (Uax st).h q.1&&Ubb (Uax st).h bs&&apart q.1 bs&&Uao p&&Ub1 (Uax st).h with
    |false=>rw[hok]at hr;cases hy:q.2.ok<;>rw[hy]at hr<;>cases hr
    | true=>
     rw[hok]at hr;have hb:=Zkv (by simp only[Q7]at hok;exact hok.1.1.1.2);have e1:∀(e:Exit) (hb:BS),K e (Uar bs st hb)=K' e (Uar bs (Uax st) hb):=λe hb'=>by
      show _=K e _
      unfold Uar Uax;dsimp only;rw[Ya6 hb' hb]
     simp only[e1]at hr;exact hr
 refine WpX.mono (Zph Zkv hΓ body hr' hR') ?_;rintro e a' w' ⟨ρ',st',k1,k2,k3⟩;refine⟨ρ',{ s:=st'.s,h:=reown st.h st'.h,d:=st'.d },k1,k2.lo (Ygk _ _) (Zo9 _ _) (λn len C e hn he=> ?_),⟨k3.slots,k3.len,λn hn hd=> ?_,k3.dirty,?_,λn=> ?_,λn hn=>k3.ren n (by show n<(st.h.map Ubt).length;simpa using hn)⟩⟩
 ·rcases Yej he with ⟨len',C',e',h⟩|h
  ·have h1:(Uax st).h[n]?=some (.sl .lent len' C' e'):=by
    show (st.h.map Ubt)[n]?=_
    rw[Zje,h];rfl
   rcases(k3.hle n).sl _ _ _ _ h1 with ⟨C2,h2⟩ | ⟨h2,-⟩
   ·rw[Zfu,h,h2]at he;cases he;exact hR.own0 n _ _ _ hn h
   ·cases h2
  ·exact k2.own0 n len C e hn h
 ·have h1:st'.h[n]?=(st.h.map Ubt)[n]?:=k3.heap n (by show n<(st.h.map Ubt).length;simpa using hn) hd;rw[Zfu,h1,Zje];cases st.h[n]? with
  |none=>rfl
  |some b=>
   cases b with
   |sl k len C e=>cases k<;>rfl
   |_=>rfl
 ·have:=k3.hlen;rw[Zo9]
  simpa [Uax] using this
 ·have k:=k3.hle n;have hl:∀{b:VB},st.h[n]?=some b->(Uax st).h[n]?=some (Ubt b):=λ{b} h=>by
   show (st.h.map Ubt)[n]?=_
   rw[Zje,h];rfl
  have hn:∀{b c:VB},st.h[n]?=some b->st'.h[n]?=some c->(∀len C e,b=.sl .own len C e->False)->(reown st.h st'.h)[n]?=some c:=λ{b c} hb hc hno=>by
   rw[Zfu,hb,hc,jS];split
   ·rename_i h;cases h;exact(hno _ _ _ rfl).elim
   ·rfl
  refine⟨λC t h=> ?_,λy t h=> ?_,λa len C e h=> ?_,λh=> ?_,λg t a x h=> ?_,λE c h=> ?_⟩
  ·obtain⟨C',h'⟩:=k.row C t (hl h);exact⟨C',hn h h' λ_ _ _ q=>nomatch q⟩
  ·obtain⟨C',h'⟩:=k.one y t (hl h);exact⟨C',hn h h' λ_ _ _ q=>nomatch q⟩
  ·cases a with
   |own=>
    rcases k.sl .lent len C e (hl h) with ⟨C',h'⟩ | ⟨h',-⟩
    ·exact .inl ⟨C',by rw[Zfu,h,h'];rfl⟩
    ·cases h'
   |lent=>
    rcases k.sl .lent len C e (hl h) with ⟨C',h'⟩ | ⟨h',-⟩
    ·exact .inl ⟨C',hn h h' λ_ _ _ q=>nomatch q⟩
    ·cases h'
   |came c=>
    rcases k.sl (.came c) len C e (hl h) with ⟨C',h'⟩ | ⟨h',-⟩
    ·exact .inl ⟨C',hn h h' λ_ _ _ q=>nomatch q⟩
    ·cases h'
  ·exact hn h (k.sp (hl h)) λ_ _ _ q=>nomatch q
  ·exact hn h (k.gl g t a x (hl h)) λ_ _ _ q=>nomatch q
  ·obtain⟨E1,c1,h'⟩:=k.mp E c (hl h);exact⟨E1,c1,hn h h' λ_ _ _ q=>nomatch q⟩
theorem put_root{W1 W:World}{n1:Nat}{ρs ρ1:Nat->Ad}{st1:St}{a1:Act}(hR:R P W1 n1 [] ρs ρ1 st1 a1 W){l:Nat}{r0:Loop}(hlt:l<W.heap.size)(hlt1:l<W1.heap.size)(h1:W1.heap[l]?=some (.loop r0))(h2:W.heap[l]?=some (.loop r0))(r1:Loop)(hmp:∀(n:Nat) E c,st1.h[n]?=some (.mp E c)->(ρ1 n).a≠l):
  R P (W1.putObj l (.loop r1)) n1 [] ρs ρ1 st1 a1 (W.putObj l (.loop r1)):=by
 have hcell:∀(k:Nat) C t fr,W.heap[k]?=some (Obj.cells C t fr)->(W.putObj l (.loop r1)).heap[k]?=some (Obj.cells C t fr):=λk C t fr hk=>by
  have:l≠k:=λe=>by subst e;rw[h2]at hk;cases hk
  rw[World.putObj_heap_other (Ne.symm this)];exact hk
 have hsz:(W.putObj l (.loop r1)).heap.size=W.heap.size:=by simp[World.putObj]
 have hsz1:(W1.putObj l (.loop r1)).heap.size=W1.heap.size:=by simp[World.putObj]
 refine⟨hR.len,hR.slots,⟨λk b hb=> ?_,hR.heap.inj,hR.heap.far⟩,hR.base,λn hn hp=>by rw[hsz1];exact hR.fresh n hn hp,⟨hR.kept.os,hR.kept.tape,hR.kept.output,by rw[hsz,hsz1];exact hR.kept.size,λk hk he=> ?_⟩,hR.own0,⟨λd hd=> ?_,hR.defers.diff⟩,hR.bound⟩
 ·have:=hR.heap.is k b hb;cases b with
  |no=>trivial
  |row C t=>exact⟨hcell _ _ _ _ this.1,this.2⟩
  |one y t=>obtain⟨v,h1,h2⟩:=this;exact⟨v,h1,hcell _ _ _ _ h2⟩
  |sl x len C t=>exact⟨this.1.cells (by rw[hsz];exact jF _) hcell,λh1 h2=>let ⟨q1,C',q2,q3⟩:=this.2 h1 h2;⟨q1,C',hcell _ _ _ _ q2,q3⟩⟩
  |gl g t a x=>exact this.glCells hcell
  |mp E c=>
   show (W.putObj l (.loop r1)).heap[(ρ1 k).a]?=_
   rw[World.putObj_heap_other (hmp k E c hb)];exact this
  |sp=>trivial
 ·by_cases e:k=l
  ·subst e;rw[World.putObj_heap_same hlt,World.putObj_heap_same hlt1]
  ·rw[World.putObj_heap_other e,World.putObj_heap_other e];exact hR.kept.block k (by rw[hsz1]at hk;exact hk) he
 ·obtain⟨m,e,q1,q2⟩:=hR.defers.all d hd;refine⟨m,e,by rw[hsz1];exact q1,?_⟩;rw[World.putObj_heap_other (by omega)];exact q2
theorem Zxg{ra:List VB->List Nat->Bool}(hra:∀{h:List VB} {l:List Nat},ra h l=true->∀n∈l,Ubj h n)(hm:P.follows .mixedOrders=true)(hΓ:ConsOkX mn P (Uah mn P) Γ){g:Operand}{ps:Array Tmp}{as x:Code}{bs:List Nat}{p:Plan}{α:Type}{K:Exit->St->Option α}{r:α}{ρ:Nat->Ad}{st:St}{a:Act}{w:World}
  (body:∀ (l:Nat) (st1:St) (r':Stp BS (Exit×BS)) (ρs ρ1:Nat→Ad) (a1:Act) (W1 W:World),Uao p=true→veC P Γ N x p (Stp BS (Exit×BS)) st1 (Ua6 st.h.length bs)=some r'→R P W1 st.h.length [] ρs ρ1 st1 a1 W →
   WpX mn (some l) P x (λe a' w'=>∃ρ' st',Ua6 st.h.length bs e st'=some r'/\R P W1 st.h.length [] ρs ρ' st' a' w'/\Ext (writes x) st1.h.length ρ1 ρ' st1 st') a1 W)
  (hr:(match Ubs Γ st.h (asA (evO st.s g)),asgR as with
  | some (ns,Y),some (l,ops)=>
   bif Y.ok then (bif ra st.h ns&&ra st.h bs&&apart ns bs&&Uao p&&Ub1 st.h then
    Uby (Uas (λy hb=>bif jB (Y.enc y).length ps.toList.length then Uc3 P Γ ops false (Ubo bs ps.toList l st (Y.enc y) hb) (kAsg st.h.length λst1=>veC P Γ N x p (Stp BS (Exit×BS)) st1 (Ua6 st.h.length bs)) else none) Y.xs (getH st.h bs)) (λhb=>K .normal (Uar bs st hb)) (λe hb=>K e (Uar bs st hb)) else none) else none
  |_,_=>none)=some r) (hR:RS E P W0 n0 D ρ0 ρ st a w) :
  WpX mn none P (.rangeFunc g ps as x) (λe a' w'=>∃ρ' st',K e st'=some r/\RS E P W0 n0 D ρ0 ρ' st' a' w'/\Ext (writes (.rangeFunc g ps as x)) st.h.length ρ ρ' st st') a w:=by
 split at hr
 case h_2=>cases hr
 rename_i ns Y l ops hit hasg;cases hyok:Y.ok with
 |false=>rw[hyok]at hr;cases hr
 |true=>
 rw[hyok]at hr;simp only[Q1]at hr;cases hok:ra st.h ns&&ra st.h bs&&apart ns bs&&Uao p&&Ub1 st.h with
 |false=>rw[hok]at hr;cases hr
 |true=>
 rw[hok]at hr;simp only[Q1]at hr;simp only[Q7]at hok;obtain⟨⟨⟨⟨hns,hbs⟩,hap⟩,hni⟩,hown⟩:=hok;have hown:=Zto hown;have hns:=hra hns;have hbs:=hra hbs;have hap:=Zts hap;generalize hstep:(λ(y:Y.X) (hb:BS)=>bif jB (Y.enc y).length ps.toList.length then Uc3 P Γ ops false (Ubo bs ps.toList l st (Y.enc y) hb) (kAsg st.h.length λst1=>veC P Γ N x p (Stp BS (Exit×BS)) st1 (Ua6 st.h.length bs)) else none)=step at hr
 -- the iterator
 unfold Ubs at hit;have hgv:=Zby (Ziv hR.slots g);split at hit
 case h_2=>cases hit
 rename_i f ns' hcl;split at hit
 case h_2=>cases hit
 rename_i I hI;split at hit
 case h_2=>cases hit
 rename_i Y' hY;simp only[Q8,Q0]at hit;obtain⟨rfl,rfl⟩:=hit;rw[hcl]at hgv;obtain⟨hgv,-⟩:=hgv;obtain⟨hico,hent⟩:=hΓ.i f I hI;obtain⟨hknown,hseq⟩:=hico ρ st.h w ns' Y' hY hyok hR.heap hns;have hW0:W0.heap.size<=w.heap.size:=hR.kept.size;have hmarks:∀m,({ target:=.collected m,args:=#[] }:Deferred)∈a.defers->m<w.heap.size:=λm hm=>by
  obtain⟨m',e,_,h2⟩:=hR.defers.all _ hm;cases e;exact(jO.1 h2).1
 let RH:(Nat->Ad)->BS->World->Prop:=λρ' hb W=>RS E P W0 n0 (st.d++D) ρ0 ρ' { s:=st.s,h:=setMany st.h bs hb,d:=bs } a W/\(∀k,k<st.h.length->ρ' k=ρ k)/\HLe st.h (setMany st.h bs hb)
 have hRHown:∀{ρ' hb W W' row},RH ρ' hb W->W.grownBy W' row->(∀r,row=some r->w.heap.size<=r/\∃o:Obj,W.heap[r]?=some o/\o.isCells=false)->RH ρ' hb W':=
  λ h hg hrow=>⟨h.1.grown hg hrow hW0 hmarks (λ n E c hn=>by
   dsimp only at hn
   by_cases hb':n∈bs
   ·rcases(hbs n hb').hle h.2.2 with ⟨_,_,e'⟩ | ⟨_,_,e'⟩<;>(rw[e']at hn;cases hn)
   ·rw[Zad _ _ _ hb']at hn;rw[h.2.1 n (jE.1 hn).1];exact hR.heap.lt (.mp hn)),h.2⟩
 have hself:setMany st.h bs (getH st.h bs)=st.h:=by
  refine List.ext_getElem? λi=> ?_
  rw[Za9 (g:=λc=>st.h.getD c .no) bs _ _ i (Zgw _ _)];split
  ·rename_i h;rw[jX,jJ h.2];rfl
  ·rfl
 have hfin:∀{ρ' hb W} {ds:List Deferred},RH ρ' hb W->DefOk W0 ds W->RS E P W0 n0 D ρ0 ρ' (Uar bs st hb) { a with defers:=ds } W/\Ext (writes (.rangeFunc g ps as x)) st.h.length ρ ρ' st (Uar bs st hb):=by
  rintro ρ' hb W ds ⟨h1,h2,h3⟩ hds;refine⟨⟨h1.len,h1.slots,h1.heap,h1.base,h1.fresh,h1.kept.mono λk _ ⟨m,e1,e2,e3⟩=>⟨m,e1,?_,e3⟩,h1.own0,hds,h1.bound⟩,⟨λ_ _=>rfl,rfl,λm hm hd=> ?_,λm hm=>jK _ hm,?_,h3,h2⟩⟩
  ·simp only[Uar,jD]at e2|-
   rcases e2 with e2 | (e2|e2)|e2
   ·exact .inl (.inl e2)
   ·exact .inl (.inr e2)
   ·exact .inr (.inl e2)
   ·exact .inr (.inr e2)
  ·simp only[Uar]at hd|-
   exact Zad _ _ _ λhb'=>hd (jC _ hb')
  ·simp only[Uar];rw[Zag];exact jF _
 have hpush:∀{ρ' hb W} {Dk:Nat},RH ρ' hb W->w.heap.size<=Dk->W.heap[Dk]?=some (.deferred (some []))->DefOk W0 ({ target:=.collected Dk,args:=#[] }::a.defers) W:=λh hD hm=>
  h.1.defers.push (jM hW0 hD) hm λk hk=>by have:=hmarks k hk;omega
 have hone:∀(pre:List Y'.X) (y:Y'.X) (hb:BS),Uas step pre (getH st.h bs)=some (.more hb)->pre++[y] <+: Y'.xs ->
   ∃r',step y hb=some r'/\Uas step (pre++[y]) (getH st.h bs)=some r'/\(Y'.enc y).length=ps.toList.length/\Uc3 P Γ ops false (Ubo bs ps.toList l st (Y'.enc y) hb) (kAsg st.h.length λst1=>veC P Γ N x p (Stp BS (Exit×BS)) st1 (Ua6 st.h.length bs))=some r':=by
  rintro pre y hb hf ⟨suf,hsuf⟩;cases hs:step y hb with
  |none=>rw[<- hsuf,List.append_assoc,Zfr,hf]at hr;simp[Uas,hs,Uby]at hr
  | some r'=>
   refine⟨r',rfl,?_,?_⟩
   ·rw[Zfr,hf];simp only[Uas,hs];cases r'<;>rfl
   ·rw[<- hstep]at hs;dsimp only at hs;cases hb':jB (Y'.enc y).length ps.toList.length with
    |false=>rw[hb']at hs;cases hs
    |true=>rw[hb']at hs;exact⟨jL hb',hs⟩
 refine Zn4 (α:=Y'.X) (v0:=w) hgv hent hseq
  (λ{A B C} h k q hq Ce t fr e=>k q hq Ce t fr (h q hq Ce t fr e))
  (fun W l' o o' hl ho hc _ k hk C t fr e=>by
   have:l'≠k:=λe'=>by subst e';rw[ho]at e;cases e;cases hc
   rw[World.putObj_heap_other (Ne.symm this)];exact e)
  (λ{A B} hAB k _ C t fr e=>hAB.at e)
  (Ge.refl w)
  (λpre W=>∃ρ' hb,Uas step pre (getH st.h bs)=some (.more hb)/\RH ρ' hb W)
  (λc pre W=>∃ρ' hb e,Uas step pre (getH st.h bs)=some (.done (e,hb))/\c=Uf4 e/\(e=.ret\/∃id,e=.exit id)/\RH ρ' hb W)
  ?hps ?hI ?hIx ?h0
  (fun pre y W1 a1 W=>∃ ρ' hb r' ρ1 st1,Uas step (pre++[y]) (getH st.h bs)=some r'∧RH ρ' hb W1∧veC P Γ N x p (Stp BS (Exit×BS)) st1 (Ua6 st.h.length bs)=some r'∧R P W1 st.h.length [] ρ' ρ1 st1 a1 W∧Ge W1 W∧st1.d.all (Nat.ble st.h.length)=true ∧
   Ext (wrL ops.toList) st.h.length ρ' ρ1 { s:=runAsg l (setPs st.s ps.toList (Y'.enc y)),h:=setMany st.h bs hb,d:=[] } st1)
  (λ⟨ρ',hb,r',ρ1,st1,k1,k2,k3,k4,k5,k6⟩ hg=>⟨ρ',hb,r',ρ1,st1,k1,k2,k3,RS.ge k4 hg,k5.trans hg,k6⟩) (λ⟨_,_,_,_,_,_,_,_,_,k5,_⟩=>k5) ?hassign ?hbody ?hdone ?hstop
 case hps=>
  rintro pre y W ⟨ρ',hb,hf,-⟩ hpre;obtain⟨r',hs,-,hlen,-⟩:=hone pre y hb hf hpre;simp[hlen]
 case hI=>exact λpre W W' row ⟨ρ',hb,h1,h2⟩ hg hrow=>⟨ρ',hb,h1,hRHown h2 hg hrow⟩
 case hIx=>exact λc pre W W' row ⟨ρ',hb,e,h1,h2,h3,h4⟩ hg hrow=>⟨ρ',hb,e,h1,h2,h3,hRHown h4 hg hrow⟩
 case h0=>
  refine⟨ρ,getH st.h bs,rfl,⟨hR.len,?_,?_,hR.base,?_,hR.kept.mono λk _ ⟨m,e1,e2,e3⟩=>⟨m,e1,.inr (by simp only[jD];exact or_assoc.2 e2),e3⟩,?_,hR.defers,?_⟩,λ_ _=>rfl,?_⟩
  all_goals ((try dsimp only);rw[hself])
  ·exact hR.slots
  ·exact hR.heap
  ·exact hR.fresh
  ·exact hR.own0
  ·exact hR.bound
  ·exact HLe.refl _
 case hassign=>
  rintro l' pre y W ⟨ρ',hb,hf,h1,h2,h3⟩ hpre;obtain⟨r',hs,hf',hlen,hv⟩:=hone pre y hb hf hpre;have hlenh:(setMany st.h bs hb).length=st.h.length:=Zag _ _ _;have hroot:=h1.root (E':=[]) λk len C e he=>by
   dsimp only at he
   by_cases hkb:k∈bs
   ·rcases(hbs k hkb).hle h3 with ⟨_,_,e2⟩ | ⟨_,_,e2⟩<;>(rw[e2]at he;cases he)
   ·rw[Zad _ _ _ hkb]at he;exact absurd he (hown k len C e)
  dsimp only at hroot;rw[hlenh]at hroot;have hA:Uav P ρ' (setMany st.h bs hb) (Y'.enc y) ((Y'.enc y).map Ve.valOf):=Zu0 (hknown pre y hpre);have hset:=(RS.setPs ps.toList (Y'.enc y) ((Y'.enc y).map Ve.valOf) hroot hlen hA).runAsg l;dsimp only at hset;have hact:(ps.zip ((Y'.enc y).map Ve.valOf).toArray).foldl (λt (x:Nat×Value)=>t.setIfInBounds x.1 x.2) a.tmps=(ps.toList.zip ((Y'.enc y).map Ve.valOf)).foldl (λt (x:Nat×Value)=>t.setIfInBounds x.1 x.2) a.tmps:=by rw[<- Array.foldl_toList,Array.toList_zip]
  unfold asgR at hasg;split at hasg
  case h_2=>cases hasg
  rename_i a0 id ops';split at hasg
  case h_2=>cases hasg
  rename_i l0 hl0;cases hasg;refine Zan (WpX.mono (asgX hl0) ?_);rintro e a1 w1 hq;cases e with
  | normal=>
   obtain⟨rfl,hg1⟩:=hq;have hset1:=RS.ge hset hg1;rw[<- hact]at hset1;refine Zvs hm hΓ (Q:=Exit.then _ _) hset1 hv λρ2 st2 a2 w2 hk2 hR2 hE2=> ?_
   unfold kAsg at hk2;cases hd:st2.d.all (Nat.ble st.h.length) with
   |false=>rw[hd]at hk2;cases hk2
   |true=>
   rw[hd,Q1]at hk2;have hk3:=hR2.kept.mono (E':=λ_=>False) λk _ ⟨n,q1,q2,_⟩=>by
    rcases q2 with q2|q2|q2
    ·have:=jT (jI.1 hd n q2);omega
    ·cases q2
    ·cases q2
   refine⟨ρ',hb,r',ρ2,st2,hf',⟨h1,h2,h3⟩,hk2,hR2,⟨hk3.os,hk3.tape,hk3.output,hk3.size,λk hlt=>hk3.block k hlt not_false⟩,hd,?_⟩;have:=hE2;simp only at this;rw[hlenh]at this;exact this
  |_=>exact hq.elim
 case hbody=>
  rintro l' pre y W1 Wb a1 r0 r1 hl' hl0 - hpre ⟨ρ',hb,r',ρ1,st1,hf',⟨h1,h2,h3⟩,hv,hR1,hg1,hd1,hE1⟩;have hlenh:(setMany st.h bs hb).length=st.h.length:=Zag _ _ _;have hlW:=hg1.at hl0;have hlt1:=(jO.1 hl0).1;have hltW:=(jO.1 hlW).1;have hob:∃o:Obj,W1.heap[l']?=some o/\o.isCells=false:=⟨_,hl0,rfl⟩;have hRH1:RH ρ' hb (W1.putObj l' (.loop r1)):=hRHown ⟨h1,h2,h3⟩ (row:=some l') ⟨rfl,rfl,rfl,by simp[World.putObj],λk hk hne=>World.putObj_heap_other λe=>hne (by rw[e])⟩ λr e=>by cases e;exact⟨hl',hob⟩
  have hR1':=put_root hR1 hltW hlt1 hl0 hlW r1 (λn E c hn=>by
   by_cases hb':n<st.h.length
   ·have hn':(setMany st.h bs hb)[n]?=some (.mp E c):=by
     rw[<- hn];exact(hE1.heap n hb' λhd=>by have:=jT (jI.1 hd1 n hd);omega).symm
    by_cases hbb:n∈bs
    ·rcases(hbs n hbb).hle h3 with ⟨_,_,e'⟩ | ⟨_,_,e'⟩<;>(rw[e']at hn';cases hn')
    ·intro e;have hh:W1.heap[(ρ' n).a]?=some (.map E c):=h1.heap.is n _ hn';rw[hE1.ren n hb']at e;rw[show (ρ' n).a=l' from e]at hh;rw[hl0]at hh;cases hh
   ·intro e;have:=hR1.freshR n (by omega) (.mp hn);omega)
  clear hR1 hg1 hlW hltW hlt1 hl0 hob h1;generalize W1.putObj l' (.loop r1)=W at hRH1 hR1'|-
  obtain⟨h1,-,-⟩:=hRH1;refine WpX.mono (body l' st1 r' ρ' ρ1 a1 _ _ hni hv hR1') ?_;rintro e a2 W2 ⟨ρ2,st2,hk,hR2,hEx⟩;have hE':Ext (wrL ops.toList++writes x) st.h.length ρ' ρ2 { s:=runAsg l (setPs st.s ps.toList (Y'.enc y)),h:=setMany st.h bs hb,d:=[] } st2:=
   (hE1.mono (λ_ h=>jC _ h) (jF _)).trans (hEx.mono (λ_ h=>jK _ h) (by have:=hE1.hlen;dsimp only at this;omega))
  have good:∀{s:BS},Ue9 st.h.length bs st2=some s->s=getH st2.h bs/\Uak st.h.length bs st2.d=true/\(getH st2.h bs).all (Uaj st.h.length)=true:=by
   intro s h;unfold Ue9 at h;cases hok':Uak st.h.length bs st2.d&&(getH st2.h bs).all (Uaj st.h.length) with
   |false=>rw[hok']at h;cases h
   |true=>rw[hok']at h;simp only[Q1,Q8]at h;simp only[Q7]at hok';exact⟨h.symm,hok'.1,hok'.2⟩
  have moreE:∀{o:Option BS},Uat (X:=Exit×BS) o=some r'->∃s',o=some s'/\r'=.more s':=λ{o} h=>by cases o<;>cases h;exact⟨_,rfl,rfl⟩
  have doneE:∀{o:Option BS} {e:Exit},Uaq e o=some r'->∃s',o=some s'/\r'=.done (e,s'):=λ{o e} h=>by cases o<;>cases h;exact⟨_,rfl,rfl⟩
  have keeps:Uak st.h.length bs st2.d=true->(getH st2.h bs).all (Uaj st.h.length)=true->RH ρ2 (getH st2.h bs) W2/\KeepsS (sfOf P st.h) w.heap.size W W2/\Ub3 ((ns'.map λm=>(ρ m).a)++(glL st.h++boxL ρ st.h ns')) W W2:=λg1 g2=>by
   obtain⟨k1,k2,k3,k4,k5,k6⟩:=Yax hbs h1 h3 hR2 hE' g1 g2;refine⟨⟨k1,λk hp=>(k3 k hp).trans (h2 k hp),k2⟩,⟨k6,λk hk hlt _=>k5 k hlt λb hb' e=> ?_⟩,?_⟩
   ·have h1b:=h2 b (hbs b hb').lt;have:=hR.heap.lt (hbs b hb').present;rw[h1b]at e;omega
   intro q hq C t fr hk';rcases jD.1 hq with hq|hq
   case inr=>
    refine k4 _ C t fr hk' λb hb' e=> ?_
    rcases jD.1 hq with hq|hq
    ·obtain⟨n,bg,hg,hfg⟩:=Zzp hq;obtain⟨bg',hg',hfg'⟩:=Ycr (h3 n) hg hfg;exact h1.heap.far n _ q hg' hfg' b ((hbs b hb').hle h3).present e
    ·obtain⟨m,k,tk,c,len,Ck,ek,-,-,e2,e3,e4,rfl⟩:=Zs9 hq;have hkb:k ∉ bs:=λhk=>by rcases hbs k hk with ⟨_,_,e5⟩ | ⟨_,_,e5⟩<;>(rw[e2]at e5;cases e5)
     have hkp:present (setMany st.h bs hb) k:=.own (by rw[Zad _ _ _ hkb];exact e2) e3 e4;have:b=k:=h1.heap.inj b k ((hbs b hb').hle h3).present hkp (by rw[e,h2 k (jE.1 e2).1]);exact hkb (this ▸ hb')
   obtain⟨m,hm,rfl⟩:=jN.1 hq;refine k4 _ C t fr hk' λb hb' e=> ?_
   have:b=m:=h1.heap.inj b m ((hbs b hb').hle h3).present ((hns m hm).hle h3).present (by rw[e,h2 m (hns m hm).lt]);exact hap b hb' (this ▸ hm)
  cases e with
  |normal=>obtain⟨s',ht,rfl⟩:=moreE hk;obtain⟨rfl,g1,g2⟩:=good ht;obtain⟨q1,q2,q3⟩:=keeps g1 g2;exact⟨q2,q3,ρ2,_,hf',q1⟩
  |ret=>obtain⟨s',ht,rfl⟩:=doneE hk;obtain⟨rfl,g1,g2⟩:=good ht;obtain⟨q1,q2,q3⟩:=keeps g1 g2;exact⟨q2,ρ2,_,.ret,hf',rfl,.inl rfl,q1⟩
  |exit id=>obtain⟨s',ht,rfl⟩:=doneE hk;obtain⟨rfl,g1,g2⟩:=good ht;obtain⟨q1,q2,q3⟩:=keeps g1 g2;exact⟨q2,ρ2,_,.exit id,hf',rfl,.inr ⟨id,rfl⟩,q1⟩
  |goto l=>cases hk
  |panic ch=>cases hk
  |outgrown=>cases hk
 case hdone=>
  rintro Dk W hD ⟨ρ',hb,hf,hRH⟩ hm;rw[hf]at hr;obtain⟨h1,h2⟩:=hfin hRH (hpush hRH hD hm);exact⟨ρ',_,hr,h1,h2⟩
 case hstop=>
  rintro Dk c pre W hD ⟨suf,hsuf⟩ ⟨ρ',hb,e,hf,rfl,he,hRH⟩ hm;rw[<- hsuf,Zfr,hf]at hr;obtain⟨h1,h2⟩:=hfin hRH (hpush hRH hD hm);rcases he with rfl | ⟨id,rfl⟩
  ·exact Zgo ⟨ρ',_,hr,h1,h2⟩
  ·exact Zld ⟨ρ',_,hr,h1,h2⟩
theorem Zu5(hm:P.follows .mixedOrders=true)(hΓ:ConsOkX mn P (Uah mn P) Γ){g:Operand}{ps:Array Tmp}{as x:Code}{bs:List Nat}{p:Plan}{α:Type}{K:Exit->St->Option α}{r:α}{ρ:Nat->Ad}{st:St}{a:Act}{w:World}
  (body:∀ (l:Nat) (st1:St) (r':Stp BS (Exit×BS)) (ρs ρ1:Nat→Ad) (a1:Act) (W1 W:World),Uao p=true→veC P Γ N x p (Stp BS (Exit×BS)) st1 (Ua6 (Uax st).h.length bs)=some r'→R P W1 (Uax st).h.length [] ρs ρ1 st1 a1 W →
   WpX mn (some l) P x (λe a' w'=>∃ρ' st',Ua6 (Uax st).h.length bs e st'=some r'/\R P W1 (Uax st).h.length [] ρs ρ' st' a' w'/\Ext (writes x) st1.h.length ρ1 ρ' st1 st') a1 W)
  (hr:veC P Γ N (.rangeFunc g ps as x) (.iterA bs p) α st K=some r) (hR:RS E P W0 n0 D ρ0 ρ st a w) :
  WpX mn none P (.rangeFunc g ps as x) (λe a' w'=>∃ρ' st',K e st'=some r/\RS E P W0 n0 D ρ0 ρ' st' a' w'/\Ext (writes (.rangeFunc g ps as x)) st.h.length ρ ρ' st st') a w:=by
 rw[veC]at hr;have hR':RS E P W0 n0 D ρ0 ρ (Uax st) a w:=hR.lo (Yj1 st.h) (by simp) (λn len C e hn he=>absurd he (Yjl _ _ _ _ _))
 let K':Exit->St->Option α:=λe st1=>K e { s:=st1.s,h:=reown st.h st1.h,d:=st1.d }
 have hr':(match Ubs Γ (Uax st).h (asA (evO (Uax st).s g)),asgR as with
  | some (ns,Y),some (l,ops)=>
   bif Y.ok then (bif Ubb (Uax st).h ns&&Ubb (Uax st).h bs&&apart ns bs&&Uao p&&Ub1 (Uax st).h then
    Uby (Uas (λy hb=>bif jB (Y.enc y).length ps.toList.length then Uc3 P Γ ops false (Ubo bs ps.toList l (Uax st) (Y.enc y) hb) (kAsg (Uax st).h.length λst1=>veC P Γ N x p (Stp BS (Exit×BS)) st1 (Ua6 (Uax st).h.length bs)) else none) Y.xs (getH (Uax st).h bs)) (λhb=>K' .normal (Uar bs (Uax st) hb)) (λe hb=>K' e (Uar bs (Uax st) hb)) else none) else none
  |_,_=>none)=some r:=by
  cases h1:Ubs Γ (Uax st).h (asA (evO (Uax st).s g)) with
  |none=>rw[h1]at hr;cases hr
  | some q=>
   rw[h1]at hr;cases h2:asgR as with
   |none=>rw[h2]at hr;cases hr
   | some lo=>
    obtain⟨l,ops⟩:=lo;rw[h2]at hr;dsimp only at hr|-
    cases hok:Ubb (Uax st).h q.1&&Ubb (Uax st).h bs&&apart q.1 bs&&Uao p&&Ub1 (Uax st).h with
    |false=>rw[hok]at hr;cases hy:q.2.ok<;>rw[hy]at hr<;>cases hr
    | true=>
     rw[hok]at hr;have hb:=Zkv (by simp only[Q7]at hok;exact hok.1.1.1.2);have e1:∀(e:Exit) (hb:BS),K e (Uar bs st hb)=K' e (Uar bs (Uax st) hb):=λe hb'=>by
      show _=K e _
      unfold Uar Uax;dsimp only;rw[Ya6 hb' hb]
     simp only[e1]at hr;exact hr
 refine WpX.mono (Zxg Zkv hm hΓ body hr' hR') ?_;rintro e a' w' ⟨ρ',st',k1,k2,k3⟩;refine⟨ρ',{ s:=st'.s,h:=reown st.h st'.h,d:=st'.d },k1,k2.lo (Ygk _ _) (Zo9 _ _) (λn len C e hn he=> ?_),⟨k3.slots,k3.len,λn hn hd=> ?_,k3.dirty,?_,λn=> ?_,λn hn=>k3.ren n (by show n<(st.h.map Ubt).length;simpa using hn)⟩⟩
 ·rcases Yej he with ⟨len',C',e',h⟩|h
  ·have h1:(Uax st).h[n]?=some (.sl .lent len' C' e'):=by
    show (st.h.map Ubt)[n]?=_
    rw[Zje,h];rfl
   rcases(k3.hle n).sl _ _ _ _ h1 with ⟨C2,h2⟩ | ⟨h2,-⟩
   ·rw[Zfu,h,h2]at he;cases he;exact hR.own0 n _ _ _ hn h
   ·cases h2
  ·exact k2.own0 n len C e hn h
 ·have h1:st'.h[n]?=(st.h.map Ubt)[n]?:=k3.heap n (by show n<(st.h.map Ubt).length;simpa using hn) hd;rw[Zfu,h1,Zje];cases st.h[n]? with
  |none=>rfl
  |some b=>
   cases b with
   |sl k len C e=>cases k<;>rfl
   |_=>rfl
 ·have:=k3.hlen;rw[Zo9]
  simpa [Uax] using this
 ·have k:=k3.hle n;have hl:∀{b:VB},st.h[n]?=some b->(Uax st).h[n]?=some (Ubt b):=λ{b} h=>by
   show (st.h.map Ubt)[n]?=_
   rw[Zje,h];rfl
  have hn:∀{b c:VB},st.h[n]?=some b->st'.h[n]?=some c->(∀len C e,b=.sl .own len C e->False)->(reown st.h st'.h)[n]?=some c:=λ{b c} hb hc hno=>by
   rw[Zfu,hb,hc,jS];split
   ·rename_i h;cases h;exact(hno _ _ _ rfl).elim
   ·rfl
  refine⟨λC t h=> ?_,λy t h=> ?_,λa len C e h=> ?_,λh=> ?_,λg t a x h=> ?_,λE c h=> ?_⟩
  ·obtain⟨C',h'⟩:=k.row C t (hl h);exact⟨C',hn h h' λ_ _ _ q=>nomatch q⟩
  ·obtain⟨C',h'⟩:=k.one y t (hl h);exact⟨C',hn h h' λ_ _ _ q=>nomatch q⟩
  ·cases a with
   |own=>
    rcases k.sl .lent len C e (hl h) with ⟨C',h'⟩ | ⟨h',-⟩
    ·exact .inl ⟨C',by rw[Zfu,h,h'];rfl⟩
    ·cases h'
   |lent=>
    rcases k.sl .lent len C e (hl h) with ⟨C',h'⟩ | ⟨h',-⟩
    ·exact .inl ⟨C',hn h h' λ_ _ _ q=>nomatch q⟩
    ·cases h'
   |came c=>
    rcases k.sl (.came c) len C e (hl h) with ⟨C',h'⟩ | ⟨h',-⟩
    ·exact .inl ⟨C',hn h h' λ_ _ _ q=>nomatch q⟩
    ·cases h'
  ·exact hn h (k.sp (hl h)) λ_ _ _ q=>nomatch q
  ·exact hn h (k.gl g t a x (hl h)) λ_ _ _ q=>nomatch q
  ·obtain⟨E1,c1,h'⟩:=k.mp E c (hl h);exact⟨E1,c1,hn h h' λ_ _ _ q=>nomatch q⟩
theorem Zw9(hΓ:ConsOkX mn P (Uah mn P) Γ){g0:Operand}{ps:Array Tmp}{as x:Code}{bs:List Nat}{g:Nat}{t:TypeId}{p:Plan}{α:Type}{K:Exit->St->Option α}{r:α}{ρs ρ:Nat->Ad}{st0 st:St}{a:Act}{w:World}{T:TypeId}{y1:SA}{len0:Nat}{C0:Array Value}
  (body:∀ (l:Nat) (E':List Nat) (st1:St) (r':Stp BS (Exit×BS)) (ρ1:Nat→Ad) (a1:Act) (W:World),Uao p=true→veC P Γ N x p (Stp BS (Exit×BS)) st1 (Ubu Γ.e y1 st0.h.length bs g t)=some r'→RS E' P W (st0.h.length+1) [] ρ1 ρ1 st1 a1 W →
   WpX mn (some l) P x (λe a' w'=>∃ρ' st',Ubu Γ.e y1 st0.h.length bs g t e st'=some r'/\RS E' P W (st0.h.length+1) [] ρ1 ρ' st' a' w'/\Ext (writes x) st1.h.length ρ1 ρ' st1 st') a1 W)
  (hs1:st.s=st0.s) (hl1:st.h.length=st0.h.length+1) (hle1:HLe st0.h st.h) (hg1:st.h[g]?=some (.one y1 T)) (hbR0:BoxR st0.h.length st0.h.length y1 y1) (hgl:g<st0.h.length) (hm1:st.h[st0.h.length]?=some (.sl .own len0 C0 t)) (hgd:g∈st.d) (hst:∀n,n<st0.h.length->n ∉ st.d->st.h[n]?=st0.h[n]?) (hd1:∀n∈st0.d,n∈st.d) (hrens:∀k,k<st0.h.length->ρ k=ρs k)
  (hlow:∀(i:Nat) (u:SV),st.s[i]?=some u->Uan st0.h.length u=true) (hlowB:∀(k:Nat) (b:VB),k<st0.h.length->k≠g->st.h[k]?=some b->Uaj st0.h.length b=true) (hn0:n0<=st0.h.length)
  (hr:(match Ubs Γ st.h (asA (evO st.s g0)),Udl as with
   | some (ns,Y),some l=>
    bif Y.ok then (bif Ubk st.h ns&&(Ubk st.h bs&&(apart ns bs&&(Uao p&&(Udi P t&&(Ub1 (st.h.take st0.h.length)&&(bs.all (jG · st0.h.length)&&jG g st0.h.length)))))) then
     Uby (Uas (λy hb=>bif jB (Y.enc y).length ps.toList.length then veC P Γ N x p (Stp BS (Exit×BS)) (Ubo (bs++[st0.h.length]) ps.toList l st (Y.enc y) hb) (Ubu Γ.e y1 st0.h.length bs g t) else none) Y.xs (getH st.h (bs++[st0.h.length]))) (λhb=>K .normal (Uar (bs++[st0.h.length]) st hb)) (λe hb=>K e (Uar (bs++[st0.h.length]) st hb)) else none) else none
   |_,_=>none)=some r) (hR:RS E P W0 n0 D ρ0 ρ st a w) :
  WpX mn none P (.rangeFunc g0 ps as x) (λe a' w'=>∃ρ' st',K e st'=some r/\RS E P W0 n0 D ρ0 ρ' st' a' w'/\Ext (writes (.rangeFunc g0 ps as x)) st0.h.length ρs ρ' st0 st') a w:=by
 split at hr
 case h_2=>cases hr
 rename_i ns Y l hit hasg;cases hyok:Y.ok with
 |false=>rw[hyok]at hr;cases hr
 |true=>
 rw[hyok]at hr;simp only[Q1]at hr;cases hok:Ubk st.h ns&&(Ubk st.h bs&&(apart ns bs&&(Uao p&&(Udi P t&&(Ub1 (st.h.take st0.h.length)&&(bs.all (jG · st0.h.length)&&jG g st0.h.length)))))) with
 |false=>rw[hok]at hr;cases hr
 |true=>
 rw[hok]at hr;simp only[Q1]at hr;simp only[Q7]at hok;obtain⟨hns,hbs,hap,hni,hsoft,hown,hblt,-⟩:=hok;generalize hm:st0.h.length=m at *;have hown:∀(k len:Nat) (C:Array Value) (e:TypeId),k<m->st.h[k]?≠some (.sl .own len C e):=λk len C e hk he=>Zto hown k len C e (by rw[List.getElem?_take,if_pos hk];exact he)
 have hns:=Zmn hns;have hbs:=Zmn hbs;have hap:=Zts hap;have hblt:∀b∈bs,b<m:=λb hb=>by
  rw[jI]at hblt;have:=hblt b hb;simp[jG]at this;omega
 have hbs2:∀b∈bs,(∃C t,st.h[b]?=some (.row C t))/\b<m:=λb hb=>⟨hbs b hb,hblt b hb⟩
 generalize hstep:(λ(y:Y.X) (hb:BS)=>bif jB (Y.enc y).length ps.toList.length then veC P Γ N x p (Stp BS (Exit×BS)) (Ubo (bs++[m]) ps.toList l st (Y.enc y) hb) (Ubu Γ.e y1 m bs g t) else none)=step at hr
 -- the iterator
 unfold Ubs at hit;have hgv:=Zby (Ziv hR.slots g0);split at hit
 case h_2=>cases hit
 rename_i f ns' hcl;split at hit
 case h_2=>cases hit
 rename_i I hI;split at hit
 case h_2=>cases hit
 rename_i Y' hY;simp only[Q8,Q0]at hit;obtain⟨rfl,rfl⟩:=hit;rw[hcl]at hgv;obtain⟨hgv,-⟩:=hgv;obtain⟨hico,hent⟩:=hΓ.i f I hI;obtain⟨hknown,hseq⟩:=hico ρ st.h w ns' Y' hY hyok hR.heap (λn hn=>.inl (hns n hn));have hnm:∀q∈ns',q<m:=λq hq=>by
  obtain⟨C,t',e⟩:=hns q hq;have hlt:=(jE.1 e).1
  by_cases hqm:q=m
  ·subst hqm;rw[hm1]at e;cases e
  ·omega
 have hW0:W0.heap.size<=w.heap.size:=hR.kept.size;have hmarks:∀m,({ target:=.collected m,args:=#[] }:Deferred)∈a.defers->m<w.heap.size:=λm hm=>by
  obtain⟨m',e,_,h2⟩:=hR.defers.all _ hm;cases e;exact(jO.1 h2).1
 let HH:BS->List VB:=λhb=>setMany st.h (bs++[m]) hb
 let RH:(Nat->Ad)->BS->World->Prop:=λρ' hb W=>RS E P W0 n0 (st.d++D) ρ0 ρ' { s:=st.s,h:=setMany st.h (bs++[m]) hb,d:=bs++[m] } a W/\(∀k,k<m->ρ' k=ρ k)/\HLe st0.h (setMany st.h (bs++[m]) hb)/\(∀k,k<m->HLeN st.h (setMany st.h (bs++[m]) hb) k)/\∃len C,(setMany st.h (bs++[m]) hb)[m]?=some (.sl .own len C t)
 have hRHown:∀{ρ' hb W W' row},RH ρ' hb W->W.grownBy W' row->(∀r,row=some r->w.heap.size<=r/\∃o:Obj,W.heap[r]?=some o/\o.isCells=false)->RH ρ' hb W':=
  λ h hg hrow=>⟨h.1.grown hg hrow hW0 hmarks (λ n E c hn=>by
   dsimp only at hn
   by_cases hb':n∈bs++[m]
   ·rcases jD.1 hb' with hb' | hb'
    ·obtain⟨⟨C,t,e⟩,hlt⟩:=hbs2 n hb';obtain⟨C',e'⟩:=(h.2.2.2.1 n hlt).row _ _ e;rw[e']at hn;cases hn
    ·obtain rfl:=jV.1 hb';obtain⟨_,_,e'⟩:=h.2.2.2.2;rw[e']at hn;cases hn
   ·rw[Zad _ _ _ hb']at hn;have hlt:=(jE.1 hn).1;have hne:n≠m:=λe=>hb' (jK _ (jV.2 e))
    rw[h.2.1 n (by omega)];exact hR.heap.lt (.mp hn)),h.2⟩
 have hself:setMany st.h (bs++[m]) (getH st.h (bs++[m]))=st.h:=by
  refine List.ext_getElem? λi=> ?_
  rw[Za9 (g:=λc=>st.h.getD c .no) (bs++[m]) _ _ i (Zgw _ _)];split
  ·rename_i h;rw[jX,jJ h.2];rfl
  ·rfl
 have hfin:∀{ρ' hb W} {ds:List Deferred},RH ρ' hb W->DefOk W0 ds W->RS E P W0 n0 D ρ0 ρ' (Uar (bs++[m]) st hb) { a with defers:=ds } W/\Ext (writes (.rangeFunc g0 ps as x)) m ρs ρ' st0 (Uar (bs++[m]) st hb):=by
  rintro ρ' hb W ds ⟨h1,h2,h3,-,-⟩ hds;refine⟨⟨h1.len,h1.slots,h1.heap,h1.base,h1.fresh,h1.kept.mono λk _ ⟨q,e1,e2,e3⟩=>⟨q,e1,?_,e3⟩,h1.own0,hds,h1.bound⟩,⟨λi _=>by simp only[Uar];rw[hs1],by simp only[Uar];rw[hs1],λq hq hd=> ?_,λq hq=>jK _ (hd1 q hq),?_,h3,λq hq=>(h2 q hq).trans (hrens q hq)⟩⟩
  ·simp only[Uar,jD]at e2|-
   rcases e2 with e2 | (e2|e2)|e2
   ·exact .inl (.inl e2)
   ·exact .inl (.inr e2)
   ·exact .inr (.inl e2)
   ·exact .inr (.inr e2)
  ·simp only[Uar]at hd|-
   rw[Zad _ _ _ λhb'=>hd (jC _ hb')];exact hst q hq λh=>hd (jK _ h)
  ·simp only[Uar];rw[Zag,hl1];omega
 have hpush:∀{ρ' hb W} {Dk:Nat},RH ρ' hb W->w.heap.size<=Dk->W.heap[Dk]?=some (.deferred (some []))->DefOk W0 ({ target:=.collected Dk,args:=#[] }::a.defers) W:=λh hD hm=>
  h.1.defers.push (jM hW0 hD) hm λk hk=>by have:=hmarks k hk;omega
 have hone:∀(pre:List Y'.X) (y:Y'.X) (hb:BS),Uas step pre (getH st.h (bs++[m]))=some (.more hb)->pre++[y] <+: Y'.xs ->
   ∃r',step y hb=some r'/\Uas step (pre++[y]) (getH st.h (bs++[m]))=some r'/\(Y'.enc y).length=ps.toList.length/\veC P Γ N x p (Stp BS (Exit×BS)) (Ubo (bs++[m]) ps.toList l st (Y'.enc y) hb) (Ubu Γ.e y1 m bs g t)=some r':=by
  rintro pre y hb hf ⟨suf,hsuf⟩;cases hs:step y hb with
  |none=>rw[<- hsuf,List.append_assoc,Zfr,hf]at hr;simp[Uas,hs,Uby]at hr
  | some r'=>
   refine⟨r',rfl,?_,?_⟩
   ·rw[Zfr,hf];simp only[Uas,hs];cases r'<;>rfl
   ·rw[<- hstep]at hs;dsimp only at hs;cases hb':jB (Y'.enc y).length ps.toList.length with
    |false=>rw[hb']at hs;cases hs
    |true=>rw[hb']at hs;exact⟨jL hb',hs⟩
 refine Zil (α:=Y'.X) (v0:=w) hgv hent hseq
  (λ{A B C} h k q hq Ce t fr e=>k q hq Ce t fr (h q hq Ce t fr e))
  (fun W l' o o' hl ho hc _ k hk C t fr e=>by
   have:l'≠k:=λe'=>by subst e';rw[ho]at e;cases e;cases hc
   rw[World.putObj_heap_other (Ne.symm this)];exact e)
  (λ{A B} hAB k _ C t fr e=>hAB.at e)
  (Ge.refl w)
  (λpre W=>∃ρ' hb,Uas step pre (getH st.h (bs++[m]))=some (.more hb)/\RH ρ' hb W)
  (λc pre W=>∃ρ' hb e,Uas step pre (getH st.h (bs++[m]))=some (.done (e,hb))/\c=Uf4 e/\(e=.ret\/∃id,e=.exit id)/\RH ρ' hb W)
  ?hps ?hI ?hIx ?h0 (λy=>Ubl l { tmps:=(ps.zip ((Y'.enc y).map Ve.valOf).toArray).foldl (λt (p,v)=>t.setIfInBounds p v) a.tmps,defers:=[] }) ?hassign ?hbody ?hdone ?hstop
 case hps=>
  rintro pre y W ⟨ρ',hb,hf,-⟩ hpre;obtain⟨r',hs,-,hlen,-⟩:=hone pre y hb hf hpre;simp[hlen]
 case hI=>exact λpre W W' row ⟨ρ',hb,h1,h2⟩ hg hrow=>⟨ρ',hb,h1,hRHown h2 hg hrow⟩
 case hIx=>exact λc pre W W' row ⟨ρ',hb,e,h1,h2,h3,h4⟩ hg hrow=>⟨ρ',hb,e,h1,h2,h3,hRHown h4 hg hrow⟩
 case h0=>
  refine⟨ρ,getH st.h (bs++[m]),rfl,⟨hR.len,?_,?_,hR.base,?_,hR.kept.mono λk _ ⟨q,e1,e2,e3⟩=>⟨q,e1,.inr (by simp only[jD];exact or_assoc.2 e2),e3⟩,?_,hR.defers,?_⟩,λ_ _=>rfl,?_,λ_ _=> ?_,?_⟩
  all_goals ((try dsimp only);rw[hself])
  ·exact hR.slots
  ·exact hR.heap
  ·exact hR.fresh
  ·exact hR.own0
  ·exact hR.bound
  ·exact hle1
  ·exact .same rfl
  ·exact⟨_,_,hm1⟩
 case hassign=>exact λl' y W=>asgX hasg
 case hbody=>
  rintro l' pre y W hl' - ⟨ρ',hb,hf,h1,h2,h3,h4,len,C,hmo⟩ hpre;obtain⟨r',hs,hf',hlen,hv⟩:=hone pre y hb hf hpre;have hlenh:(setMany st.h (bs++[m]) hb).length=m+1:=by rw[Zag];exact hl1
  -- an empty slice's block lies nowhere
  obtain⟨ρ1,hR1,hre1,hz⟩:∃ρ1:Nat->Ad,RS E P W0 n0 (st.d++D) ρ0 ρ1 { s:=st.s,h:=setMany st.h (bs++[m]) hb,d:=bs++[m] } a W/\(∀k,k<m->ρ1 k=ρ' k)/\(len=0->W.heap.size<=(ρ1 m).a):=by
   by_cases h0:len=0
   ·subst h0;exact⟨_,h1.reown hmo hn0 ⟨W.heap.size,0⟩,λk hk=>if_neg (by omega),λ_=>by simp⟩
   ·exact⟨ρ',h1,λ_ _=>rfl,λh=>absurd h h0⟩
  have h2:∀k,k<m->ρ1 k=ρ k:=λk hk=>(hre1 k hk).trans (h2 k hk)
  clear h1 hre1;have hroot:=hR1.root (E':=if len=0 then [] else [m]) λk len' C' e he=>by
   dsimp only at he;have hkl:k<m+1:=by rw[<- hlenh];exact(jE.1 he).1
   by_cases hkm:k=m
   ·subst hkm;rw[hmo]at he;cases he
    by_cases h0:len=0
    ·exact .inl h0
    ·rw[if_neg h0];exact .inr (jV.2 rfl)
   ·exfalso
    by_cases hkb:k∈bs
    ·obtain⟨C',t',e1⟩:=hbs k hkb;obtain⟨C2,e2⟩:=(h4 k (by omega)).row _ _ e1;rw[e2]at he;cases he
    ·rw[Zad _ _ _ (λh=>by rcases jD.1 h with h|h;exact hkb h;simp at h;omega)]at he;exact hown k _ _ _ (by omega) he
  dsimp only at hroot;rw[hlenh]at hroot;have hE':∀q∈(if len=0 then ([]:List Nat) else [m]),q=m/\len≠0:=λq hq=>by
   by_cases h0:len=0
   ·rw[if_pos h0]at hq;cases hq
   ·rw[if_neg h0]at hq;exact⟨jV.1 hq,h0⟩
  have hA:Uav P ρ1 (setMany st.h (bs++[m]) hb) (Y'.enc y) ((Y'.enc y).map Ve.valOf):=Zu0 (hknown pre y hpre);have hset:=(RS.setPs ps.toList (Y'.enc y) ((Y'.enc y).map Ve.valOf) hroot hlen hA).runAsg l;dsimp only at hset;have hact:(ps.zip ((Y'.enc y).map Ve.valOf).toArray).foldl (λt (x:Nat×Value)=>t.setIfInBounds x.1 x.2) a.tmps=(ps.toList.zip ((Y'.enc y).map Ve.valOf)).foldl (λt (x:Nat×Value)=>t.setIfInBounds x.1 x.2) a.tmps:=by rw[<- Array.foldl_toList,Array.toList_zip]
  refine WpX.mono (body l' _ (Ubo (bs++[m]) ps.toList l st (Y'.enc y) hb) r' ρ1 _ W hni hv (by
   simp only[Ubo];rw[hact];exact hset)) ?_
  rintro e a2 W2 ⟨ρ2,st2,hk,hR2,hE⟩;replace hk:=Yjx hk;have hE2:Ext (writes x) (m+1) ρ1 ρ2 { s:=runAsg l (setPs st.s ps.toList (Y'.enc y)),h:=setMany st.h (bs++[m]) hb,d:=[] } st2:=by have:=hE;simp only[Ubo]at this;rw[hlenh]at this;exact this
  have good:∀{s:BS},Ucl Γ.e y1 m bs g t st2=some s->∃n T2 len2 C2 y',s=getH st2.h bs++[.sl .own len2 C2 t]/\st2.h[g]?=some (.one y' T2)/\BoxR m n y1 y'/\st2.h[n]?=some (.sl .own len2 C2 t)/\m<=n/\Uak m (g::bs) st2.d=true/\(getH st2.h bs).all (Uaj m)=true:=by
   intro s h;unfold Ucl at h;split at h
   case h_2=>cases h
   rename_i b hgb';obtain⟨n,T2,len2,C2,y',hg,hbR,hown2,hmn,rfl⟩:=Yei hΓ.e hbR0 hgb';cases hok':Uak m (g::bs) st2.d&&(getH st2.h bs).all (Uaj m) with
   |false=>rw[hok']at h;cases h
   |true=>rw[hok']at h;simp only[Q1,Q8]at h;simp only[Q7]at hok';exact⟨n,T2,len2,C2,y',h.symm,hg,hbR,hown2,hmn,hok'.1,hok'.2⟩
  have moreE:∀{o:Option BS},Uat (X:=Exit×BS) o=some r'->∃s',o=some s'/\r'=.more s':=λ{o} h=>by cases o<;>cases h;exact⟨_,rfl,rfl⟩
  have doneE:∀{o:Option BS} {e:Exit},Uaq e o=some r'->∃s',o=some s'/\r'=.done (e,s'):=λ{o e} h=>by cases o<;>cases h;exact⟨_,rfl,rfl⟩
  have hsf:∀t,Udi P t=true->sfOf P st.h t=true:=λt ht=>by
   unfold sfOf;rw[ht,Bool.and_true];cases hno:Ub1 st.h with|false=>rfl|true=>exact absurd hm1 (Zto hno _ _ _ _)
  have keeps:∀ {s:BS},Ucl Γ.e y1 m bs g t st2=some s→∃ ρ3,RH ρ3 s W2∧Ubd P w.heap.size W W2∧Ub3 ((ns'.map fun m=>(ρ m).a)++(glL st.h++boxL ρ st.h ns')) W W2:=fun {s} hts=>by
   obtain⟨n,T2,len2,C2,y',rfl,hg,hbR,hown2,hmn,g1,g2⟩:=good hts;obtain⟨k1,k2,k3,k4,k5,k6,k7⟩:=Yf7 (h0:=st0.h) hm hl1 hg1 hgl hgd hbs2 hlow hown hn0 hlowB hmo h3 h4 hR1 hz hE' hR2 hE2 hg hbR hown2 hmn g1 g2;have hhg:(setMany st.h (bs++[m]) hb)[g]?=some (.one y1 T):=by
    rw[Zad _ _ _ (λh=>by
     rcases jD.1 h with h|h
     ·obtain⟨C',t',e1⟩:=hbs g h;rw[hg1]at e1;cases e1
     ·simp at h;omega)]
    exact hg1
   have hrowp:∀b∈bs,present (setMany st.h (bs++[m]) hb) b:=λb hb'=>by
    obtain⟨Cb,tb,eb⟩:=hbs b hb';obtain⟨Cb',eb'⟩:=(h4 b (hblt b hb')).row _ _ eb;exact .row eb'
   have hgp:∀b∈g::bs,present (setMany st.h (bs++[m]) hb) b:=λb hb'=>by
    rcases List.mem_cons.1 hb' with rfl|hb'
    ·exact .one hhg
    ·exact hrowp b hb'
   have hgb2:∀b∈g::bs,b<m:=λb hb'=>by
    rcases List.mem_cons.1 hb' with rfl|hb'
    ·exact hgl
    ·exact hblt b hb'
   have hold:∀b∈g::bs,(ρ1 b).a<w.heap.size:=λb hb'=>by
    rw[h2 b (hgb2 b hb')];rcases List.mem_cons.1 hb' with rfl|hb'
    ·exact hR.heap.lt (.one hg1)
    ·obtain⟨C,t',eb⟩:=hbs b hb';exact hR.heap.lt (.row eb)
   refine⟨_,⟨k1,λk hk=> ?_,k2,k3,_,_,k4⟩,⟨k7,λk hk hlt hs=>k6 k hlt (λb hb' e=> ?_) λh0 e=> ?_⟩,?_⟩
   ·show (if k=m then ρ2 n else ρ2 k)=ρ k
    rw[if_neg (by omega),k5 k hk,h2 k hk]
   ·have:=hold b hb';omega
   ·obtain⟨_,C',hc,_⟩:=(hR1.heap.is m _ hmo).2 rfl h0;rw[e]at hc;have:=hs _ _ _ hc;rw[hsoft]at this;cases this
   ·intro q hq C' t' fr hk';have hqlt:q<W.heap.size:=(jO.1 hk').1;rw[k6 q hqlt (λb hb' e=> ?_) λh0 e=> ?_]
    ·exact hk'
    ·rcases jD.1 hq with hq|hq
     case inr=>
      rcases jD.1 hq with hq|hq
      case inr=>
       obtain⟨m9,_,_,_,_,_,_,hm9,e9,_⟩:=Zs9 hq;obtain⟨_,_,e8⟩:=hns m9 hm9;rw[e8]at e9;cases e9
      obtain⟨n',bg,hg',hfg⟩:=Zzp hq;have hn'm:n'<m:=by
       have hlt:=(jE.1 hg').1
       by_cases hqm:n'=m
       ·subst hqm;rw[hm1]at hg';cases hg';exact hfg.elim
       ·omega
      obtain⟨_,hg2,hf2⟩:=Ycr (h4 n' hn'm) hg' hfg;exact hR1.heap.far n' _ q hg2 hf2 b (hgp b hb') e
     obtain⟨m',hm',rfl⟩:=jN.1 hq;obtain⟨Cm,tm,em⟩:=hns m' hm';obtain⟨Cm',em'⟩:=(h4 m' (hnm m' hm')).row _ _ em;have hbm:b=m':=hR1.heap.inj b m' (hgp b hb') (.row em') (by rw[e,h2 m' (hnm m' hm')]);rcases List.mem_cons.1 hb' with hbg|hb'
     ·subst hbm;subst hbg;rw[hg1]at em;cases em
     ·exact hap b hb' (hbm ▸ hm')
    ·have hpm:present (setMany st.h (bs++[m]) hb) m:=.own hmo rfl h0;rcases jD.1 hq with hq|hq
     case inr=>
      rcases jD.1 hq with hq|hq
      case inr=>
       obtain⟨m9,_,_,_,_,_,_,hm9,e9,_⟩:=Zs9 hq;obtain⟨_,_,e8⟩:=hns m9 hm9;rw[e8]at e9;cases e9
      obtain⟨n',bg,hg',hfg⟩:=Zzp hq;have hn'm:n'<m:=by
       have hlt:=(jE.1 hg').1
       by_cases hqm:n'=m
       ·subst hqm;rw[hm1]at hg';cases hg';exact hfg.elim
       ·omega
      obtain⟨_,hg2,hf2⟩:=Ycr (h4 n' hn'm) hg' hfg;exact hR1.heap.far n' _ q hg2 hf2 m hpm e
     obtain⟨m',hm',rfl⟩:=jN.1 hq;obtain⟨Cm,tm,em⟩:=hns m' hm';obtain⟨Cm',em'⟩:=(h4 m' (hnm m' hm')).row _ _ em;have hbm:m=m':=hR1.heap.inj m m' hpm (.row em') (by rw[e,h2 m' (hnm m' hm')]);have:=hnm m' hm';omega
  cases e with
  |normal=>obtain⟨s',ht,rfl⟩:=moreE hk;obtain⟨ρ3,q1,q2,q3⟩:=keeps ht;exact⟨q2.weak hsf,q3,ρ3,_,hf',q1⟩
  |ret=>obtain⟨s',ht,rfl⟩:=doneE hk;obtain⟨ρ3,q1,q2,q3⟩:=keeps ht;exact⟨q2.weak hsf,ρ3,_,.ret,hf',rfl,.inl rfl,q1⟩
  |exit id=>obtain⟨s',ht,rfl⟩:=doneE hk;obtain⟨ρ3,q1,q2,q3⟩:=keeps ht;exact⟨q2.weak hsf,ρ3,_,.exit id,hf',rfl,.inr ⟨id,rfl⟩,q1⟩
  |goto l=>cases hk
  |panic ch=>cases hk
  |outgrown=>cases hk
 case hdone=>
  rintro Dk W hD ⟨ρ',hb,hf,hRH⟩ hm;rw[hf]at hr;obtain⟨h1,h2⟩:=hfin hRH (hpush hRH hD hm);exact⟨ρ',_,hr,h1,h2⟩
 case hstop=>
  rintro Dk c pre W hD ⟨suf,hsuf⟩ ⟨ρ',hb,e,hf,rfl,he,hRH⟩ hm;rw[<- hsuf,Zfr,hf]at hr;obtain⟨h1,h2⟩:=hfin hRH (hpush hRH hD hm);rcases he with rfl | ⟨id,rfl⟩
  ·exact Zgo ⟨ρ',_,hr,h1,h2⟩
  ·exact Zld ⟨ρ',_,hr,h1,h2⟩
theorem Zux(hΓ:ConsOkX mn P (Uah mn P) Γ){g0:Operand}{ps:Array Tmp}{as x:Code}{bs:List Nat}{g:Nat}{t:TypeId}{p:Plan}{α:Type}{K:Exit->St->Option α}{r:α}{ρ:Nat->Ad}{st:St}{a:Act}{w:World}
  (body:∀ (y1:SA) (l:Nat) (E':List Nat) (st1:St) (r':Stp BS (Exit×BS)) (ρ1:Nat→Ad) (a1:Act) (W:World),Uao p=true→veC P Γ N x p (Stp BS (Exit×BS)) st1 (Ubu Γ.e y1 st.h.length bs g t)=some r'→RS E' P W (st.h.length+1) [] ρ1 ρ1 st1 a1 W →
   WpX mn (some l) P x (λe a' w'=>∃ρ' st',Ubu Γ.e y1 st.h.length bs g t e st'=some r'/\RS E' P W (st.h.length+1) [] ρ1 ρ' st' a' w'/\Ext (writes x) st1.h.length ρ1 ρ' st1 st') a1 W)
  (hr:veC P Γ N (.rangeFunc g0 ps as x) (.iterB bs g t p) α st K=some r) (hR:RS E P W0 n0 D ρ0 ρ st a w) :
  WpX mn none P (.rangeFunc g0 ps as x) (λe a' w'=>∃ρ' st',K e st'=some r/\RS E P W0 n0 D ρ0 ρ' st' a' w'/\Ext (writes (.rangeFunc g0 ps as x)) st.h.length ρ ρ' st st') a w:=by
 rw[veC]at hr;split at hr
 case h_2=>cases hr
 rename_i st1 hprep;obtain⟨ρ1,T,len,C,y1,hR1,hs1,hl1,hle1,hg1,hbR0,hgl,hm1,hgd,hst,hst2,hd1,hren1⟩:=Zxw hR hprep;have hby:boxY st1 g=y1:=by unfold boxY;rw[hg1]
 rw[hby]at hr;refine Zw9 (ρs:=ρ) (st0:=st) hΓ (body y1) hs1 hl1 hle1 hg1 hbR0 hgl hm1 hgd hst hd1 hren1 (λi u hu=> ?_) (λk b hk hkg hb=> ?_) hR.bound hr hR1
 ·rw[hs1]at hu;exact(hR.slots i u hu).lt
 ·rcases hst2 k hk hkg with h|h
  ·rw[h]at hb;exact(hR.heap.is k b hb).lt
  ·rw[h]at hb;cases hb;rfl
theorem Zv0{c:Code}{p:Plan}{cs bs:List Nat}(hcs:cs.all (Uai · (writes c))=true){α:Type}{K:Exit->St->Option α}{r:α}{st:St}{ρs:Nat->Ad}
  (body:∀ (s:LS) (r':Stp LS (Exit×LS)) (ρ:Nat→Ad) (a:Act) (w:World),
   veC P Γ N c p (Stp LS (Exit×LS)) (head (writes c) cs bs st s) (Uco st.h.length cs bs)=some r'->RS E P W0 n0 (st.d++D) ρ0 ρ (head (writes c) cs bs st s) a w ->
   WpX mn ro P c (λe a' w'=>∃ρ' st',Uco st.h.length cs bs e st'=some r'/\RS E P W0 n0 (st.d++D) ρ0 ρ' st' a' w'/\Ext (writes c) (head (writes c) cs bs st s).h.length ρ ρ' (head (writes c) cs bs st s) st') a w) :
  ∀(m:Nat) (s:LS) (ρ:Nat->Ad) (a:Act) (w:World),
   Ual (Uab (λs=>veC P Γ N c p (Stp LS (Exit×LS)) (head (writes c) cs bs st s) (Uco st.h.length cs bs)) m s) (λe s=>K e (left (writes c) cs bs st s))=some r ->
   RS E P W0 n0 (st.d++D) ρ0 ρ (head (writes c) cs bs st s) a w->HLe st.h (head (writes c) cs bs st s).h->(∀k,k<st.h.length->ρ k=ρs k) ->
   Ua0 mn ro P c (λe a' w'=>∃ρ' st',K e st'=some r/\RS E P W0 n0 D ρ0 ρ' st' a' w'/\Ext (writes c) st.h.length ρs ρ' st st') m a w
 |0,s,ρ,a,w,hr,_,_,_=>by simp[Uab,Ual]at hr
 | m+1,s,ρ,a,w,hr,hR,hhl,hren=>by
  rw[Uab]at hr;rw[Ua0];have good:∀{st':St} {s':LS},tail st.h.length cs bs st'=some s'->s'=(getS st'.s cs,getH st'.h bs)/\Uak st.h.length bs st'.d=true/\(getS st'.s cs).all (Uan st.h.length)=true/\(getH st'.h bs).all (Uaj st.h.length)=true:=by
   intro st' s' h;unfold tail at h;cases hok:Uak st.h.length bs st'.d&&((getS st'.s cs).all (Uan st.h.length)&&(getH st'.h bs).all (Uaj st.h.length)) with
   |false=>rw[hok]at h;cases h
   |true=>rw[hok]at h;simp only[Q1,Q8]at h;simp only[Q7]at hok;exact⟨h.symm,hok.1,hok.2.1,hok.2.2⟩
  have moreE:∀{o:Option LS} {s':LS},Uat (X:=Exit×LS) o=some (.more s')->o=some s':=λ{o s'} h=>by cases o<;>cases h;rfl
  have moreN:∀{o:Option LS} {x:Exit×LS},Uat (X:=Exit×LS) o=some (.done x)->False:=λ{o x} h=>by cases o<;>cases h
  have doneE:∀{o:Option LS} {e:Exit} {x:Exit×LS},Uaq e o=some (.done x)->∃s',o=some s'/\x=(e,s'):=λ{o e x} h=>by cases o<;>cases h;exact⟨_,rfl,rfl⟩
  have doneN:∀{o:Option LS} {e:Exit} {s':LS},Uaq e o=some (.more s')->False:=λ{o e s'} h=>by cases o<;>cases h
  cases hs':veC P Γ N c p (Stp LS (Exit×LS)) (head (writes c) cs bs st s) (Uco st.h.length cs bs) with
  |none=>rw[hs']at hr;simp[Ual]at hr
  | some x=>
   rw[hs']at hr;cases x with
   | more s'=>
    dsimp only at hr;refine WpX.mono (body s _ ρ a w hs' hR) ?_;rintro e a' w' ⟨ρ',st',hk,hR',hE⟩;cases e with
    |normal=>obtain⟨rfl,h1,h2,h3⟩:=good (moreE hk);obtain⟨hR2,hhl2⟩:=Zl0 hR hR' hE hhl h1 h2 h3;exact Zv0 hcs body m _ ρ' a' w' hr hR2 hhl2 λk hk'=>(hE.ren k (by rw[show (head (writes c) cs bs st s).h.length=st.h.length from Zag _ _ _];exact hk')).trans (hren k hk')
    |exit id=>exact(doneN hk).elim
    |goto l=>exact(doneN hk).elim
    |ret=>exact(doneN hk).elim
    |panic ch=>cases hk
    |outgrown=>cases hk
   | done x=>
    simp only[Ual]at hr;refine WpX.mono (body s _ ρ a w hs' hR) ?_;rintro e a' w' ⟨ρ',st',hk,hR',hE⟩;have fin:Uaq e (tail st.h.length cs bs st')=some (.done x)->∃ρ' st',K e st'=some r/\RS E P W0 n0 D ρ0 ρ' st' a' w'/\Ext (writes c) st.h.length ρs ρ' st st':=λh=>by
     obtain⟨s',hs,rfl⟩:=doneE h;obtain⟨rfl,h1,h2,h3⟩:=good hs;obtain⟨hR2,hhl2⟩:=Zl0 hR hR' hE hhl h1 h2 h3;obtain⟨h4,h5⟩:=Ztj hcs hR2 hhl2 λk hk'=>(hE.ren k (by rw[show (head (writes c) cs bs st s).h.length=st.h.length from Zag _ _ _];exact hk')).trans (hren k hk')
     exact⟨ρ',_,hr,h4,h5⟩
    cases e with
    |normal=>exact(moreN hk).elim
    |exit id=>exact fin hk
    |goto l=>exact fin hk
    |ret=>exact fin hk
    |panic ch=>cases hk
    |outgrown=>cases hk
theorem Zso{c:Code}{p:Plan}{cs bs:List Nat}(hcs:cs.all (Uai · (writes c))=true){α:Type}{K:Exit->St->Option α}{r:α}{st:St}{ρs:Nat->Ad}
  (body:∀ (s:LS) (r':Stp LS ((Exit×LS) ⊕ α)) (ρ:Nat→Ad) (a:Act) (w:World),
   veC P Γ N c p (Stp LS ((Exit×LS)⊕α)) (head (writes c) cs bs st s) (Uef st.h.length cs bs st K)=some r'->RS E P W0 n0 (st.d++D) ρ0 ρ (head (writes c) cs bs st s) a w ->
   WpX mn ro P c (λe a' w'=>∃ρ' st',Uef st.h.length cs bs st K e st'=some r'/\RS E P W0 n0 (st.d++D) ρ0 ρ' st' a' w'/\Ext (writes c) (head (writes c) cs bs st s).h.length ρ ρ' (head (writes c) cs bs st s) st') a w) :
  ∀(m:Nat) (s:LS) (ρ:Nat->Ad) (a:Act) (w:World),
   Uc4 (Uab (λs=>veC P Γ N c p (Stp LS ((Exit×LS)⊕α)) (head (writes c) cs bs st s) (Uef st.h.length cs bs st K)) m s) (λe s=>K e (left (writes c) cs bs st s))=some r ->
   RS E P W0 n0 (st.d++D) ρ0 ρ (head (writes c) cs bs st s) a w->HLe st.h (head (writes c) cs bs st s).h->(∀k,k<st.h.length->ρ k=ρs k) ->
   Ua0 mn ro P c (λe a' w'=>∃ρ' st',K e st'=some r/\RS E P W0 n0 D ρ0 ρ' st' a' w'/\Ext (writes c) st.h.length ρs ρ' st st') m a w
 |0,s,ρ,a,w,hr,_,_,_=>by simp[Uab,Uc4]at hr
 | m+1,s,ρ,a,w,hr,hR,hhl,hren=>by
  rw[Uab]at hr;rw[Ua0];have good:∀{st':St} {s':LS},tail st.h.length cs bs st'=some s'->s'=(getS st'.s cs,getH st'.h bs)/\Uak st.h.length bs st'.d=true/\(getS st'.s cs).all (Uan st.h.length)=true/\(getH st'.h bs).all (Uaj st.h.length)=true:=by
   intro st' s' h;unfold tail at h;cases hok:Uak st.h.length bs st'.d&&((getS st'.s cs).all (Uan st.h.length)&&(getH st'.h bs).all (Uaj st.h.length)) with
   |false=>rw[hok]at h;cases h
   |true=>rw[hok]at h;simp only[Q1,Q8]at h;simp only[Q7]at hok;exact⟨h.symm,hok.1,hok.2.1,hok.2.2⟩
  have moreE:∀{o:Option LS} {s':LS},Uat (X:=(Exit×LS)⊕α) o=some (.more s')->o=some s':=λ{o s'} h=>by cases o<;>cases h;rfl
  have moreN:∀{o:Option LS} {x:(Exit×LS)⊕α},Uat (X:=(Exit×LS)⊕α) o=some (.done x)->False:=λ{o x} h=>by cases o<;>cases h
  have doneE:∀{o:Option LS} {e:Exit} {x:(Exit×LS)⊕α},Uep e o=some (.done x)->∃s',o=some s'/\x=.inl (e,s'):=λ{o e x} h=>by cases o<;>cases h;exact⟨_,rfl,rfl⟩
  have doneN:∀{o:Option LS} {e:Exit} {s':LS},Uep (α:=α) e o=some (.more s')->False:=λ{o e s'} h=>by cases o<;>cases h
  have doneAN:∀{o:Option α} {s':LS},Ufo (S:=LS) o=some (.more s')->False:=λ{o s'} h=>by cases o<;>cases h
  cases hs':veC P Γ N c p (Stp LS ((Exit×LS)⊕α)) (head (writes c) cs bs st s) (Uef st.h.length cs bs st K) with
  |none=>rw[hs']at hr;simp[Uc4]at hr
  | some x=>
   rw[hs']at hr;cases x with
   | more s'=>
    dsimp only at hr;refine WpX.mono (body s _ ρ a w hs' hR) ?_;rintro e a' w' ⟨ρ',st',hk,hR',hE⟩;cases e with
    |normal=>obtain⟨rfl,h1,h2,h3⟩:=good (moreE hk);obtain⟨hR2,hhl2⟩:=Zl0 hR hR' hE hhl h1 h2 h3;exact Zso hcs body m _ ρ' a' w' hr hR2 hhl2 λk hk'=>(hE.ren k (by rw[show (head (writes c) cs bs st s).h.length=st.h.length from Zag _ _ _];exact hk')).trans (hren k hk')
    |exit id=>exact(doneN hk).elim
    |goto l=>exact(doneN hk).elim
    |ret=>exact(doneAN hk).elim
    |panic ch=>cases hk
    |outgrown=>cases hk
   | done x=>
    refine WpX.mono (body s _ ρ a w hs' hR) ?_;rintro e a' w' ⟨ρ',st',hk,hR',hE⟩;have fin:Uep e (tail st.h.length cs bs st')=some (.done x)->∃ρ' st',K e st'=some r/\RS E P W0 n0 D ρ0 ρ' st' a' w'/\Ext (writes c) st.h.length ρs ρ' st st':=λh=>by
     obtain⟨s',hs,rfl⟩:=doneE h;simp only[Uc4]at hr;obtain⟨rfl,h1,h2,h3⟩:=good hs;obtain⟨hR2,hhl2⟩:=Zl0 hR hR' hE hhl h1 h2 h3;obtain⟨h4,h5⟩:=Ztj hcs hR2 hhl2 λk hk'=>(hE.ren k (by rw[show (head (writes c) cs bs st s).h.length=st.h.length from Zag _ _ _];exact hk')).trans (hren k hk')
     exact⟨ρ',_,hr,h4,h5⟩
    cases e with
    |normal=>exact(moreN hk).elim
    |exit id=>exact fin hk
    |goto l=>exact fin hk
    | ret=>
     have hk2:Ufo (S:=LS) (K .ret (fixR bs st st'))=some (.done x):=hk;cases hkr:K .ret (fixR bs st st') with
     |none=>rw[hkr]at hk2;cases hk2
     |some r0=>rw[hkr]at hk2;cases hk2;simp only[Uc4]at hr;cases hr;exact⟨ρ',_,hkr,fix_R hR',(Ztj hcs hR hhl hren).2.trans (Yi3 hE (Nat.le_of_eq (Zag _ _ _).symm))⟩
    |panic ch=>cases hk
    |outgrown=>cases hk
theorem Zsi{c:Code}{p:Plan}{cs bs:List Nat}{g:Nat}{t:TypeId}{st st1:St}(hcs:∀x∈cs,x∈writes c)(hs1:st1.s=st.s.set g (.a (.l st.h.length)))(hl1:st1.h.length=st.h.length+1)(hd1:∀n∈st.d,n∈st1.d)(hst:∀n,n<st.h.length->n ∉ st1.d->st1.h[n]?=st.h[n]?)(hgW:g∈writes c)(hgc:g ∉ cs)(hbs:∀b∈bs,b<st.h.length)
  (hlow:∀(i:Nat) (u:SV),st.s[i]?=some u->Uan st.h.length u=true) (hlowB:∀(k:Nat) (b:VB),k<st.h.length->st1.h[k]?=some b->Uaj st.h.length b=true) (hn0:n0<=st.h.length)
  {α:Type} {K:Exit->St->Option α} {r:α} {ρs:Nat->Ad}
  (body:∀ (s:LS) (r':Stp LS (Exit×LS)) (ρ:Nat→Ad) (a:Act) (w:World),
   veC P Γ N c p (Stp LS (Exit×LS)) (head (writes c) (cs++[g]) (bs++[st.h.length]) st1 s) (Udq st.h.length cs bs g t)=some r'->RS E P W0 n0 (st1.d++D) ρ0 ρ (head (writes c) (cs++[g]) (bs++[st.h.length]) st1 s) a w ->
   WpX mn ro P c (λe a' w'=>∃ρ' st',Udq st.h.length cs bs g t e st'=some r'/\RS E P W0 n0 (st1.d++D) ρ0 ρ' st' a' w'/\Ext (writes c) (head (writes c) (cs++[g]) (bs++[st.h.length]) st1 s).h.length ρ ρ' (head (writes c) (cs++[g]) (bs++[st.h.length]) st1 s) st') a w) :
  ∀(m:Nat) (s:LS) (ρ:Nat->Ad) (a:Act) (w:World),
   Ual (Uab (λs=>veC P Γ N c p (Stp LS (Exit×LS)) (head (writes c) (cs++[g]) (bs++[st.h.length]) st1 s) (Udq st.h.length cs bs g t)) m s) (λe s=>K e (left (writes c) (cs++[g]) (bs++[st.h.length]) st1 s))=some r ->
   RS E P W0 n0 (st1.d++D) ρ0 ρ (head (writes c) (cs++[g]) (bs++[st.h.length]) st1 s) a w->HLe st.h (head (writes c) (cs++[g]) (bs++[st.h.length]) st1 s).h->(∀k,k<st.h.length->ρ k=ρs k) ->
   Ua0 mn ro P c (λe a' w'=>∃ρ' st',K e st'=some r/\RS E P W0 n0 D ρ0 ρ' st' a' w'/\Ext (writes c) st.h.length ρs ρ' st st') m a w
 |0,s,ρ,a,w,hr,_,_,_=>by simp[Uab,Ual]at hr
 | m+1,s,ρ,a,w,hr,hR,hhl,hren=>by
  rw[Uab]at hr;rw[Ua0];have good:∀{st':St} {s':LS} {ρ':Nat->Ad} {a':Act} {w':World},Udm st.h.length cs bs g t st'=some s'->RS E P W0 n0 (st1.d++D) ρ0 ρ' st' a' w'->Ext (writes c) (head (writes c) (cs++[g]) (bs++[st.h.length]) st1 s).h.length ρ ρ' (head (writes c) (cs++[g]) (bs++[st.h.length]) st1 s) st' ->
    ∃ρ2,RS E P W0 n0 (st1.d++D) ρ0 ρ2 (head (writes c) (cs++[g]) (bs++[st.h.length]) st1 s') a' w'/\HLe st.h (head (writes c) (cs++[g]) (bs++[st.h.length]) st1 s').h/\∀k,k<st.h.length->ρ2 k=ρs k:=by
   intro st' s' ρ' a' w' h hR' hE;unfold Udm at h;split at h
   ·rename_i n hg;split at h
    ·rename_i len C e' hown;cases hok:jB t e'&&(Nat.ble st.h.length n&&(Uak st.h.length bs st'.d&&((getS st'.s cs).all (Uan st.h.length)&&(getH st'.h bs).all (Uaj st.h.length)))) with
     |false=>rw[hok]at h;cases h
     |true=>
      rw[hok]at h;simp only[Q1,Q8]at h;simp only[Q7]at hok;obtain rfl:=jL hok.1;subst h;obtain⟨h1,h2⟩:=Yau hs1 hl1 hgW hgc hbs hlow hlowB hn0 hR hR' hE hhl hg hown (jT hok.2.1) hok.2.2.1 hok.2.2.2.1 hok.2.2.2.2;refine⟨_,h1,h2,λk hk=> ?_⟩
      show (if k=st.h.length then ρ' n else ρ' k)=ρs k
      rw[if_neg (by omega)];exact(hE.ren k (by rw[show (head (writes c) (cs++[g]) (bs++[st.h.length]) st1 s).h.length=st1.h.length from Zag _ _ _,hl1];omega)).trans (hren k hk)
    ·cases h
   ·cases h
  have moreE:∀{o:Option LS} {s':LS},Uat (X:=Exit×LS) o=some (.more s')->o=some s':=λ{o s'} h=>by cases o<;>cases h;rfl
  have moreN:∀{o:Option LS} {x:Exit×LS},Uat (X:=Exit×LS) o=some (.done x)->False:=λ{o x} h=>by cases o<;>cases h
  have doneE:∀{o:Option LS} {e:Exit} {x:Exit×LS},Uaq e o=some (.done x)->∃s',o=some s'/\x=(e,s'):=λ{o e x} h=>by cases o<;>cases h;exact⟨_,rfl,rfl⟩
  have doneN:∀{o:Option LS} {e:Exit} {s':LS},Uaq e o=some (.more s')->False:=λ{o e s'} h=>by cases o<;>cases h
  cases hs':veC P Γ N c p (Stp LS (Exit×LS)) (head (writes c) (cs++[g]) (bs++[st.h.length]) st1 s) (Udq st.h.length cs bs g t) with
  |none=>rw[hs']at hr;simp[Ual]at hr
  | some x=>
   rw[hs']at hr;cases x with
   | more s'=>
    dsimp only at hr;refine WpX.mono (body s _ ρ a w hs' hR) ?_;rintro e a' w' ⟨ρ',st',hk,hR',hE⟩;cases e with
    |normal=>obtain⟨ρ2,hR2,hhl2,hren2⟩:=good (moreE hk) hR' hE;exact Zsi hcs hs1 hl1 hd1 hst hgW hgc hbs hlow hlowB hn0 body m _ ρ2 a' w' hr hR2 hhl2 hren2
    |exit id=>exact(doneN hk).elim
    |goto l=>exact(doneN hk).elim
    |ret=>exact(doneN hk).elim
    |panic ch=>cases hk
    |outgrown=>cases hk
   | done x=>
    simp only[Ual]at hr;refine WpX.mono (body s _ ρ a w hs' hR) ?_;rintro e a' w' ⟨ρ',st',hk,hR',hE⟩;have fin:Uaq e (Udm st.h.length cs bs g t st')=some (.done x)->∃ρ' st',K e st'=some r/\RS E P W0 n0 D ρ0 ρ' st' a' w'/\Ext (writes c) st.h.length ρs ρ' st st':=λh=>by
     obtain⟨s',hs,rfl⟩:=doneE h;obtain⟨ρ2,hR2,hhl2,hren2⟩:=good hs hR' hE;obtain⟨h4,h5⟩:=Zug hs1 hl1 hd1 hst hgW hcs hR2 hhl2 hren2;exact⟨ρ2,_,hr,h4,h5⟩
    cases e with
    |normal=>exact(moreN hk).elim
    |exit id=>exact fin hk
    |goto l=>exact fin hk
    |ret=>exact fin hk
    |panic ch=>cases hk
    |outgrown=>cases hk
theorem Zs2{c:Code}{p:Plan}{cs bs:List Nat}{gs:List (Nat×TypeId)}{st st1:St}(hcs:∀x∈cs,x∈writes c)(hs1:∀i,i ∉ gs.map (·.1)->st1.s[i]?=st.s[i]?)(hs1l:st1.s.length=st.s.length)(hl1:st1.h.length=st.h.length+gs.length)(hd1:∀n∈st.d,n∈st1.d)(hst:∀n,n<st.h.length->n ∉ st1.d->st1.h[n]?=st.h[n]?)(hgW:∀g∈gs.map (·.1),g∈writes c)(hgc:∀g∈gs.map (·.1),g ∉ cs)(hgn:(gs.map (·.1)).Nodup)(hbs:∀b∈bs,b<st.h.length)
  (hlow:∀(i:Nat) (u:SV),st.s[i]?=some u->Uan st.h.length u=true) (hlowB:∀(k:Nat) (b:VB),k<st.h.length->st1.h[k]?=some b->Uaj st.h.length b=true) (hn0:n0<=st.h.length)
  {α:Type} {K:Exit->St->Option α} {r:α} {ρs:Nat->Ad}
  (body:∀ (s:LS) (r':Stp LS (Exit×LS)) (ρ:Nat→Ad) (a:Act) (w:World),
   veC P Γ N c p (Stp LS (Exit×LS)) (head (writes c) (cs++gs.map (·.1)) (bs++jA st.h.length gs.length) st1 s) (Uew st.h.length cs bs gs)=some r'->RS E P W0 n0 (st1.d++D) ρ0 ρ (head (writes c) (cs++gs.map (·.1)) (bs++jA st.h.length gs.length) st1 s) a w ->
   WpX mn ro P c (λe a' w'=>∃ρ' st',Uew st.h.length cs bs gs e st'=some r'/\RS E P W0 n0 (st1.d++D) ρ0 ρ' st' a' w'/\Ext (writes c) (head (writes c) (cs++gs.map (·.1)) (bs++jA st.h.length gs.length) st1 s).h.length ρ ρ' (head (writes c) (cs++gs.map (·.1)) (bs++jA st.h.length gs.length) st1 s) st') a w) :
  ∀(m:Nat) (s:LS) (ρ:Nat->Ad) (a:Act) (w:World),
   Ual (Uab (λs=>veC P Γ N c p (Stp LS (Exit×LS)) (head (writes c) (cs++gs.map (·.1)) (bs++jA st.h.length gs.length) st1 s) (Uew st.h.length cs bs gs)) m s) (λe s=>K e (left (writes c) (cs++gs.map (·.1)) (bs++jA st.h.length gs.length) st1 s))=some r ->
   RS E P W0 n0 (st1.d++D) ρ0 ρ (head (writes c) (cs++gs.map (·.1)) (bs++jA st.h.length gs.length) st1 s) a w->HLe st.h (head (writes c) (cs++gs.map (·.1)) (bs++jA st.h.length gs.length) st1 s).h->(∀k,k<st.h.length->ρ k=ρs k) ->
   Ua0 mn ro P c (λe a' w'=>∃ρ' st',K e st'=some r/\RS E P W0 n0 D ρ0 ρ' st' a' w'/\Ext (writes c) st.h.length ρs ρ' st st') m a w
 |0,s,ρ,a,w,hr,_,_,_=>by simp[Uab,Ual]at hr
 | m+1,s,ρ,a,w,hr,hR,hhl,hren=>by
  rw[Uab]at hr;rw[Ua0];have good:∀{st':St} {s':LS} {ρ':Nat->Ad} {a':Act} {w':World},Ugf st.h.length cs bs gs st'=some s'->RS E P W0 n0 (st1.d++D) ρ0 ρ' st' a' w'->Ext (writes c) (head (writes c) (cs++gs.map (·.1)) (bs++jA st.h.length gs.length) st1 s).h.length ρ ρ' (head (writes c) (cs++gs.map (·.1)) (bs++jA st.h.length gs.length) st1 s) st' ->
    ∃ρ2,RS E P W0 n0 (st1.d++D) ρ0 ρ2 (head (writes c) (cs++gs.map (·.1)) (bs++jA st.h.length gs.length) st1 s') a' w'/\HLe st.h (head (writes c) (cs++gs.map (·.1)) (bs++jA st.h.length gs.length) st1 s').h/\∀k,k<st.h.length->ρ2 k=ρs k:=by
   intro st' s' ρ' a' w' h hR' hE;unfold Ugf at h;split at h
   ·rename_i q hgr;cases hok:Ua9 q.1&&(Uak st.h.length bs st'.d&&((getS st'.s cs).all (Uan st.h.length)&&(getH st'.h bs).all (Uaj st.h.length))) with
    |false=>rw[hok]at h;cases h
    |true=>
     rw[hok]at h;simp only[Q1,Q8]at h;simp only[Q7]at hok;subst h;obtain⟨h1,h2⟩:=Yim hs1 hs1l hl1 hgW hgc hgn hbs hlow hlowB hn0 hR' hE hhl hgr (Zel hok.1) hok.2.1 hok.2.2.1 hok.2.2.2;refine⟨_,h1,h2,λk hk=> ?_⟩
     show (if k<st.h.length then ρ' k else _)=ρs k
     rw[if_pos hk];exact(hE.ren k (by rw[show (head (writes c) (cs++gs.map (·.1)) (bs++jA st.h.length gs.length) st1 s).h.length=st1.h.length from Zag _ _ _,hl1];omega)).trans (hren k hk)
   ·cases h
  have moreE:∀{o:Option LS} {s':LS},Uat (X:=Exit×LS) o=some (.more s')->o=some s':=λ{o s'} h=>by cases o<;>cases h;rfl
  have moreN:∀{o:Option LS} {x:Exit×LS},Uat (X:=Exit×LS) o=some (.done x)->False:=λ{o x} h=>by cases o<;>cases h
  have doneE:∀{o:Option LS} {e:Exit} {x:Exit×LS},Uaq e o=some (.done x)->∃s',o=some s'/\x=(e,s'):=λ{o e x} h=>by cases o<;>cases h;exact⟨_,rfl,rfl⟩
  have doneN:∀{o:Option LS} {e:Exit} {s':LS},Uaq e o=some (.more s')->False:=λ{o e s'} h=>by cases o<;>cases h
  cases hs':veC P Γ N c p (Stp LS (Exit×LS)) (head (writes c) (cs++gs.map (·.1)) (bs++jA st.h.length gs.length) st1 s) (Uew st.h.length cs bs gs) with
  |none=>rw[hs']at hr;simp[Ual]at hr
  | some x=>
   rw[hs']at hr;cases x with
   | more s'=>
    dsimp only at hr;refine WpX.mono (body s _ ρ a w hs' hR) ?_;rintro e a' w' ⟨ρ',st',hk,hR',hE⟩;cases e with
    |normal=>obtain⟨ρ2,hR2,hhl2,hren2⟩:=good (moreE hk) hR' hE;exact Zs2 hcs hs1 hs1l hl1 hd1 hst hgW hgc hgn hbs hlow hlowB hn0 body m _ ρ2 a' w' hr hR2 hhl2 hren2
    |exit id=>exact(doneN hk).elim
    |goto l=>exact(doneN hk).elim
    |ret=>exact(doneN hk).elim
    |panic ch=>cases hk
    |outgrown=>cases hk
   | done x=>
    simp only[Ual]at hr;refine WpX.mono (body s _ ρ a w hs' hR) ?_;rintro e a' w' ⟨ρ',st',hk,hR',hE⟩;have fin:Uaq e (Ugf st.h.length cs bs gs st')=some (.done x)->∃ρ' st',K e st'=some r/\RS E P W0 n0 D ρ0 ρ' st' a' w'/\Ext (writes c) st.h.length ρs ρ' st st':=λh=>by
     obtain⟨s',hs,rfl⟩:=doneE h;obtain⟨ρ2,hR2,hhl2,hren2⟩:=good hs hR' hE;obtain⟨h4,h5⟩:=Yaq hs1 hs1l hl1 hd1 hst hgW hcs hR2 hhl2 hren2;exact⟨ρ2,_,hr,h4,h5⟩
    cases e with
    |normal=>exact(moreN hk).elim
    |exit id=>exact fin hk
    |goto l=>exact fin hk
    |ret=>exact fin hk
    |panic ch=>cases hk
    |outgrown=>cases hk
theorem Zr2{c:Code}{p:Plan}{cs bs:List Nat}{gs:List (Nat×TypeId)}{st st1:St}(hcs:∀x∈cs,x∈writes c)(hs1:∀i,i ∉ gs.map (·.1)->st1.s[i]?=st.s[i]?)(hs1l:st1.s.length=st.s.length)(hl1:st1.h.length=st.h.length+gs.length)(hd1:∀n∈st.d,n∈st1.d)(hst:∀n,n<st.h.length->n ∉ st1.d->st1.h[n]?=st.h[n]?)(hgW:∀g∈gs.map (·.1),g∈writes c)(hgc:∀g∈gs.map (·.1),g ∉ cs)(hgn:(gs.map (·.1)).Nodup)(hbs:∀b∈bs,b<st.h.length)
  (hlow:∀(i:Nat) (u:SV),st.s[i]?=some u->Uan st.h.length u=true) (hlowB:∀(k:Nat) (b:VB),k<st.h.length->st1.h[k]?=some b->Uaj st.h.length b=true) (hn0:n0<=st.h.length)
  {α:Type} {K:Exit->St->Option α} {r:α} {ρs:Nat->Ad}
  (body:∀ (s:LS) (r':Stp LS (Exit×LS)) (ρ:Nat→Ad) (a:Act) (w:World),
   veC P Γ N c p (Stp LS (Exit×LS)) (head (writes c) (cs++gs.map (·.1)) (bs++jA st.h.length gs.length) st1 s) (Uex st.h.length cs bs gs)=some r'->RS E P W0 n0 (st1.d++D) ρ0 ρ (head (writes c) (cs++gs.map (·.1)) (bs++jA st.h.length gs.length) st1 s) a w ->
   WpX mn ro P c (λe a' w'=>∃ρ' st',Uex st.h.length cs bs gs e st'=some r'/\RS E P W0 n0 (st1.d++D) ρ0 ρ' st' a' w'/\Ext (writes c) (head (writes c) (cs++gs.map (·.1)) (bs++jA st.h.length gs.length) st1 s).h.length ρ ρ' (head (writes c) (cs++gs.map (·.1)) (bs++jA st.h.length gs.length) st1 s) st') a w) :
  ∀(m:Nat) (s:LS) (ρ:Nat->Ad) (a:Act) (w:World),
   Ual (Uab (λs=>veC P Γ N c p (Stp LS (Exit×LS)) (head (writes c) (cs++gs.map (·.1)) (bs++jA st.h.length gs.length) st1 s) (Uex st.h.length cs bs gs)) m s) (λe s=>K e (left (writes c) (cs++gs.map (·.1)) (bs++jA st.h.length gs.length) st1 s))=some r ->
   RS E P W0 n0 (st1.d++D) ρ0 ρ (head (writes c) (cs++gs.map (·.1)) (bs++jA st.h.length gs.length) st1 s) a w->HLe st.h (head (writes c) (cs++gs.map (·.1)) (bs++jA st.h.length gs.length) st1 s).h->(∀k,k<st.h.length->ρ k=ρs k) ->
   Ua0 mn ro P c (λe a' w'=>∃ρ' st',K e st'=some r/\RS E P W0 n0 D ρ0 ρ' st' a' w'/\Ext (writes c) st.h.length ρs ρ' st st') m a w
 |0,s,ρ,a,w,hr,_,_,_=>by simp[Uab,Ual]at hr
 | m+1,s,ρ,a,w,hr,hR,hhl,hren=>by
  rw[Uab]at hr;rw[Ua0]
  have good:∀ {st':St} {s':LS} {ρ':Nat→Ad} {a':Act} {w':World},Ue7 st.h.length cs bs gs st'=some s'→RS E P W0 n0 (st1.d++D) ρ0 ρ' st' a' w'→Ext (writes c) (head (writes c) (cs++gs.map (·.1)) (bs++jA st.h.length gs.length) st1 s).h.length ρ ρ' (head (writes c) (cs++gs.map (·.1)) (bs++jA st.h.length gs.length) st1 s) st' →
    ∃ρ2,RS E P W0 n0 (st1.d++D) ρ0 ρ2 (head (writes c) (cs++gs.map (·.1)) (bs++jA st.h.length gs.length) st1 s') a' w'/\HLe st.h (head (writes c) (cs++gs.map (·.1)) (bs++jA st.h.length gs.length) st1 s').h/\∀k,k<st.h.length->ρ2 k=ρs k:=by
   intro st' s' ρ' a' w' h hR' hE;unfold Ue7 at h;split at h
   ·rename_i q hgr;cases hok:Ua9 q.1&&(Uak st.h.length bs st'.d&&((getS st'.s cs).all (Uan st.h.length)&&(getH st'.h bs).all (Uaj st.h.length))) with
    |false=>rw[hok]at h;cases h
    | true=>
     rw[hok]at h;simp only[Q1,Q8]at h;simp only[Q7]at hok;subst h;have hhlen:(head (writes c) (cs++gs.map (·.1)) (bs++jA st.h.length gs.length) st1 s).h.length=st.h.length+gs.length:=by rw[<- hl1];exact Zag _ _ _
     have hWc:∀i,i ∉ writes c->i ∉ cs++gs.map (·.1):=λi hi hc=>by
      rcases jD.1 hc with h|h
      ·exact hi (hcs i h)
      ·exact hi (hgW i h)
     have hE1:st'.s.length=st.s.length:=by rw[hE.len];simp only[head];rw[Zag,Zau,hs1l]
     have hE2:∀k,k<st.h.length->k ∉ st'.d->k ∉ bs->st'.h[k]?=st1.h[k]?:=λk hk hkd hkb=>by
      rw[hE.heap k (by rw[hhlen];omega) hkd];simp only[head];exact Zad _ _ _ λh=>by
       rcases jD.1 h with h|h
       ·exact hkb h
       ·rw[List.mem_range'_1]at h;omega
     have hE3:∀i,i ∉ writes c->st'.s[i]?=st.s[i]?:=λi hi=>by
      rw[hE.slots i hi];simp only[head];rw[Zad _ _ _ (hWc i hi),Zcu,Nat.zero_add];have:Uai i (writes c)=false:=by cases h:Uai i (writes c) with|false=>rfl|true=>exact absurd (Za0.1 h) hi
      rw[this,hs1 i (λh=>hi (hgW i h))];cases st.s[i]?<;>rfl
     have hE4:HLe st.h st'.h:=hhl.trans hE.hle;have hE5:st.h.length<=st'.h.length:=by have:=hE.hlen;omega
     obtain⟨h1,h2⟩:=Yav hs1 hs1l hl1 hgW hgc hgn hbs hlow hlowB hn0 hR' hE1 hE2 hE3 hE4 hE5 hgr (Zel hok.1) hok.2.1 hok.2.2.1 hok.2.2.2;refine⟨_,h1,h2,λk hk=> ?_⟩
     show (if k<st.h.length then ρ' k else _)=ρs k
     rw[if_pos hk];exact(hE.ren k (by rw[show (head (writes c) (cs++gs.map (·.1)) (bs++jA st.h.length gs.length) st1 s).h.length=st1.h.length from Zag _ _ _,hl1];omega)).trans (hren k hk)
   ·cases h
  have moreE:∀{o:Option LS} {s':LS},Uat (X:=Exit×LS) o=some (.more s')->o=some s':=λ{o s'} h=>by cases o<;>cases h;rfl
  have moreN:∀{o:Option LS} {x:Exit×LS},Uat (X:=Exit×LS) o=some (.done x)->False:=λ{o x} h=>by cases o<;>cases h
  have doneE:∀{o:Option LS} {e:Exit} {x:Exit×LS},Uaq e o=some (.done x)->∃s',o=some s'/\x=(e,s'):=λ{o e x} h=>by cases o<;>cases h;exact⟨_,rfl,rfl⟩
  have doneN:∀{o:Option LS} {e:Exit} {s':LS},Uaq e o=some (.more s')->False:=λ{o e s'} h=>by cases o<;>cases h
  cases hs':veC P Γ N c p (Stp LS (Exit×LS)) (head (writes c) (cs++gs.map (·.1)) (bs++jA st.h.length gs.length) st1 s) (Uex st.h.length cs bs gs) with
  |none=>rw[hs']at hr;simp[Ual]at hr
  | some x=>
   rw[hs']at hr;cases x with
   | more s'=>
    dsimp only at hr;refine WpX.mono (body s _ ρ a w hs' hR) ?_;rintro e a' w' ⟨ρ',st',hk,hR',hE⟩;cases e with
    |normal=>obtain⟨ρ2,hR2,hhl2,hren2⟩:=good (moreE hk) hR' hE;exact Zr2 hcs hs1 hs1l hl1 hd1 hst hgW hgc hgn hbs hlow hlowB hn0 body m _ ρ2 a' w' hr hR2 hhl2 hren2
    |exit id=>exact(doneN hk).elim
    |goto l=>exact(doneN hk).elim
    |ret=>exact(doneN hk).elim
    |panic ch=>cases hk
    |outgrown=>cases hk
   | done x=>
    simp only[Ual]at hr;refine WpX.mono (body s _ ρ a w hs' hR) ?_;rintro e a' w' ⟨ρ',st',hk,hR',hE⟩;have fin:Uaq e (Ue7 st.h.length cs bs gs st')=some (.done x)->∃ρ' st',K e st'=some r/\RS E P W0 n0 D ρ0 ρ' st' a' w'/\Ext (writes c) st.h.length ρs ρ' st st':=λh=>by
     obtain⟨s',hs,rfl⟩:=doneE h;obtain⟨ρ2,hR2,hhl2,hren2⟩:=good hs hR' hE;obtain⟨h4,h5⟩:=Yaq hs1 hs1l hl1 hd1 hst hgW hcs hR2 hhl2 hren2;exact⟨ρ2,_,hr,h4,h5⟩
    cases e with
    |normal=>exact(moreN hk).elim
    |exit id=>exact fin hk
    |goto l=>exact fin hk
    |ret=>exact fin hk
    |panic ch=>cases hk
    |outgrown=>cases hk
theorem Zs4{c:Code}{p:Plan}{cs bs:List Nat}{g:Nat}{t:TypeId}{st st1:St}(hcs:∀x∈cs,x∈writes c){T:TypeId}{y1:SA}(hq:∀a b,Γ.e a b=true ↔ a=b)(hs1:st1.s=st.s)(hl1:st1.h.length=st.h.length+1)(hg1:st1.h[g]?=some (.one y1 T))(hbR0:BoxR st.h.length st.h.length y1 y1)(hgl:g<st.h.length)(hgd:g∈st1.d)(hd1:∀n∈st.d,n∈st1.d)(hst:∀n,n<st.h.length->n ∉ st1.d->st1.h[n]?=st.h[n]?)(hgb:g ∉ bs)(hbs:∀b∈bs,b<st.h.length)
  (hlow:∀(i:Nat) (u:SV),st.s[i]?=some u->Uan st.h.length u=true) (hlowB:∀(k:Nat) (b:VB),k<st.h.length->k≠g->st1.h[k]?=some b->Uaj st.h.length b=true) (hn0:n0<=st.h.length)
  {α:Type} {K:Exit->St->Option α} {r:α} {ρs:Nat->Ad}
  (body:∀ (s:LS) (r':Stp LS (Exit×LS)) (ρ:Nat→Ad) (a:Act) (w:World),
   veC P Γ N c p (Stp LS (Exit×LS)) (head (writes c) cs (bs++[st.h.length]) st1 s) (Udj Γ.e (boxY st1 g) st.h.length cs bs g t)=some r'->RS E P W0 n0 (st1.d++D) ρ0 ρ (head (writes c) cs (bs++[st.h.length]) st1 s) a w ->
   WpX mn ro P c (λe a' w'=>∃ρ' st',Udj Γ.e (boxY st1 g) st.h.length cs bs g t e st'=some r'/\RS E P W0 n0 (st1.d++D) ρ0 ρ' st' a' w'/\Ext (writes c) (head (writes c) cs (bs++[st.h.length]) st1 s).h.length ρ ρ' (head (writes c) cs (bs++[st.h.length]) st1 s) st') a w) :
  ∀(m:Nat) (s:LS) (ρ:Nat->Ad) (a:Act) (w:World),
   Ual (Uab (λs=>veC P Γ N c p (Stp LS (Exit×LS)) (head (writes c) cs (bs++[st.h.length]) st1 s) (Udj Γ.e (boxY st1 g) st.h.length cs bs g t)) m s) (λe s=>K e (left (writes c) cs (bs++[st.h.length]) st1 s))=some r ->
   RS E P W0 n0 (st1.d++D) ρ0 ρ (head (writes c) cs (bs++[st.h.length]) st1 s) a w->HLe st.h (head (writes c) cs (bs++[st.h.length]) st1 s).h->(∀k,k<st.h.length->ρ k=ρs k) ->
   Ua0 mn ro P c (λe a' w'=>∃ρ' st',K e st'=some r/\RS E P W0 n0 D ρ0 ρ' st' a' w'/\Ext (writes c) st.h.length ρs ρ' st st') m a w
 |0,s,ρ,a,w,hr,_,_,_=>by simp[Uab,Ual]at hr
 | m+1,s,ρ,a,w,hr,hR,hhl,hren=>by
  rw[Uab]at hr;rw[Ua0];have good:∀{st':St} {s':LS} {ρ':Nat->Ad} {a':Act} {w':World},Uev Γ.e (boxY st1 g) st.h.length cs bs g t st'=some s'->RS E P W0 n0 (st1.d++D) ρ0 ρ' st' a' w'->Ext (writes c) (head (writes c) cs (bs++[st.h.length]) st1 s).h.length ρ ρ' (head (writes c) cs (bs++[st.h.length]) st1 s) st' ->
    ∃ρ2,RS E P W0 n0 (st1.d++D) ρ0 ρ2 (head (writes c) cs (bs++[st.h.length]) st1 s') a' w'/\HLe st.h (head (writes c) cs (bs++[st.h.length]) st1 s').h/\∀k,k<st.h.length->ρ2 k=ρs k:=by
   intro st' s' ρ' a' w' h hR' hE;unfold Uev at h;split at h
   case h_2=>cases h
   rename_i b hgb';have hby:boxY st1 g=y1:=by unfold boxY;rw[hg1]
   rw[hby]at hgb';obtain⟨n,T',len,C,y',hg,hbR,hown,hmn,rfl⟩:=Yei hq hbR0 hgb';cases hok:Uak st.h.length (g::bs) st'.d&&((getS st'.s cs).all (Uan st.h.length)&&(getH st'.h bs).all (Uaj st.h.length)) with
   |false=>rw[hok]at h;cases h
   |true=>
    rw[hok]at h;simp only[Q1,Q8]at h;simp only[Q7]at hok;subst h;obtain⟨h1,h2⟩:=Yio hs1 hl1 hg1 hgl hgb hbs hlow hlowB hn0 hR hR' (jC _ hgd) hE hhl hg hbR hown hmn hok.1 hok.2.1 hok.2.2;refine⟨_,h1,h2,λk hk=> ?_⟩
    show (if k=st.h.length then ρ' n else ρ' k)=ρs k
    rw[if_neg (by omega)];exact(hE.ren k (by rw[show (head (writes c) cs (bs++[st.h.length]) st1 s).h.length=st1.h.length from Zag _ _ _,hl1];omega)).trans (hren k hk)
  have moreE:∀{o:Option LS} {s':LS},Uat (X:=Exit×LS) o=some (.more s')->o=some s':=λ{o s'} h=>by cases o<;>cases h;rfl
  have moreN:∀{o:Option LS} {x:Exit×LS},Uat (X:=Exit×LS) o=some (.done x)->False:=λ{o x} h=>by cases o<;>cases h
  have doneE:∀{o:Option LS} {e:Exit} {x:Exit×LS},Uaq e o=some (.done x)->∃s',o=some s'/\x=(e,s'):=λ{o e x} h=>by cases o<;>cases h;exact⟨_,rfl,rfl⟩
  have doneN:∀{o:Option LS} {e:Exit} {s':LS},Uaq e o=some (.more s')->False:=λ{o e s'} h=>by cases o<;>cases h
  cases hs':veC P Γ N c p (Stp LS (Exit×LS)) (head (writes c) cs (bs++[st.h.length]) st1 s) (Udj Γ.e (boxY st1 g) st.h.length cs bs g t) with
  |none=>rw[hs']at hr;simp[Ual]at hr
  | some x=>
   rw[hs']at hr;cases x with
   | more s'=>
    dsimp only at hr;refine WpX.mono (body s _ ρ a w hs' hR) ?_;rintro e a' w' ⟨ρ',st',hk,hR',hE⟩;replace hk:=Ygu hk;cases e with
    |normal=>obtain⟨ρ2,hR2,hhl2,hren2⟩:=good (moreE hk) hR' hE;exact Zs4 hcs hq hs1 hl1 hg1 hbR0 hgl hgd hd1 hst hgb hbs hlow hlowB hn0 body m _ ρ2 a' w' hr hR2 hhl2 hren2
    |exit id=>exact(doneN hk).elim
    |goto l=>exact(doneN hk).elim
    |ret=>exact(doneN hk).elim
    |panic ch=>cases hk
    |outgrown=>cases hk
   | done x=>
    simp only[Ual]at hr;refine WpX.mono (body s _ ρ a w hs' hR) ?_;rintro e a' w' ⟨ρ',st',hk,hR',hE⟩;replace hk:=Ygu hk;have fin:Uaq e (Uev Γ.e (boxY st1 g) st.h.length cs bs g t st')=some (.done x)->∃ρ' st',K e st'=some r/\RS E P W0 n0 D ρ0 ρ' st' a' w'/\Ext (writes c) st.h.length ρs ρ' st st':=λh=>by
     obtain⟨s',hs,rfl⟩:=doneE h;obtain⟨ρ2,hR2,hhl2,hren2⟩:=good hs hR' hE;obtain⟨h4,h5⟩:=Yh9 hs1 hl1 hd1 hst hcs hR2 hhl2 hren2;exact⟨ρ2,_,hr,h4,h5⟩
    cases e with
    |normal=>exact(moreN hk).elim
    |exit id=>exact fin hk
    |goto l=>exact fin hk
    |ret=>exact fin hk
    |panic ch=>cases hk
    |outgrown=>cases hk
theorem Zq2{c:Code}{p:Plan}{cs bs:List Nat}{g:Nat}{t:TypeId}{st st1:St}(hcs:∀x∈cs,x∈writes c)(hs1:st1.s=st.s.set g (.a (.l st.h.length)))(hl1:st1.h.length=st.h.length+1)(hd1:∀n∈st.d,n∈st1.d)(hst:∀n,n<st.h.length->n ∉ st1.d->st1.h[n]?=st.h[n]?)(hgW:g∈writes c)(hgc:g ∉ cs)(hbs:∀b∈bs,b<st.h.length)
  (hlow:∀(i:Nat) (u:SV),st.s[i]?=some u->Uan st.h.length u=true) (hlowB:∀(k:Nat) (b:VB),k<st.h.length->st1.h[k]?=some b->Uaj st.h.length b=true) (hn0:n0<=st.h.length)
  {α:Type} {K:Exit->St->Option α} {r:α} {ρs:Nat->Ad}
  (body:∀ (s:LS) (r':Stp LS ((Exit×LS) ⊕ α)) (ρ:Nat→Ad) (a:Act) (w:World),
   veC P Γ N c p (Stp LS ((Exit×LS)⊕α)) (head (writes c) (cs++[g]) (bs++[st.h.length]) st1 s) (Udg st.h.length cs bs g t st1 K)=some r'->RS E P W0 n0 (st1.d++D) ρ0 ρ (head (writes c) (cs++[g]) (bs++[st.h.length]) st1 s) a w ->
   WpX mn ro P c (λe a' w'=>∃ρ' st',Udg st.h.length cs bs g t st1 K e st'=some r'/\RS E P W0 n0 (st1.d++D) ρ0 ρ' st' a' w'/\Ext (writes c) (head (writes c) (cs++[g]) (bs++[st.h.length]) st1 s).h.length ρ ρ' (head (writes c) (cs++[g]) (bs++[st.h.length]) st1 s) st') a w) :
  ∀(m:Nat) (s:LS) (ρ:Nat->Ad) (a:Act) (w:World),
   Uc4 (Uab (λs=>veC P Γ N c p (Stp LS ((Exit×LS)⊕α)) (head (writes c) (cs++[g]) (bs++[st.h.length]) st1 s) (Udg st.h.length cs bs g t st1 K)) m s) (λe s=>K e (left (writes c) (cs++[g]) (bs++[st.h.length]) st1 s))=some r ->
   RS E P W0 n0 (st1.d++D) ρ0 ρ (head (writes c) (cs++[g]) (bs++[st.h.length]) st1 s) a w->HLe st.h (head (writes c) (cs++[g]) (bs++[st.h.length]) st1 s).h->(∀k,k<st.h.length->ρ k=ρs k) ->
   Ua0 mn ro P c (λe a' w'=>∃ρ' st',K e st'=some r/\RS E P W0 n0 D ρ0 ρ' st' a' w'/\Ext (writes c) st.h.length ρs ρ' st st') m a w
 |0,s,ρ,a,w,hr,_,_,_=>by simp[Uab,Uc4]at hr
 | m+1,s,ρ,a,w,hr,hR,hhl,hren=>by
  rw[Uab]at hr;rw[Ua0];have good:∀{st':St} {s':LS} {ρ':Nat->Ad} {a':Act} {w':World},Udm st.h.length cs bs g t st'=some s'->RS E P W0 n0 (st1.d++D) ρ0 ρ' st' a' w'->Ext (writes c) (head (writes c) (cs++[g]) (bs++[st.h.length]) st1 s).h.length ρ ρ' (head (writes c) (cs++[g]) (bs++[st.h.length]) st1 s) st' ->
    ∃ρ2,RS E P W0 n0 (st1.d++D) ρ0 ρ2 (head (writes c) (cs++[g]) (bs++[st.h.length]) st1 s') a' w'/\HLe st.h (head (writes c) (cs++[g]) (bs++[st.h.length]) st1 s').h/\∀k,k<st.h.length->ρ2 k=ρs k:=by
   intro st' s' ρ' a' w' h hR' hE;unfold Udm at h;split at h
   ·rename_i n hg;split at h
    ·rename_i len C e' hown;cases hok:jB t e'&&(Nat.ble st.h.length n&&(Uak st.h.length bs st'.d&&((getS st'.s cs).all (Uan st.h.length)&&(getH st'.h bs).all (Uaj st.h.length)))) with
     |false=>rw[hok]at h;cases h
     |true=>
      rw[hok]at h;simp only[Q1,Q8]at h;simp only[Q7]at hok;obtain rfl:=jL hok.1;subst h;obtain⟨h1,h2⟩:=Yau hs1 hl1 hgW hgc hbs hlow hlowB hn0 hR hR' hE hhl hg hown (jT hok.2.1) hok.2.2.1 hok.2.2.2.1 hok.2.2.2.2;refine⟨_,h1,h2,λk hk=> ?_⟩
      show (if k=st.h.length then ρ' n else ρ' k)=ρs k
      rw[if_neg (by omega)];exact(hE.ren k (by rw[show (head (writes c) (cs++[g]) (bs++[st.h.length]) st1 s).h.length=st1.h.length from Zag _ _ _,hl1];omega)).trans (hren k hk)
    ·cases h
   ·cases h
  have moreE:∀{o:Option LS} {s':LS},Uat (X:=(Exit×LS)⊕α) o=some (.more s')->o=some s':=λ{o s'} h=>by cases o<;>cases h;rfl
  have moreN:∀{o:Option LS} {x:(Exit×LS)⊕α},Uat (X:=(Exit×LS)⊕α) o=some (.done x)->False:=λ{o x} h=>by cases o<;>cases h
  have doneE:∀{o:Option LS} {e:Exit} {x:(Exit×LS)⊕α},Uep e o=some (.done x)->∃s',o=some s'/\x=.inl (e,s'):=λ{o e x} h=>by cases o<;>cases h;exact⟨_,rfl,rfl⟩
  have doneN:∀{o:Option LS} {e:Exit} {s':LS},Uep (α:=α) e o=some (.more s')->False:=λ{o e s'} h=>by cases o<;>cases h
  have doneAN:∀{o:Option α} {s':LS},Ufo (S:=LS) o=some (.more s')->False:=λ{o s'} h=>by cases o<;>cases h
  cases hs':veC P Γ N c p (Stp LS ((Exit×LS)⊕α)) (head (writes c) (cs++[g]) (bs++[st.h.length]) st1 s) (Udg st.h.length cs bs g t st1 K) with
  |none=>rw[hs']at hr;simp[Uc4]at hr
  | some x=>
   rw[hs']at hr;cases x with
   | more s'=>
    dsimp only at hr;refine WpX.mono (body s _ ρ a w hs' hR) ?_;rintro e a' w' ⟨ρ',st',hk,hR',hE⟩;cases e with
    |normal=>obtain⟨ρ2,hR2,hhl2,hren2⟩:=good (moreE hk) hR' hE;exact Zq2 hcs hs1 hl1 hd1 hst hgW hgc hbs hlow hlowB hn0 body m _ ρ2 a' w' hr hR2 hhl2 hren2
    |exit id=>exact(doneN hk).elim
    |goto l=>exact(doneN hk).elim
    |ret=>exact(doneAN hk).elim
    |panic ch=>cases hk
    |outgrown=>cases hk
   | done x=>
    refine WpX.mono (body s _ ρ a w hs' hR) ?_;rintro e a' w' ⟨ρ',st',hk,hR',hE⟩;have fin:Uep e (Udm st.h.length cs bs g t st')=some (.done x)->∃ρ' st',K e st'=some r/\RS E P W0 n0 D ρ0 ρ' st' a' w'/\Ext (writes c) st.h.length ρs ρ' st st':=λh=>by
     obtain⟨s',hs,rfl⟩:=doneE h;simp only[Uc4]at hr;obtain⟨ρ2,hR2,hhl2,hren2⟩:=good hs hR' hE;obtain⟨h4,h5⟩:=Zug hs1 hl1 hd1 hst hgW hcs hR2 hhl2 hren2;exact⟨ρ2,_,hr,h4,h5⟩
    cases e with
    |normal=>exact(moreN hk).elim
    |exit id=>exact fin hk
    |goto l=>exact fin hk
    | ret=>
     have hk2:Ufo (S:=LS) (K .ret (fixR (bs++[st.h.length]) st1 st'))=some (.done x):=hk;cases hkr:K .ret (fixR (bs++[st.h.length]) st1 st') with
     |none=>rw[hkr]at hk2;cases hk2
     |some r0=>rw[hkr]at hk2;cases hk2;simp only[Uc4]at hr;cases hr;exact⟨ρ',_,hkr,fix_R hR',(Zug hs1 hl1 hd1 hst hgW hcs hR hhl hren).2.trans (Yi3 hE (by rw[show (head (writes c) (cs++[g]) (bs++[st.h.length]) st1 s).h.length=st1.h.length from Zag _ _ _,hl1];omega))⟩
    |panic ch=>cases hk
    |outgrown=>cases hk
theorem Zbi (hm:P.follows .mixedOrders=true) (hΓ:ConsOkX mn P (Uah mn P) Γ):∀ (c:Code) (p:Plan) (ro:Option Nat) (hW:ro=none∨Uao p=true) (E:List Nat) (W0:World) (n0:Nat) (ρ0:Nat→Ad) (α:Type) (st:St) (K:Exit→St→Option α) (r:α) (D:List Nat) (ρ:Nat→Ad) (a:Act) (w:World),
  veC P Γ N c p α st K=some r->RS E P W0 n0 D ρ0 ρ st a w ->
  WpX mn ro P c (λe a' w'=>∃ρ' st',K e st'=some r/\RS E P W0 n0 D ρ0 ρ' st' a' w'/\Ext (writes c) st.h.length ρ ρ' st st') a w
 |.skip,p,ro,hW,E,W0,n0,ρ0,α,st,K,r,D,ρ,a,w,hr,hR=>Zeb ⟨ρ,st,by simpa [veC] using hr,hR,.refl _ _ _ _⟩
 |.region id ops draw,p,ro,hW,E,W0,n0,ρ0,α,st,K,r,D,ρ,a,w,hr,hR=>by
  rw[veC]at hr;exact Zvs hm hΓ hR hr λρ' st' a' w' hk hR' hE=>⟨ρ',st',hk,hR',hE⟩
 |.exit id,p,ro,hW,E,W0,n0,ρ0,α,st,K,r,D,ρ,a,w,hr,hR=>Zld ⟨ρ,st,by simpa [veC] using hr,hR,.refl _ _ _ _⟩
 |.ret,p,ro,hW,E,W0,n0,ρ0,α,st,K,r,D,ρ,a,w,hr,hR=>Zgo ⟨ρ,st,by simpa [veC] using hr,hR,.refl _ _ _ _⟩
 | .seq x y,p,ro,hW,E,W0,n0,ρ0,α,st,K,r,D,ρ,a,w,hr,hR=>by
  cases p with
  |one=>simp[veC]at hr
  |loop cs bs p=>simp[veC]at hr
  |loopG cs bs g e p=>simp[veC]at hr
  |loopR cs bs p=>simp[veC]at hr
  |loopGR cs bs g e p=>simp[veC]at hr
  |loopB cs bs g e p=>simp[veC]at hr
  |loopM cs bs gs p=>simp[veC]at hr
  |loopF cs bs gs p=>simp[veC]at hr
  |iterB bs g e p=>simp[veC]at hr
  |iterL bs p=>simp[veC]at hr
  |iterA bs p=>simp[veC]at hr
  |jump l cs bs p q=>simp[veC]at hr
  |sc p=>simp[veC]at hr
  |iter bs p=>simp[veC]at hr
  | two p q=>
   rw[veC]at hr;refine Zan (WpX.mono (Zbi hm hΓ x p ro (hW.imp_right λh=>by simp only[Uao,Q7]at h;exact h.1) E W0 n0 ρ0 α st _ r D ρ a w hr hR) ?_);rintro e a1 w1 ⟨ρ1,st1,hk,hR1,hE1⟩;cases e with
   |normal=>refine WpX.mono (Zbi hm hΓ y q ro (hW.imp_right λh=>by simp only[Uao,Q7]at h;exact h.2) E W0 n0 ρ0 α st1 K r D ρ1 a1 w1 hk hR1) ?_;rintro e2 a2 w2 ⟨ρ2,st2,hk2,hR2,hE2⟩;exact⟨ρ2,st2,hk2,hR2,Yjo hE1 hE2⟩
   |exit id=>exact⟨ρ1,st1,hk,hR1,hE1.mono (λ_ h=>jC _ h) (jF _)⟩
   |goto l=>exact⟨ρ1,st1,hk,hR1,hE1.mono (λ_ h=>jC _ h) (jF _)⟩
   |ret=>exact⟨ρ1,st1,hk,hR1,hE1.mono (λ_ h=>jC _ h) (jF _)⟩
   |panic ch=>exact⟨ρ1,st1,hk,hR1,hE1.mono (λ_ h=>jC _ h) (jF _)⟩
   |outgrown=>exact⟨ρ1,st1,hk,hR1,hE1.mono (λ_ h=>jC _ h) (jF _)⟩
 | .cond c x y,p,ro,hW,E,W0,n0,ρ0,α,st,K,r,D,ρ,a,w,hr,hR=>by
  cases p with
  |one=>simp[veC]at hr
  |loop cs bs p=>simp[veC]at hr
  |loopG cs bs g e p=>simp[veC]at hr
  |loopR cs bs p=>simp[veC]at hr
  |loopGR cs bs g e p=>simp[veC]at hr
  |loopB cs bs g e p=>simp[veC]at hr
  |loopM cs bs gs p=>simp[veC]at hr
  |loopF cs bs gs p=>simp[veC]at hr
  |iterB bs g e p=>simp[veC]at hr
  |iterL bs p=>simp[veC]at hr
  |iterA bs p=>simp[veC]at hr
  |jump l cs bs p q=>simp[veC]at hr
  |sc p=>simp[veC]at hr
  |iter bs p=>simp[veC]at hr
  | two p q=>
   rw[veC]at hr;have hc:=Zby (Ziv hR.slots c);split at hr
   ·rename_i t ht;rw[ht]at hc;have hc:a.eval c=.bool t:=hc;cases t with
    |true=>refine Zdr hc (WpX.mono (Zbi hm hΓ x p ro (hW.imp_right λh=>by simp only[Uao,Q7]at h;exact h.1) E W0 n0 ρ0 α st K r D ρ a w hr hR) ?_);rintro e2 a2 w2 ⟨ρ2,st2,hk2,hR2,hE2⟩;exact⟨ρ2,st2,hk2,hR2,hE2.mono (λ_ h=>jC _ h) (jF _)⟩
    |false=>refine Zay hc (WpX.mono (Zbi hm hΓ y q ro (hW.imp_right λh=>by simp only[Uao,Q7]at h;exact h.2) E W0 n0 ρ0 α st K r D ρ a w hr hR) ?_);rintro e2 a2 w2 ⟨ρ2,st2,hk2,hR2,hE2⟩;exact⟨ρ2,st2,hk2,hR2,hE2.mono (λ_ h=>jK _ h) (jF _)⟩
   ·cases hr
 | .block id x,p,ro,hW,E,W0,n0,ρ0,α,st,K,r,D,ρ,a,w,hr,hR=>by
  rw[veC]at hr;refine Zdn (WpX.mono (Zbi hm hΓ x p ro hW E W0 n0 ρ0 α st _ r D ρ a w hr hR) ?_);rintro e a1 w1 ⟨ρ1,st1,hk,hR1,hE1⟩;cases e with
  | exit id'=>
   simp only[Uac]at hk;unfold Exit.inBlock;cases hb:jB id' id with
   |true=>rw[hb]at hk;have:=jL hb;simp only[if_pos this];exact⟨ρ1,st1,hk,hR1,hE1⟩
   |false=>
    rw[hb]at hk;have:id'≠id:=λe=>by subst e;rw[Nat.beq_refl]at hb;cases hb
    simp only[if_neg this];exact⟨ρ1,st1,hk,hR1,hE1⟩
  |normal=>exact⟨ρ1,st1,hk,hR1,hE1⟩
  |goto l=>exact⟨ρ1,st1,hk,hR1,hE1⟩
  |ret=>exact⟨ρ1,st1,hk,hR1,hE1⟩
  |panic ch=>exact⟨ρ1,st1,hk,hR1,hE1⟩
  |outgrown=>exact⟨ρ1,st1,hk,hR1,hE1⟩
 | .loop x,p,ro,hW,E,W0,n0,ρ0,α,st,K,r,D,ρ,a,w,hr,hR=>by
  cases p with
  |one=>simp[veC]at hr
  |two p q=>simp[veC]at hr
  |iter bs p=>simp[veC]at hr
  |jump l cs bs p q=>simp[veC]at hr
  |sc p=>simp[veC]at hr
  |iterB bs g e p=>simp[veC]at hr
  |iterL bs p=>simp[veC]at hr
  |iterA bs p=>simp[veC]at hr
  | loopB cs bs g t p=>
   rw[veC]at hr;split at hr
   ·rename_i st1 hprep;cases hok:cs.all (Uai · (writes x))&&(jG g st.h.length&&(!Uai g bs&&bs.all (jG · st.h.length))) with
    |false=>rw[hok]at hr;cases hr
    | true=>
     rw[hok]at hr;simp only[Q7,jP,jI]at hok;simp only[Q1]at hr;obtain⟨ρ1,T,len,C,y1,hR1,hs1,hl1,hle1,hg1,hbR0,hgl,hm1,hgd,hst,hst2,hd1,hren1⟩:=Zxw hR hprep;obtain⟨hR0,hhl0⟩:=Zi1 (W:=writes x) (cs:=cs) (bs:=bs++[st.h.length]) hR1;have hlow:∀(i:Nat) (u:SV),st.s[i]?=some u->Uan st.h.length u=true:=λi u hu=>(hR.slots i u hu).lt
     have hlowB:∀(k:Nat) (b:VB),k<st.h.length->k≠g->st1.h[k]?=some b->Uaj st.h.length b=true:=λk b hk hkg hb=>by
      rcases hst2 k hk hkg with h|h
      ·rw[h]at hb;exact(hR.heap.is k b hb).lt
      ·rw[h]at hb;cases hb;rfl
     have hgb:g ∉ bs:=λh=>by rw[Za0.2 h]at hok;exact absurd hok.2.2.1 (by simp)
     exact Zbp N (Zs4 (ρs:=ρ) (λc hc=>Za0.1 (hok.1 c hc)) hΓ.e hs1 hl1 hg1 hbR0 hgl hgd hd1 hst hgb (λb hb=>by have:=hok.2.2.2 b hb;simp[jG]at this;omega) hlow hlowB hR.bound
      (λs r' ρ a w h1 h2=>Zbi hm hΓ x p ro (hW.imp_right λh=>h) E W0 n0 ρ0 _ _ _ r' (st1.d++D) ρ a w h1 h2) N _ ρ1 a w hr hR0 (hle1.trans hhl0) hren1)
   ·cases hr
  | loopF cs bs gs p=>
   rw[veC]at hr;cases hok:cs.all (Uai · (writes x))&&(gs.all (λq=>Uai q.1 (writes x) && !Uai q.1 cs)&&(Ua9 (gs.map (·.1))&&bs.all (jG · st.h.length))) with
   |false=>rw[hok]at hr;cases hr
   | true=>
    rw[hok]at hr;simp only[Q7,jP,jI]at hok;simp only[Q1]at hr;have hgW:∀g∈gs.map (·.1),g∈writes x:=λg hg=>by
     obtain⟨q,hq,rfl⟩:=jN.1 hg;exact Za0.1 (hok.2.1 q hq).1
    have hcs:∀c∈cs,c∈writes x:=λc hc=>Za0.1 (hok.1 c hc)
    have hgc:∀g∈gs.map (·.1),g ∉ cs:=λg hg h=>by
     obtain⟨q,hq,rfl⟩:=jN.1 hg;have:=(hok.2.1 q hq).2;rw[Za0.2 h]at this;exact absurd this (by simp)
    have hbs:∀b∈bs,b<st.h.length:=λb hb=>by have:=hok.2.2.2 b hb;simp[jG]at this;omega
    have hlow:∀(i:Nat) (u:SV),st.s[i]?=some u->Uan st.h.length u=true:=λi u hu=>(hR.slots i u hu).lt
    have hroom:∀k,k<st.h.length->(Uee gs.length st).h[k]?=st.h[k]?:=λk hk=>jQ hk
    have hlowB:∀(k:Nat) (b:VB),k<st.h.length->(Uee gs.length st).h[k]?=some b->Uaj st.h.length b=true:=λk b hk hb=>by
     rw[hroom k hk]at hb;exact(hR.heap.is k b hb).lt
    have hl1:(Uee gs.length st).h.length=st.h.length+gs.length:=by simp[Uee]
    have hR0:RS E P W0 n0 (st.d++D) ρ0 ρ { s:=st.s,h:=st.h,d:=[] } a w:=⟨hR.len,hR.slots,hR.heap,hR.base,hR.fresh,hR.kept.mono λk _ ⟨q,h1,h2,h3⟩=>⟨q,h1,.inr (h2.elim (λh=>.inl (jC _ h)) λh=>h.imp (λh=>jK _ h) λh=>h),h3⟩,hR.own0,hR.defers,hR.bound⟩;have rounds:=λ(s0:LS) (ρ1:Nat->Ad) (a1:Act) (w1:World) h1 h2 h3 h4=>Zr2 (st:=st) (st1:=Uee gs.length st) (K:=K) (r:=r) (ρs:=ρ) hcs (λ_ _=>rfl) rfl hl1 (λ_ h=>h) (λn hn _=>hroom n hn) hgW hgc (Zel hok.2.2.1) hbs hlow hlowB hR.bound
      (λs r' ρ a w h1 h2=>Zbi hm hΓ x p ro (hW.imp_right λh=>h) E W0 n0 ρ0 _ _ _ r' (st.d++D) ρ a w h1 h2) N s0 ρ1 a1 w1 h1 h2 h3 h4
    refine Zbp (N+1) ?_;rw[Ua0];refine WpX.mono (Zbi hm hΓ x p ro (hW.imp_right λh=>h) E W0 n0 ρ0 _ _ _ r (st.d++D) ρ a w hr hR0) ?_;rintro e a' w' ⟨ρ',st',hk,hR',hE⟩;have exit:∀{e},K e { s:=st'.s,h:=st'.h,d:=st'.d++st.d }=some r->∃ρ' st',K e st'=some r/\RS E P W0 n0 D ρ0 ρ' st' a' w'/\Ext (writes x) st.h.length ρ ρ' st st':=λhk=>
     ⟨ρ',_,hk,⟨hR'.len,hR'.slots,hR'.heap,hR'.base,hR'.fresh,hR'.kept.mono fun k _ ⟨q,h1,h2,h3⟩=>⟨q,h1,by
       rcases h2 with h|h|h
       ·exact .inl (jC _ h)
       ·rcases jD.1 h with h|h
        ·exact .inl (jK _ h)
        ·exact .inr (.inl h)
       ·exact .inr (.inr h),h3⟩,hR'.own0,hR'.defers,hR'.bound⟩,
      ⟨hE.slots,hE.len,λn hn hd=>hE.heap n hn λh=>hd (jC _ h),λn h=>jK _ h,hE.hlen,hE.hle,hE.ren⟩⟩
    cases e with
    | normal=>
     simp only[kFirst]at hk;split at hk
     case h_2=>cases hk
     rename_i s0 ht;unfold Ue7 at ht;split at ht
     case h_2=>cases ht
     rename_i q hgr;cases hok2:Ua9 q.1&&(Uak st.h.length bs st'.d&&((getS st'.s cs).all (Uan st.h.length)&&(getH st'.h bs).all (Uaj st.h.length))) with
     |false=>rw[hok2]at ht;cases ht
     | true=>
      rw[hok2]at ht;simp only[Q1,Q8]at ht;simp only[Q7]at hok2;subst ht;obtain⟨h1,h2⟩:=Yav (W:=writes x) (cs:=cs) (bs:=bs) (st:=st) (st1:=Uee gs.length st) (λ_ _=>rfl) rfl hl1 hgW hgc (Zel hok.2.2.1) hbs hlow hlowB hR.bound hR' hE.len (λk hk hd _=>(hE.heap k hk hd).trans (hroom k hk).symm) hE.slots hE.hle hE.hlen hgr (Zel hok2.1) hok2.2.1 hok2.2.2.1 hok2.2.2.2;exact rounds _ _ a' w' hk h1 h2 λk hk=>by
       show (if k<st.h.length then ρ' k else _)=ρ k
       rw[if_pos hk];exact hE.ren k hk
    |exit id=>exact exit hk
    |goto l=>exact exit hk
    |ret=>exact exit hk
    |panic ch=>exact exit hk
    |outgrown=>exact exit hk
  | loopM cs bs gs p=>
   rw[veC]at hr;split at hr
   ·rename_i st1 hprep;cases hok:cs.all (Uai · (writes x))&&(gs.all (λq=>Uai q.1 (writes x) && !Uai q.1 cs)&&(Ua9 (gs.map (·.1))&&bs.all (jG · st.h.length))) with
    |false=>rw[hok]at hr;cases hr
    | true=>
     rw[hok]at hr;simp only[Q7,jP,jI]at hok;simp only[Q1]at hr;obtain⟨ρ1,hR1,hs1,hs1l,hl1,hle1,hst,hst2,hd1,hren1⟩:=Zzn hR hprep;obtain⟨hR0,hhl0⟩:=Zi1 (W:=writes x) (cs:=cs++gs.map (·.1)) (bs:=bs++jA st.h.length gs.length) hR1;have hlow:∀(i:Nat) (u:SV),st.s[i]?=some u->Uan st.h.length u=true:=λi u hu=>(hR.slots i u hu).lt
     have hlowB:∀(k:Nat) (b:VB),k<st.h.length->st1.h[k]?=some b->Uaj st.h.length b=true:=λk b hk hb=>by
      rcases hst2 k hk with h|h
      ·rw[h]at hb;exact(hR.heap.is k b hb).lt
      ·rw[h]at hb;cases hb;rfl
     have hgW:∀g∈gs.map (·.1),g∈writes x:=λg hg=>by
      obtain⟨q,hq,rfl⟩:=jN.1 hg;exact Za0.1 (hok.2.1 q hq).1
     have hgc:∀g∈gs.map (·.1),g ∉ cs:=λg hg h=>by
      obtain⟨q,hq,rfl⟩:=jN.1 hg;have:=(hok.2.1 q hq).2;rw[Za0.2 h]at this;exact absurd this (by simp)
     exact Zbp N (Zs2 (ρs:=ρ) (λc hc=>Za0.1 (hok.1 c hc)) hs1 hs1l hl1 hd1 hst hgW hgc (Zel hok.2.2.1) (λb hb=>by have:=hok.2.2.2 b hb;simp[jG]at this;omega) hlow hlowB hR.bound
      (λs r' ρ a w h1 h2=>Zbi hm hΓ x p ro (hW.imp_right λh=>h) E W0 n0 ρ0 _ _ _ r' (st1.d++D) ρ a w h1 h2) N _ ρ1 a w hr hR0 (hle1.trans hhl0) hren1)
   ·cases hr
  | loopG cs bs g t p=>
   rw[veC]at hr;split at hr
   ·rename_i st1 hprep;cases hok:cs.all (Uai · (writes x))&&(Uai g (writes x)&&(!Uai g cs&&bs.all (jG · st.h.length))) with
    |false=>rw[hok]at hr;cases hr
    | true=>
     rw[hok]at hr;simp only[Q7,jP,jI]at hok;simp only[Q1]at hr;obtain⟨ρ1,hR1,hs1,hl1,hle1,hst,hst2,hd1,hren1⟩:=Zvd hR hprep;obtain⟨hR0,hhl0⟩:=Zi1 (W:=writes x) (cs:=cs++[g]) (bs:=bs++[st.h.length]) hR1;have hlow:∀(i:Nat) (u:SV),st.s[i]?=some u->Uan st.h.length u=true:=λi u hu=>(hR.slots i u hu).lt
     have hlowB:∀(k:Nat) (b:VB),k<st.h.length->st1.h[k]?=some b->Uaj st.h.length b=true:=λk b hk hb=>by
      rcases hst2 k hk with h|h
      ·rw[h]at hb;exact(hR.heap.is k b hb).lt
      ·rw[h]at hb;cases hb;rfl
     have hgc:g ∉ cs:=λh=>by rw[Za0.2 h]at hok;exact absurd hok.2.2.1 (by simp)
     exact Zbp N (Zsi (ρs:=ρ) (λc hc=>Za0.1 (hok.1 c hc)) hs1 hl1 hd1 hst (Za0.1 hok.2.1) hgc (λb hb=>by have:=hok.2.2.2 b hb;simp[jG]at this;omega) hlow hlowB hR.bound
      (λs r' ρ a w h1 h2=>Zbi hm hΓ x p ro (hW.imp_right λh=>h) E W0 n0 ρ0 _ _ _ r' (st1.d++D) ρ a w h1 h2) N _ ρ1 a w hr hR0 (hle1.trans hhl0) hren1)
   ·cases hr
  | loop cs bs p=>
   rw[veC]at hr;cases hcs:cs.all (Uai · (writes x)) with
   |false=>rw[hcs]at hr;cases hr
   |true=>rw[hcs]at hr;simp only[Q1]at hr;obtain⟨hR0,hhl0⟩:=Zi1 (W:=writes x) (cs:=cs) (bs:=bs) hR;exact Zbp N (Zv0 hcs (ρs:=ρ) (λs r' ρ a w h1 h2=>Zbi hm hΓ x p ro (hW.imp_right λh=>h) E W0 n0 ρ0 _ _ _ r' (st.d++D) ρ a w h1 h2) N _ ρ a w hr hR0 hhl0 λ_ _=>rfl)
  | loopGR cs bs g t p=>
   rw[veC]at hr;split at hr
   ·rename_i st1 hprep;cases hok:cs.all (Uai · (writes x))&&(Uai g (writes x)&&(!Uai g cs&&bs.all (jG · st.h.length))) with
    |false=>rw[hok]at hr;cases hr
    | true=>
     rw[hok]at hr;simp only[Q7,jP,jI]at hok;simp only[Q1]at hr;obtain⟨ρ1,hR1,hs1,hl1,hle1,hst,hst2,hd1,hren1⟩:=Zvd hR hprep;obtain⟨hR0,hhl0⟩:=Zi1 (W:=writes x) (cs:=cs++[g]) (bs:=bs++[st.h.length]) hR1;have hlow:∀(i:Nat) (u:SV),st.s[i]?=some u->Uan st.h.length u=true:=λi u hu=>(hR.slots i u hu).lt
     have hlowB:∀(k:Nat) (b:VB),k<st.h.length->st1.h[k]?=some b->Uaj st.h.length b=true:=λk b hk hb=>by
      rcases hst2 k hk with h|h
      ·rw[h]at hb;exact(hR.heap.is k b hb).lt
      ·rw[h]at hb;cases hb;rfl
     have hgc:g ∉ cs:=λh=>by rw[Za0.2 h]at hok;exact absurd hok.2.2.1 (by simp)
     exact Zbp N (Zq2 (ρs:=ρ) (λc hc=>Za0.1 (hok.1 c hc)) hs1 hl1 hd1 hst (Za0.1 hok.2.1) hgc (λb hb=>by have:=hok.2.2.2 b hb;simp[jG]at this;omega) hlow hlowB hR.bound
      (λs r' ρ a w h1 h2=>Zbi hm hΓ x p ro (hW.imp_right λh=>h) E W0 n0 ρ0 _ _ _ r' (st1.d++D) ρ a w h1 h2) N _ ρ1 a w hr hR0 (hle1.trans hhl0) hren1)
   ·cases hr
  | loopR cs bs p=>
   rw[veC]at hr;cases hcs:cs.all (Uai · (writes x)) with
   |false=>rw[hcs]at hr;cases hr
   |true=>rw[hcs]at hr;simp only[Q1]at hr;obtain⟨hR0,hhl0⟩:=Zi1 (W:=writes x) (cs:=cs) (bs:=bs) hR;exact Zbp N (Zso hcs (ρs:=ρ) (λs r' ρ a w h1 h2=>Zbi hm hΓ x p ro (hW.imp_right λh=>h) E W0 n0 ρ0 _ _ _ r' (st.d++D) ρ a w h1 h2) N _ ρ a w hr hR0 hhl0 λ_ _=>rfl)
 | .rangeFunc f ps as b,p,ro,hW,E,W0,n0,ρ0,α,st,K,r,D,ρ,a,w,hr,hR=>by
  cases p with
  |one=>simp[veC]at hr
  |two p q=>simp[veC]at hr
  |loop cs bs p=>simp[veC]at hr
  |loopG cs bs g e p=>simp[veC]at hr
  |loopR cs bs p=>simp[veC]at hr
  |loopGR cs bs g e p=>simp[veC]at hr
  |loopB cs bs g e p=>simp[veC]at hr
  |loopM cs bs gs p=>simp[veC]at hr
  |loopF cs bs gs p=>simp[veC]at hr
  |iterB bs g e p=>
   rcases hW with rfl|h
   ·exact Zux hΓ (λy1 l E' st1 r' ρ1 a1 W hni hv hR1=>Zbi hm hΓ b p (some l) (.inr hni) E' W _ ρ1 _ st1 _ r' [] ρ1 a1 W hv hR1) hr hR
   ·simp[Uao]at h
  |jump l cs bs p q=>simp[veC]at hr
  |sc p=>simp[veC]at hr
  |iterL bs p=>
   rcases hW with rfl|h
   ·exact Zvk hΓ (λl st1 r' ρ1 a1 W hni hv hR1=>Zbi hm hΓ b p (some l) (.inr hni) [] W _ ρ1 _ st1 _ r' [] ρ1 a1 W hv hR1) hr hR
   ·simp[Uao]at h
  |iterA bs p=>
   rcases hW with rfl|h
   ·exact Zu5 hm hΓ (λl st1 r' ρs ρ1 a1 W1 W hni hv hR1=>Zbi hm hΓ b p (some l) (.inr hni) [] W1 _ ρs _ st1 _ r' [] ρ1 a1 W hv hR1) hr hR
   ·simp[Uao]at h
  |iter bs p=>
   rcases hW with rfl|h
   ·exact Zxf hΓ (λl st1 r' ρ1 a1 W hni hv hR1=>Zbi hm hΓ b p (some l) (.inr hni) [] W _ ρ1 _ st1 _ r' [] ρ1 a1 W hv hR1) hr hR
   ·simp[Uao]at h
 |.scope b,p,ro,hW,E,W0,n0,ρ0,α,st,K,r,D,ρ,a,w,hr,hR=>by simp[veC]at hr
 |.label l,p,ro,hW,E,W0,n0,ρ0,α,st,K,r,D,ρ,a,w,hr,hR=>Ydu ⟨ρ,st,by simpa [veC] using hr,hR,.refl _ _ _ _⟩
 |.goto l,p,ro,hW,E,W0,n0,ρ0,α,st,K,r,D,ρ,a,w,hr,hR=>wpX_goto ⟨ρ,st,by simpa [veC] using hr,hR,.refl _ _ _ _⟩
 |.refuse l,p,ro,hW,E,W0,n0,ρ0,α,st,K,r,D,ρ,a,w,hr,hR=>by simp[veC]at hr
def Ud6(mn:Md)(ro:Option Nat)(P:Program)(c:Code)(l:Nat)(Q:Exit->Act->World->Prop):Nat->Act->World->Prop
 |0,_,_=>False
 |m+1,a,w=>WpX mn ro P c (Exit.hop l (Ud6 mn ro P c l Q m) Q) a w
theorem Yak{c rest:Code}{l m:Nat}{a:Act}{v:World}{Q:Exit->Act->World->Prop}(hf:findLabel c l=some rest)(first:WpX mn ro P c (Exit.hop l (Ud6 mn ro P rest l Q m) Q) a v):WpX mn ro P (.scope c) Q a v:=λPr hC b hb hkd k cs G w hfit hv hQ=>by
 have hg:gotoIn l (.inScope c::k)=some (.code rest::.inScope c::k):=by simp[gotoIn,hf]
 have leave:∀(e:Exit) (a':Act) (v':World),(∀l',e ≠ .goto l')->Q e a' v'->∀G' w',FitM mn G' w'->Ge v' (view G' w')->Arr Pr b (.inScope c::k) cs e a' G' w':=by
  intro e a' v' hne hq G' w' hf' hv';cases e with
  |normal=>exact hC.calm hf' rfl (λw=>Yix) λw₂ hf₂ hg₂=>hQ .normal a' v' hq G' w₂ hf₂ (hv'.trans hg₂)
  |exit id'=>
   have hx:exitTo id' (.inScope c::k)=exitTo id' k:=by simp[exitTo]
   have:=hQ (.exit id') a' v' hq G' w' hf' hv';exact⟨λk' hk=>this.1 k' (by rwa [hx]at hk),λhk=>this.2 (by rwa [hx]at hk)⟩
  |goto l'=>exact absurd rfl (hne l')
  |ret=>exact hQ .ret a' v' hq G' w' hf' hv'
  |panic ch=>trivial
  |outgrown=>trivial
 have key:∀(m:Nat) (a:Act) (v:World),Ud6 mn ro P rest l Q m a v->∀(G:Gh) (w:World),FitM mn G w->Ge v (view G w)->Pr G w (gr (b.atR a (.code rest::.inScope c::k)) cs):=by
  intro m
  induction m with
  |zero=>intro a v h;exact h.elim
  | succ m ih=>
   intro a v h G w hfit hv;refine h Pr hC b hb hkd (.inScope c::k) cs G w hfit hv λe a' v' hq G' w' hf' hv'=> ?_
   cases e with
   | goto l'=>
    obtain⟨rfl,hJ⟩:=hq;refine⟨λk' hk=> ?_,λhk=> ?_⟩
    ·rw[hg]at hk;cases hk;exact ih a' v' hJ G' w' hf' hv'
    ·rw[hg]at hk;cases hk
   |normal=>exact leave .normal a' v' (by simp) hq G' w' hf' hv'
   |exit id=>exact leave (.exit id) a' v' (by simp) hq G' w' hf' hv'
   |ret=>exact leave .ret a' v' (by simp) hq G' w' hf' hv'
   |panic ch=>trivial
   |outgrown=>trivial
 exact hC.calm hfit rfl (λw=>sg_scope) λw₁ hf₁ hg₁=>first Pr hC b hb hkd (.inScope c::k) cs G w₁ hf₁ (hv.trans hg₁) λe a' v' hq G' w' hf' hv'=>by
  cases e with
  | goto l'=>
   obtain⟨rfl,hJ⟩:=hq;refine⟨λk' hk=> ?_,λhk=> ?_⟩
   ·rw[hg]at hk;cases hk;exact key m a' v' hJ G' w' hf' hv'
   ·rw[hg]at hk;cases hk
  |normal=>exact leave .normal a' v' (by simp) hq G' w' hf' hv'
  |exit id=>exact leave (.exit id) a' v' (by simp) hq G' w' hf' hv'
  |ret=>exact leave .ret a' v' (by simp) hq G' w' hf' hv'
  |panic ch=>trivial
  |outgrown=>trivial
theorem Zzg{c:Code}{p:Plan}{l:Nat}{cs bs:List Nat}(hcs:cs.all (Uai · (writes c))=true){α:Type}{K:Exit->St->Option α}{r:α}{st stt:St}{ρs ρt:Nat->Ad}{Wt:List Nat}(hWt:∀x∈writes c,x∈Wt)(hEt:Ext Wt stt.h.length ρt ρs stt st)
  (body:∀ (s:LS) (r':Stp LS (Exit×LS)) (ρ:Nat→Ad) (a:Act) (w:World),
   Ufk P Γ N c p l cs bs st s=some r'->RS E P W0 n0 (st.d++D) ρ0 ρ (head (writes c) cs bs st s) a w ->
   WpX mn ro P c (λe a' w'=>∃ρ' st',Ufi l st.h.length cs bs e st'=some r'/\RS E P W0 n0 (st.d++D) ρ0 ρ' st' a' w'/\Ext (writes c) (head (writes c) cs bs st s).h.length ρ ρ' (head (writes c) cs bs st s) st') a w) :
  ∀(m:Nat) (s:LS) (ρ:Nat->Ad) (a:Act) (w:World),
   Ual (Uab (Ufk P Γ N c p l cs bs st) m s) (λe s=>K e (left (writes c) cs bs st s))=some r ->
   RS E P W0 n0 (st.d++D) ρ0 ρ (head (writes c) cs bs st s) a w->HLe st.h (head (writes c) cs bs st s).h->(∀k,k<st.h.length->ρ k=ρs k) ->
   ∃m',m=m'+1/\WpX mn ro P c (Exit.hop l (Ud6 mn ro P (.seq .skip c) l (HopQ E P W0 n0 D ρ0 K r Wt ρt stt) m') (HopQ E P W0 n0 D ρ0 K r Wt ρt stt)) a w
 |0,s,ρ,a,w,hr,_,_,_=>by simp[Uab,Ual]at hr
 | m+1,s,ρ,a,w,hr,hR,hhl,hren=>by
  rw[Uab]at hr;refine⟨m,rfl,?_⟩;have moreE:∀{o:Option LS} {s':LS},Uat (X:=Exit×LS) o=some (.more s')->o=some s':=λ{o s'} h=>by cases o<;>cases h;rfl
  have moreN:∀{o:Option LS} {x:Exit×LS},Uat (X:=Exit×LS) o=some (.done x)->False:=λ{o x} h=>by cases o<;>cases h
  have doneE:∀{o:Option LS} {e:Exit} {x:Exit×LS},Uaq e o=some (.done x)->∃s',o=some s'/\x=(e,s'):=λ{o e x} h=>by cases o<;>cases h;exact⟨_,rfl,rfl⟩
  have doneN:∀{o:Option LS} {e:Exit} {s':LS},Uaq e o=some (.more s')->False:=λ{o e s'} h=>by cases o<;>cases h
  cases hs':Ufk P Γ N c p l cs bs st s with
  |none=>rw[hs']at hr;simp[Ual]at hr
  | some x=>
   rw[hs']at hr;cases x with
   | more s'=>
    dsimp only at hr;refine WpX.mono (body s _ ρ a w hs' hR) ?_;rintro e a' w' ⟨ρ',st',hk,hR',hE⟩;cases e with
    | goto l'=>
     simp only[Ufi]at hk;cases hb:jB l' l with
     |false=>rw[hb]at hk;cases hk
     |true=>
      rw[hb]at hk;obtain⟨rfl,h1,h2,h3⟩:=Ye0 (moreE hk);obtain⟨hR2,hhl2⟩:=Zl0 hR hR' hE hhl h1 h2 h3;obtain⟨m',rfl,hrec⟩:=Zzg hcs hWt hEt body m _ ρ' a' w' hr hR2 hhl2 λk hk'=>(hE.ren k (by rw[show (head (writes c) cs bs st s).h.length=st.h.length from Zag _ _ _];exact hk')).trans (hren k hk')
      exact⟨jL hb,Zan (Zeb hrec)⟩
    |normal=>exact(doneN hk).elim
    |exit id=>exact(doneN hk).elim
    |ret=>exact(doneN hk).elim
    |panic ch=>cases hk
    |outgrown=>cases hk
   | done x=>
    simp only[Ual]at hr;refine WpX.mono (body s _ ρ a w hs' hR) ?_;rintro e a' w' ⟨ρ',st',hk,hR',hE⟩;have fin:Uaq e (tail st.h.length cs bs st')=some (.done x)->HopQ E P W0 n0 D ρ0 K r Wt ρt stt e a' w':=λh=>by
     obtain⟨s',hs,rfl⟩:=doneE h;obtain⟨rfl,h1,h2,h3⟩:=Ye0 hs;obtain⟨hR2,hhl2⟩:=Zl0 hR hR' hE hhl h1 h2 h3;obtain⟨h4,h5⟩:=Ztj hcs hR2 hhl2 λk hk'=>(hE.ren k (by rw[show (head (writes c) cs bs st s).h.length=st.h.length from Zag _ _ _];exact hk')).trans (hren k hk')
     exact⟨ρ',_,hr,h4,hEt.trans (h5.mono hWt hEt.hlen)⟩
    cases e with
    |goto l'=>
     simp only[Ufi]at hk;cases hb:jB l' l with
     |false=>rw[hb]at hk;cases hk
     |true=>rw[hb]at hk;exact(moreN hk).elim
    |normal=>exact fin hk
    |exit id=>exact fin hk
    |ret=>exact fin hk
    |panic ch=>cases hk
    |outgrown=>cases hk
theorem Zyt (hm:P.follows .mixedOrders=true) (hΓ:ConsOkX mn P (Uah mn P) Γ) (hW:ro=none) {W0:World} {n0:Nat} {ρ0:Nat→Ad} {α:Type} {K:Exit→St→Option α} {r:α} {D E:List Nat} {Wt:List Nat} {ρt:Nat→Ad} {stt:St} (hKg:∀ l st,K (.goto l) st=none) {j:JD} :
  ∀(c:Code) (p:Plan) (ρ:Nat->Ad) (st:St) (a:Act) (w:World),jd c p=some j->(∀x∈writes c,x∈Wt)->veSc P Γ N c p α st K=some r->RS E P W0 n0 D ρ0 ρ st a w->Ext Wt stt.h.length ρt ρ stt st ->
   WpX mn ro P c (Exit.hop j.l (Ud6 mn ro P (.seq .skip j.z) j.l (HopQ E P W0 n0 D ρ0 K r Wt ρt stt) N) (HopQ E P W0 n0 D ρ0 K r Wt ρt stt)) a w
 | .seq x y,.two p q,ρ,st,a,w,hj,hWc,hr,hR,hEt=>by
  simp only[jd]at hj;split at hj
  ·rename_i j' hjy;cases hb:(findLabel x j'.l).isNone with
   |false=>rw[hb]at hj;cases hj
   |true=>rw[hb]at hj;cases hj;rw[veSc]at hr;refine Zan (WpX.mono (Zbi hm hΓ x p ro (.inl hW) E W0 n0 ρ0 α st _ r D ρ a w hr hR) ?_);rintro e a1 w1 ⟨ρ1,st1,hk,hR1,hE1⟩;have hE2:=hEt.trans (hE1.mono (λi hi=>hWc i (jC _ hi)) hEt.hlen);cases e with|normal=>exact Zyt hm hΓ hW hKg y q ρ1 st1 a1 w1 hjy (λi hi=>hWc i (jK _ hi)) hk hR1 hE2|goto l=>exact absurd hk (by rw[show kSeq (veSc P Γ N y q α) K (.goto l) st1=K (.goto l) st1 from rfl,hKg];simp)|exit id=>exact⟨ρ1,st1,hk,hR1,hE2⟩|ret=>exact⟨ρ1,st1,hk,hR1,hE2⟩|panic ch=>exact⟨ρ1,st1,hk,hR1,hE2⟩|outgrown=>exact⟨ρ1,st1,hk,hR1,hE2⟩
  ·cases hj
 | .seq x y,.jump l cs bs p q,ρ,st,a,w,hj,hWc,hr,hR,hEt=>by
  simp only[jd]at hj;split at hj
  ·rename_i z hz;cases hb:(findLabel x l).isNone with
   |false=>rw[hb]at hj;cases hj
   | true=>
    rw[hb]at hj;cases hj;rw[veSc]at hr;rw[hz]at hr;dsimp only at hr|-
    have hy:=Yd9 hz;cases hcs:cs.all (Uai · (writes z)) with
    |false=>rw[hcs]at hr;cases hr
    | true=>
     rw[hcs,Q1]at hr;refine Zan (WpX.mono (Zbi hm hΓ x p ro (.inl hW) E W0 n0 ρ0 α st _ r D ρ a w hr hR) ?_);rintro e a1 w1 ⟨ρ1,st1,hk,hR1,hE1⟩;have hE2:=hEt.trans (hE1.mono (λi hi=>hWc i (jC _ hi)) hEt.hlen);cases e with
     | normal=>
      simp only[kSeq]at hk;have hwz:∀i∈writes z,i∈Wt:=λi hi=>hWc i (jK _ (by rw[hy];exact jK _ hi))
      obtain⟨hR0,hhl0⟩:=Zi1 (W:=writes z) (cs:=cs) (bs:=bs) hR1;obtain⟨N',hN,hrounds⟩:=Zzg (P:=P) (Γ:=Γ) (mn:=mn) (ro:=ro) (N:=N) (W0:=W0) (n0:=n0) (D:=D) (ρ0:=ρ0) hcs (p:=q) (l:=l) hwz hE2 (λs r' ρ a w h1 h2=>Zbi hm hΓ z q ro (.inl hW) E W0 n0 ρ0 _ _ _ r' (st1.d++D) ρ a w h1 h2) N _ ρ1 a1 w1 hk hR0 hhl0 (λ_ _=>rfl)
      -- the first round, from the label itself
      show WpX mn ro P y _ a1 w1
      rw[hy];generalize hQ:HopQ E P W0 n0 D ρ0 K r Wt ρt stt=Q at hrounds|-
      refine Zan (Ydu ?_)
      show WpX mn ro P z _ a1 w1
      have hN2:∀(m:Nat) (a:Act) (w:World),Ud6 mn ro P (.seq .skip z) l Q m a w->Ud6 mn ro P (.seq .skip z) l Q (m+1) a w:=by
       intro m
       induction m with
       |zero=>intro a w h;exact h.elim
       |succ m ih=>intro a w h;refine WpX.mono h ?_;intro e a' w' he;cases e with|goto l'=>exact⟨he.1,ih a' w' he.2⟩|_=>exact he
      refine WpX.mono hrounds λe a' w' he=> ?_
      cases e with|goto l'=>exact⟨he.1,by have:=hN2 _ a' w' he.2;rw[<- hN]at this;exact this⟩|_=>exact he
     |goto l'=>exact absurd hk (by simp only[kSeq];rw[hKg];simp)
     |exit id=>exact⟨ρ1,st1,hk,hR1,hE2⟩
     |ret=>exact⟨ρ1,st1,hk,hR1,hE2⟩
     |panic ch=>exact⟨ρ1,st1,hk,hR1,hE2⟩
     |outgrown=>exact⟨ρ1,st1,hk,hR1,hE2⟩
  ·cases hj
 |.seq x y,.one,_,_,_,_,hj,_,_,_,_ | .seq x y,.loop _ _ _,_,_,_,_,hj,_,_,_,_ | .seq x y,.loopG _ _ _ _ _,_,_,_,_,hj,_,_,_,_ | .seq x y,.loopR _ _ _,_,_,_,_,hj,_,_,_,_ | .seq x y,.loopGR _ _ _ _ _,_,_,_,_,hj,_,_,_,_ | .seq x y,.iter _ _,_,_,_,_,hj,_,_,_,_ | .seq x y,.sc _,_,_,_,_,hj,_,_,_,_=>by simp[jd]at hj
 |.skip,_,_,_,_,_,hj,_,_,_,_ | .region _ _ _,_,_,_,_,_,hj,_,_,_,_ | .cond _ _ _,_,_,_,_,_,hj,_,_,_,_ | .block _ _,_,_,_,_,_,hj,_,_,_,_ | .loop _,_,_,_,_,_,hj,_,_,_,_ | .rangeFunc _ _ _ _,_,_,_,_,_,hj,_,_,_,_ | .exit _,_,_,_,_,_,hj,_,_,_,_ | .scope _,_,_,_,_,_,hj,_,_,_,_ | .label _,_,_,_,_,_,hj,_,_,_,_ | .goto _,_,_,_,_,_,hj,_,_,_,_ | .ret,_,_,_,_,_,hj,_,_,_,_ | .refuse _,_,_,_,_,_,hj,_,_,_,_=>by simp[jd]at hj
theorem Ybe(hm:P.follows .mixedOrders=true)(hΓ:ConsOkX mn P (Uah mn P) Γ)(hW:ro=none){W0:World}{n0:Nat}{ρ0:Nat->Ad}{α:Type}{K:Exit->St->Option α}{r:α}{D E:List Nat}:
  ∀(c:Code) (p:Plan) (ρ:Nat->Ad) (st:St) (a:Act) (w:World),veF P Γ N c p α st K=some r->RS E P W0 n0 D ρ0 ρ st a w ->
   WpX mn ro P c (λe a' w'=>∃ρ' st',K e st'=some r/\RS E P W0 n0 D ρ0 ρ' st' a' w'/\Ext (writes c) st.h.length ρ ρ' st st') a w
 | .seq x y,.two p q,ρ,st,a,w,hr,hR=>by
  rw[veF]at hr;refine Zan (WpX.mono (Zbi hm hΓ x p ro (.inl hW) E W0 n0 ρ0 α st _ r D ρ a w hr hR) ?_);rintro e a1 w1 ⟨ρ1,st1,hk,hR1,hE1⟩;cases e with
  |normal=>refine WpX.mono (Ybe hm hΓ hW y q ρ1 st1 a1 w1 hk hR1) ?_;rintro e2 a2 w2 ⟨ρ2,st2,hk2,hR2,hE2⟩;exact⟨ρ2,st2,hk2,hR2,Yjo hE1 hE2⟩
  |exit id=>exact⟨ρ1,st1,hk,hR1,hE1.mono (λ_ h=>jC _ h) (jF _)⟩
  |goto l=>exact⟨ρ1,st1,hk,hR1,hE1.mono (λ_ h=>jC _ h) (jF _)⟩
  |ret=>exact⟨ρ1,st1,hk,hR1,hE1.mono (λ_ h=>jC _ h) (jF _)⟩
  |panic ch=>exact⟨ρ1,st1,hk,hR1,hE1.mono (λ_ h=>jC _ h) (jF _)⟩
  |outgrown=>exact⟨ρ1,st1,hk,hR1,hE1.mono (λ_ h=>jC _ h) (jF _)⟩
 | .scope x,p,ρ,st,a,w,hr,hR=>by
  rw[veF]at hr;split at hr
  ·rename_i j hj;refine Yak (Yjf hj) (m:=N) ?_;have:=Zyt (K:=Uei K) (ρt:=ρ) (stt:=st) (Wt:=writes x) hm hΓ hW (λl st=>rfl) x p ρ st a w hj (λ_ h=>h) hr hR (.refl _ _ _ _);have up:∀(e:Exit) (a':Act) (w':World),HopQ E P W0 n0 D ρ0 (Uei K) r (writes x) ρ st e a' w'->∃ρ' st',K e st'=some r/\RS E P W0 n0 D ρ0 ρ' st' a' w'/\Ext (writes (.scope x)) st.h.length ρ ρ' st st':=λe a' w' ⟨ρ',st',h1,h2,h3⟩=>⟨ρ',st',Yj9 h1,h2,h3⟩
   have hops:∀(m:Nat) (a:Act) (w:World),Ud6 mn ro P (.seq .skip j.z) j.l (HopQ E P W0 n0 D ρ0 (Uei K) r (writes x) ρ st) m a w->Ud6 mn ro P (.seq .skip j.z) j.l (λe a' w'=>∃ρ' st',K e st'=some r/\RS E P W0 n0 D ρ0 ρ' st' a' w'/\Ext (writes (.scope x)) st.h.length ρ ρ' st st') m a w:=by
    intro m
    induction m with
    |zero=>intro a w h;exact h.elim
    |succ m ih=>
     intro a w h;refine WpX.mono h λe a' w' he=> ?_
     cases e with|goto l'=>exact⟨he.1,ih a' w' he.2⟩|_=>exact up _ _ _ he
   refine WpX.mono this λe a' w' he=> ?_
   cases e with|goto l'=>exact⟨he.1,hops _ a' w' he.2⟩|_=>exact up _ _ _ he
  ·cases hr
 |.seq x y,.one,_,_,_,_,hr,_ | .seq x y,.loop _ _ _,_,_,_,_,hr,_ | .seq x y,.loopG _ _ _ _ _,_,_,_,_,hr,_ | .seq x y,.loopR _ _ _,_,_,_,_,hr,_ | .seq x y,.loopGR _ _ _ _ _,_,_,_,_,hr,_ | .seq x y,.iter _ _,_,_,_,_,hr,_ | .seq x y,.sc _,_,_,_,_,hr,_ | .seq x y,.jump _ _ _ _ _,_,_,_,_,hr,_=>by simp[veF]at hr
 |.skip,_,_,_,_,_,hr,_ | .region _ _ _,_,_,_,_,_,hr,_ | .cond _ _ _,_,_,_,_,_,hr,_ | .block _ _,_,_,_,_,_,hr,_ | .loop _,_,_,_,_,_,hr,_ | .rangeFunc _ _ _ _,_,_,_,_,_,hr,_ | .exit _,_,_,_,_,_,hr,_ | .label _,_,_,_,_,_,hr,_ | .goto _,_,_,_,_,_,hr,_ | .ret,_,_,_,_,_,hr,_ | .refuse _,_,_,_,_,_,hr,_=>by simp[veF]at hr
theorem Yh3(hm:P.follows .mixedOrders=true)(hΓ:ConsOkX mn P (Uah mn P) Γ)(hW:ro=none){W0:World}{n0:Nat}{ρ0:Nat->Ad}{α:Type}{K:Exit->St->Option α}{r:α}{D E:List Nat}
  (c:Code) (p:Plan) (ρ:Nat→Ad) (st:St) (a:Act) (w:World) (hr:veT P Γ N c p α st K=some r) (hR:RS E P W0 n0 D ρ0 ρ st a w) :
   WpX mn ro P c (λe a' w'=>∃ρ' st',K e st'=some r/\RS E P W0 n0 D ρ0 ρ' st' a' w'/\Ext (writes c) st.h.length ρ ρ' st st') a w:=by
 cases p with|sc p=>exact Ybe hm hΓ hW c p ρ st a w hr hR|_=>exact Zbi hm hΓ c _ ro (.inl hW) E W0 n0 ρ0 α st K r D ρ a w hr hR
end
end
section
variable {mn:Md}
section
variable {P:Program} {Γ:Cons} {N:Nat}
def Ucq(P:Program)(fn:Func)(tmps:Array Value)(R:Value->World->Prop)(ds:List Deferred)(v:World):Prop:=
 ∃W0,DefOk W0 ds v/\∀wx:World,Kept (λk=>W0.heap.size<=k) v wx->(∀(k:Nat) o,v.heap[k]?=some o->isDf o=false->wx.heap[k]?=some o)->∃r,(results fn tmps).run P wx=.ok r wx/\R r wx
theorem Zjd(fn:Func)(tmps:Array Value):Simple P (results fn tmps):=by
 unfold results;refine .bind (Zvt _ (λr=> ?_) _) λ_=>.pure _
 cases r with|tmp t=>exact .pure _|cell a t=>exact .bind (Yb3 _) λ_=>Zqv _ _
theorem Yey{fr:Frame}{cs:List Frame}{w w':World}{m:Nat}{ds:List Deferred}{es:Array Event}(hm:fr.mode=.returning)(hd:fr.defers={ target:=.collected m,args:=#[] }::ds)(hr:(Instr.takeDeferred m).runT P w #[]=(.ok [] w',es)):
  stepG P mn.main (gr fr cs) w=.go (gr { fr with defers:=ds } cs) w' (seen P fr.fn es):=by
 simp[gr,stepG,unwind,hm,hd,hr,GStep.after,-Sem.runT_eq]
theorem Zvu{Pr:Gh->World->Goroutine->Prop}(hC:Closed P mn.main Pr){f:FuncId}{fn:Func}(hf:P.funcs[f]?=some fn){tmps:Array Value}{R:Value->World->Prop}{cs:List Frame}
  (hQ:∀v' fr,fr.fn=f->Ucu P fr R v'->∀G' w',FitM mn G' w'->Ge v' (view G' w')->Pr G' w' (gr fr cs)) :
  ∀(ds:List Deferred) (fr:Frame) (v:World),fr.fn=f->fr.mode=.returning->fr.kind=.normal->fr.tmps=tmps->fr.defers=ds->Ucq P fn tmps R ds v->∀(G:Gh) (w:World),FitM mn G w->Ge v (view G w)->Pr G w (gr fr cs)
 | [],fr,v,h1,h2,h3,h4,h5,⟨W0,_,hl⟩,G,w,hfit,hv=>hQ v fr h1 ⟨h2,h5,h3,fn,by rw [h1];exact hf,fun v₁ hg=>by
   obtain⟨r,q1,q2⟩:=hl v₁ (hg.kept _) λk o hk _=>hg.at hk
   exact⟨r,by rw[h4];exact(Zjd fn tmps).tr q1,q2⟩⟩ G w hfit hv
 | d::ds,fr,v,h1,h2,h3,h4,h5,⟨W0,hd,hl⟩,G,w,hfit,hv=>by
  refine hC.step G w _ hfit rfl λw₁ hr₁=> ?_
  have hf₁:=hfit.rely hr₁;have hg₁:=hv.trans (hr₁.view hfit);generalize hv₁:view G w₁=v₁ at hg₁;have hd₁:=hd.same (hg₁.kept _);obtain⟨m,rfl,hm,hb⟩:=hd₁.all d (List.mem_cons_self ..);obtain⟨w₂,es,e1,e2,e3⟩:=Zo4 (P:=P) hb G w₁ hf₁ hv₁ #[];refine⟨_,w₂,_,Yey h2 h5 e1,by simpa using e3.seen fr.fn,?_⟩;have hlt:m<v₁.heap.size:=(jO.1 hb).1;have hk:Kept (λk=>W0.heap.size<=k) v (v₁.putObj m (.deferred none)):=(hg₁.kept _).trans ⟨rfl,rfl,rfl,by simp[World.putObj],λk hk hne=>World.putObj_heap_other (by omega)⟩;have hc:∀k o,v.heap[k]?=some o->isDf o=false->(v₁.putObj m (.deferred none)).heap[k]?=some o:=λk o hc ho=>by
   rw[World.putObj_heap_other (by rintro rfl;rw[hg₁.at hc]at hb;cases hb;cases ho)];exact hg₁.at hc
  have hpw:=List.pairwise_cons.1 hd₁.diff;refine Zvu hC hf hQ ds { fr with defers:=ds } (v₁.putObj m (.deferred none)) h1 h2 h3 h4 rfl ⟨W0,⟨λe he=> ?_,hpw.2⟩,λwx q1 q2=>hl wx (hk.trans (q1.mono λ_ _ h=>h)) λk o hh ho=>q2 k o (hc k o hh ho) ho⟩ _ w₂ (hf₁.did e3) (by rw[<- e2];exact Ge.refl _);obtain⟨q,rfl,h1,h2⟩:=hd₁.all e (List.mem_cons_of_mem _ he);refine⟨q,rfl,h1,?_⟩;rw[World.putObj_heap_other (by rintro rfl;exact hpw.1 _ he _ rfl rfl)];exact h2
theorem Zey{f:FuncId}{fn:Func}(hf:P.funcs[f]?=some fn){c:Code}(hb:fn.body=some c){args:Array Value}{v:World}{R:Value->World->Prop}
  (h:WpX mn none P c (λe a' v'=>(e=.normal\/e=.ret)/\Ucq P fn a'.tmps R a'.defers v') { tmps:=args++jH (fn.ntmps - args.size) undef,defers:=[] } v):Ua4 mn P f args v R:=λPr hC cs G w hfit hv hQ=>by
 let b:Frame:={ fn:=f,tmps:=#[],todo:=[],defers:=[],mode:=.run,kind:=.normal }
 have he:Frame.enter P f args .normal=b.atR { tmps:=args++jH (fn.ntmps - args.size) undef,defers:=[] } [.code c]:=by simp[Frame.enter,Frame.atR,b,hf,hb]
 rw[he];refine h Pr hC b rfl rfl [] cs G w hfit hv λe a' v' hq G' w' hf' hv'=> ?_
 obtain⟨hex,hl⟩:=hq;have fin:∀(k:List Item) (w:World),stepG P mn.main (gr (b.atR a' k) cs) w=.go (gr { b.atR a' k with mode:=.returning } cs) w #[]->True:=λ_ _ _=>trivial
 have go:∀k:List Item,(∀w,stepG P mn.main (gr (b.atR a' k) cs) w=.go (gr { b.atR a' k with mode:=.returning } cs) w #[])->Pr G' w' (gr (b.atR a' k) cs):=λk hs=>
  hC.calm hf' rfl hs λw₁ hf₁ hg=>Zvu hC hf hQ a'.defers _ v' rfl rfl rfl rfl rfl hl G' w₁ hf₁ (hv'.trans hg)
 rcases hex with rfl|rfl
 ·exact go [] λw=>by simp[gr,stepG,stepG.exec,Frame.atR,b]
 ·exact λk₁=>go _ λw=>by simp[gr,stepG,stepG.exec,Frame.atR,b]
theorem funX_ok (hm:P.follows .mixedOrders=true) (hΓ:ConsOkX mn P (Uah mn P) Γ) {f:FuncId} {fn:Func} (hf:P.funcs[f]? = some fn) {c:Code} (hb:fn.body=some c) {res:List ResultVar} (hres:fn.results.toList=res) {nt:Nat} (hnt:fn.ntmps=nt) (p:Plan) :
  Uad mn P f (funV P Γ N res nt c p):=by
 intro ρ h w args vals r ef hno hr hA hH;refine Zey hf hb ?_;have hlen:args.length=vals.length:=hA.1
 have hR:R P w h.length [] ρ ρ (entry nt args h) { tmps:=vals.toArray++jH (fn.ntmps - vals.toArray.size) undef,defers:=[] } w:=by
  refine⟨by simp[entry,hlen,hnt],λi v hv=> ?_,hH,λ_ _=>rfl,λk hk hp=> ?_,Kept.refl _ w,λn len C e _ h=>absurd h (hno n len C e),DefOk.nil _ _,jF _⟩
  ·simp only[entry]at hv|-
   by_cases hi:i<args.length
   ·rw[jQ (by simpa using hi),List.getElem?_map,jJ hi]at hv;simp only[jS,Q8]at hv;subst hv;have:(vals.toArray++jH (fn.ntmps - vals.toArray.size) undef).getD i undef=vals[i]'(by omega):=by
     rw[jW,Array.getElem?_append_left (by simp;omega)];simp[show i<vals.length by omega]
    rw[this];exact hA.2 i _ _ (jJ hi) (jJ (by omega))
   ·rw[List.getElem?_append_right (by simp;omega),List.getElem?_replicate]at hv;split at hv
    ·cases hv;have:(vals.toArray++jH (fn.ntmps - vals.toArray.size) undef).getD i undef=undef:=by
      rw[jW,Array.getElem?_append_right (by simp;omega),Array.getElem?_replicate];split<;>rfl
     rw[this];rfl
    ·cases hv
  ·exfalso;cases hp with|row e=>have:=(jE.1 e).1;simp only[entry]at this;omega|one e=>have:=(jE.1 e).1;simp only[entry]at this;omega|mp e=>have:=(jE.1 e).1;simp only[entry]at this;omega|own e _ _=>have:=(jE.1 e).1;simp only[entry]at this;omega
 refine WpX.mono (Yh3 hm hΓ rfl c p ρ _ _ w hr hR) ?_;rintro e a' w' ⟨ρ',st',hk,hR',hE⟩
 have key:finA P h res st'=some (r,ef,true) →
   Ucq P fn a'.tmps (λv w'=>Ua5 P ρ h w r ef v w') a'.defers w':=by
  intro hk;unfold finA at hk;cases hcl:Uer h.length st'.d with
  | false=>
   rw[hcl]at hk;simp only[Q2]at hk;cases hv0:ansW P st' res with
   |none=>rw[hv0]at hk;cases hk
   |some vv0=>
   cases hfirst:Ueo h.length st'.d with
   |none=>rw[hv0,hfirst]at hk;cases hk
   |some m=>
   rw[hv0,hfirst]at hk;dsimp only at hk;cases hone:oneD h.length m st'.d with
   |false=>rw[hone]at hk;cases hk
   |true=>
   rw[hone]at hk;simp only[Q1]at hk;have hmlt:=Yek hfirst;have hρ:ρ' m=ρ m:=hE.ren m hmlt;have hk0:Kept (λk=>k=(ρ m).a) w w':=hR'.keptR.mono λk _ ⟨q,h1,h2,h3⟩=>by
    rcases h2 with h2|h2
    ·rw[<- h3,Ygl hone q h2 h1]
    ·cases h2
   have hkx2:∀wx:World,Kept (λk=>w.heap.size<=k) w' wx->Kept (λk=>k=(ρ m).a) w wx:=λwx hkx=>
    ⟨hkx.os.trans hk0.os,hkx.tape.trans hk0.tape,hkx.output.trans hk0.output,jM hk0.size hkx.size,λk hk he=>(hkx.block k (jR hk hk0.size) (by omega)).trans (hk0.block k hk he)⟩
   have hresW:∀ wx:World,Kept (fun k=>w.heap.size≤k) w' wx→(∀ (k:Nat) o,w'.heap[k]? = some o→isDf o=false→wx.heap[k]? = some o)→∃ v,(results fn a'.tmps).run P wx = .ok v wx∧IsV P ρ h vv0 v:=fun wx hkx hcx=>by
    cases hre:res with
    |nil=>rw[hre]at hv0;simp only[ansW,Q8]at hv0;subst hv0;rw[hre]at hres;exact⟨undef,by simp[results,Array.toList_eq_nil_iff.1 hres];rfl,rfl⟩
    | cons r0 l0=>
     rw[hre]at hv0;simp only[ansW]at hv0;split at hv0
     ·rename_i ys hys;cases hd:ys.all dataR with
      |false=>rw[hd]at hv0;cases hv0
      | true=>
       rw[hd]at hv0;simp only[Q1,Q8]at hv0;subst hv0;have hHx:HIs P ρ' st'.h wx:=⟨λn b hb=>(hR'.heap.is n b hb).world' hkx.size (λg c t fr hc=>hcx _ _ hc rfl) (λc t fr hc=>hcx _ _ hc rfl) λ_ _ hc=>hcx _ _ hc rfl,hR'.heap.inj,hR'.heap.far⟩;obtain⟨vs,hrun2,hall⟩:=Zeu hR'.slots hHx (fn:=fn) (by rw[hres,hre];exact hys);have hall2:Uav P ρ h ys vs:=by refine⟨hall.1,λi y v hy hv=> ?_⟩;rw[jI]at hd;have h1:=hall.2 i y v hy hv;have h2:=hd y (jU hy);cases y<;>first|exact h1|cases h2
       refine⟨_,hrun2,?_⟩
       match ys,vs,hall2 with|[],[],h2=>exact⟨[],rfl,h2⟩|[y],[v],h2=>exact h2.2 0 y v rfl rfl|y::z::l,v::u::vs,h2=>refine⟨v::u::vs,?_,h2⟩;rw[dif_neg (by simp)]|[],v::vs,h2=>exact absurd h2.1 (by simp)|[y],[],h2=>exact absurd h2.1 (by simp)|[y],v::u::vs,h2=>exact absurd h2.1 (by simp)|y::z::l,[],h2=>exact absurd h2.1 (by simp)|y::z::l,[v],h2=>exact absurd h2.1 (by simp)
     ·cases hv0
   split at hk
   ·rename_i C t C0 t0 hmt hm0;cases hbt:jB t t0 with
    |false=>rw[hbt]at hk;cases hk
    |true=>rw[hbt]at hk;obtain rfl:=jL hbt;simp only[Q1,Q8,Q0]at hk;obtain⟨rfl,rfl,-⟩:=hk;refine⟨_,hR'.defers,λwx hkx hcx=> ?_⟩;obtain⟨v,hrun,hiv⟩:=hresW wx hkx hcx;refine⟨v,hrun,hiv,.inl ⟨_,_,_,hm0,rfl⟩,hkx2 wx hkx,?_⟩;have hB:=(hR'.heap.is m _ hmt).row;rw[hρ]at hB;exact⟨hcx _ _ hB.1 rfl,hB.2⟩
   ·rename_i len C e0 len0 C0 e1 hmt hm0;cases hbl:jG 0 len with
    |false=>rw[hbl]at hk;cases hk
    | true=>
     rw[hbl]at hk;simp only[Q1,Q8,Q0]at hk;obtain⟨rfl,rfl,-⟩:=hk;have hl0:1<=len:=by simpa [jG] using hbl
     obtain⟨rfl,rfl⟩:len0=len/\e1=e0:=by
      rcases(hE.hle m).sl _ _ _ _ hm0 with ⟨C',h1⟩ | ⟨h1,_⟩
      ·rw[hmt]at h1;cases h1;exact⟨rfl,rfl⟩
      ·cases h1
     refine⟨_,hR'.defers,λwx hkx hcx=> ?_⟩;obtain⟨v,hrun,hiv⟩:=hresW wx hkx hcx;refine⟨v,hrun,hiv,.inr (.inl ⟨_,_,_,_,_,rfl,hm0,rfl,by omega⟩),hkx2 wx hkx,?_⟩;have hB:=hR'.heap.is m _ hmt;rw[hρ]at hB;exact BIs.world' (b:=.sl .lent _ C _) ⟨hB.1,hB.2⟩ hkx.size (λg c t fr hc=>hcx _ _ hc rfl) (λc t fr hc=>hcx _ _ hc rfl) λ_ _ hc=>hcx _ _ hc rfl
   ·cases hk
  | true=>
   rw[hcl]at hk;simp only[Q1]at hk;split at hk
   ·rename_i l hl;cases hrl:l.all (Ubx h.length) with
    | false=>
     rw[hrl]at hk;simp only[Q2]at hk;unfold newRes at hk;split at hk
     ·rename_i i m hfst;obtain⟨-,hli,hml⟩:=Ya7 hfst;rw[Nat.sub_zero]at hli;split at hk
      ·rename_i len C e hm;have hkept0:Kept (λ_=>False) w w':=hR'.keptR.mono λk _ ⟨m,h1,h2,_⟩=>by
        rcases h2 with h2|h2
        ·have:=Zi4 hcl m h2;omega
        ·cases h2
       cases hb1:jB l.length 1 with
       | true=>
        rw[hb1]at hk;simp only[Q1,Q8,Q0]at hk;obtain⟨rfl,rfl,-⟩:=hk;refine⟨_,hR'.defers,λwx hkx hcx=> ?_⟩;have hHx:HIs P ρ' st'.h wx:=⟨λn b hb=>(hR'.heap.is n b hb).world' hkx.size (λg c t fr hc=>hcx _ _ hc rfl) (λc t fr hc=>hcx _ _ hc rfl) λ_ _ hc=>hcx _ _ hc rfl,hR'.heap.inj,hR'.heap.far⟩;obtain⟨vs,hrun2,hall⟩:=Zeu hR'.slots hHx (fn:=fn) (by rw[hres];exact hl);have hkept:Kept (λ_=>False) w wx:=⟨hkx.os.trans hkept0.os,hkx.tape.trans hkept0.tape,hkx.output.trans hkept0.output,jM hkept0.size hkx.size,λk hk he=>(hkx.block k (jR hk hkept0.size) (by omega)).trans (hkept0.block k hk he)⟩;have h1l:=jL hb1
        match l,vs,h1l,hall,hrun2,hli with
        |[y],[v],_,hall,hrun2,hli=>
         have hi0:i=0:=by have:=(jE.1 hli).1;simp at this;exact this
         subst hi0;simp only[List.getElem?_cons_zero,Q8]at hli;subst hli;obtain⟨ad,cap,h2,h3,h4⟩:=Is.l_of (hall.2 0 _ v rfl rfl) hm;refine⟨v,hrun2,ρ' m,ad,cap,h2,⟨(h4 rfl).1,λh0=>⟨h3 h0,(h4 rfl).2 h0⟩⟩,λh0=>hR'.freshR m hml (.own hm rfl h0),hkept,?_⟩;exact hHx.is m _ hm
        |[y],[],_,hall,_,_=>exact absurd hall.1 (by simp)
        |[y],_::_::_,_,hall,_,_=>exact absurd hall.1 (by simp)
       | false=>
        rw[hb1]at hk;simp only[Q2]at hk;cases hra0:(l.set i .x).all (Ubx h.length) && !Nat.ble 1000000 i with
        |false=>rw[hra0]at hk;cases hk
        | true=>
         rw[hra0]at hk;obtain⟨hra,hlen0⟩:=Bool.and_eq_true_iff.1 hra0;simp only[Q1,Q8,Q0]at hk;obtain⟨rfl,rfl,-⟩:=hk;refine⟨_,hR'.defers,λwx hkx hcx=> ?_⟩;have hHx:HIs P ρ' st'.h wx:=⟨λn b hb=>(hR'.heap.is n b hb).world' hkx.size (λg c t fr hc=>hcx _ _ hc rfl) (λc t fr hc=>hcx _ _ hc rfl) λ_ _ hc=>hcx _ _ hc rfl,hR'.heap.inj,hR'.heap.far⟩;obtain⟨vs,hrun2,hall⟩:=Zeu hR'.slots hHx (fn:=fn) (by rw[hres];exact hl);have hkept:Kept (λ_=>False) w wx:=⟨hkx.os.trans hkept0.os,hkx.tape.trans hkept0.tape,hkx.output.trans hkept0.output,jM hkept0.size hkx.size,λk hk he=>(hkx.block k (jR hk hkept0.size) (by omega)).trans (hkept0.block k hk he)⟩;have hne1:vs.toArray.size≠1:=by rw[List.size_toArray,<- hall.1];intro e;rw[e]at hb1;cases hb1
         rw[dif_neg hne1]at hrun2;have hilt:=(jE.1 hli).1;have hvi:=jJ (show i<vs.length by rw[<- hall.1];exact hilt);obtain⟨ad,cap,h2,h3,h4⟩:=Is.l_of (hall.2 i _ _ hli hvi) hm;have hh:∀k,k<h.length->h[k]?=st'.h[k]?:=λk hk=>by
          refine(hE.heap k hk λhd=> ?_).symm;have:=Zi4 hcl k hd;omega
         have hall2:Uav P ρ h (l.set i .x) vs:=by
          refine⟨by simpa using hall.1,λk y v hy hv=> ?_⟩
          by_cases e:i=k
          ·subst e;rw[List.getElem?_set_self hilt]at hy;cases hy;trivial
          ·have hy':=hy;rw[List.getElem?_set_ne e]at hy;rw[jI]at hra;have h1:=(hall.2 k y v hy hv).cut hh (hra y (jU hy'));exact h1.mono (HLe.refl _) λk hk=>(hE.ren k (Zpv hk)).symm
         have hismall:Nat.ble 1000000 i=false:=by cases hbi:Nat.ble 1000000 i with|false=>rfl|true=>rw[hbi]at hlen0;cases hlen0
         refine⟨_,hrun2,ρ' m,ad,cap,by simp only[Uej,hismall,Q2];exact⟨_,vs,rfl,rfl,hall2,by rw[hvi,h2]⟩,⟨(h4 rfl).1,λh0=>⟨h3 h0,(h4 rfl).2 h0⟩⟩,λh0=>hR'.freshR m hml (.own hm rfl h0),hkept,?_⟩;exact hHx.is m _ hm
      ·cases hk
     ·unfold Ugg at hk;split at hk
      ·rename_i m hfst;obtain⟨hml,j0,D0,T0,ns0,i0,hj0,hi0⟩:=Yaz hfst;split at hk
       ·rename_i len C e hm;cases hok:Nat.ble h.length 1000000&&l.all (okH h.length m) with
        |false=>rw[hok]at hk;cases hk
        |true=>
        rw[hok]at hk;simp only[Q1,Q8,Q0]at hk;obtain⟨rfl,rfl,-⟩:=hk;obtain⟨hsm,hok⟩:=Bool.and_eq_true_iff.1 hok;have hsm:=jT hsm;have hkept0:Kept (λ_=>False) w w':=hR'.keptR.mono λk _ ⟨m,h1,h2,_⟩=>by
         rcases h2 with h2|h2
         ·have:=Zi4 hcl m h2;omega
         ·cases h2
        refine⟨_,hR'.defers,λwx hkx hcx=> ?_⟩;have hHx:HIs P ρ' st'.h wx:=⟨λn b hb=>(hR'.heap.is n b hb).world' hkx.size (λg c t fr hc=>hcx _ _ hc rfl) (λc t fr hc=>hcx _ _ hc rfl) λ_ _ hc=>hcx _ _ hc rfl,hR'.heap.inj,hR'.heap.far⟩;obtain⟨vs,hrun2,hall⟩:=Zeu hR'.slots hHx (fn:=fn) (by rw[hres];exact hl);have hkept:Kept (λ_=>False) w wx:=⟨hkx.os.trans hkept0.os,hkx.tape.trans hkept0.tape,hkx.output.trans hkept0.output,jM hkept0.size hkx.size,λk hk he=>(hkx.block k (jR hk hkept0.size) (by omega)).trans (hkept0.block k hk he)⟩;have hj0lt:j0<vs.length:=by rw[<- hall.1];exact(jE.1 hj0).1
        obtain⟨D0',-,-,hR0⟩:=hall.2 j0 _ _ hj0 (jJ hj0lt);obtain⟨-,ad,l0,c0,-,hIL⟩:=hR0.refs i0 m (Ycs hR0.uniq hi0);obtain⟨ad',cap',h2,h3,h4⟩:=Is.l_of (P:=P) hIL hm;cases h2;have hh:∀k,k<h.length->h[k]?=st'.h[k]?:=λk hk=>by
         refine(hE.heap k hk λhd=> ?_).symm;have:=Zi4 hcl k hd;omega
        refine⟨_,hrun2,ρ' m,ad,c0,?_,⟨(h4 rfl).1,λh0=>⟨h3 h0,(h4 rfl).2 h0⟩⟩,λh0=>hR'.freshR m hml (.own hm rfl h0),hkept,hHx.is m _ hm⟩;have e1:Nat.ble 1000000 1000000=true:=rfl;simp only[Uej,e1,Q1];intro ρ2 h2 id hle2 hren2 hsl2 hid;exact Ykw (hole_all hm hh (λk hk=>(hE.ren k (Zpv hk)).symm) hsm hml hok hall hIL hle2 hren2 hid)
       ·cases hk
      ·cases hk
    | true=>
     rw[hrl]at hk;simp only[Q1,Q8,Q0]at hk;obtain⟨rfl,rfl,-⟩:=hk;refine⟨_,hR'.defers,λwx hkx hcx=> ?_⟩;have hHx:HIs P ρ' st'.h wx:=⟨λn b hb=>(hR'.heap.is n b hb).world' hkx.size (λg c t fr hc=>hcx _ _ hc rfl) (λc t fr hc=>hcx _ _ hc rfl) λ_ _ hc=>hcx _ _ hc rfl,hR'.heap.inj,hR'.heap.far⟩;obtain⟨vs,hrun2,hall⟩:=Zeu hR'.slots hHx (fn:=fn) (by rw[hres];exact hl);have hh:∀k,k<h.length->h[k]?=st'.h[k]?:=λk hk=>by
      refine(hE.heap k hk λhd=> ?_).symm;have:=Zi4 hcl k hd;omega
     have hall2:Uav P ρ h l vs:=by refine⟨hall.1,λi y v hy hv=> ?_⟩;rw[jI]at hrl;have h1:=(hall.2 i y v hy hv).cut hh (hrl y (jU hy));exact h1.mono (HLe.refl _) λk hk=>(hE.ren k (Zpv hk)).symm
     have hkept0:Kept (λ_=>False) w w':=hR'.keptR.mono λk _ ⟨m,h1,h2,_⟩=>by
      rcases h2 with h2|h2
      ·have:=Zi4 hcl m h2;omega
      ·cases h2
     have hkept:Kept (λ_=>False) w wx:=⟨hkx.os.trans hkept0.os,hkx.tape.trans hkept0.tape,hkx.output.trans hkept0.output,jM hkept0.size hkx.size,λk hk he=>(hkx.block k (jR hk hkept0.size) (by omega)).trans (hkept0.block k hk he)⟩;refine⟨_,hrun2,?_,hkept⟩
     match l,vs,hall2 with|[],[],h2=>exact⟨[],rfl,h2⟩|[y],[v],h2=>exact h2.2 0 y v rfl rfl|y::z::l,v::u::vs,h2=>refine⟨v::u::vs,?_,h2⟩;rw[dif_neg (by simp)]|[],v::vs,h2=>exact absurd h2.1 (by simp)|[y],[],h2=>exact absurd h2.1 (by simp)|[y],v::u::vs,h2=>exact absurd h2.1 (by simp)|y::z::l,[],h2=>exact absurd h2.1 (by simp)|y::z::l,[v],h2=>exact absurd h2.1 (by simp)
   ·cases hk
 cases e with
 |normal=>exact⟨.inl rfl,key hk⟩
 |ret=>exact⟨.inr rfl,key hk⟩
 |exit id=>cases hk
 |goto l=>cases hk
 |panic ch=>cases hk
 |outgrown=>cases hk
theorem ansX_ok(hm:P.follows .mixedOrders=true)(hΓ:ConsOkX mn P (Uah mn P) Γ){f:FuncId}{fn:Func}(hf:P.funcs[f]?=some fn)(hb:fn.body.isNone=false)(l:List (List Nat×List Nat)):
  Uad mn P f (ansV P Γ N fn l):=by
 cases hc:fn.body with
 |none=>rw[hc]at hb;cases hb
 |some c=>
  have:codeOf fn=c:=by unfold codeOf;rw[hc]
  exact λρ h w args vals r e hr hA hH=>funX_ok hm hΓ hf (by rw[hc,this]) rfl rfl _ ρ h w args vals r e hr hA hH
theorem ansY(g:ConsOkX mn P (Uah mn P) Γ){f:FuncId}(fn:Func)(l:List (List Nat×List Nat))(hm:P.follows .mixedOrders=true:=by kernel_rfl)(hf:P.funcs[f]?=some fn:=by kernel_rfl)(hb:fn.body.isNone=false:=by kernel_rfl):
  Uad mn P f (ansV P Γ N fn l):=ansX_ok hm g hf hb l
end
end
section
variable {mn:Md}
section
variable {P:Program} {Γ:Cons} {N:Nat}
theorem mKn:ConsOkX mn P (Uah mn P) (mkΓ []):=by refine⟨λ_ _=>Zt7,?_,?_,?_,?_,?_⟩<;>(intro f F h;cases h)
theorem mkΓx_nilX:ConsOkX mn P (Uah mn P) (mkΓx [] [] []):=mKn
theorem mKw{s:List (FuncId×SCon)}{g:FuncId}{G:Con}{c:List (FuncId×Con)}{n:List (FuncId×NCon)}{i:List (FuncId×ICon)}(h1:Ubh mn P g G)(h2:EntX P g)(h3:ConsOkX mn P (Uah mn P) (mkΓw s c n i)):ConsOkX mn P (Uah mn P) (mkΓw s ((g,G)::c) n i):=⟨h3.e,λf F h=>by
 simp only[mkΓw,Ufb]at h;cases hb:jB f g with
 |true=>rw[hb]at h;obtain rfl:=jL hb;cases h;exact⟨h1,h2⟩
 |false=>rw[hb]at h;exact h3.c f F h,h3.n,h3.i,h3.s,h3.m⟩
theorem mkΓw_nX{s:List (FuncId×SCon)}{g:FuncId}{G:NCon}{c:List (FuncId×Con)}{n:List (FuncId×NCon)}{i:List (FuncId×ICon)}(h1:Ubp mn P g G)(h2:EntX P g)(h3:ConsOkX mn P (Uah mn P) (mkΓw s c n i)):ConsOkX mn P (Uah mn P) (mkΓw s c ((g,G)::n) i):=⟨h3.e,h3.c,λf F h=>by
 simp only[mkΓw,Ufb]at h;cases hb:jB f g with
 |true=>rw[hb]at h;obtain rfl:=jL hb;cases h;exact⟨h1,h2⟩
 |false=>rw[hb]at h;exact h3.n f F h,h3.i,h3.s,h3.m⟩
theorem mkΓw_iX{s:List (FuncId×SCon)}{g:FuncId}{G:ICon}{c:List (FuncId×Con)}{n:List (FuncId×NCon)}{i:List (FuncId×ICon)}(h1:Uah mn P g G)(h2:EntX P g)(h3:ConsOkX mn P (Uah mn P) (mkΓw s c n i)):ConsOkX mn P (Uah mn P) (mkΓw s c n ((g,G)::i)):=⟨h3.e,h3.c,h3.n,λf F h=>by
 simp only[mkΓw,Ve.look]at h;cases hb:jB f g with
 |true=>rw[hb]at h;obtain rfl:=jL hb;cases h;exact⟨h1,h2⟩
 |false=>rw[hb]at h;exact h3.i f F h,h3.s,h3.m⟩
theorem mkΓw_sX{s:List (FuncId×SCon)}{g:FuncId}{G:SCon}{c:List (FuncId×Con)}{n:List (FuncId×NCon)}{i:List (FuncId×ICon)}(h1:Ubh mn P g (λargs h=>Uaf (G args h)))(h2:EntX P g)(h3:ConsOkX mn P (Uah mn P) (mkΓw s c n i)):ConsOkX mn P (Uah mn P) (mkΓw ((g,G)::s) c n i):=⟨h3.e,h3.c,h3.n,h3.i,λf F h=>by
 simp only[mkΓw,Ufb]at h;cases hb:jB f g with
 |true=>rw[hb]at h;obtain rfl:=jL hb;cases h;exact⟨h1,h2⟩
 |false=>rw[hb]at h;exact h3.s f F h,h3.m⟩
theorem mKx{g:FuncId}{G:Con}{c:List (FuncId×Con)}{n:List (FuncId×NCon)}{i:List (FuncId×ICon)}(h1:Ubh mn P g G)(h2:EntX P g)(h3:ConsOkX mn P (Uah mn P) (mkΓx c n i)):ConsOkX mn P (Uah mn P) (mkΓx ((g,G)::c) n i):=mKw h1 h2 h3
theorem mkΓx_nX{g:FuncId}{G:NCon}{c:List (FuncId×Con)}{n:List (FuncId×NCon)}{i:List (FuncId×ICon)}(h1:Ubp mn P g G)(h2:EntX P g)(h3:ConsOkX mn P (Uah mn P) (mkΓx c n i)):ConsOkX mn P (Uah mn P) (mkΓx c ((g,G)::n) i):=mkΓw_nX h1 h2 h3
theorem mkΓx_iX{g:FuncId}{G:ICon}{c:List (FuncId×Con)}{n:List (FuncId×NCon)}{i:List (FuncId×ICon)}(h1:Uah mn P g G)(h2:EntX P g)(h3:ConsOkX mn P (Uah mn P) (mkΓx c n i)):ConsOkX mn P (Uah mn P) (mkΓx c n ((g,G)::i)):=mkΓw_iX h1 h2 h3
theorem mKc{g:FuncId}{G:Con}{r:List (FuncId×Con)}(h1:Ubh mn P g G)(h2:EntX P g)(h3:ConsOkX mn P (Uah mn P) (mkΓ r)):ConsOkX mn P (Uah mn P) (mkΓ ((g,G)::r)):=mKx h1 h2 h3
theorem Uad.of{f:FuncId}{G G':Con}(h:Uad mn P f G)(hle:∀ρ h w args vals r e,Uav P ρ h args vals->HIs P ρ h w->G' args h=some (r,e,true)->G args h=some (r,e,true)):Uad mn P f G':=
 λρ hh w args vals r e hn hr hA hH=>h ρ hh w args vals r e hn (hle ρ hh w args vals r e hA hH hr) hA hH
theorem Yc7 {gl wr:Bool} {f:FuncId} {G:Con} (hG:Uad mn P f G):Ubh mn P f (conX gl wr G):=by
 intro ρ h w args vals r e hr hA hH;unfold conX wrapL at hr;cases hok:Udb (ld gl h).length args&&Ua9 (ld gl h++Uau args++Uba h (Uau args)) with
 |false=>rw[hok]at hr;cases hr
 | true=>
  rw[hok]at hr;simp only[Q7]at hok;simp only[Q1]at hr;split at hr
  ·rename_i h1 h2 hrows hsls;have hpre:∀n∈ld gl h,∀y t,h[n]?≠some (.one y t):=λn hn y t e=>by
    obtain⟨i,hi⟩:=List.mem_iff_getElem?.1 hn;obtain⟨q1,g,t',a,x,q2⟩:=Yjg (jE.1 hi).1;rw[q1]at hi;cases hi;rw[q2]at e;cases e
   obtain⟨hlen,hget⟩:=lent_get hpre hrows hsls;generalize hh':h1++h2=h' at hr hlen hget;generalize hidsE:ld gl h++Uau args++Uba h (Uau args)=ids at hlen hget hok;have hsub:∀(k n:Nat),(ld gl h++Uau args)[k]?=some n->ids[k]?=some n:=λk n hk=>by
    rw[<- hidsE,jQ (jE.1 hk).1];exact hk
   have hgl:∀n,n<(ld gl h).length->h'[n]?=h[n]?:=λn hn=>by
    obtain⟨h1,g,t,a,x,h2⟩:=Yjg hn;obtain⟨b,b',h3,h4,h5⟩:=hget n n (hsub n n (by rw[jQ hn];exact h1));rw[h2]at h3;cases h3;cases h5;rw[h4,h2]
   have hgl':∀n,n<(ld gl h).length->h[n]?=h'[n]?:=λn hn=>(hgl n hn).symm
   have hA':=Zpt (P:=P) (h':=h') (ρ:=ρ) hgl hget args vals (ld gl h) hok.1 hsub hA;have idx0:∀{k:Nat} {b:VB},h'[k]?=some b->∃n b0,ids[k]?=some n/\h[n]?=some b0/\LB wr ids b0 b:=λ{k b} hb=>by
    have hk:k<ids.length:=by rw[<- hlen];exact(jE.1 hb).1
    obtain⟨bb,bb',h1,h2,h3⟩:=hget k _ (jJ hk);rw[h2]at hb;cases hb;exact⟨_,bb,jJ hk,h1,h3⟩
   have idxS:∀{k:Nat} {a:SlK} {len:Nat} {C:Array Value} {t:TypeId},h'[k]?=some (.sl a len C t)->∃n a0,ids[k]?=some n/\h[n]?=some (.sl a0 len C t)/\a=lend wr a0:=λ{k a len C t} hb=>by
    obtain⟨n,b0,h1,h2,h3⟩:=idx0 hb;cases h3;exact⟨n,_,h1,h2,rfl⟩
   have hno:NoOwn h':=λk len C e hk=>by
    obtain⟨n,a0,_,_,h3⟩:=idxS hk;exact lend_own h3.symm
   have hH':HIs P (λk=>ρ (ids.getD k 0)) h' w:=by
    have out:∀{k:Nat},present h' k->∃n,ids[k]?=some n/\present h n:=λ{k} hp=>by
     cases hp with
     |row e=>obtain⟨n,b0,h1,h2,h3⟩:=idx0 e;cases h3;exact⟨n,h1,.row h2⟩
     |one e=>obtain⟨n,b0,h1,h2,h3⟩:=idx0 e;cases h3<;>exact⟨n,h1,.one h2⟩
     |mp e=>obtain⟨n,b0,h1,h2,h3⟩:=idx0 e;cases h3<;>exact⟨n,h1,.one h2⟩
     |own e hk h0=>obtain⟨n,a0,h1,h2,h3⟩:=idxS e;exact⟨n,h1,.own h2 (by rw[<- Zze,<- h3];exact hk) h0⟩
    refine⟨λk b hb=> ?_,λk q hp hq e=> ?_,λk b x h1 h2 m hp=> ?_⟩
    ·obtain⟨n,b0,q1,q2,q3⟩:=idx0 hb;have hB:=hH.is n _ q2;cases q3 with
     |row C t=>simp only[Zhu q1];exact hB
     |gl g t a x=>exact hB
     |sl a len C t=>simp only[Zhu q1];exact⟨by rw[Zxo];exact hB.1,λh=>hB.2 (Yfa h)⟩
     |oneR D t' t hren=>simp only[Zhu q1];obtain⟨v,⟨D',rfl,hW,hR⟩,hg⟩:=hB;exact⟨_,⟨D',rfl,hW,hR.lent hget hren⟩,hg⟩
     |oneL t hk=>simp only[Zhu q1];obtain⟨v,hv,hg⟩:=hB;exact⟨v,Yb4 (P:=P) hget hk hv,hg⟩
     |oneV y t=>simp only[Zhu q1];obtain⟨v,hv,hg⟩:=hB;exact⟨v,hv,hg⟩
    ·obtain⟨n,h1,h2⟩:=out hp;obtain⟨m,h3,h4⟩:=out hq;simp only[Zhu h1,Zhu h3]at e;have:=hH.inj n m h2 h4 e;subst this;exact Ybp hok.2 k q n h1 h3
    ·obtain⟨n,b0,h3,h4,h5⟩:=idx0 h1;obtain⟨m',h6,h7⟩:=out hp;simp only[Zhu h6];refine hH.far n b0 x h4 ?_ m' h7;cases h5 with|sl a len C e=>exact Yi2 (b:=.sl a len C e) h2|gl g t a x=>exact h2|_=>exact h2.elim
   split at hr
   ·rename_i r' g hGr;cases hd:Ufr (ld gl h).length r' with
    | false=>
     rw[hd]at hr;simp only[Q2]at hr;split at hr
     ·rename_i r2 hm;simp only[Q8,Q0]at hr;obtain⟨rfl,rfl,rfl⟩:=hr;have hm':mapV (ld gl h).length ids r'=some r2:=Yi1 hsub hm;refine(hG _ h' w _ vals _ _ hno hGr hA' hH').mono ?_;rintro v w' ⟨hi,hk⟩;exact⟨mapV_is hgl' hget hm' hi,hk⟩
     ·cases hr
    |true=>rw[hd]at hr;simp only[Q1,Q8,Q0]at hr;obtain⟨rfl,rfl,rfl⟩:=hr;refine(hG _ h' w _ vals _ _ hno hGr hA' hH').mono ?_;rintro v w' ⟨hi,hk⟩;exact⟨Yck hgl' hd hi,hk⟩
   ·rename_i r' m b g hGr;cases hd:Ufr (ld gl h).length r' with
    |false=>rw[hd]at hr;cases hr
    |true=>
    rw[hd,Q1]at hr;split at hr
    ·rename_i q hq;have hq:=hsub _ _ hq;split at hr
     ·rename_i b' hb';simp only[Q8,Q0]at hr;obtain⟨rfl,rfl,rfl⟩:=hr;refine(hG _ h' w _ vals _ _ hno hGr hA' hH').mono ?_;rintro v w' ⟨hv,hkp,hk,hB⟩;simp only[Zhu hq]at hk hB;rcases hkp with ⟨C,t,D,hrow,rfl⟩ | ⟨k,len,C,t,D,hmk,hrow,rfl,h0⟩ | ⟨y,t,y',hrow,rfl⟩ | ⟨E,c,E',c',hrow,rfl⟩
      ·obtain⟨n,b0,h1,h2,h3⟩:=idx0 hrow;cases h3;rw[hq]at h1;cases h1;rw[h2]at hb';cases hb';exact⟨Yck hgl' hd hv,.inl ⟨_,_,_,h2,rfl⟩,hk,hB⟩
      ·obtain⟨n,a0,h1,h2,h3⟩:=idxS hrow;rw[hq]at h1;cases h1;rw[h2]at hb';cases hb';subst h3;exact⟨Yck hgl' hd hv,.inr (.inl ⟨_,_,_,_,_,Yfa hmk,h2,rfl,h0⟩),hk,⟨by rw[<- Zxo wr];exact hB.1,λ_ hl=>hB.2 hmk hl⟩⟩
      ·exfalso;cases hq2:h[q]? with
       |none=>rw[hq2]at hb';cases hb'
       |some b0=>rw[hq2]at hb';cases b0<;>cases hb'
      ·exfalso;cases hq2:h[q]? with
       |none=>rw[hq2]at hb';cases hb'
       |some b0=>rw[hq2]at hb';cases b0<;>cases hb'
     ·cases hr
    ·cases hr
   ·rename_i len C e g hGr;simp only[Q8,Q0]at hr;obtain⟨rfl,rfl,rfl⟩:=hr;refine(hG _ h' w _ vals _ _ hno hGr hA' hH').mono ?_;rintro v w' hE;exact hE
   ·rename_i v0 i len C e g hGr;cases hbig:Nat.ble 1000000 i with
    | true=>
     rw[hbig]at hr;simp only[Q1]at hr;cases hd:Ucj (ld gl h).length v0 with
     |false=>rw[hd]at hr;cases hr
     | true=>
      rw[hd]at hr;simp only[Q1,Q8,Q0]at hr;obtain⟨rfl,rfl,rfl⟩:=hr;refine(hG _ h' w _ vals _ _ hno hGr hA' hH').mono ?_;rintro v w' ⟨g,ad,cap,hN,hE⟩;refine⟨g,ad,cap,?_,hE⟩;simp only[Uej,hbig,Q1]at hN|-
      intro ρ3 h3 id hle3 hren3 hsl3 hid3;obtain⟨a3,l3,C3,e3,hb3⟩:=Zxs hsl3;have hlast:(h'++[VB.sl a3 l3 C3 e3])[h'.length]?=some (.sl a3 l3 C3 e3):=by simp
      refine hole_isV (id2:=h'.length) (ρ2:=λk=>if k=h'.length then ρ3 id else ρ (ids.getD k 0)) (h2:=h'++[.sl a3 l3 C3 e3]) (λn hn=> ?_) (λv hv=> ?_) hd (hN _ _ h'.length (λn=> ?_) (λn hp=>if_neg (λe=> ?_)) (by unfold Ua7;rw[hlast]) ?_)
      ·have hn':n<h'.length:=by rw[hlen,<- hidsE];simp;omega
       rw[jQ hn',hgl n hn];obtain⟨h1,g',t,a,x,h2⟩:=Yjg hn;rw[h2];exact(hle3 n).gl _ _ _ _ h2
      ·rcases hv with hv | ⟨a,l,C',e',ad',cap',q1,q2,q3,q4⟩
       ·rw[hlast]at hv;cases hv
       ·rw[hlast]at q1;cases q1;simp only[adOf,if_true]at q3 q4;exact .inr ⟨_,_,_,_,ad',cap',hb3,q2,q3,q4⟩
      ·by_cases hn:n<h'.length
       ·exact .same (jQ hn)
       ·refine⟨λC t k=> ?_,λy t k=> ?_,λ_ _ C _ k=> ?_,λk=> ?_,λ_ _ _ _ k=> ?_,λ_ _ k=> ?_⟩<;>(rw[List.getElem?_eq_none (by omega)]at k;cases k)
      ·have:=Zpv hp;omega
      ·rcases hid3 with hv | ⟨a,l,C',e',ad',cap',q1,q2,q3,q4⟩
       ·rw[hb3]at hv;cases hv
       ·rw[hb3]at q1;cases q1;exact .inr ⟨_,_,_,_,ad',cap',hlast,q2,by simpa only [adOf,if_true] using q3,by simpa only [if_true] using q4⟩
    |false=>
    rw[hbig]at hr;simp only[Q2]at hr;split at hr
    ·rename_i l;cases hd:l.all (Uf8 (ld gl h).length) with
     |false=>rw[hd]at hr;cases hr
     |true=>rw[hd]at hr;simp only[Q1,Q8,Q0]at hr;obtain⟨rfl,rfl,rfl⟩:=hr;refine(hG _ h' w _ vals _ _ hno hGr hA' hH').mono ?_;rintro v w' ⟨g,ad,cap,hN,hE⟩;simp only[Uej,hbig,Q2]at hN;obtain⟨l',vs,he,hvv,hA2,hi⟩:=hN;cases he;rw[jI]at hd;refine⟨g,ad,cap,?_,hE⟩;simp only[Uej,hbig,Q2];exact⟨l,vs,rfl,hvv,⟨hA2.1,λk y u hy hu=>Ygh hgl' (hd y (jU hy)) (hA2.2 k y u hy hu)⟩,hi⟩
    ·cases hr
   ·cases hr
   ·cases hr
  ·cases hr
theorem conL_okX{wr:Bool}{f:FuncId}{G:Con}(hG:Uad mn P f G):Ubh mn P f (conL wr G):=Yc7 hG
theorem Ykl{gl wr:Bool}{f:FuncId}{S:SCon}(hS:Uad mn P f (λargs h=>Uaf (S args h))):Ubh mn P f (λargs h=>Uaf (conSX gl wr S args h)):=by
 have e:(λargs h=>Uaf (conSX gl wr S args h))=conX gl wr (λargs h=>Uaf (S args h)):=by
  funext args h;unfold conSX conX;cases Udb (ld gl h).length args&&Ua9 (ld gl h++Uau args++Uba h (Uau args)) with
  |false=>rfl
  |true=>
   simp only[Q1];split
   ·rw[Zvh]
   ·rfl
 rw[e];exact Yc7 hS
theorem Zdy{f:FuncId}{G:Con}(hG:Uad mn P f G):Ubh mn P f (conG G):=Yc7 hG
theorem Zmh{f:FuncId}{S:SCon}(hS:Uad mn P f (λargs h=>Uaf (S args h))):Ubh mn P f (λargs h=>Uaf (Ufu S args h)):=Ykl hS
theorem Zah{f:FuncId}{G:Con}(hG:Uad mn P f G):Ubh mn P f (con G):=conL_okX hG
theorem Ygs (hm:P.follows .mixedOrders=true) (hΓ:ConsOkX mn P (Uah mn P) Γ) {f:FuncId} {fn:Func} (hf:P.funcs[f]? = some fn) (hb:fn.body.isNone=false) (l:List (List Nat×List Nat)) :
  Ubp mn P f (ansN P Γ N fn l):=by
 cases hc:fn.body with
 |none=>rw[hc]at hb;cases hb
 |some c=>
 have hco:codeOf fn=c:=by unfold codeOf;rw[hc]
 intro ρ h w args vals cc hr hA hH _;unfold ansN at hr;cases hd:args.all Ud3 with
 |false=>rw[hd]at hr;cases hr
 |true=>
 rw[hd,hco]at hr;simp only[Q1]at hr;rw[jI]at hd;refine Zey hf hc ?_;have hlen:args.length=vals.length:=hA.1;have hA0:Uav P ρ [] args vals:=⟨hA.1,λi y v hy hv=>Ycm (hd y (jU hy)) (hA.2 i y v hy hv)⟩
 have hR:R P w 0 [] ρ ρ (entry fn.ntmps args []) { tmps:=vals.toArray++jH (fn.ntmps - vals.toArray.size) undef,defers:=[] } w:=by
  refine⟨by simp[entry,hlen],λi v hv=> ?_,⟨λn b hb=>by simp[entry]at hb,λn m hp=> ?_,λn b k h1=>by simp[entry]at h1⟩,λ_ h=>absurd h (Nat.not_lt_zero _),λk hk hp=> ?_,Kept.refl _ w,λn _ _ _ h=>absurd h (Nat.not_lt_zero _),DefOk.nil _ _,Nat.zero_le _⟩
  ·simp only[entry]at hv|-
   by_cases hi:i<args.length
   ·rw[jQ (by simpa using hi),List.getElem?_map,jJ hi]at hv;simp only[jS,Q8]at hv;subst hv;have:(vals.toArray++jH (fn.ntmps - vals.toArray.size) undef).getD i undef=vals[i]'(by omega):=by
     rw[jW,Array.getElem?_append_left (by simp;omega)];simp[show i<vals.length by omega]
    rw[this];exact hA0.2 i _ _ (jJ hi) (jJ (by omega))
   ·rw[List.getElem?_append_right (by simp;omega),List.getElem?_replicate]at hv;split at hv
    ·cases hv;have:(vals.toArray++jH (fn.ntmps - vals.toArray.size) undef).getD i undef=undef:=by
      rw[jW,Array.getElem?_append_right (by simp;omega),Array.getElem?_replicate];split<;>rfl
     rw[this];rfl
    ·cases hv
  ·exfalso;cases hp with|row e=>simp[entry]at e|one e=>simp[entry]at e|mp e=>simp[entry]at e|own e _ _=>simp[entry]at e
  ·exfalso;cases hp with|row e=>simp[entry]at e|one e=>simp[entry]at e|mp e=>simp[entry]at e|own e _ _=>simp[entry]at e
 refine WpX.mono (Zbi hm hΓ c _ none (.inl rfl) [] w 0 ρ _ _ _ cc [] ρ _ w hr hR) ?_;rintro e a' w' ⟨ρ',st',hk,hR',hE⟩
 have key:finN P fn.results.toList st'=some cc →
   Ucq P fn a'.tmps (Uc8 P ρ h w cc) a'.defers w':=by
  intro hk;unfold finN at hk;split at hk
  ·rename_i f' ns hl;cases hnd:Ua9 ns with
   |false=>rw[hnd]at hk;cases hk
   | true=>
    rw[hnd]at hk;simp only[Q1]at hk;split at hk
    ·rename_i rs hrs;cases hk;obtain⟨hrl,hrow⟩:=Ybi hrs;refine⟨_,hR'.defers,λwx hkx hcx=> ?_⟩;have hHx:HIs P ρ' st'.h wx:=⟨λn b hb=>(hR'.heap.is n b hb).world' hkx.size (λg c t fr hc=>hcx _ _ hc rfl) (λc t fr hc=>hcx _ _ hc rfl) λ_ _ hc=>hcx _ _ hc rfl,hR'.heap.inj,hR'.heap.far⟩;obtain⟨vs,hrun,hall⟩:=Zeu hR'.slots hHx hl
     match vs,hall,hrun with
     | [v],hall,hrun2=>
      obtain⟨hv,hpr⟩:=hall.2 0 _ v rfl rfl;have hkept:Kept (λ_=>False) w w':=hR'.keptR.mono λk _ ⟨m,h1,_⟩=>absurd h1 (Nat.not_lt_zero _)
      refine⟨v,hrun2,ns.map (λn=>(ρ' n).a),?_,by simp[hrl],?_,λj g r hj hr=> ?_,?_⟩
      ·rw[hv,List.map_map];rfl
      ·exact Ydb (Zel hnd) λa ha b hb e=>hR'.heap.inj a b (hpr a ha).present (hpr b hb).present e
      ·rw[List.getElem?_map]at hj;cases hn:ns[j]? with
       |none=>rw[hn]at hj;cases hj
       |some n=>rw[hn]at hj;simp only[jS,Q8]at hj;subst hj;have hb:=hrow j n r hn hr;obtain⟨q1,q2⟩:=(hHx.is n _ hb);exact⟨hR'.freshR n (Nat.zero_le _) (.row hb),q1,q2⟩
      ·exact⟨hkx.os.trans hkept.os,hkx.tape.trans hkept.tape,hkx.output.trans hkept.output,jM hkept.size hkx.size,λk hk he=>(hkx.block k (jR hk hkept.size) (by omega)).trans (hkept.block k hk he)⟩
     |[],hall,_=>exact absurd hall.1 (by simp)
     |_::_::_,hall,_=>exact absurd hall.1 (by simp)
    ·cases hk
  ·cases hk
 cases e with
 |normal=>exact⟨.inl rfl,key hk⟩
 |ret=>exact⟨.inr rfl,key hk⟩
 |exit id=>cases hk
 |goto l=>cases hk
 |panic ch=>cases hk
 |outgrown=>cases hk
theorem Ubp.of{f:FuncId}{G G':NCon}(h:Ubp mn P f G)(hle:∀ρ h args vals c,Uav P ρ h args vals->G' args=some c->G args=some c):Ubp mn P f G':=
 λρ hh w args vals c hr hA hH hb=>h ρ hh w args vals c (hle ρ hh args vals c hA hr) hA hH hb
end
end
section
variable {mn:Md}
abbrev Ue6:Md:=⟨false,λ_=>none⟩
def lastB(ops:Array Oper)(s:Nat):Nat->Array Bool->Bool
 |0,listed=>Region.ready .any ops.pop listed==[]&&(Region.ready .any ops (listed.push false)==[s]&&Region.ready .any ops ((listed.push false).setIfInBounds s true)==[])
 |fuel+1,listed=>Region.ready .any ops (listed.push false)==Region.ready .any ops.pop listed&&(!(Region.ready .any ops.pop listed).isEmpty&&(Region.ready .any ops.pop listed).all λi=>decide (i<listed.size)&&lastB ops s fuel (listed.setIfInBounds i true))
theorem Ygj{ops:Array Oper}{fuel t:Nat}{listed:Array Bool}{i:Nat}(hi:(Region.ready .any ops listed)[t % (Region.ready .any ops listed).length]?=some i):
  Region.linearise.go .any ops (fuel+1) t listed []=i::Region.linearise.go .any ops fuel (t / (Region.ready .any ops listed).length) (listed.setIfInBounds i true) []:=by
 simp only[Region.linearise.go];change (match (Region.ready .any ops listed)[t % (Region.ready .any ops listed).length]? with
   |some i=>Region.linearise.go .any ops fuel (t / (Region.ready .any ops listed).length) (listed.setIfInBounds i true) [i]
   |none=>[].reverse)=_
 rw[hi];simp only[];rw[linearise_go_acc,List.reverse_singleton,List.singleton_append]
theorem Yg2{listed:Array Bool}{i:Nat}(hi:i<listed.size)(x b:Bool):(listed.push b).setIfInBounds i x=(listed.setIfInBounds i x).push b:=by
 apply Array.ext_getElem?;intro j;rw[Array.getElem?_push,Array.getElem?_setIfInBounds,Array.getElem?_push,Array.getElem?_setIfInBounds];simp only[Array.size_setIfInBounds,Array.size_push]
 by_cases hj:j=listed.size
 ·subst hj;rw[if_neg (by omega),if_pos rfl,if_pos rfl]
 ·rw[if_neg hj,if_neg hj]
  by_cases hij:i=j
  ·subst hij;rw[if_pos rfl,if_pos rfl,if_pos (by omega),if_pos hi]
  ·rw[if_neg hij,if_neg hij]
theorem Yev{rs:List Nat}(h:rs.isEmpty=false)(t:Nat):∃i,rs[t % rs.length]?=some i/\i∈rs:=by
 have hl:0<rs.length:=by cases rs with
  |nil=>cases h
  |cons a l=>simp
 exact⟨rs[t % rs.length]'(Nat.mod_lt _ hl),jJ (Nat.mod_lt _ hl),List.getElem_mem _⟩
theorem Yfy{ops:Array Oper}{s:Nat}:∀(fuel t:Nat) (listed:Array Bool),lastB ops s fuel listed=true ->
  Region.linearise.go .any ops (fuel+1) t (listed.push false) []=(Region.linearise.go .any ops (fuel+1) t (listed.push false) []).dropLast++[s]
 |0,t,listed,h=>by
  simp only[lastB,Q7,beq_iff_eq]at h;obtain⟨h1,h2,h3⟩:=h;have hi:(Region.ready .any ops (listed.push false))[t % (Region.ready .any ops (listed.push false)).length]?=some s:=by rw[h2];simp[Nat.mod_one]
  rw[Ygj hi];simp[Region.linearise.go]
 |fuel+1,t,listed,h=>by
  simp only[lastB,Q7,beq_iff_eq,jI,jP,decide_eq_true_eq]at h;obtain⟨h1,h2,h3⟩:=h;obtain⟨i,hi,him⟩:=Yev h2 t;rw[<- h1]at hi;obtain⟨h4,h5⟩:=h3 i him;rw[Ygj hi,Yg2 h4];have ih:=Yfy fuel (t / (Region.ready .any ops (listed.push false)).length) (listed.setIfInBounds i true) h5;generalize Region.linearise.go .any ops (fuel+1) (t / (Region.ready .any ops (listed.push false)).length) ((listed.setIfInBounds i true).push false) []=L at ih;rw[ih,<- List.cons_append,List.dropLast_concat]
theorem Yc6{P:Program}{ops:Array Oper}{s:Nat}(hs:ops.size=s+1)(hg:∀o∈ops,o.guard=none){K:Act->World->Prop}:∀(fuel t:Nat) (listed:Array Bool) (a:Act) (v:World),listed.size=s->lastB ops s fuel listed=true ->
  AnyX mn P ops.pop K fuel listed a v->OpsX mn P ops K (Region.linearise.go .any ops (fuel+1) t (listed.push false) []).dropLast a v
 |0,t,listed,a,v,hl,h,hX=>by
  simp only[lastB,Q7,beq_iff_eq]at h;obtain⟨h1,h2,h3⟩:=h;have hi:(Region.ready .any ops (listed.push false))[t % (Region.ready .any ops (listed.push false)).length]?=some s:=by rw[h2];simp[Nat.mod_one]
  rw[Ygj hi]
  simpa [Region.linearise.go,OpsX] using hX.2
 | fuel+1,t,listed,a,v,hl,h,hX=>by
  simp only[lastB,Q7,beq_iff_eq,jI,jP,decide_eq_true_eq]at h;obtain⟨h1,h2,h3⟩:=h;obtain⟨i,hi,him⟩:=Yev h2 t;have hX':=hX.2 i him;have e1:=h1;rw[<- h1]at hi;obtain⟨h4,h5⟩:=h3 i him;rw[Ygj hi,Yg2 h4,Yfy fuel _ _ h5,<- List.cons_append,List.dropLast_concat,OpsX];have hops:ops.pop[i]?=ops[i]?:=by rw[Array.getElem?_pop,if_pos (by omega)]
  have hw:∀o,ops[i]?=some o->∀y,Region.wanted o y=true:=λo ho y=>by
   unfold Region.wanted;rw[hg o (Array.mem_of_getElem? ho)]
  unfold OpIX at hX'|-
  rw[hops]at hX';cases ho:ops[i]? with
  |none=>rw[ho]at hX';exact Yc6 hs hg fuel _ _ a v (by simpa using hl) h5 hX'
  |some o=>
   rw[ho]at hX';dsimp only at hX'|-
   rw[if_pos (hw o ho _)]at hX'|-
   exact hX'.mono λa v hk=>Yc6 hs hg fuel _ _ a v (by simpa using hl) h5 hk
theorem Yh0{P:Program}{c:Nat}{vv:Value}:Closed P false (GoW P c vv) where
 step:=λG w g hf hr h=>.step G w g hf hr (λw₁ h₁=>let ⟨g',w',es,q1,q2,_⟩:=h w₁ h₁;⟨g',w',es,q1,q2⟩) λw₁ h₁ g' w' es hs=>by
  obtain⟨g₂,w₂,es₂,q1,q2,q3⟩:=h w₁ h₁;rw[q1]at hs;cases hs;exact q3
 spawn:=λe=>by cases e
 recv:=λe=>by cases e
abbrev botF(P:Program):Frame:={ (default:Frame) with fn:=P.funcs.size,defers:=[],mode:=.panicking [goexitEntry] }
theorem Yil{P:Program}{b:Frame}{fn:Func}(hf:P.funcs[b.fn]?=some fn)(hr:fn.results=#[])(hk:b.kind=.deferred)(hro:b.roundOf=none){T:Array Value}{ops:Array Oper}:Conc.QuitsIn P 4 (gr (b.atR ⟨T,[]⟩ [.inRegion ops []]) [botF P]):=by
 refine .inr ⟨rfl,_,λw=>Zmq (mn:=Ue6),?_⟩;refine .inr ⟨rfl,gr { b.atR ⟨T,[]⟩ [] with mode:=.returning } [botF P],λw=>by simp[gr,stepG,stepG.exec,Frame.atR,hro],?_⟩;refine .inr ⟨rfl,gr (botF P) [],λw=> ?_,?_⟩
 ·simp[gr,stepG,unwind,doReturn,results,Frame.atR,hf,hr,hk,seen,GStep.after,goexitEntry]
 refine .inr ⟨rfl,{ gr (botF P) [] with status:=.finished },λw=> ?_,rfl⟩;simp[gr,stepG,unwind,goexitEntry,Frame.catches];rfl
theorem sg_comm{P:Program}{b:Frame}{a:Act}{k:List Item}{cs:List Frame}{w:World}{ops:Array Oper}{i:Nat}{rest:List Nat}{o:Oper}{cases:Array CommCase}{bl:Bool}{sh:CommShape}(ho:ops[i]?=some o)(hk:b.kind ≠ .early)
  (hw:Region.wanted o (yielded ops a.tmps)=true) (hd:∀c,o.op ≠ .defer c) (hr:(execOp a.eval o).runT P w #[]=(.ok (.comm cases bl sh) w,#[])) :
  stepG P mn.main (gr (b.atR a (.inRegion ops (i::rest)::k)) cs) w=.comm (gr (b.atR a (.inRegion ops (i::rest)::k)) cs) cases bl sh w #[]:=by
 have hke:(b.kind==CallKind.early)=false:=by simpa using hk
 rw[Ue5 ho hw hd];simp only[stepG.apply,if_true,hr,Frame.atR,hke,Bool.false_eq_true,if_false,GStep.after,gr,Array.append_empty];simp[seen]
theorem sg_born{P:Program}{d:Deferred}{f:FuncId}{args:Array Value}{w:World}(hn:∃x ys,d.target=.fn x ys)(hi:(invoke d.target d.args).runT P w #[]=(.ok (.enter f args) w,#[])):
  stepG P mn.main (Uc9 P d) w=.go (gr (Frame.enter P f args .deferred) [botF P]) w #[]:=by
 obtain⟨x,ys,hn⟩:=hn;obtain⟨tg,as⟩:=d;dsimp only at hn hi;subst hn;simp[stepG,unwind,callDeferred,hi,GStep.after,seen,gr,-Sem.runT_eq]
theorem Yis{P:Program}{f:FuncId}{fn:Func}(hf:P.funcs[f]?=some fn){id:Nat}{ops:Array Oper}(hb:fn.body=some (.region id ops true))(hr:fn.results=#[])(hm:P.follows .mixedOrders=true)
  {s:Nat} (hs:ops.size=s+1) (hg:∀o∈ops,o.guard=none) (hc:lastB ops s s (jH s false)=true) {d:Deferred} {args:Array Value} (hn:∃x ys,d.target=.fn x ys) (hi:∀w,(invoke d.target d.args).runT P w #[]=(.ok (.enter f args) w,#[]))
  {c:Nat} {vv z:Value} {G:Gh} {w:World} (hfit0:Fit G w) (hF:G.F=λ_=>none) {o:Oper} (ho:ops[s]?=some o) (hd:∀c,o.op ≠ .defer c)
  (hX:AnyX Ue6 P ops.pop (λa v=>a.defers=[]/\∀w,(execOp a.eval o).runT P w #[]=(.ok (.comm #[Conc.scase c vv z] true .send) w,#[])) s (jH s false) { tmps:=args++jH (fn.ntmps - args.size) undef,defers:=[] } (view G w)) :
  GoW P c vv G w (Uc9 P d):=by
 have hC:Closed P Ue6.main (GoW P c vv):=Yh0;have hfit:FitM Ue6 G w:=⟨hfit0,hF⟩;refine hC.calm hfit rfl (λw=>sg_born hn (hi w)) λw₁ hf₁ hg₁=> ?_
 let b:Frame:={ fn:=f,tmps:=#[],todo:=[],defers:=[],mode:=.run,kind:=.deferred }
 have he:Frame.enter P f args .deferred=b.atR { tmps:=args++jH (fn.ntmps - args.size) undef,defers:=[] } [.code (.region id ops true)]:=by simp[Frame.enter,Frame.atR,b,hf,hb]
 rw[he];have hbk:b.kind ≠ .early:=by intro e;cases e
 refine hC.step G w₁ _ hf₁.toFit rfl λw₂ hr₂=>⟨_,_,_,Zqz,⟨rfl,rfl,rfl,jF _,λ_ _ _=>rfl,λe he=>by simp at he⟩,?_⟩
 have hf₂:=hf₁.rely hr₂;rw[show G.grow w₂.heap.size ({ w₂ with drawn:=w₂.drawn+1 }:World).heap.size=G from Gh.grow_self G _];simp only[Region.schedule,hm,Bool.true_or,if_true];generalize w₂.tape w₂.drawn (.order b.fn id)=t;have hrep:jH ops.size false=(jH s false).push false:=by rw[hs,Array.replicate_succ]
 have hlin:Region.linearise .any ops t=(Region.linearise.go .any ops (s+1) t ((jH s false).push false) []).dropLast++[s]:=by rw[<- Yfy s t _ hc];unfold Region.linearise;rw[hrep,hs]
 rw[hlin];have hops:=Yc6 (mn:=Ue6) (P:=P) hs hg s t (jH s false) _ _ (by simp) hc hX;refine Zke hC hbk [s] _ _ _ hops G _ (hf₂.drew _) ((hg₁.trans (hr₂.view hf₁.toFit)).trans (by rw[Ye1];exact Yjk _ _)) λa' v' hk G' w' hf' hv'=> ?_
 obtain⟨hdf,hsend⟩:=hk;have hw:Region.wanted o (yielded ops a'.tmps)=true:=by unfold Region.wanted;rw[hg o (Array.mem_of_getElem? ho)]
 refine .stop G' w' _ hf'.toFit ⟨rfl,gr (b.atR a' [.inRegion ops [s]]) [botF P],z,4,?_,λw₃ hr₃=>⟨#[],sg_comm (mn:=Ue6) ho hbk hw hd (hsend w₃),λe he=>by simp at he⟩⟩;have hfin:(b.atR a' [.inRegion ops [s]]).finish undef=b.atR (a'.put o.dst undef) [.inRegion ops []]:=by rw[Frame.finish_atR,ho];rfl
 have hsv:Conc.served (gr (b.atR a' [.inRegion ops [s]]) [botF P]) undef=gr (b.atR (a'.put o.dst undef) [.inRegion ops []]) [botF P]:=by rw[<- hfin];rfl
 rw[hsv];have e2:a'.put o.dst undef=⟨(a'.put o.dst undef).tmps,[]⟩:=by
  have:(a'.put o.dst undef).defers=a'.defers:=by cases o.dst<;>rfl
  rw[hdf]at this;cases hp:a'.put o.dst undef;rw[hp]at this;simp only at this;subst this;rfl
 rw[e2];exact Yil hf hr rfl rfl
end
section
variable {mn:Md}
theorem Yi6{P:Program}{o:Oper}{a:Act}{v:World}{K:Act->World->Prop}{c:Call}{y:Operand}{l:Nat}{R:Value->World->Prop}(ho:o.op=.call c)(hc:c.callee=.value y)(hy:a.eval y=.func (.yield l) #[] #[])
  (h:YieldX mn P l (c.args.map a.eval) v R) (hK:∀r v',R r v'->K (a.put o.dst r) v'):OpX mn P o a v K:=by
 have hns:∀c,o.op ≠ .defer c:=λc hc=>by rw[ho]at hc;cases hc
 have hx:execOp a.eval o=Instr.yield l (c.args.map a.eval):=by
  unfold execOp;rw[ho];simp only[resolve,hc,hy,Deferred.ofValue]
  show Instr.yield l _=_
  congr 1;rw[<- Array.toList_inj];simp
 refine⟨hns,λv₁ h₁=> ?_⟩;obtain⟨f,tmps,assign,body,ht,hr⟩:=h v₁ h₁;exact .inr (.inr (.inr ⟨l,f,tmps,assign,body,v₁,by rw[hx];exact ht,hr.mono λr v' hR=>hK r v' hR⟩))
theorem Zjr{P:Program}{ops:Array Oper}{K:Act->World->Prop}{i:Nat}{rest:List Nat}{a:Act}{v:World}{o:Oper}(ho:ops[i]?=some o)(hg:o.guard=none)(h:OpX mn P o a v (OpsX mn P ops K rest)):OpsX mn P ops K (i::rest) a v:=by unfold OpsX OpIX;rw[ho];dsimp only;rw[if_pos (by unfold Region.wanted;rw[hg])];exact h
section
variable {P:Program} {o:Oper} {a:Act} {v:World} {K:Act->World->Prop}
theorem Yj4{vv:Value}(hns:∀c,o.op ≠ .defer c)(hs:Simple P (execOp a.eval o))(hr:∀v₁,Ge v v₁->(execOp a.eval o).run P v₁=.ok (.value vv) v₁)(h:∀v₁,Ge v v₁->K (a.put o.dst vv) v₁):OpX mn P o a v K:=
 ⟨hns,λv₁ h₁=>.inl ⟨vv,v₁,hs.tr (hr v₁ h₁),h v₁ h₁⟩⟩
theorem Yhk{T:TypeId}{x:Operand}{vv:Value}(ho:o.op=.load T x)(hr:∀v₁,Ge v v₁->(Instr.loadAt T (a.eval x)).run P v₁=.ok vv v₁)(h:∀v₁,Ge v v₁->K (a.put o.dst vv) v₁):OpX mn P o a v K:=
 Yj4 (λc hc=>by rw[ho]at hc;cases hc) (by unfold execOp;rw[ho];exact .bind (Zsp _ _) λ_=>.pure _) (λv₁ h₁=>by unfold execOp;rw[ho];dsimp only;rw[Sem.run_bind,hr v₁ h₁];rfl) h
theorem Zyc{f:FuncId}{args:Array Value}{c:Call}{y:Operand}{R:Value->World->Prop}(ho:o.op=.call c)(hc:c.callee=.value y)(hy:a.eval y=.func (.func f) #[] #[])(he:EntX P f)(hargs:c.args.map a.eval=args)
  (h:∀v₁,Ge v v₁->Ua4 mn P f args v₁ R) (hK:∀r v',R r v'->K (a.put o.dst r) v'):OpX mn P o a v K:=by
 have hx:execOp a.eval o=callFunc f args:=by
  subst hargs;unfold execOp;rw[ho];simp only[resolve,hc,hy,Deferred.ofValue]
  show callFunc f _=_
  congr 1;rw[<- Array.toList_inj];simp
 exact⟨(λc' hc'=>by rw[ho]at hc';cases hc'),λv₁ h₁=>.inr (.inr (.inl ⟨f,args,v₁,by rw[hx];exact(he.2 _).tr (he.1 _ v₁),(h v₁ h₁).mono hK⟩))⟩
end
end
end Go.Proofs.YtefjogahegolbaaDoor.Vc
