/- Codes of the symbolic run, in company. No program is named. -/
import Derived.Test.YtefjogahegolbaaGreatDoorVcB
set_option linter.unusedVariables false
set_option linter.unusedSimpArgs false
open _root_.List renaming mem_append_left->jB,getElem?_eq_some_iff->jC,getElem?_eq_getElem->jF,all_eq_true->jI,mem_append->jJ,mem_append_right->jL,getElem?_append_left->jM,mem_of_getElem?->jO
open _root_.Array renaming replicate->jD,getElem?_eq_some_iff->jP,getD_eq_getD_getElem?->jQ
open _root_.Nat renaming beq->jA,le_refl->jE,blt->jG,eq_of_beq_eq_true->jH,le_trans->jK,lt_of_lt_of_le->jN
open _root_.Go renaming World->QB,Value->QC,Program->QD,TypeId->QE,FuncId->QF,Operand->QH,execOp->QI,Deferred->QK,Frame->QL,Oper->QN,Code->QOq,Exit->QP
namespace Go.Proofs.YtefjogahegolbaaGreatDoor.Vc
open Go.RowKit Go.Conc Go.Proofs.YtefjogahegolbaaGreatDoor.Ve
section
variable {mn:Md}
def Ual(mn:Md)(P:QD)(f:QF)(I:ICon):Prop:=
 ∀ρ h v ns Y,I (getH h ns) h=some Y->Y.ok=true->HIs P ρ h v->(∀n∈ns,∃C t,h[n]?=some (.row C t)) ->
  (∀(A:List Y.X) (x:Y.X),A++[x] <+: Y.xs->∀y∈Y.enc x,known y=true/\Is P ρ h y (Ve.valOf y)) /\
  SeqS (sfOf P h) mn P f (ns.map λm=>Value.pointer (some ⟨ρ m,0,none⟩)).toArray (λx=>((Y.enc x).map Ve.valOf).toArray) (Ub9 ((ns.map λm=>(ρ m).a)++iZ h)) Y.xs v
section
variable {P:QD} {Γ:Cons} {N:Nat} {W0:QB} {n0:Nat} {D E:List Nat} {ρ0:Nat->Ad} {ro:Option Nat}
theorem iU{ops:Array QN}{V:QB}:∀(l:List QN) (i:Nat),ops.toList.drop i=l->∀{m:List (Nat×Nat)},eZ l=some m->∀{a a₀:Act} {v:QB},Ubm m a=a₀->Ge V v ->
  OpsX mn P ops (Exit.then (λa w=>a=a₀/\Ge V w) (λ_ _ _=>False) .normal) (List.range' i l.length) a v
 |[],i,_,m,hm,a,a₀,v,ha,hv=>by
  simp only[eZ,Q8]at hm;subst hm;exact⟨ha,hv⟩
 | o::l,i,hl,m,hm,a,a₀,v,ha,hv=>by
  have ho:ops[i]?=some o:=by
   have:=congrArg (λx=>x[0]?) hl
   simpa using this
  have hl':ops.toList.drop (i+1)=l:=by
   have:=congrArg List.tail hl
   simpa [List.tail_drop] using this
  unfold eZ at hm;split at hm
  ·rename_i heq;cases heq
  ·rename_i d p ty pos aft r heq;obtain⟨rfl,rfl⟩:=List.cons.inj heq;split at hm
   ·rename_i m' hm';cases hm;rw[List.length_cons,List.range'_succ,OpsX];exact fw ho (by simp[Region.wanted]) (pickX (λc hc=>by cases hc) rfl λv₁ hg=>iU _ (i+1) hl' hm' ha (hv.trans hg))
   ·cases hm
  ·cases hm
theorem gC{as:QOq}{l:List (Nat×Nat)}(hl:me as=some l){a:Act}{v:QB}:WpX mn ro P as (Exit.then (λA w=>A=Ubm l a/\Ge v w) λ_ _ _=>False) a v:=by
 unfold me at hl;split at hl
 ·cases hl;exact Zh9 ⟨rfl,Ge.refl _⟩
 ·rename_i id ops;refine Za2 ?_;rw[List.range_eq_range',<- Array.length_toList];exact iU ops.toList 0 rfl hl rfl (Ge.refl _)
 ·cases hl
theorem Ylm(hΓ:ConsOkX mn P (Ual mn P) Γ){g:QH}{ps:Array Tmp}{as x:QOq}{bs:List Nat}{p:Plan}{α:Type}{K:QP->St->Option α}{r:α}{ρ:Nat->Ad}{st:St}{a:Act}{w:QB}
  (body:∀ (l:Nat) (st1:St) (r':Stp BS (QP×BS)) (ρ1:Nat→Ad) (a1:Act) (W:QB),Uay p=true→veC P Γ N x p (Stp BS (QP×BS)) st1 (Uct st.h.length bs)=some r'→R P W st.h.length [] ρ1 ρ1 st1 a1 W →
   WpX mn (some l) P x (λe a' w'=>∃ρ' st',Uct st.h.length bs e st'=some r'/\R P W st.h.length [] ρ1 ρ' st' a' w'/\Ext (writes x) st1.h.length ρ1 ρ' st1 st') a1 W)
  (hr:(match mg Γ st.h (asA (evO st.s g)),me as with
  | some (ns,Y),some l=>
   bif Y.ok then (bif Ubb st.h ns&&Ubb st.h bs&&apart ns bs&&Uay p&&Uc7 st.h then
    fb (Uat (λy hb=>bif jA (Y.enc y).length ps.toList.length then veC P Γ N x p (Stp BS (QP×BS)) (Ucf bs ps.toList l st (Y.enc y) hb) (Uct st.h.length bs) else none) Y.xs (getH st.h bs)) (λhb=>K .normal (Ua2 bs st hb)) (λe hb=>K e (Ua2 bs st hb)) else none) else none
  |_,_=>none)=some r) (hR:RS E P W0 n0 D ρ0 ρ st a w) :
  WpX mn none P (.rangeFunc g ps as x) (λe a' w'=>∃ρ' st',K e st'=some r/\RS E P W0 n0 D ρ0 ρ' st' a' w'/\Ext (writes (.rangeFunc g ps as x)) st.h.length ρ ρ' st st') a w:=by
 split at hr
 case h_2=>cases hr
 rename_i ns Y l hit hasg;cases hyok:Y.ok with
 |false=>rw[hyok]at hr;cases hr
 |true=>
 rw[hyok]at hr;simp only[Q1]at hr;cases hok:Ubb st.h ns&&Ubb st.h bs&&apart ns bs&&Uay p&&Uc7 st.h with
 |false=>rw[hok]at hr;cases hr
 |true=>
 rw[hok]at hr;simp only[Q1]at hr;simp only[Q7]at hok;obtain⟨⟨⟨⟨hns,hbs⟩,hap⟩,hni⟩,hown⟩:=hok;have hown:=Yjh hown;have hns:=oc hns;have hbs:=oc hbs;have hap:=we hap;generalize hstep:(λ(y:Y.X) (hb:BS)=>bif jA (Y.enc y).length ps.toList.length then veC P Γ N x p (Stp BS (QP×BS)) (Ucf bs ps.toList l st (Y.enc y) hb) (Uct st.h.length bs) else none)=step at hr
 -- the iterator
 unfold mg at hit;have hgv:=Zcl (Zq6 hR.slots g);split at hit
 case h_2=>cases hit
 rename_i f ns' hcl;split at hit
 case h_2=>cases hit
 rename_i I hI;split at hit
 case h_2=>cases hit
 rename_i Y' hY;simp only[Q8,Q0]at hit;obtain⟨rfl,rfl⟩:=hit;rw[hcl]at hgv;obtain⟨hgv,-⟩:=hgv;obtain⟨hico,hent⟩:=hΓ.i f I hI;obtain⟨hknown,hseq⟩:=hico ρ st.h w ns' Y' hY hyok hR.heap hns;have hW0:W0.heap.size<=w.heap.size:=hR.kept.size;have hmarks:∀m,({ target:=.collected m,args:=#[] }:QK)∈a.defers->m<w.heap.size:=λm hm=>by
  obtain⟨m',e,_,h2⟩:=hR.defers.all _ hm;cases e;exact(jP.1 h2).1
 let RH:(Nat->Ad)->BS->QB->Prop:=λρ' hb W=>RS E P W0 n0 (st.d++D) ρ0 ρ' { s:=st.s,h:=setMany st.h bs hb,d:=bs } a W/\(∀k,k<st.h.length->ρ' k=ρ k)/\HLe st.h (setMany st.h bs hb)
 have hRHown:∀{ρ' hb W W' row},RH ρ' hb W->W.grownBy W' row->(∀r,row=some r->w.heap.size<=r/\∃o:Obj,W.heap[r]?=some o/\o.isCells=false)->RH ρ' hb W':=
  λh hg hrow=>⟨h.1.grown hg hrow hW0 hmarks,h.2⟩
 have hself:setMany st.h bs (getH st.h bs)=st.h:=by
  refine List.ext_getElem? λi=> ?_
  rw[cy (g:=λc=>st.h.getD c .no) bs _ _ i (Zoh _ _)];split
  ·rename_i h;rw[List.getD_eq_getElem?_getD,jF h.2];rfl
  ·rfl
 have hfin:∀{ρ' hb W} {ds:List QK},RH ρ' hb W->DefOk W0 ds W->RS E P W0 n0 D ρ0 ρ' (Ua2 bs st hb) { a with defers:=ds } W/\Ext (writes (.rangeFunc g ps as x)) st.h.length ρ ρ' st (Ua2 bs st hb):=by
  rintro ρ' hb W ds ⟨h1,h2,h3⟩ hds;refine⟨⟨h1.len,h1.slots,h1.heap,h1.base,h1.fresh,h1.kept.mono λk _ ⟨m,e1,e2,e3⟩=>⟨m,e1,?_,e3⟩,h1.own0,hds,h1.bound⟩,⟨λ_ _=>rfl,rfl,λm hm hd=> ?_,λm hm=>jL _ hm,?_,h3,h2⟩⟩
  ·simp only[Ua2,jJ]at e2|-
   rcases e2 with e2 | (e2|e2)|e2
   ·exact .inl (.inl e2)
   ·exact .inl (.inr e2)
   ·exact .inr (.inl e2)
   ·exact .inr (.inr e2)
  ·simp only[Ua2]at hd|-
   exact bD _ _ _ λhb'=>hd (jB _ hb')
  ·simp only[Ua2];rw[bJ];exact jE _
 have hpush:∀{ρ' hb W} {Dk:Nat},RH ρ' hb W->w.heap.size<=Dk->W.heap[Dk]?=some (.deferred (some []))->DefOk W0 ({ target:=.collected Dk,args:=#[] }::a.defers) W:=λh hD hm=>
  h.1.defers.push (jK hW0 hD) hm λk hk=>by have:=hmarks k hk;omega
 have hone:∀(pre:List Y'.X) (y:Y'.X) (hb:BS),Uat step pre (getH st.h bs)=some (.more hb)->pre++[y] <+: Y'.xs ->
   ∃r',step y hb=some r'/\Uat step (pre++[y]) (getH st.h bs)=some r'/\(Y'.enc y).length=ps.toList.length/\veC P Γ N x p (Stp BS (QP×BS)) (Ucf bs ps.toList l st (Y'.enc y) hb) (Uct st.h.length bs)=some r':=by
  rintro pre y hb hf ⟨suf,hsuf⟩;cases hs:step y hb with
  |none=>rw[<- hsuf,List.append_assoc,io,hf]at hr;simp[Uat,hs,fb]at hr
  | some r'=>
   refine⟨r',rfl,?_,?_⟩
   ·rw[io,hf];simp only[Uat,hs];cases r'<;>rfl
   ·rw[<- hstep]at hs;dsimp only at hs;cases hb':jA (Y'.enc y).length ps.toList.length with
    |false=>rw[hb']at hs;cases hs
    |true=>rw[hb']at hs;exact⟨jH hb',hs⟩
 refine pz (α:=Y'.X) (v0:=w) hgv hent hseq
  (λ{A B C} h k q hq Ce t fr e=>k q hq Ce t fr (h q hq Ce t fr e))
  (fun W l' o o' hl ho hc _ k hk C t fr e=>by
   have:l'≠k:=λe'=>by subst e';rw[ho]at e;cases e;cases hc
   rw[World.putObj_heap_other (Ne.symm this)];exact e)
  (λ{A B} hAB k _ C t fr e=>hAB.at e)
  (Ge.refl w)
  (λpre W=>∃ρ' hb,Uat step pre (getH st.h bs)=some (.more hb)/\RH ρ' hb W)
  (λc pre W=>∃ρ' hb e,Uat step pre (getH st.h bs)=some (.done (e,hb))/\c=ff e/\(e=.ret\/∃id,e=.exit id)/\RH ρ' hb W)
  ?hps ?hI ?hIx ?h0 (λy=>Ubm l { tmps:=(ps.zip ((Y'.enc y).map Ve.valOf).toArray).foldl (λt (p,v)=>t.setIfInBounds p v) a.tmps,defers:=[] }) ?hassign ?hbody ?hdone ?hstop
 case hps=>
  rintro pre y W ⟨ρ',hb,hf,-⟩ hpre;obtain⟨r',hs,-,hlen,-⟩:=hone pre y hb hf hpre;simp[hlen]
 case hI=>exact λpre W W' row ⟨ρ',hb,h1,h2⟩ hg hrow=>⟨ρ',hb,h1,hRHown h2 hg hrow⟩
 case hIx=>exact λc pre W W' row ⟨ρ',hb,e,h1,h2,h3,h4⟩ hg hrow=>⟨ρ',hb,e,h1,h2,h3,hRHown h4 hg hrow⟩
 case h0=>
  refine⟨ρ,getH st.h bs,rfl,⟨hR.len,?_,?_,hR.base,?_,hR.kept.mono λk _ ⟨m,e1,e2,e3⟩=>⟨m,e1,.inr (by simp only[jJ];exact or_assoc.2 e2),e3⟩,?_,hR.defers,?_⟩,λ_ _=>rfl,?_⟩
  all_goals ((try dsimp only);rw[hself])
  ·exact hR.slots
  ·exact hR.heap
  ·exact hR.fresh
  ·exact hR.own0
  ·exact hR.bound
  ·exact HLe.refl _
 case hassign=>exact λl' y W=>gC hasg
 case hbody=>
  rintro l' pre y W hl' - ⟨ρ',hb,hf,h1,h2,h3⟩ hpre;obtain⟨r',hs,hf',hlen,hv⟩:=hone pre y hb hf hpre;have hlenh:(setMany st.h bs hb).length=st.h.length:=bJ _ _ _;have hroot:=h1.root (E':=[]) λk len C e he=>by
   dsimp only at he
   by_cases hkb:k∈bs
   ·obtain⟨C',t,e1⟩:=hbs k hkb;obtain⟨C2,e2⟩:=(h3 k).row _ _ e1;rw[e2]at he;cases he
   ·rw[bD _ _ _ hkb]at he;exact absurd he (hown k len C e)
  dsimp only at hroot;rw[hlenh]at hroot;have hA:Uap P ρ' (setMany st.h bs hb) (Y'.enc y) ((Y'.enc y).map Ve.valOf):=zY (hknown pre y hpre);have hset:=(RS.setPs ps.toList (Y'.enc y) ((Y'.enc y).map Ve.valOf) hroot hlen hA).runAsg l;dsimp only at hset;have hact:(ps.zip ((Y'.enc y).map Ve.valOf).toArray).foldl (λt (x:Nat×QC)=>t.setIfInBounds x.1 x.2) a.tmps=(ps.toList.zip ((Y'.enc y).map Ve.valOf)).foldl (λt (x:Nat×QC)=>t.setIfInBounds x.1 x.2) a.tmps:=by rw[<- Array.foldl_toList,Array.toList_zip]
  refine WpX.mono (body l' (Ucf bs ps.toList l st (Y'.enc y) hb) r' ρ' _ W hni hv (by
   simp only[Ucf];rw[hact];exact hset)) ?_
  rintro e a2 W2 ⟨ρ2,st2,hk,hR2,hE⟩;have hE':Ext (writes x) st.h.length ρ' ρ2 { s:=runAsg l (setPs st.s ps.toList (Y'.enc y)),h:=setMany st.h bs hb,d:=[] } st2:=by have:=hE;simp only[Ucf]at this;rw[hlenh]at this;exact this
  have good:∀{s:BS},Ug5 st.h.length bs st2=some s->s=getH st2.h bs/\Uav st.h.length bs st2.d=true/\(getH st2.h bs).all (Uas st.h.length)=true:=by
   intro s h;unfold Ug5 at h;cases hok':Uav st.h.length bs st2.d&&(getH st2.h bs).all (Uas st.h.length) with
   |false=>rw[hok']at h;cases h
   |true=>rw[hok']at h;simp only[Q1,Q8]at h;simp only[Q7]at hok';exact⟨h.symm,hok'.1,hok'.2⟩
  have moreE:∀{o:Option BS},cx (X:=QP×BS) o=some r'->∃s',o=some s'/\r'=.more s':=λ{o} h=>by cases o<;>cases h;exact⟨_,rfl,rfl⟩
  have doneE:∀{o:Option BS} {e:QP},bZ e o=some r'->∃s',o=some s'/\r'=.done (e,s'):=λ{o e} h=>by cases o<;>cases h;exact⟨_,rfl,rfl⟩
  have keeps:Uav st.h.length bs st2.d=true->(getH st2.h bs).all (Uas st.h.length)=true->RH ρ2 (getH st2.h bs) W2/\KeepsS (sfOf P st.h) w.heap.size W W2/\Ub9 ((ns'.map λm=>(ρ m).a)++iZ st.h) W W2:=λg1 g2=>by
   obtain⟨k1,k2,k3,k4,k5,k6⟩:=KW hbs h1 h3 hR2 hE' g1 g2;refine⟨⟨k1,λk hp=>(k3 k hp).trans (h2 k hp),k2⟩,⟨k6,λk hk hlt _=>k5 k hlt λb hb' e=> ?_⟩,?_⟩
   ·obtain⟨C,t,eb⟩:=hbs b hb';have h1b:=h2 b (jC.1 eb).1;have:=hR.heap.lt (.row eb);rw[h1b]at e;omega
   intro q hq C t fr hk';rcases jJ.1 hq with hq|hq
   case inr=>
    obtain⟨n,tg,ag,xg,hg⟩:=nK hq;refine k4 _ C t fr hk' λb hb' e=> ?_
    obtain⟨Cb,tb,eb⟩:=hbs b hb';obtain⟨Cb',eb'⟩:=(h3 b).row _ _ eb;exact h1.heap.far n _ q ((h3 n).gl _ _ _ _ hg) (.inl rfl) b (.row eb') e
   obtain⟨m,hm,rfl⟩:=List.mem_map.1 hq;refine k4 _ C t fr hk' λb hb' e=> ?_
   obtain⟨Cm,tm,em⟩:=hns m hm;obtain⟨Cb,tb,eb⟩:=hbs b hb';obtain⟨Cm',em'⟩:=(h3 m).row _ _ em;obtain⟨Cb',eb'⟩:=(h3 b).row _ _ eb;have:b=m:=h1.heap.inj b m (.row eb') (.row em') (by rw[e,h2 m (jC.1 em).1]);exact hap b hb' (this ▸ hm)
  cases e with
  |normal=>obtain⟨s',ht,rfl⟩:=moreE hk;obtain⟨rfl,g1,g2⟩:=good ht;obtain⟨q1,q2,q3⟩:=keeps g1 g2;exact⟨q2,q3,ρ2,_,hf',q1⟩
  |ret=>obtain⟨s',ht,rfl⟩:=doneE hk;obtain⟨rfl,g1,g2⟩:=good ht;obtain⟨q1,q2,q3⟩:=keeps g1 g2;exact⟨q2,ρ2,_,.ret,hf',rfl,.inl rfl,q1⟩
  |exit id=>obtain⟨s',ht,rfl⟩:=doneE hk;obtain⟨rfl,g1,g2⟩:=good ht;obtain⟨q1,q2,q3⟩:=keeps g1 g2;exact⟨q2,ρ2,_,.exit id,hf',rfl,.inr ⟨id,rfl⟩,q1⟩
  |goto l=>cases hk
  |panic ch=>cases hk
  |outgrown=>cases hk
 case hdone=>
  rintro Dk W hD ⟨ρ',hb,hf,hRH⟩ hm;rw[hf]at hr;obtain⟨h1,h2⟩:=hfin hRH (hpush hRH hD hm);exact⟨ρ',_,hr,h1,h2⟩
 case hstop=>
  rintro Dk c pre W hD ⟨suf,hsuf⟩ ⟨ρ',hb,e,hf,rfl,he,hRH⟩ hm;rw[<- hsuf,io,hf]at hr;obtain⟨h1,h2⟩:=hfin hRH (hpush hRH hD hm);rcases he with rfl | ⟨id,rfl⟩
  ·exact Zmk ⟨ρ',_,hr,h1,h2⟩
  ·exact Zw7 ⟨ρ',_,hr,h1,h2⟩
theorem JF(hΓ:ConsOkX mn P (Ual mn P) Γ){g:QH}{ps:Array Tmp}{as x:QOq}{bs:List Nat}{p:Plan}{α:Type}{K:QP->St->Option α}{r:α}{ρ:Nat->Ad}{st:St}{a:Act}{w:QB}
  (body:∀ (l:Nat) (st1:St) (r':Stp BS (QP×BS)) (ρ1:Nat→Ad) (a1:Act) (W:QB),Uay p=true→veC P Γ N x p (Stp BS (QP×BS)) st1 (Uct (Ubw st).h.length bs)=some r'→R P W (Ubw st).h.length [] ρ1 ρ1 st1 a1 W →
   WpX mn (some l) P x (λe a' w'=>∃ρ' st',Uct (Ubw st).h.length bs e st'=some r'/\R P W (Ubw st).h.length [] ρ1 ρ' st' a' w'/\Ext (writes x) st1.h.length ρ1 ρ' st1 st') a1 W)
  (hr:veC P Γ N (.rangeFunc g ps as x) (.iter bs p) α st K=some r) (hR:RS E P W0 n0 D ρ0 ρ st a w) :
  WpX mn none P (.rangeFunc g ps as x) (λe a' w'=>∃ρ' st',K e st'=some r/\RS E P W0 n0 D ρ0 ρ' st' a' w'/\Ext (writes (.rangeFunc g ps as x)) st.h.length ρ ρ' st st') a w:=by
 rw[veC]at hr;obtain⟨hR',hE⟩:=hR.spend (writes (.rangeFunc g ps as x)) st.h.length;refine WpX.mono (Ylm hΓ body hr hR') ?_;rintro e a' w' ⟨ρ',st',k1,k2,k3⟩;exact⟨ρ',st',k1,k2,hE.trans (k3.mono (λ_ h=>h) (by simp[Ubw]))⟩
theorem JG(hΓ:ConsOkX mn P (Ual mn P) Γ){g0:QH}{ps:Array Tmp}{as x:QOq}{bs:List Nat}{g:Nat}{t:QE}{p:Plan}{α:Type}{K:QP->St->Option α}{r:α}{ρs ρ:Nat->Ad}{st0 st:St}{a:Act}{w:QB}{T:QE}{y1:SA}{len0:Nat}{C0:QA}
  (body:∀ (l:Nat) (E':List Nat) (st1:St) (r':Stp BS (QP×BS)) (ρ1:Nat→Ad) (a1:Act) (W:QB),Uay p=true→veC P Γ N x p (Stp BS (QP×BS)) st1 (Ubq Γ.e y1 st0.h.length bs g t)=some r'→RS E' P W (st0.h.length+1) [] ρ1 ρ1 st1 a1 W →
   WpX mn (some l) P x (λe a' w'=>∃ρ' st',Ubq Γ.e y1 st0.h.length bs g t e st'=some r'/\RS E' P W (st0.h.length+1) [] ρ1 ρ' st' a' w'/\Ext (writes x) st1.h.length ρ1 ρ' st1 st') a1 W)
  (hs1:st.s=st0.s) (hl1:st.h.length=st0.h.length+1) (hle1:HLe st0.h st.h) (hg1:st.h[g]?=some (.one y1 T)) (hbR0:BoxR st0.h.length st0.h.length y1 y1) (hgl:g<st0.h.length) (hm1:st.h[st0.h.length]?=some (.sl .own len0 C0 t)) (hgd:g∈st.d) (hst:∀n,n<st0.h.length->n ∉ st.d->st.h[n]?=st0.h[n]?) (hd1:∀n∈st0.d,n∈st.d) (hrens:∀k,k<st0.h.length->ρ k=ρs k)
  (hlow:∀(i:Nat) (u:SV),st.s[i]?=some u->Ua3 st0.h.length u=true) (hlowB:∀(k:Nat) (b:VB),k<st0.h.length->k≠g->st.h[k]?=some b->Uas st0.h.length b=true) (hn0:n0<=st0.h.length)
  (hr:(match mg Γ st.h (asA (evO st.s g0)),me as with
   | some (ns,Y),some l=>
    bif Y.ok then (bif Ubb st.h ns&&(Ubb st.h bs&&(apart ns bs&&(Uay p&&(Udl P t&&(Uc7 (st.h.take st0.h.length)&&(bs.all (jG · st0.h.length)&&jG g st0.h.length)))))) then
     fb (Uat (λy hb=>bif jA (Y.enc y).length ps.toList.length then veC P Γ N x p (Stp BS (QP×BS)) (Ucf (bs++[st0.h.length]) ps.toList l st (Y.enc y) hb) (Ubq Γ.e y1 st0.h.length bs g t) else none) Y.xs (getH st.h (bs++[st0.h.length]))) (λhb=>K .normal (Ua2 (bs++[st0.h.length]) st hb)) (λe hb=>K e (Ua2 (bs++[st0.h.length]) st hb)) else none) else none
   |_,_=>none)=some r) (hR:RS E P W0 n0 D ρ0 ρ st a w) :
  WpX mn none P (.rangeFunc g0 ps as x) (λe a' w'=>∃ρ' st',K e st'=some r/\RS E P W0 n0 D ρ0 ρ' st' a' w'/\Ext (writes (.rangeFunc g0 ps as x)) st0.h.length ρs ρ' st0 st') a w:=by
 split at hr
 case h_2=>cases hr
 rename_i ns Y l hit hasg;cases hyok:Y.ok with
 |false=>rw[hyok]at hr;cases hr
 |true=>
 rw[hyok]at hr;simp only[Q1]at hr;cases hok:Ubb st.h ns&&(Ubb st.h bs&&(apart ns bs&&(Uay p&&(Udl P t&&(Uc7 (st.h.take st0.h.length)&&(bs.all (jG · st0.h.length)&&jG g st0.h.length)))))) with
 |false=>rw[hok]at hr;cases hr
 |true=>
 rw[hok]at hr;simp only[Q1]at hr;simp only[Q7]at hok;obtain⟨hns,hbs,hap,hni,hsoft,hown,hblt,-⟩:=hok;generalize hm:st0.h.length=m at *;have hown:∀(k len:Nat) (C:QA) (e:QE),k<m->st.h[k]?≠some (.sl .own len C e):=λk len C e hk he=>Yjh hown k len C e (by rw[List.getElem?_take,if_pos hk];exact he)
 have hns:=oc hns;have hbs:=oc hbs;have hap:=we hap;have hblt:∀b∈bs,b<m:=λb hb=>by
  rw[jI]at hblt;have:=hblt b hb;simp[jG]at this;omega
 have hbs2:∀b∈bs,(∃C t,st.h[b]?=some (.row C t))/\b<m:=λb hb=>⟨hbs b hb,hblt b hb⟩
 generalize hstep:(λ(y:Y.X) (hb:BS)=>bif jA (Y.enc y).length ps.toList.length then veC P Γ N x p (Stp BS (QP×BS)) (Ucf (bs++[m]) ps.toList l st (Y.enc y) hb) (Ubq Γ.e y1 m bs g t) else none)=step at hr
 -- the iterator
 unfold mg at hit;have hgv:=Zcl (Zq6 hR.slots g0);split at hit
 case h_2=>cases hit
 rename_i f ns' hcl;split at hit
 case h_2=>cases hit
 rename_i I hI;split at hit
 case h_2=>cases hit
 rename_i Y' hY;simp only[Q8,Q0]at hit;obtain⟨rfl,rfl⟩:=hit;rw[hcl]at hgv;obtain⟨hgv,-⟩:=hgv;obtain⟨hico,hent⟩:=hΓ.i f I hI;obtain⟨hknown,hseq⟩:=hico ρ st.h w ns' Y' hY hyok hR.heap hns;have hnm:∀q∈ns',q<m:=λq hq=>by
  obtain⟨C,t',e⟩:=hns q hq;have hlt:=(jC.1 e).1
  by_cases hqm:q=m
  ·subst hqm;rw[hm1]at e;cases e
  ·omega
 have hW0:W0.heap.size<=w.heap.size:=hR.kept.size;have hmarks:∀m,({ target:=.collected m,args:=#[] }:QK)∈a.defers->m<w.heap.size:=λm hm=>by
  obtain⟨m',e,_,h2⟩:=hR.defers.all _ hm;cases e;exact(jP.1 h2).1
 let HH:BS->List VB:=λhb=>setMany st.h (bs++[m]) hb
 let RH:(Nat->Ad)->BS->QB->Prop:=λρ' hb W=>RS E P W0 n0 (st.d++D) ρ0 ρ' { s:=st.s,h:=setMany st.h (bs++[m]) hb,d:=bs++[m] } a W/\(∀k,k<m->ρ' k=ρ k)/\HLe st0.h (setMany st.h (bs++[m]) hb)/\(∀k,k<m->HLeN st.h (setMany st.h (bs++[m]) hb) k)/\∃len C,(setMany st.h (bs++[m]) hb)[m]?=some (.sl .own len C t)
 have hRHown:∀{ρ' hb W W' row},RH ρ' hb W->W.grownBy W' row->(∀r,row=some r->w.heap.size<=r/\∃o:Obj,W.heap[r]?=some o/\o.isCells=false)->RH ρ' hb W':=
  λh hg hrow=>⟨h.1.grown hg hrow hW0 hmarks,h.2⟩
 have hself:setMany st.h (bs++[m]) (getH st.h (bs++[m]))=st.h:=by
  refine List.ext_getElem? λi=> ?_
  rw[cy (g:=λc=>st.h.getD c .no) (bs++[m]) _ _ i (Zoh _ _)];split
  ·rename_i h;rw[List.getD_eq_getElem?_getD,jF h.2];rfl
  ·rfl
 have hfin:∀{ρ' hb W} {ds:List QK},RH ρ' hb W->DefOk W0 ds W->RS E P W0 n0 D ρ0 ρ' (Ua2 (bs++[m]) st hb) { a with defers:=ds } W/\Ext (writes (.rangeFunc g0 ps as x)) m ρs ρ' st0 (Ua2 (bs++[m]) st hb):=by
  rintro ρ' hb W ds ⟨h1,h2,h3,-,-⟩ hds;refine⟨⟨h1.len,h1.slots,h1.heap,h1.base,h1.fresh,h1.kept.mono λk _ ⟨q,e1,e2,e3⟩=>⟨q,e1,?_,e3⟩,h1.own0,hds,h1.bound⟩,⟨λi _=>by simp only[Ua2];rw[hs1],by simp only[Ua2];rw[hs1],λq hq hd=> ?_,λq hq=>jL _ (hd1 q hq),?_,h3,λq hq=>(h2 q hq).trans (hrens q hq)⟩⟩
  ·simp only[Ua2,jJ]at e2|-
   rcases e2 with e2 | (e2|e2)|e2
   ·exact .inl (.inl e2)
   ·exact .inl (.inr e2)
   ·exact .inr (.inl e2)
   ·exact .inr (.inr e2)
  ·simp only[Ua2]at hd|-
   rw[bD _ _ _ λhb'=>hd (jB _ hb')];exact hst q hq λh=>hd (jL _ h)
  ·simp only[Ua2];rw[bJ,hl1];omega
 have hpush:∀{ρ' hb W} {Dk:Nat},RH ρ' hb W->w.heap.size<=Dk->W.heap[Dk]?=some (.deferred (some []))->DefOk W0 ({ target:=.collected Dk,args:=#[] }::a.defers) W:=λh hD hm=>
  h.1.defers.push (jK hW0 hD) hm λk hk=>by have:=hmarks k hk;omega
 have hone:∀(pre:List Y'.X) (y:Y'.X) (hb:BS),Uat step pre (getH st.h (bs++[m]))=some (.more hb)->pre++[y] <+: Y'.xs ->
   ∃r',step y hb=some r'/\Uat step (pre++[y]) (getH st.h (bs++[m]))=some r'/\(Y'.enc y).length=ps.toList.length/\veC P Γ N x p (Stp BS (QP×BS)) (Ucf (bs++[m]) ps.toList l st (Y'.enc y) hb) (Ubq Γ.e y1 m bs g t)=some r':=by
  rintro pre y hb hf ⟨suf,hsuf⟩;cases hs:step y hb with
  |none=>rw[<- hsuf,List.append_assoc,io,hf]at hr;simp[Uat,hs,fb]at hr
  | some r'=>
   refine⟨r',rfl,?_,?_⟩
   ·rw[io,hf];simp only[Uat,hs];cases r'<;>rfl
   ·rw[<- hstep]at hs;dsimp only at hs;cases hb':jA (Y'.enc y).length ps.toList.length with
    |false=>rw[hb']at hs;cases hs
    |true=>rw[hb']at hs;exact⟨jH hb',hs⟩
 refine pz (α:=Y'.X) (v0:=w) hgv hent hseq
  (λ{A B C} h k q hq Ce t fr e=>k q hq Ce t fr (h q hq Ce t fr e))
  (fun W l' o o' hl ho hc _ k hk C t fr e=>by
   have:l'≠k:=λe'=>by subst e';rw[ho]at e;cases e;cases hc
   rw[World.putObj_heap_other (Ne.symm this)];exact e)
  (λ{A B} hAB k _ C t fr e=>hAB.at e)
  (Ge.refl w)
  (λpre W=>∃ρ' hb,Uat step pre (getH st.h (bs++[m]))=some (.more hb)/\RH ρ' hb W)
  (λc pre W=>∃ρ' hb e,Uat step pre (getH st.h (bs++[m]))=some (.done (e,hb))/\c=ff e/\(e=.ret\/∃id,e=.exit id)/\RH ρ' hb W)
  ?hps ?hI ?hIx ?h0 (λy=>Ubm l { tmps:=(ps.zip ((Y'.enc y).map Ve.valOf).toArray).foldl (λt (p,v)=>t.setIfInBounds p v) a.tmps,defers:=[] }) ?hassign ?hbody ?hdone ?hstop
 case hps=>
  rintro pre y W ⟨ρ',hb,hf,-⟩ hpre;obtain⟨r',hs,-,hlen,-⟩:=hone pre y hb hf hpre;simp[hlen]
 case hI=>exact λpre W W' row ⟨ρ',hb,h1,h2⟩ hg hrow=>⟨ρ',hb,h1,hRHown h2 hg hrow⟩
 case hIx=>exact λc pre W W' row ⟨ρ',hb,e,h1,h2,h3,h4⟩ hg hrow=>⟨ρ',hb,e,h1,h2,h3,hRHown h4 hg hrow⟩
 case h0=>
  refine⟨ρ,getH st.h (bs++[m]),rfl,⟨hR.len,?_,?_,hR.base,?_,hR.kept.mono λk _ ⟨q,e1,e2,e3⟩=>⟨q,e1,.inr (by simp only[jJ];exact or_assoc.2 e2),e3⟩,?_,hR.defers,?_⟩,λ_ _=>rfl,?_,λ_ _=> ?_,?_⟩
  all_goals ((try dsimp only);rw[hself])
  ·exact hR.slots
  ·exact hR.heap
  ·exact hR.fresh
  ·exact hR.own0
  ·exact hR.bound
  ·exact hle1
  ·exact .same rfl
  ·exact⟨_,_,hm1⟩
 case hassign=>exact λl' y W=>gC hasg
 case hbody=>
  rintro l' pre y W hl' - ⟨ρ',hb,hf,h1,h2,h3,h4,len,C,hmo⟩ hpre;obtain⟨r',hs,hf',hlen,hv⟩:=hone pre y hb hf hpre;have hlenh:(setMany st.h (bs++[m]) hb).length=m+1:=by rw[bJ];exact hl1
  -- an empty slice's block lies nowhere
  obtain⟨ρ1,hR1,hre1,hz⟩:∃ρ1:Nat->Ad,RS E P W0 n0 (st.d++D) ρ0 ρ1 { s:=st.s,h:=setMany st.h (bs++[m]) hb,d:=bs++[m] } a W/\(∀k,k<m->ρ1 k=ρ' k)/\(len=0->W.heap.size<=(ρ1 m).a):=by
   by_cases h0:len=0
   ·subst h0;exact⟨_,h1.reown hmo hn0 ⟨W.heap.size,0⟩,λk hk=>if_neg (by omega),λ_=>by simp⟩
   ·exact⟨ρ',h1,λ_ _=>rfl,λh=>absurd h h0⟩
  have h2:∀k,k<m->ρ1 k=ρ k:=λk hk=>(hre1 k hk).trans (h2 k hk)
  clear h1 hre1;have hroot:=hR1.root (E':=if len=0 then [] else [m]) λk len' C' e he=>by
   dsimp only at he;have hkl:k<m+1:=by rw[<- hlenh];exact(jC.1 he).1
   by_cases hkm:k=m
   ·subst hkm;rw[hmo]at he;cases he
    by_cases h0:len=0
    ·exact .inl h0
    ·rw[if_neg h0];exact .inr (List.mem_singleton.2 rfl)
   ·exfalso
    by_cases hkb:k∈bs
    ·obtain⟨C',t',e1⟩:=hbs k hkb;obtain⟨C2,e2⟩:=(h4 k (by omega)).row _ _ e1;rw[e2]at he;cases he
    ·rw[bD _ _ _ (λh=>by rcases jJ.1 h with h|h;exact hkb h;simp at h;omega)]at he;exact hown k _ _ _ (by omega) he
  dsimp only at hroot;rw[hlenh]at hroot;have hE':∀q∈(if len=0 then ([]:List Nat) else [m]),q=m/\len≠0:=λq hq=>by
   by_cases h0:len=0
   ·rw[if_pos h0]at hq;cases hq
   ·rw[if_neg h0]at hq;exact⟨List.mem_singleton.1 hq,h0⟩
  have hA:Uap P ρ1 (setMany st.h (bs++[m]) hb) (Y'.enc y) ((Y'.enc y).map Ve.valOf):=zY (hknown pre y hpre);have hset:=(RS.setPs ps.toList (Y'.enc y) ((Y'.enc y).map Ve.valOf) hroot hlen hA).runAsg l;dsimp only at hset;have hact:(ps.zip ((Y'.enc y).map Ve.valOf).toArray).foldl (λt (x:Nat×QC)=>t.setIfInBounds x.1 x.2) a.tmps=(ps.toList.zip ((Y'.enc y).map Ve.valOf)).foldl (λt (x:Nat×QC)=>t.setIfInBounds x.1 x.2) a.tmps:=by rw[<- Array.foldl_toList,Array.toList_zip]
  refine WpX.mono (body l' _ (Ucf (bs++[m]) ps.toList l st (Y'.enc y) hb) r' ρ1 _ W hni hv (by
   simp only[Ucf];rw[hact];exact hset)) ?_
  rintro e a2 W2 ⟨ρ2,st2,hk,hR2,hE⟩;replace hk:=KV hk;have hE2:Ext (writes x) (m+1) ρ1 ρ2 { s:=runAsg l (setPs st.s ps.toList (Y'.enc y)),h:=setMany st.h (bs++[m]) hb,d:=[] } st2:=by have:=hE;simp only[Ucf]at this;rw[hlenh]at this;exact this
  have good:∀{s:BS},Ucp Γ.e y1 m bs g t st2=some s->∃n T2 len2 C2 y',s=getH st2.h bs++[.sl .own len2 C2 t]/\st2.h[g]?=some (.one y' T2)/\BoxR m n y1 y'/\st2.h[n]?=some (.sl .own len2 C2 t)/\m<=n/\Uav m (g::bs) st2.d=true/\(getH st2.h bs).all (Uas m)=true:=by
   intro s h;unfold Ucp at h;split at h
   case h_2=>cases h
   rename_i b hgb';obtain⟨n,T2,len2,C2,y',hg,hbR,hown2,hmn,rfl⟩:=Ah hΓ.e hbR0 hgb';cases hok':Uav m (g::bs) st2.d&&(getH st2.h bs).all (Uas m) with
   |false=>rw[hok']at h;cases h
   |true=>rw[hok']at h;simp only[Q1,Q8]at h;simp only[Q7]at hok';exact⟨n,T2,len2,C2,y',h.symm,hg,hbR,hown2,hmn,hok'.1,hok'.2⟩
  have moreE:∀{o:Option BS},cx (X:=QP×BS) o=some r'->∃s',o=some s'/\r'=.more s':=λ{o} h=>by cases o<;>cases h;exact⟨_,rfl,rfl⟩
  have doneE:∀{o:Option BS} {e:QP},bZ e o=some r'->∃s',o=some s'/\r'=.done (e,s'):=λ{o e} h=>by cases o<;>cases h;exact⟨_,rfl,rfl⟩
  have hsf:∀t,Udl P t=true->sfOf P st.h t=true:=λt ht=>by
   unfold sfOf;rw[ht,Bool.and_true];cases hno:Uc7 st.h with|false=>rfl|true=>exact absurd hm1 (Yjh hno _ _ _ _)
  have keeps:∀ {s:BS},Ucp Γ.e y1 m bs g t st2=some s→∃ ρ3,RH ρ3 s W2∧Ubg P w.heap.size W W2∧Ub9 ((ns'.map fun m=>(ρ m).a)++iZ st.h) W W2:=fun {s} hts=>by
   obtain⟨n,T2,len2,C2,y',rfl,hg,hbR,hown2,hmn,g1,g2⟩:=good hts;obtain⟨k1,k2,k3,k4,k5,k6,k7⟩:=Lf (h0:=st0.h) hm hl1 hg1 hgl hgd hbs2 hlow hown hn0 hlowB hmo h3 h4 hR1 hz hE' hR2 hE2 hg hbR hown2 hmn g1 g2;have hhg:(setMany st.h (bs++[m]) hb)[g]?=some (.one y1 T):=by
    rw[bD _ _ _ (λh=>by
     rcases jJ.1 h with h|h
     ·obtain⟨C',t',e1⟩:=hbs g h;rw[hg1]at e1;cases e1
     ·simp at h;omega)]
    exact hg1
   have hrowp:∀b∈bs,present (setMany st.h (bs++[m]) hb) b:=λb hb'=>by
    obtain⟨Cb,tb,eb⟩:=hbs b hb';obtain⟨Cb',eb'⟩:=(h4 b (hblt b hb')).row _ _ eb;exact .row eb'
   have hgp:∀b∈g::bs,present (setMany st.h (bs++[m]) hb) b:=λb hb'=>by
    rcases List.mem_cons.1 hb' with rfl|hb'
    ·exact .one hhg
    ·exact hrowp b hb'
   have hgb2:∀b∈g::bs,b<m:=λb hb'=>by
    rcases List.mem_cons.1 hb' with rfl|hb'
    ·exact hgl
    ·exact hblt b hb'
   have hold:∀b∈g::bs,(ρ1 b).a<w.heap.size:=λb hb'=>by
    rw[h2 b (hgb2 b hb')];rcases List.mem_cons.1 hb' with rfl|hb'
    ·exact hR.heap.lt (.one hg1)
    ·obtain⟨C,t',eb⟩:=hbs b hb';exact hR.heap.lt (.row eb)
   refine⟨_,⟨k1,λk hk=> ?_,k2,k3,_,_,k4⟩,⟨k7,λk hk hlt hs=>k6 k hlt (λb hb' e=> ?_) λh0 e=> ?_⟩,?_⟩
   ·show (if k=m then ρ2 n else ρ2 k)=ρ k
    rw[if_neg (by omega),k5 k hk,h2 k hk]
   ·have:=hold b hb';omega
   ·obtain⟨_,C',hc,_⟩:=(hR1.heap.is m _ hmo).2 rfl h0;rw[e]at hc;have:=hs _ _ _ hc;rw[hsoft]at this;cases this
   ·intro q hq C' t' fr hk';have hqlt:q<W.heap.size:=(jP.1 hk').1;rw[k6 q hqlt (λb hb' e=> ?_) λh0 e=> ?_]
    ·exact hk'
    ·rcases jJ.1 hq with hq|hq
     case inr=>
      obtain⟨n',tg,ag,xg,hg'⟩:=nK hq;have hn'm:n'<m:=by
       have hlt:=(jC.1 hg').1
       by_cases hqm:n'=m
       ·subst hqm;rw[hm1]at hg';cases hg'
       ·omega
      exact hR1.heap.far n' _ q ((h4 n' hn'm).gl _ _ _ _ hg') (.inl rfl) b (hgp b hb') e
     obtain⟨m',hm',rfl⟩:=List.mem_map.1 hq;obtain⟨Cm,tm,em⟩:=hns m' hm';obtain⟨Cm',em'⟩:=(h4 m' (hnm m' hm')).row _ _ em;have hbm:b=m':=hR1.heap.inj b m' (hgp b hb') (.row em') (by rw[e,h2 m' (hnm m' hm')]);rcases List.mem_cons.1 hb' with hbg|hb'
     ·subst hbm;subst hbg;rw[hg1]at em;cases em
     ·exact hap b hb' (hbm ▸ hm')
    ·have hpm:present (setMany st.h (bs++[m]) hb) m:=.own hmo rfl h0;rcases jJ.1 hq with hq|hq
     case inr=>
      obtain⟨n',tg,ag,xg,hg'⟩:=nK hq;have hn'm:n'<m:=by
       have hlt:=(jC.1 hg').1
       by_cases hqm:n'=m
       ·subst hqm;rw[hm1]at hg';cases hg'
       ·omega
      exact hR1.heap.far n' _ q ((h4 n' hn'm).gl _ _ _ _ hg') (.inl rfl) m hpm e
     obtain⟨m',hm',rfl⟩:=List.mem_map.1 hq;obtain⟨Cm,tm,em⟩:=hns m' hm';obtain⟨Cm',em'⟩:=(h4 m' (hnm m' hm')).row _ _ em;have hbm:m=m':=hR1.heap.inj m m' hpm (.row em') (by rw[e,h2 m' (hnm m' hm')]);have:=hnm m' hm';omega
  cases e with
  |normal=>obtain⟨s',ht,rfl⟩:=moreE hk;obtain⟨ρ3,q1,q2,q3⟩:=keeps ht;exact⟨q2.weak hsf,q3,ρ3,_,hf',q1⟩
  |ret=>obtain⟨s',ht,rfl⟩:=doneE hk;obtain⟨ρ3,q1,q2,q3⟩:=keeps ht;exact⟨q2.weak hsf,ρ3,_,.ret,hf',rfl,.inl rfl,q1⟩
  |exit id=>obtain⟨s',ht,rfl⟩:=doneE hk;obtain⟨ρ3,q1,q2,q3⟩:=keeps ht;exact⟨q2.weak hsf,ρ3,_,.exit id,hf',rfl,.inr ⟨id,rfl⟩,q1⟩
  |goto l=>cases hk
  |panic ch=>cases hk
  |outgrown=>cases hk
 case hdone=>
  rintro Dk W hD ⟨ρ',hb,hf,hRH⟩ hm;rw[hf]at hr;obtain⟨h1,h2⟩:=hfin hRH (hpush hRH hD hm);exact⟨ρ',_,hr,h1,h2⟩
 case hstop=>
  rintro Dk c pre W hD ⟨suf,hsuf⟩ ⟨ρ',hb,e,hf,rfl,he,hRH⟩ hm;rw[<- hsuf,io,hf]at hr;obtain⟨h1,h2⟩:=hfin hRH (hpush hRH hD hm);rcases he with rfl | ⟨id,rfl⟩
  ·exact Zmk ⟨ρ',_,hr,h1,h2⟩
  ·exact Zw7 ⟨ρ',_,hr,h1,h2⟩
theorem JH(hΓ:ConsOkX mn P (Ual mn P) Γ){g0:QH}{ps:Array Tmp}{as x:QOq}{bs:List Nat}{g:Nat}{t:QE}{p:Plan}{α:Type}{K:QP->St->Option α}{r:α}{ρ:Nat->Ad}{st:St}{a:Act}{w:QB}
  (body:∀ (y1:SA) (l:Nat) (E':List Nat) (st1:St) (r':Stp BS (QP×BS)) (ρ1:Nat→Ad) (a1:Act) (W:QB),Uay p=true→veC P Γ N x p (Stp BS (QP×BS)) st1 (Ubq Γ.e y1 st.h.length bs g t)=some r'→RS E' P W (st.h.length+1) [] ρ1 ρ1 st1 a1 W →
   WpX mn (some l) P x (λe a' w'=>∃ρ' st',Ubq Γ.e y1 st.h.length bs g t e st'=some r'/\RS E' P W (st.h.length+1) [] ρ1 ρ' st' a' w'/\Ext (writes x) st1.h.length ρ1 ρ' st1 st') a1 W)
  (hr:veC P Γ N (.rangeFunc g0 ps as x) (.iterB bs g t p) α st K=some r) (hR:RS E P W0 n0 D ρ0 ρ st a w) :
  WpX mn none P (.rangeFunc g0 ps as x) (λe a' w'=>∃ρ' st',K e st'=some r/\RS E P W0 n0 D ρ0 ρ' st' a' w'/\Ext (writes (.rangeFunc g0 ps as x)) st.h.length ρ ρ' st st') a w:=by
 rw[veC]at hr;split at hr
 case h_2=>cases hr
 rename_i st1 hprep;obtain⟨ρ1,T,len,C,y1,hR1,hs1,hl1,hle1,hg1,hbR0,hgl,hm1,hgd,hst,hst2,hd1,hren1⟩:=Ag hR hprep;have hby:boxY st1 g=y1:=by unfold boxY;rw[hg1]
 rw[hby]at hr;refine JG (ρs:=ρ) (st0:=st) hΓ (body y1) hs1 hl1 hle1 hg1 hbR0 hgl hm1 hgd hst hd1 hren1 (λi u hu=> ?_) (λk b hk hkg hb=> ?_) hR.bound hr hR1
 ·rw[hs1]at hu;exact(hR.slots i u hu).lt
 ·rcases hst2 k hk hkg with h|h
  ·rw[h]at hb;exact(hR.heap.is k b hb).lt
  ·rw[h]at hb;cases hb;rfl
theorem Ygm{c:QOq}{p:Plan}{cs bs:List Nat}(hcs:cs.all (Uan · (writes c))=true){α:Type}{K:QP->St->Option α}{r:α}{st:St}{ρs:Nat->Ad}
  (body:∀ (s:LS) (r':Stp LS (QP×LS)) (ρ:Nat→Ad) (a:Act) (w:QB),
   veC P Γ N c p (Stp LS (QP×LS)) (head (writes c) cs bs st s) (Ufb st.h.length cs bs)=some r'->RS E P W0 n0 (st.d++D) ρ0 ρ (head (writes c) cs bs st s) a w ->
   WpX mn ro P c (λe a' w'=>∃ρ' st',Ufb st.h.length cs bs e st'=some r'/\RS E P W0 n0 (st.d++D) ρ0 ρ' st' a' w'/\Ext (writes c) (head (writes c) cs bs st s).h.length ρ ρ' (head (writes c) cs bs st s) st') a w) :
  ∀(m:Nat) (s:LS) (ρ:Nat->Ad) (a:Act) (w:QB),
   au (Uab (λs=>veC P Γ N c p (Stp LS (QP×LS)) (head (writes c) cs bs st s) (Ufb st.h.length cs bs)) m s) (λe s=>K e (left (writes c) cs bs st s))=some r ->
   RS E P W0 n0 (st.d++D) ρ0 ρ (head (writes c) cs bs st s) a w->HLe st.h (head (writes c) cs bs st s).h->(∀k,k<st.h.length->ρ k=ρs k) ->
   Ubp mn ro P c (λe a' w'=>∃ρ' st',K e st'=some r/\RS E P W0 n0 D ρ0 ρ' st' a' w'/\Ext (writes c) st.h.length ρs ρ' st st') m a w
 |0,s,ρ,a,w,hr,_,_,_=>by simp[Uab,au]at hr
 | m+1,s,ρ,a,w,hr,hR,hhl,hren=>by
  rw[Uab]at hr;rw[Ubp];have good:∀{st':St} {s':LS},tail st.h.length cs bs st'=some s'->s'=(getS st'.s cs,getH st'.h bs)/\Uav st.h.length bs st'.d=true/\(getS st'.s cs).all (Ua3 st.h.length)=true/\(getH st'.h bs).all (Uas st.h.length)=true:=by
   intro st' s' h;unfold tail at h;cases hok:Uav st.h.length bs st'.d&&((getS st'.s cs).all (Ua3 st.h.length)&&(getH st'.h bs).all (Uas st.h.length)) with
   |false=>rw[hok]at h;cases h
   |true=>rw[hok]at h;simp only[Q1,Q8]at h;simp only[Q7]at hok;exact⟨h.symm,hok.1,hok.2.1,hok.2.2⟩
  have moreE:∀{o:Option LS} {s':LS},cx (X:=QP×LS) o=some (.more s')->o=some s':=λ{o s'} h=>by cases o<;>cases h;rfl
  have moreN:∀{o:Option LS} {x:QP×LS},cx (X:=QP×LS) o=some (.done x)->False:=λ{o x} h=>by cases o<;>cases h
  have doneE:∀{o:Option LS} {e:QP} {x:QP×LS},bZ e o=some (.done x)->∃s',o=some s'/\x=(e,s'):=λ{o e x} h=>by cases o<;>cases h;exact⟨_,rfl,rfl⟩
  have doneN:∀{o:Option LS} {e:QP} {s':LS},bZ e o=some (.more s')->False:=λ{o e s'} h=>by cases o<;>cases h
  cases hs':veC P Γ N c p (Stp LS (QP×LS)) (head (writes c) cs bs st s) (Ufb st.h.length cs bs) with
  |none=>rw[hs']at hr;simp[au]at hr
  | some x=>
   rw[hs']at hr;cases x with
   | more s'=>
    dsimp only at hr;refine WpX.mono (body s _ ρ a w hs' hR) ?_;rintro e a' w' ⟨ρ',st',hk,hR',hE⟩;cases e with
    |normal=>obtain⟨rfl,h1,h2,h3⟩:=good (moreE hk);obtain⟨hR2,hhl2⟩:=pZ hR hR' hE hhl h1 h2 h3;exact Ygm hcs body m _ ρ' a' w' hr hR2 hhl2 λk hk'=>(hE.ren k (by rw[show (head (writes c) cs bs st s).h.length=st.h.length from bJ _ _ _];exact hk')).trans (hren k hk')
    |exit id=>exact(doneN hk).elim
    |goto l=>exact(doneN hk).elim
    |ret=>exact(doneN hk).elim
    |panic ch=>cases hk
    |outgrown=>cases hk
   | done x=>
    simp only[au]at hr;refine WpX.mono (body s _ ρ a w hs' hR) ?_;rintro e a' w' ⟨ρ',st',hk,hR',hE⟩;have fin:bZ e (tail st.h.length cs bs st')=some (.done x)->∃ρ' st',K e st'=some r/\RS E P W0 n0 D ρ0 ρ' st' a' w'/\Ext (writes c) st.h.length ρs ρ' st st':=λh=>by
     obtain⟨s',hs,rfl⟩:=doneE h;obtain⟨rfl,h1,h2,h3⟩:=good hs;obtain⟨hR2,hhl2⟩:=pZ hR hR' hE hhl h1 h2 h3;obtain⟨h4,h5⟩:=zZ hcs hR2 hhl2 λk hk'=>(hE.ren k (by rw[show (head (writes c) cs bs st s).h.length=st.h.length from bJ _ _ _];exact hk')).trans (hren k hk')
     exact⟨ρ',_,hr,h4,h5⟩
    cases e with
    |normal=>exact(moreN hk).elim
    |exit id=>exact fin hk
    |goto l=>exact fin hk
    |ret=>exact fin hk
    |panic ch=>cases hk
    |outgrown=>cases hk
theorem Yci{c:QOq}{p:Plan}{cs bs:List Nat}{g:Nat}{t:QE}{st st1:St}(hcs:∀x∈cs,x∈writes c)(hs1:st1.s=st.s.set g (.a (.l st.h.length)))(hl1:st1.h.length=st.h.length+1)(hd1:∀n∈st.d,n∈st1.d)(hst:∀n,n<st.h.length->n ∉ st1.d->st1.h[n]?=st.h[n]?)(hgW:g∈writes c)(hgc:g ∉ cs)(hbs:∀b∈bs,b<st.h.length)
  (hlow:∀(i:Nat) (u:SV),st.s[i]?=some u->Ua3 st.h.length u=true) (hlowB:∀(k:Nat) (b:VB),k<st.h.length->st1.h[k]?=some b->Uas st.h.length b=true) (hn0:n0<=st.h.length)
  {α:Type} {K:QP->St->Option α} {r:α} {ρs:Nat->Ad}
  (body:∀ (s:LS) (r':Stp LS (QP×LS)) (ρ:Nat→Ad) (a:Act) (w:QB),
   veC P Γ N c p (Stp LS (QP×LS)) (head (writes c) (cs++[g]) (bs++[st.h.length]) st1 s) (Uco st.h.length cs bs g t)=some r'->RS E P W0 n0 (st1.d++D) ρ0 ρ (head (writes c) (cs++[g]) (bs++[st.h.length]) st1 s) a w ->
   WpX mn ro P c (λe a' w'=>∃ρ' st',Uco st.h.length cs bs g t e st'=some r'/\RS E P W0 n0 (st1.d++D) ρ0 ρ' st' a' w'/\Ext (writes c) (head (writes c) (cs++[g]) (bs++[st.h.length]) st1 s).h.length ρ ρ' (head (writes c) (cs++[g]) (bs++[st.h.length]) st1 s) st') a w) :
  ∀(m:Nat) (s:LS) (ρ:Nat->Ad) (a:Act) (w:QB),
   au (Uab (λs=>veC P Γ N c p (Stp LS (QP×LS)) (head (writes c) (cs++[g]) (bs++[st.h.length]) st1 s) (Uco st.h.length cs bs g t)) m s) (λe s=>K e (left (writes c) (cs++[g]) (bs++[st.h.length]) st1 s))=some r ->
   RS E P W0 n0 (st1.d++D) ρ0 ρ (head (writes c) (cs++[g]) (bs++[st.h.length]) st1 s) a w->HLe st.h (head (writes c) (cs++[g]) (bs++[st.h.length]) st1 s).h->(∀k,k<st.h.length->ρ k=ρs k) ->
   Ubp mn ro P c (λe a' w'=>∃ρ' st',K e st'=some r/\RS E P W0 n0 D ρ0 ρ' st' a' w'/\Ext (writes c) st.h.length ρs ρ' st st') m a w
 |0,s,ρ,a,w,hr,_,_,_=>by simp[Uab,au]at hr
 | m+1,s,ρ,a,w,hr,hR,hhl,hren=>by
  rw[Uab]at hr;rw[Ubp];have good:∀{st':St} {s':LS} {ρ':Nat->Ad} {a':Act} {w':QB},Ug9 st.h.length cs bs g t st'=some s'->RS E P W0 n0 (st1.d++D) ρ0 ρ' st' a' w'->Ext (writes c) (head (writes c) (cs++[g]) (bs++[st.h.length]) st1 s).h.length ρ ρ' (head (writes c) (cs++[g]) (bs++[st.h.length]) st1 s) st' ->
    ∃ρ2,RS E P W0 n0 (st1.d++D) ρ0 ρ2 (head (writes c) (cs++[g]) (bs++[st.h.length]) st1 s') a' w'/\HLe st.h (head (writes c) (cs++[g]) (bs++[st.h.length]) st1 s').h/\∀k,k<st.h.length->ρ2 k=ρs k:=by
   intro st' s' ρ' a' w' h hR' hE;unfold Ug9 at h;split at h
   ·rename_i n hg;split at h
    ·rename_i len C e' hown;cases hok:jA t e'&&(Nat.ble st.h.length n&&(Uav st.h.length bs st'.d&&((getS st'.s cs).all (Ua3 st.h.length)&&(getH st'.h bs).all (Uas st.h.length)))) with
     |false=>rw[hok]at h;cases h
     |true=>
      rw[hok]at h;simp only[Q1,Q8]at h;simp only[Q7]at hok;obtain rfl:=jH hok.1;subst h;obtain⟨h1,h2⟩:=KZ hs1 hl1 hgW hgc hbs hlow hlowB hn0 hR hR' hE hhl hg hown (Nat.le_of_ble_eq_true hok.2.1) hok.2.2.1 hok.2.2.2.1 hok.2.2.2.2;refine⟨_,h1,h2,λk hk=> ?_⟩
      show (if k=st.h.length then ρ' n else ρ' k)=ρs k
      rw[if_neg (by omega)];exact(hE.ren k (by rw[show (head (writes c) (cs++[g]) (bs++[st.h.length]) st1 s).h.length=st1.h.length from bJ _ _ _,hl1];omega)).trans (hren k hk)
    ·cases h
   ·cases h
  have moreE:∀{o:Option LS} {s':LS},cx (X:=QP×LS) o=some (.more s')->o=some s':=λ{o s'} h=>by cases o<;>cases h;rfl
  have moreN:∀{o:Option LS} {x:QP×LS},cx (X:=QP×LS) o=some (.done x)->False:=λ{o x} h=>by cases o<;>cases h
  have doneE:∀{o:Option LS} {e:QP} {x:QP×LS},bZ e o=some (.done x)->∃s',o=some s'/\x=(e,s'):=λ{o e x} h=>by cases o<;>cases h;exact⟨_,rfl,rfl⟩
  have doneN:∀{o:Option LS} {e:QP} {s':LS},bZ e o=some (.more s')->False:=λ{o e s'} h=>by cases o<;>cases h
  cases hs':veC P Γ N c p (Stp LS (QP×LS)) (head (writes c) (cs++[g]) (bs++[st.h.length]) st1 s) (Uco st.h.length cs bs g t) with
  |none=>rw[hs']at hr;simp[au]at hr
  | some x=>
   rw[hs']at hr;cases x with
   | more s'=>
    dsimp only at hr;refine WpX.mono (body s _ ρ a w hs' hR) ?_;rintro e a' w' ⟨ρ',st',hk,hR',hE⟩;cases e with
    |normal=>obtain⟨ρ2,hR2,hhl2,hren2⟩:=good (moreE hk) hR' hE;exact Yci hcs hs1 hl1 hd1 hst hgW hgc hbs hlow hlowB hn0 body m _ ρ2 a' w' hr hR2 hhl2 hren2
    |exit id=>exact(doneN hk).elim
    |goto l=>exact(doneN hk).elim
    |ret=>exact(doneN hk).elim
    |panic ch=>cases hk
    |outgrown=>cases hk
   | done x=>
    simp only[au]at hr;refine WpX.mono (body s _ ρ a w hs' hR) ?_;rintro e a' w' ⟨ρ',st',hk,hR',hE⟩;have fin:bZ e (Ug9 st.h.length cs bs g t st')=some (.done x)->∃ρ' st',K e st'=some r/\RS E P W0 n0 D ρ0 ρ' st' a' w'/\Ext (writes c) st.h.length ρs ρ' st st':=λh=>by
     obtain⟨s',hs,rfl⟩:=doneE h;obtain⟨ρ2,hR2,hhl2,hren2⟩:=good hs hR' hE;obtain⟨h4,h5⟩:=La hs1 hl1 hd1 hst hgW hcs hR2 hhl2 hren2;exact⟨ρ2,_,hr,h4,h5⟩
    cases e with
    |normal=>exact(moreN hk).elim
    |exit id=>exact fin hk
    |goto l=>exact fin hk
    |ret=>exact fin hk
    |panic ch=>cases hk
    |outgrown=>cases hk
theorem Ybi{c:QOq}{p:Plan}{cs bs:List Nat}{g:Nat}{t:QE}{st st1:St}(hcs:∀x∈cs,x∈writes c){T:QE}{y1:SA}(hq:∀a b,Γ.e a b=true ↔ a=b)(hs1:st1.s=st.s)(hl1:st1.h.length=st.h.length+1)(hg1:st1.h[g]?=some (.one y1 T))(hbR0:BoxR st.h.length st.h.length y1 y1)(hgl:g<st.h.length)(hgd:g∈st1.d)(hd1:∀n∈st.d,n∈st1.d)(hst:∀n,n<st.h.length->n ∉ st1.d->st1.h[n]?=st.h[n]?)(hgb:g ∉ bs)(hbs:∀b∈bs,b<st.h.length)
  (hlow:∀(i:Nat) (u:SV),st.s[i]?=some u->Ua3 st.h.length u=true) (hlowB:∀(k:Nat) (b:VB),k<st.h.length->k≠g->st1.h[k]?=some b->Uas st.h.length b=true) (hn0:n0<=st.h.length)
  {α:Type} {K:QP->St->Option α} {r:α} {ρs:Nat->Ad}
  (body:∀ (s:LS) (r':Stp LS (QP×LS)) (ρ:Nat→Ad) (a:Act) (w:QB),
   veC P Γ N c p (Stp LS (QP×LS)) (head (writes c) cs (bs++[st.h.length]) st1 s) (Ubz Γ.e (boxY st1 g) st.h.length cs bs g t)=some r'->RS E P W0 n0 (st1.d++D) ρ0 ρ (head (writes c) cs (bs++[st.h.length]) st1 s) a w ->
   WpX mn ro P c (λe a' w'=>∃ρ' st',Ubz Γ.e (boxY st1 g) st.h.length cs bs g t e st'=some r'/\RS E P W0 n0 (st1.d++D) ρ0 ρ' st' a' w'/\Ext (writes c) (head (writes c) cs (bs++[st.h.length]) st1 s).h.length ρ ρ' (head (writes c) cs (bs++[st.h.length]) st1 s) st') a w) :
  ∀(m:Nat) (s:LS) (ρ:Nat->Ad) (a:Act) (w:QB),
   au (Uab (λs=>veC P Γ N c p (Stp LS (QP×LS)) (head (writes c) cs (bs++[st.h.length]) st1 s) (Ubz Γ.e (boxY st1 g) st.h.length cs bs g t)) m s) (λe s=>K e (left (writes c) cs (bs++[st.h.length]) st1 s))=some r ->
   RS E P W0 n0 (st1.d++D) ρ0 ρ (head (writes c) cs (bs++[st.h.length]) st1 s) a w->HLe st.h (head (writes c) cs (bs++[st.h.length]) st1 s).h->(∀k,k<st.h.length->ρ k=ρs k) ->
   Ubp mn ro P c (λe a' w'=>∃ρ' st',K e st'=some r/\RS E P W0 n0 D ρ0 ρ' st' a' w'/\Ext (writes c) st.h.length ρs ρ' st st') m a w
 |0,s,ρ,a,w,hr,_,_,_=>by simp[Uab,au]at hr
 | m+1,s,ρ,a,w,hr,hR,hhl,hren=>by
  rw[Uab]at hr;rw[Ubp];have good:∀{st':St} {s':LS} {ρ':Nat->Ad} {a':Act} {w':QB},Ue8 Γ.e (boxY st1 g) st.h.length cs bs g t st'=some s'->RS E P W0 n0 (st1.d++D) ρ0 ρ' st' a' w'->Ext (writes c) (head (writes c) cs (bs++[st.h.length]) st1 s).h.length ρ ρ' (head (writes c) cs (bs++[st.h.length]) st1 s) st' ->
    ∃ρ2,RS E P W0 n0 (st1.d++D) ρ0 ρ2 (head (writes c) cs (bs++[st.h.length]) st1 s') a' w'/\HLe st.h (head (writes c) cs (bs++[st.h.length]) st1 s').h/\∀k,k<st.h.length->ρ2 k=ρs k:=by
   intro st' s' ρ' a' w' h hR' hE;unfold Ue8 at h;split at h
   case h_2=>cases h
   rename_i b hgb';have hby:boxY st1 g=y1:=by unfold boxY;rw[hg1]
   rw[hby]at hgb';obtain⟨n,T',len,C,y',hg,hbR,hown,hmn,rfl⟩:=Ah hq hbR0 hgb';cases hok:Uav st.h.length (g::bs) st'.d&&((getS st'.s cs).all (Ua3 st.h.length)&&(getH st'.h bs).all (Uas st.h.length)) with
   |false=>rw[hok]at h;cases h
   |true=>
    rw[hok]at h;simp only[Q1,Q8]at h;simp only[Q7]at hok;subst h;obtain⟨h1,h2⟩:=Ld hs1 hl1 hg1 hgl hgb hbs hlow hlowB hn0 hR hR' (jB _ hgd) hE hhl hg hbR hown hmn hok.1 hok.2.1 hok.2.2;refine⟨_,h1,h2,λk hk=> ?_⟩
    show (if k=st.h.length then ρ' n else ρ' k)=ρs k
    rw[if_neg (by omega)];exact(hE.ren k (by rw[show (head (writes c) cs (bs++[st.h.length]) st1 s).h.length=st1.h.length from bJ _ _ _,hl1];omega)).trans (hren k hk)
  have moreE:∀{o:Option LS} {s':LS},cx (X:=QP×LS) o=some (.more s')->o=some s':=λ{o s'} h=>by cases o<;>cases h;rfl
  have moreN:∀{o:Option LS} {x:QP×LS},cx (X:=QP×LS) o=some (.done x)->False:=λ{o x} h=>by cases o<;>cases h
  have doneE:∀{o:Option LS} {e:QP} {x:QP×LS},bZ e o=some (.done x)->∃s',o=some s'/\x=(e,s'):=λ{o e x} h=>by cases o<;>cases h;exact⟨_,rfl,rfl⟩
  have doneN:∀{o:Option LS} {e:QP} {s':LS},bZ e o=some (.more s')->False:=λ{o e s'} h=>by cases o<;>cases h
  cases hs':veC P Γ N c p (Stp LS (QP×LS)) (head (writes c) cs (bs++[st.h.length]) st1 s) (Ubz Γ.e (boxY st1 g) st.h.length cs bs g t) with
  |none=>rw[hs']at hr;simp[au]at hr
  | some x=>
   rw[hs']at hr;cases x with
   | more s'=>
    dsimp only at hr;refine WpX.mono (body s _ ρ a w hs' hR) ?_;rintro e a' w' ⟨ρ',st',hk,hR',hE⟩;replace hk:=zV hk;cases e with
    |normal=>obtain⟨ρ2,hR2,hhl2,hren2⟩:=good (moreE hk) hR' hE;exact Ybi hcs hq hs1 hl1 hg1 hbR0 hgl hgd hd1 hst hgb hbs hlow hlowB hn0 body m _ ρ2 a' w' hr hR2 hhl2 hren2
    |exit id=>exact(doneN hk).elim
    |goto l=>exact(doneN hk).elim
    |ret=>exact(doneN hk).elim
    |panic ch=>cases hk
    |outgrown=>cases hk
   | done x=>
    simp only[au]at hr;refine WpX.mono (body s _ ρ a w hs' hR) ?_;rintro e a' w' ⟨ρ',st',hk,hR',hE⟩;replace hk:=zV hk;have fin:bZ e (Ue8 Γ.e (boxY st1 g) st.h.length cs bs g t st')=some (.done x)->∃ρ' st',K e st'=some r/\RS E P W0 n0 D ρ0 ρ' st' a' w'/\Ext (writes c) st.h.length ρs ρ' st st':=λh=>by
     obtain⟨s',hs,rfl⟩:=doneE h;obtain⟨ρ2,hR2,hhl2,hren2⟩:=good hs hR' hE;obtain⟨h4,h5⟩:=Le hs1 hl1 hd1 hst hcs hR2 hhl2 hren2;exact⟨ρ2,_,hr,h4,h5⟩
    cases e with
    |normal=>exact(moreN hk).elim
    |exit id=>exact fin hk
    |goto l=>exact fin hk
    |ret=>exact fin hk
    |panic ch=>cases hk
    |outgrown=>cases hk
theorem Zd1(hm:P.follows .mixedOrders=true)(hΓ:ConsOkX mn P (Ual mn P) Γ):∀(c:QOq) (p:Plan) (ro:Option Nat) (hW:ro=none\/Uay p=true) (E:List Nat) (W0:QB) (n0:Nat) (ρ0:Nat->Ad) (α:Type) (st:St) (K:QP->St->Option α) (r:α) (D:List Nat) (ρ:Nat->Ad) (a:Act) (w:QB),
  veC P Γ N c p α st K=some r->RS E P W0 n0 D ρ0 ρ st a w ->
  WpX mn ro P c (λe a' w'=>∃ρ' st',K e st'=some r/\RS E P W0 n0 D ρ0 ρ' st' a' w'/\Ext (writes c) st.h.length ρ ρ' st st') a w
 |.skip,p,ro,hW,E,W0,n0,ρ0,α,st,K,r,D,ρ,a,w,hr,hR=>Zh9 ⟨ρ,st,by simpa [veC] using hr,hR,.refl _ _ _ _⟩
 |.region id ops draw,p,ro,hW,E,W0,n0,ρ0,α,st,K,r,D,ρ,a,w,hr,hR=>by
  rw[veC]at hr;exact Ju hm hΓ hR hr λρ' st' a' w' hk hR' hE=>⟨ρ',st',hk,hR',hE⟩
 |.exit id,p,ro,hW,E,W0,n0,ρ0,α,st,K,r,D,ρ,a,w,hr,hR=>Zw7 ⟨ρ,st,by simpa [veC] using hr,hR,.refl _ _ _ _⟩
 |.ret,p,ro,hW,E,W0,n0,ρ0,α,st,K,r,D,ρ,a,w,hr,hR=>Zmk ⟨ρ,st,by simpa [veC] using hr,hR,.refl _ _ _ _⟩
 | .seq x y,p,ro,hW,E,W0,n0,ρ0,α,st,K,r,D,ρ,a,w,hr,hR=>by
  cases p with
  |one=>simp[veC]at hr
  |loop cs bs p=>simp[veC]at hr
  |loopG cs bs g e p=>simp[veC]at hr
  |loopR cs bs p=>simp[veC]at hr
  |loopGR cs bs g e p=>simp[veC]at hr
  |loopB cs bs g e p=>simp[veC]at hr
  |loopM cs bs gs p=>simp[veC]at hr
  |loopF cs bs gs p=>simp[veC]at hr
  |iterB bs g e p=>simp[veC]at hr
  |iterL bs p=>simp[veC]at hr
  |jump l cs bs p q=>simp[veC]at hr
  |sc p=>simp[veC]at hr
  |iter bs p=>simp[veC]at hr
  | two p q=>
   rw[veC]at hr;refine Za1 (WpX.mono (Zd1 hm hΓ x p ro (hW.imp_right λh=>by simp only[Uay,Q7]at h;exact h.1) E W0 n0 ρ0 α st _ r D ρ a w hr hR) ?_);rintro e a1 w1 ⟨ρ1,st1,hk,hR1,hE1⟩;cases e with
   |normal=>refine WpX.mono (Zd1 hm hΓ y q ro (hW.imp_right λh=>by simp only[Uay,Q7]at h;exact h.2) E W0 n0 ρ0 α st1 K r D ρ1 a1 w1 hk hR1) ?_;rintro e2 a2 w2 ⟨ρ2,st2,hk2,hR2,hE2⟩;exact⟨ρ2,st2,hk2,hR2,Aa hE1 hE2⟩
   |exit id=>exact⟨ρ1,st1,hk,hR1,hE1.mono (λ_ h=>jB _ h) (jE _)⟩
   |goto l=>exact⟨ρ1,st1,hk,hR1,hE1.mono (λ_ h=>jB _ h) (jE _)⟩
   |ret=>exact⟨ρ1,st1,hk,hR1,hE1.mono (λ_ h=>jB _ h) (jE _)⟩
   |panic ch=>exact⟨ρ1,st1,hk,hR1,hE1.mono (λ_ h=>jB _ h) (jE _)⟩
   |outgrown=>exact⟨ρ1,st1,hk,hR1,hE1.mono (λ_ h=>jB _ h) (jE _)⟩
 | .cond c x y,p,ro,hW,E,W0,n0,ρ0,α,st,K,r,D,ρ,a,w,hr,hR=>by
  cases p with
  |one=>simp[veC]at hr
  |loop cs bs p=>simp[veC]at hr
  |loopG cs bs g e p=>simp[veC]at hr
  |loopR cs bs p=>simp[veC]at hr
  |loopGR cs bs g e p=>simp[veC]at hr
  |loopB cs bs g e p=>simp[veC]at hr
  |loopM cs bs gs p=>simp[veC]at hr
  |loopF cs bs gs p=>simp[veC]at hr
  |iterB bs g e p=>simp[veC]at hr
  |iterL bs p=>simp[veC]at hr
  |jump l cs bs p q=>simp[veC]at hr
  |sc p=>simp[veC]at hr
  |iter bs p=>simp[veC]at hr
  | two p q=>
   rw[veC]at hr;have hc:=Zcl (Zq6 hR.slots c);split at hr
   ·rename_i t ht;rw[ht]at hc;have hc:a.eval c=.bool t:=hc;cases t with
    |true=>refine Zii hc (WpX.mono (Zd1 hm hΓ x p ro (hW.imp_right λh=>by simp only[Uay,Q7]at h;exact h.1) E W0 n0 ρ0 α st K r D ρ a w hr hR) ?_);rintro e2 a2 w2 ⟨ρ2,st2,hk2,hR2,hE2⟩;exact⟨ρ2,st2,hk2,hR2,hE2.mono (λ_ h=>jB _ h) (jE _)⟩
    |false=>refine Zbt hc (WpX.mono (Zd1 hm hΓ y q ro (hW.imp_right λh=>by simp only[Uay,Q7]at h;exact h.2) E W0 n0 ρ0 α st K r D ρ a w hr hR) ?_);rintro e2 a2 w2 ⟨ρ2,st2,hk2,hR2,hE2⟩;exact⟨ρ2,st2,hk2,hR2,hE2.mono (λ_ h=>jL _ h) (jE _)⟩
   ·cases hr
 | .block id x,p,ro,hW,E,W0,n0,ρ0,α,st,K,r,D,ρ,a,w,hr,hR=>by
  rw[veC]at hr;refine Zg6 (WpX.mono (Zd1 hm hΓ x p ro hW E W0 n0 ρ0 α st _ r D ρ a w hr hR) ?_);rintro e a1 w1 ⟨ρ1,st1,hk,hR1,hE1⟩;cases e with
  | exit id'=>
   simp only[Uac]at hk;unfold Exit.inBlock;cases hb:jA id' id with
   |true=>rw[hb]at hk;have:=jH hb;simp only[if_pos this];exact⟨ρ1,st1,hk,hR1,hE1⟩
   |false=>
    rw[hb]at hk;have:id'≠id:=λe=>by subst e;rw[Nat.beq_refl]at hb;cases hb
    simp only[if_neg this];exact⟨ρ1,st1,hk,hR1,hE1⟩
  |normal=>exact⟨ρ1,st1,hk,hR1,hE1⟩
  |goto l=>exact⟨ρ1,st1,hk,hR1,hE1⟩
  |ret=>exact⟨ρ1,st1,hk,hR1,hE1⟩
  |panic ch=>exact⟨ρ1,st1,hk,hR1,hE1⟩
  |outgrown=>exact⟨ρ1,st1,hk,hR1,hE1⟩
 | .loop x,p,ro,hW,E,W0,n0,ρ0,α,st,K,r,D,ρ,a,w,hr,hR=>by
  cases p with
  |one=>simp[veC]at hr
  |two p q=>simp[veC]at hr
  |iter bs p=>simp[veC]at hr
  |jump l cs bs p q=>simp[veC]at hr
  |sc p=>simp[veC]at hr
  |iterB bs g e p=>simp[veC]at hr
  |iterL bs p=>simp[veC]at hr
  | loopB cs bs g t p=>
   rw[veC]at hr;split at hr
   ·rename_i st1 hprep;cases hok:cs.all (Uan · (writes x))&&(jG g st.h.length&&(!Uan g bs&&bs.all (jG · st.h.length))) with
    |false=>rw[hok]at hr;cases hr
    | true=>
     rw[hok]at hr;simp only[Q7,Bool.not_eq_true',jI]at hok;simp only[Q1]at hr;obtain⟨ρ1,T,len,C,y1,hR1,hs1,hl1,hle1,hg1,hbR0,hgl,hm1,hgd,hst,hst2,hd1,hren1⟩:=Ag hR hprep;obtain⟨hR0,hhl0⟩:=qa (W:=writes x) (cs:=cs) (bs:=bs++[st.h.length]) hR1;have hlow:∀(i:Nat) (u:SV),st.s[i]?=some u->Ua3 st.h.length u=true:=λi u hu=>(hR.slots i u hu).lt
     have hlowB:∀(k:Nat) (b:VB),k<st.h.length->k≠g->st1.h[k]?=some b->Uas st.h.length b=true:=λk b hk hkg hb=>by
      rcases hst2 k hk hkg with h|h
      ·rw[h]at hb;exact(hR.heap.is k b hb).lt
      ·rw[h]at hb;cases hb;rfl
     have hgb:g ∉ bs:=λh=>by rw[cm.2 h]at hok;exact absurd hok.2.2.1 (by simp)
     exact Zf4 N (Ybi (ρs:=ρ) (λc hc=>cm.1 (hok.1 c hc)) hΓ.e hs1 hl1 hg1 hbR0 hgl hgd hd1 hst hgb (λb hb=>by have:=hok.2.2.2 b hb;simp[jG]at this;omega) hlow hlowB hR.bound
      (λs r' ρ a w h1 h2=>Zd1 hm hΓ x p ro (hW.imp_right λh=>h) E W0 n0 ρ0 _ _ _ r' (st1.d++D) ρ a w h1 h2) N _ ρ1 a w hr hR0 (hle1.trans hhl0) hren1)
   ·cases hr
  |loopF cs bs gs p=>simp[veC]at hr
  |loopM cs bs gs p=>simp[veC]at hr
  | loopG cs bs g t p=>
   rw[veC]at hr;split at hr
   ·rename_i st1 hprep;cases hok:cs.all (Uan · (writes x))&&(Uan g (writes x)&&(!Uan g cs&&bs.all (jG · st.h.length))) with
    |false=>rw[hok]at hr;cases hr
    | true=>
     rw[hok]at hr;simp only[Q7,Bool.not_eq_true',jI]at hok;simp only[Q1]at hr;obtain⟨ρ1,hR1,hs1,hl1,hle1,hst,hst2,hd1,hren1⟩:=KY hR hprep;obtain⟨hR0,hhl0⟩:=qa (W:=writes x) (cs:=cs++[g]) (bs:=bs++[st.h.length]) hR1;have hlow:∀(i:Nat) (u:SV),st.s[i]?=some u->Ua3 st.h.length u=true:=λi u hu=>(hR.slots i u hu).lt
     have hlowB:∀(k:Nat) (b:VB),k<st.h.length->st1.h[k]?=some b->Uas st.h.length b=true:=λk b hk hb=>by
      rcases hst2 k hk with h|h
      ·rw[h]at hb;exact(hR.heap.is k b hb).lt
      ·rw[h]at hb;cases hb;rfl
     have hgc:g ∉ cs:=λh=>by rw[cm.2 h]at hok;exact absurd hok.2.2.1 (by simp)
     exact Zf4 N (Yci (ρs:=ρ) (λc hc=>cm.1 (hok.1 c hc)) hs1 hl1 hd1 hst (cm.1 hok.2.1) hgc (λb hb=>by have:=hok.2.2.2 b hb;simp[jG]at this;omega) hlow hlowB hR.bound
      (λs r' ρ a w h1 h2=>Zd1 hm hΓ x p ro (hW.imp_right λh=>h) E W0 n0 ρ0 _ _ _ r' (st1.d++D) ρ a w h1 h2) N _ ρ1 a w hr hR0 (hle1.trans hhl0) hren1)
   ·cases hr
  | loop cs bs p=>
   rw[veC]at hr;cases hcs:cs.all (Uan · (writes x)) with
   |false=>rw[hcs]at hr;cases hr
   |true=>rw[hcs]at hr;simp only[Q1]at hr;obtain⟨hR0,hhl0⟩:=qa (W:=writes x) (cs:=cs) (bs:=bs) hR;exact Zf4 N (Ygm hcs (ρs:=ρ) (λs r' ρ a w h1 h2=>Zd1 hm hΓ x p ro (hW.imp_right λh=>h) E W0 n0 ρ0 _ _ _ r' (st.d++D) ρ a w h1 h2) N _ ρ a w hr hR0 hhl0 λ_ _=>rfl)
  |loopGR cs bs g t p=>simp[veC]at hr
  |loopR cs bs p=>simp[veC]at hr
 | .rangeFunc f ps as b,p,ro,hW,E,W0,n0,ρ0,α,st,K,r,D,ρ,a,w,hr,hR=>by
  cases p with
  |one=>simp[veC]at hr
  |two p q=>simp[veC]at hr
  |loop cs bs p=>simp[veC]at hr
  |loopG cs bs g e p=>simp[veC]at hr
  |loopR cs bs p=>simp[veC]at hr
  |loopGR cs bs g e p=>simp[veC]at hr
  |loopB cs bs g e p=>simp[veC]at hr
  |loopM cs bs gs p=>simp[veC]at hr
  |loopF cs bs gs p=>simp[veC]at hr
  |iterB bs g e p=>
   rcases hW with rfl|h
   ·exact JH hΓ (λy1 l E' st1 r' ρ1 a1 W hni hv hR1=>Zd1 hm hΓ b p (some l) (.inr hni) E' W _ ρ1 _ st1 _ r' [] ρ1 a1 W hv hR1) hr hR
   ·simp[Uay]at h
  |jump l cs bs p q=>simp[veC]at hr
  |sc p=>simp[veC]at hr
  |iterL bs p=>simp[veC]at hr
  |iter bs p=>
   rcases hW with rfl|h
   ·exact JF hΓ (λl st1 r' ρ1 a1 W hni hv hR1=>Zd1 hm hΓ b p (some l) (.inr hni) [] W _ ρ1 _ st1 _ r' [] ρ1 a1 W hv hR1) hr hR
   ·simp[Uay]at h
 |.scope b,p,ro,hW,E,W0,n0,ρ0,α,st,K,r,D,ρ,a,w,hr,hR=>by simp[veC]at hr
 |.label l,p,ro,hW,E,W0,n0,ρ0,α,st,K,r,D,ρ,a,w,hr,hR=>Yrx ⟨ρ,st,by simpa [veC] using hr,hR,.refl _ _ _ _⟩
 |.goto l,p,ro,hW,E,W0,n0,ρ0,α,st,K,r,D,ρ,a,w,hr,hR=>dZ ⟨ρ,st,by simpa [veC] using hr,hR,.refl _ _ _ _⟩
 |.refuse l,p,ro,hW,E,W0,n0,ρ0,α,st,K,r,D,ρ,a,w,hr,hR=>by simp[veC]at hr
def Uev(mn:Md)(ro:Option Nat)(P:QD)(c:QOq)(l:Nat)(Q:QP->Act->QB->Prop):Nat->Act->QB->Prop
 |0,_,_=>False
 |m+1,a,w=>WpX mn ro P c (Exit.hop l (Uev mn ro P c l Q m) Q) a w
theorem JI{c rest:QOq}{l m:Nat}{a:Act}{v:QB}{Q:QP->Act->QB->Prop}(hf:findLabel c l=some rest)(first:WpX mn ro P c (Exit.hop l (Uev mn ro P rest l Q m) Q) a v):WpX mn ro P (.scope c) Q a v:=λPr hC b hb hkd k cs G w hfit hv hQ=>by
 have hg:gotoIn l (.inScope c::k)=some (.code rest::.inScope c::k):=by simp[gotoIn,hf]
 have leave:∀(e:QP) (a':Act) (v':QB),(∀l',e ≠ .goto l')->Q e a' v'->∀G' w',FitM mn G' w'->Ge v' (view G' w')->Arr Pr b (.inScope c::k) cs e a' G' w':=by
  intro e a' v' hne hq G' w' hf' hv';cases e with
  |normal=>exact hC.calm hf' rfl (λw=>Jf) λw₂ hf₂ hg₂=>hQ .normal a' v' hq G' w₂ hf₂ (hv'.trans hg₂)
  |exit id'=>
   have hx:exitTo id' (.inScope c::k)=exitTo id' k:=by simp[exitTo]
   have:=hQ (.exit id') a' v' hq G' w' hf' hv';exact⟨λk' hk=>this.1 k' (by rwa [hx]at hk),λhk=>this.2 (by rwa [hx]at hk)⟩
  |goto l'=>exact absurd rfl (hne l')
  |ret=>exact hQ .ret a' v' hq G' w' hf' hv'
  |panic ch=>trivial
  |outgrown=>trivial
 have key:∀(m:Nat) (a:Act) (v:QB),Uev mn ro P rest l Q m a v->∀(G:Gh) (w:QB),FitM mn G w->Ge v (view G w)->Pr G w (gr (b.atR a (.code rest::.inScope c::k)) cs):=by
  intro m
  induction m with
  |zero=>intro a v h;exact h.elim
  | succ m ih=>
   intro a v h G w hfit hv;refine h Pr hC b hb hkd (.inScope c::k) cs G w hfit hv λe a' v' hq G' w' hf' hv'=> ?_
   cases e with
   | goto l'=>
    obtain⟨rfl,hJ⟩:=hq;refine⟨λk' hk=> ?_,λhk=> ?_⟩
    ·rw[hg]at hk;cases hk;exact ih a' v' hJ G' w' hf' hv'
    ·rw[hg]at hk;cases hk
   |normal=>exact leave .normal a' v' (by simp) hq G' w' hf' hv'
   |exit id=>exact leave (.exit id) a' v' (by simp) hq G' w' hf' hv'
   |ret=>exact leave .ret a' v' (by simp) hq G' w' hf' hv'
   |panic ch=>trivial
   |outgrown=>trivial
 exact hC.calm hfit rfl (λw=>dY) λw₁ hf₁ hg₁=>first Pr hC b hb hkd (.inScope c::k) cs G w₁ hf₁ (hv.trans hg₁) λe a' v' hq G' w' hf' hv'=>by
  cases e with
  | goto l'=>
   obtain⟨rfl,hJ⟩:=hq;refine⟨λk' hk=> ?_,λhk=> ?_⟩
   ·rw[hg]at hk;cases hk;exact key m a' v' hJ G' w' hf' hv'
   ·rw[hg]at hk;cases hk
  |normal=>exact leave .normal a' v' (by simp) hq G' w' hf' hv'
  |exit id=>exact leave (.exit id) a' v' (by simp) hq G' w' hf' hv'
  |ret=>exact leave .ret a' v' (by simp) hq G' w' hf' hv'
  |panic ch=>trivial
  |outgrown=>trivial
theorem yD{c:QOq}{p:Plan}{l:Nat}{cs bs:List Nat}(hcs:cs.all (Uan · (writes c))=true){α:Type}{K:QP->St->Option α}{r:α}{st stt:St}{ρs ρt:Nat->Ad}{Wt:List Nat}(hWt:∀x∈writes c,x∈Wt)(hEt:Ext Wt stt.h.length ρt ρs stt st)
  (body:∀ (s:LS) (r':Stp LS (QP×LS)) (ρ:Nat→Ad) (a:Act) (w:QB),
   Ub1 P Γ N c p l cs bs st s=some r'->RS E P W0 n0 (st.d++D) ρ0 ρ (head (writes c) cs bs st s) a w ->
   WpX mn ro P c (λe a' w'=>∃ρ' st',Udv l st.h.length cs bs e st'=some r'/\RS E P W0 n0 (st.d++D) ρ0 ρ' st' a' w'/\Ext (writes c) (head (writes c) cs bs st s).h.length ρ ρ' (head (writes c) cs bs st s) st') a w) :
  ∀(m:Nat) (s:LS) (ρ:Nat->Ad) (a:Act) (w:QB),
   au (Uab (Ub1 P Γ N c p l cs bs st) m s) (λe s=>K e (left (writes c) cs bs st s))=some r ->
   RS E P W0 n0 (st.d++D) ρ0 ρ (head (writes c) cs bs st s) a w->HLe st.h (head (writes c) cs bs st s).h->(∀k,k<st.h.length->ρ k=ρs k) ->
   ∃m',m=m'+1/\WpX mn ro P c (Exit.hop l (Uev mn ro P (.seq .skip c) l (HopQ E P W0 n0 D ρ0 K r Wt ρt stt) m') (HopQ E P W0 n0 D ρ0 K r Wt ρt stt)) a w
 |0,s,ρ,a,w,hr,_,_,_=>by simp[Uab,au]at hr
 | m+1,s,ρ,a,w,hr,hR,hhl,hren=>by
  rw[Uab]at hr;refine⟨m,rfl,?_⟩;have moreE:∀{o:Option LS} {s':LS},cx (X:=QP×LS) o=some (.more s')->o=some s':=λ{o s'} h=>by cases o<;>cases h;rfl
  have moreN:∀{o:Option LS} {x:QP×LS},cx (X:=QP×LS) o=some (.done x)->False:=λ{o x} h=>by cases o<;>cases h
  have doneE:∀{o:Option LS} {e:QP} {x:QP×LS},bZ e o=some (.done x)->∃s',o=some s'/\x=(e,s'):=λ{o e x} h=>by cases o<;>cases h;exact⟨_,rfl,rfl⟩
  have doneN:∀{o:Option LS} {e:QP} {s':LS},bZ e o=some (.more s')->False:=λ{o e s'} h=>by cases o<;>cases h
  cases hs':Ub1 P Γ N c p l cs bs st s with
  |none=>rw[hs']at hr;simp[au]at hr
  | some x=>
   rw[hs']at hr;cases x with
   | more s'=>
    dsimp only at hr;refine WpX.mono (body s _ ρ a w hs' hR) ?_;rintro e a' w' ⟨ρ',st',hk,hR',hE⟩;cases e with
    | goto l'=>
     simp only[Udv]at hk;cases hb:jA l' l with
     |false=>rw[hb]at hk;cases hk
     |true=>
      rw[hb]at hk;obtain⟨rfl,h1,h2,h3⟩:=Ae (moreE hk);obtain⟨hR2,hhl2⟩:=pZ hR hR' hE hhl h1 h2 h3;obtain⟨m',rfl,hrec⟩:=yD hcs hWt hEt body m _ ρ' a' w' hr hR2 hhl2 λk hk'=>(hE.ren k (by rw[show (head (writes c) cs bs st s).h.length=st.h.length from bJ _ _ _];exact hk')).trans (hren k hk')
      exact⟨jH hb,Za1 (Zh9 hrec)⟩
    |normal=>exact(doneN hk).elim
    |exit id=>exact(doneN hk).elim
    |ret=>exact(doneN hk).elim
    |panic ch=>cases hk
    |outgrown=>cases hk
   | done x=>
    simp only[au]at hr;refine WpX.mono (body s _ ρ a w hs' hR) ?_;rintro e a' w' ⟨ρ',st',hk,hR',hE⟩;have fin:bZ e (tail st.h.length cs bs st')=some (.done x)->HopQ E P W0 n0 D ρ0 K r Wt ρt stt e a' w':=λh=>by
     obtain⟨s',hs,rfl⟩:=doneE h;obtain⟨rfl,h1,h2,h3⟩:=Ae hs;obtain⟨hR2,hhl2⟩:=pZ hR hR' hE hhl h1 h2 h3;obtain⟨h4,h5⟩:=zZ hcs hR2 hhl2 λk hk'=>(hE.ren k (by rw[show (head (writes c) cs bs st s).h.length=st.h.length from bJ _ _ _];exact hk')).trans (hren k hk')
     exact⟨ρ',_,hr,h4,hEt.trans (h5.mono hWt hEt.hlen)⟩
    cases e with
    |goto l'=>
     simp only[Udv]at hk;cases hb:jA l' l with
     |false=>rw[hb]at hk;cases hk
     |true=>rw[hb]at hk;exact(moreN hk).elim
    |normal=>exact fin hk
    |exit id=>exact fin hk
    |ret=>exact fin hk
    |panic ch=>cases hk
    |outgrown=>cases hk
theorem yE (hm:P.follows .mixedOrders=true) (hΓ:ConsOkX mn P (Ual mn P) Γ) (hW:ro=none) {W0:QB} {n0:Nat} {ρ0:Nat→Ad} {α:Type} {K:QP→St→Option α} {r:α} {D E:List Nat} {Wt:List Nat} {ρt:Nat→Ad} {stt:St} (hKg:∀ l st,K (.goto l) st=none) {j:JD} :
  ∀(c:QOq) (p:Plan) (ρ:Nat->Ad) (st:St) (a:Act) (w:QB),jd c p=some j->(∀x∈writes c,x∈Wt)->veSc P Γ N c p α st K=some r->RS E P W0 n0 D ρ0 ρ st a w->Ext Wt stt.h.length ρt ρ stt st ->
   WpX mn ro P c (Exit.hop j.l (Uev mn ro P (.seq .skip j.z) j.l (HopQ E P W0 n0 D ρ0 K r Wt ρt stt) N) (HopQ E P W0 n0 D ρ0 K r Wt ρt stt)) a w
 | .seq x y,.two p q,ρ,st,a,w,hj,hWc,hr,hR,hEt=>by
  simp only[jd]at hj;split at hj
  ·rename_i j' hjy;cases hb:(findLabel x j'.l).isNone with
   |false=>rw[hb]at hj;cases hj
   |true=>rw[hb]at hj;cases hj;rw[veSc]at hr;refine Za1 (WpX.mono (Zd1 hm hΓ x p ro (.inl hW) E W0 n0 ρ0 α st _ r D ρ a w hr hR) ?_);rintro e a1 w1 ⟨ρ1,st1,hk,hR1,hE1⟩;have hE2:=hEt.trans (hE1.mono (λi hi=>hWc i (jB _ hi)) hEt.hlen);cases e with|normal=>exact yE hm hΓ hW hKg y q ρ1 st1 a1 w1 hjy (λi hi=>hWc i (jL _ hi)) hk hR1 hE2|goto l=>exact absurd hk (by rw[show kSeq (veSc P Γ N y q α) K (.goto l) st1=K (.goto l) st1 from rfl,hKg];simp)|exit id=>exact⟨ρ1,st1,hk,hR1,hE2⟩|ret=>exact⟨ρ1,st1,hk,hR1,hE2⟩|panic ch=>exact⟨ρ1,st1,hk,hR1,hE2⟩|outgrown=>exact⟨ρ1,st1,hk,hR1,hE2⟩
  ·cases hj
 | .seq x y,.jump l cs bs p q,ρ,st,a,w,hj,hWc,hr,hR,hEt=>by
  simp only[jd]at hj;split at hj
  ·rename_i z hz;cases hb:(findLabel x l).isNone with
   |false=>rw[hb]at hj;cases hj
   | true=>
    rw[hb]at hj;cases hj;rw[veSc]at hr;rw[hz]at hr;dsimp only at hr|-
    have hy:=Ac hz;cases hcs:cs.all (Uan · (writes z)) with
    |false=>rw[hcs]at hr;cases hr
    | true=>
     rw[hcs,Q1]at hr;refine Za1 (WpX.mono (Zd1 hm hΓ x p ro (.inl hW) E W0 n0 ρ0 α st _ r D ρ a w hr hR) ?_);rintro e a1 w1 ⟨ρ1,st1,hk,hR1,hE1⟩;have hE2:=hEt.trans (hE1.mono (λi hi=>hWc i (jB _ hi)) hEt.hlen);cases e with
     | normal=>
      simp only[kSeq]at hk;have hwz:∀i∈writes z,i∈Wt:=λi hi=>hWc i (jL _ (by rw[hy];exact jL _ hi))
      obtain⟨hR0,hhl0⟩:=qa (W:=writes z) (cs:=cs) (bs:=bs) hR1;obtain⟨N',hN,hrounds⟩:=yD (P:=P) (Γ:=Γ) (mn:=mn) (ro:=ro) (N:=N) (W0:=W0) (n0:=n0) (D:=D) (ρ0:=ρ0) hcs (p:=q) (l:=l) hwz hE2 (λs r' ρ a w h1 h2=>Zd1 hm hΓ z q ro (.inl hW) E W0 n0 ρ0 _ _ _ r' (st1.d++D) ρ a w h1 h2) N _ ρ1 a1 w1 hk hR0 hhl0 (λ_ _=>rfl)
      -- the first round, from the label itself
      show WpX mn ro P y _ a1 w1
      rw[hy];generalize hQ:HopQ E P W0 n0 D ρ0 K r Wt ρt stt=Q at hrounds|-
      refine Za1 (Yrx ?_)
      show WpX mn ro P z _ a1 w1
      have hN2:∀(m:Nat) (a:Act) (w:QB),Uev mn ro P (.seq .skip z) l Q m a w->Uev mn ro P (.seq .skip z) l Q (m+1) a w:=by
       intro m
       induction m with
       |zero=>intro a w h;exact h.elim
       |succ m ih=>intro a w h;refine WpX.mono h ?_;intro e a' w' he;cases e with|goto l'=>exact⟨he.1,ih a' w' he.2⟩|_=>exact he
      refine WpX.mono hrounds λe a' w' he=> ?_
      cases e with|goto l'=>exact⟨he.1,by have:=hN2 _ a' w' he.2;rw[<- hN]at this;exact this⟩|_=>exact he
     |goto l'=>exact absurd hk (by simp only[kSeq];rw[hKg];simp)
     |exit id=>exact⟨ρ1,st1,hk,hR1,hE2⟩
     |ret=>exact⟨ρ1,st1,hk,hR1,hE2⟩
     |panic ch=>exact⟨ρ1,st1,hk,hR1,hE2⟩
     |outgrown=>exact⟨ρ1,st1,hk,hR1,hE2⟩
  ·cases hj
 |.seq x y,.one,_,_,_,_,hj,_,_,_,_ | .seq x y,.loop _ _ _,_,_,_,_,hj,_,_,_,_ | .seq x y,.loopG _ _ _ _ _,_,_,_,_,hj,_,_,_,_ | .seq x y,.loopR _ _ _,_,_,_,_,hj,_,_,_,_ | .seq x y,.loopGR _ _ _ _ _,_,_,_,_,hj,_,_,_,_ | .seq x y,.iter _ _,_,_,_,_,hj,_,_,_,_ | .seq x y,.sc _,_,_,_,_,hj,_,_,_,_=>by simp[jd]at hj
 |.skip,_,_,_,_,_,hj,_,_,_,_ | .region _ _ _,_,_,_,_,_,hj,_,_,_,_ | .cond _ _ _,_,_,_,_,_,hj,_,_,_,_ | .block _ _,_,_,_,_,_,hj,_,_,_,_ | .loop _,_,_,_,_,_,hj,_,_,_,_ | .rangeFunc _ _ _ _,_,_,_,_,_,hj,_,_,_,_ | .exit _,_,_,_,_,_,hj,_,_,_,_ | .scope _,_,_,_,_,_,hj,_,_,_,_ | .label _,_,_,_,_,_,hj,_,_,_,_ | .goto _,_,_,_,_,_,hj,_,_,_,_ | .ret,_,_,_,_,_,hj,_,_,_,_ | .refuse _,_,_,_,_,_,hj,_,_,_,_=>by simp[jd]at hj
theorem Yn7(hm:P.follows .mixedOrders=true)(hΓ:ConsOkX mn P (Ual mn P) Γ)(hW:ro=none){W0:QB}{n0:Nat}{ρ0:Nat->Ad}{α:Type}{K:QP->St->Option α}{r:α}{D E:List Nat}:
  ∀(c:QOq) (p:Plan) (ρ:Nat->Ad) (st:St) (a:Act) (w:QB),veF P Γ N c p α st K=some r->RS E P W0 n0 D ρ0 ρ st a w ->
   WpX mn ro P c (λe a' w'=>∃ρ' st',K e st'=some r/\RS E P W0 n0 D ρ0 ρ' st' a' w'/\Ext (writes c) st.h.length ρ ρ' st st') a w
 | .seq x y,.two p q,ρ,st,a,w,hr,hR=>by
  rw[veF]at hr;refine Za1 (WpX.mono (Zd1 hm hΓ x p ro (.inl hW) E W0 n0 ρ0 α st _ r D ρ a w hr hR) ?_);rintro e a1 w1 ⟨ρ1,st1,hk,hR1,hE1⟩;cases e with
  |normal=>refine WpX.mono (Yn7 hm hΓ hW y q ρ1 st1 a1 w1 hk hR1) ?_;rintro e2 a2 w2 ⟨ρ2,st2,hk2,hR2,hE2⟩;exact⟨ρ2,st2,hk2,hR2,Aa hE1 hE2⟩
  |exit id=>exact⟨ρ1,st1,hk,hR1,hE1.mono (λ_ h=>jB _ h) (jE _)⟩
  |goto l=>exact⟨ρ1,st1,hk,hR1,hE1.mono (λ_ h=>jB _ h) (jE _)⟩
  |ret=>exact⟨ρ1,st1,hk,hR1,hE1.mono (λ_ h=>jB _ h) (jE _)⟩
  |panic ch=>exact⟨ρ1,st1,hk,hR1,hE1.mono (λ_ h=>jB _ h) (jE _)⟩
  |outgrown=>exact⟨ρ1,st1,hk,hR1,hE1.mono (λ_ h=>jB _ h) (jE _)⟩
 | .scope x,p,ρ,st,a,w,hr,hR=>by
  rw[veF]at hr;split at hr
  ·rename_i j hj;refine JI (Yx2 hj) (m:=N) ?_;have:=yE (K:=Ubv K) (ρt:=ρ) (stt:=st) (Wt:=writes x) hm hΓ hW (λl st=>rfl) x p ρ st a w hj (λ_ h=>h) hr hR (.refl _ _ _ _);have up:∀(e:QP) (a':Act) (w':QB),HopQ E P W0 n0 D ρ0 (Ubv K) r (writes x) ρ st e a' w'->∃ρ' st',K e st'=some r/\RS E P W0 n0 D ρ0 ρ' st' a' w'/\Ext (writes (.scope x)) st.h.length ρ ρ' st st':=λe a' w' ⟨ρ',st',h1,h2,h3⟩=>⟨ρ',st',Lb h1,h2,h3⟩
   have hops:∀(m:Nat) (a:Act) (w:QB),Uev mn ro P (.seq .skip j.z) j.l (HopQ E P W0 n0 D ρ0 (Ubv K) r (writes x) ρ st) m a w->Uev mn ro P (.seq .skip j.z) j.l (λe a' w'=>∃ρ' st',K e st'=some r/\RS E P W0 n0 D ρ0 ρ' st' a' w'/\Ext (writes (.scope x)) st.h.length ρ ρ' st st') m a w:=by
    intro m
    induction m with
    |zero=>intro a w h;exact h.elim
    |succ m ih=>
     intro a w h;refine WpX.mono h λe a' w' he=> ?_
     cases e with|goto l'=>exact⟨he.1,ih a' w' he.2⟩|_=>exact up _ _ _ he
   refine WpX.mono this λe a' w' he=> ?_
   cases e with|goto l'=>exact⟨he.1,hops _ a' w' he.2⟩|_=>exact up _ _ _ he
  ·cases hr
 |.seq x y,.one,_,_,_,_,hr,_ | .seq x y,.loop _ _ _,_,_,_,_,hr,_ | .seq x y,.loopG _ _ _ _ _,_,_,_,_,hr,_ | .seq x y,.loopR _ _ _,_,_,_,_,hr,_ | .seq x y,.loopGR _ _ _ _ _,_,_,_,_,hr,_ | .seq x y,.iter _ _,_,_,_,_,hr,_ | .seq x y,.sc _,_,_,_,_,hr,_ | .seq x y,.jump _ _ _ _ _,_,_,_,_,hr,_=>by simp[veF]at hr
 |.skip,_,_,_,_,_,hr,_ | .region _ _ _,_,_,_,_,_,hr,_ | .cond _ _ _,_,_,_,_,_,hr,_ | .block _ _,_,_,_,_,_,hr,_ | .loop _,_,_,_,_,_,hr,_ | .rangeFunc _ _ _ _,_,_,_,_,_,hr,_ | .exit _,_,_,_,_,_,hr,_ | .label _,_,_,_,_,_,hr,_ | .goto _,_,_,_,_,_,hr,_ | .ret,_,_,_,_,_,hr,_ | .refuse _,_,_,_,_,_,hr,_=>by simp[veF]at hr
theorem Yvv(hm:P.follows .mixedOrders=true)(hΓ:ConsOkX mn P (Ual mn P) Γ)(hW:ro=none){W0:QB}{n0:Nat}{ρ0:Nat->Ad}{α:Type}{K:QP->St->Option α}{r:α}{D E:List Nat}
  (c:QOq) (p:Plan) (ρ:Nat→Ad) (st:St) (a:Act) (w:QB) (hr:zW P Γ N c p α st K=some r) (hR:RS E P W0 n0 D ρ0 ρ st a w) :
   WpX mn ro P c (λe a' w'=>∃ρ' st',K e st'=some r/\RS E P W0 n0 D ρ0 ρ' st' a' w'/\Ext (writes c) st.h.length ρ ρ' st st') a w:=by
 cases p with|sc p=>exact Yn7 hm hΓ hW c p ρ st a w hr hR|_=>exact Zd1 hm hΓ c _ ro (.inl hW) E W0 n0 ρ0 α st K r D ρ a w hr hR
end
end
section
variable {mn:Md}
section
variable {P:QD} {Γ:Cons} {N:Nat}
def lK(P:QD)(fn:Func)(tmps:QA)(R:QC->QB->Prop)(ds:List QK)(v:QB):Prop:=
 ∃W0,DefOk W0 ds v/\∀wx:QB,Kept (λk=>W0.heap.size<=k) v wx->(∀(k:Nat) c t fr,v.heap[k]?=some (Obj.cells c t fr)->wx.heap[k]?=some (Obj.cells c t fr))->∃r,(results fn tmps).run P wx=.ok r wx/\R r wx
theorem Zok(fn:Func)(tmps:QA):Simple P (results fn tmps):=by
 unfold results;refine .bind (Ygu _ (λr=> ?_) _) λ_=>.pure _
 cases r with|tmp t=>exact .pure _|cell a t=>exact .bind (Yo9 _) λ_=>yt _ _
theorem yF{fr:QL}{cs:List QL}{w w':QB}{m:Nat}{ds:List QK}{es:Array Event}(A:fr.mode=.returning)(J:fr.defers={ target:=.collected m,args:=#[] }::ds)(L:(Instr.takeDeferred m).runT P w #[]=(.ok [] w',es)):
  stepG P mn.main (gr fr cs) w=.go (gr { fr with defers:=ds } cs) w' (seen P fr.fn es):=by
 simp[gr,stepG,unwind,A,J,L,GStep.after,-Sem.runT_eq]
theorem yG{Pr:Gh->QB->Goroutine->Prop}(hC:Closed P mn.main Pr){f:QF}{fn:Func}(hf:P.funcs[f]?=some fn){tmps:QA}{R:QC->QB->Prop}{cs:List QL}
  (hQ:∀v' fr,fr.fn=f->Ucx P fr R v'->∀G' w',FitM mn G' w'->Ge v' (view G' w')->Pr G' w' (gr fr cs)) :
  ∀(ds:List QK) (fr:QL) (v:QB),fr.fn=f->fr.mode=.returning->fr.kind=.normal->fr.tmps=tmps->fr.defers=ds->lK P fn tmps R ds v->∀(G:Gh) (w:QB),FitM mn G w->Ge v (view G w)->Pr G w (gr fr cs)
 | [],fr,v,h1,h2,h3,h4,h5,⟨W0,_,hl⟩,G,w,hfit,hv=>hQ v fr h1 ⟨h2,h5,h3,fn,by rw [h1];exact hf,fun v₁ hg=>by
   obtain⟨r,q1,q2⟩:=hl v₁ (hg.kept _) λk c t fr hk=>hg.at hk
   exact⟨r,by rw[h4];exact(Zok fn tmps).tr q1,q2⟩⟩ G w hfit hv
 | d::ds,fr,v,h1,h2,h3,h4,h5,⟨W0,hd,hl⟩,G,w,hfit,hv=>by
  refine hC.step G w _ hfit rfl λw₁ hr₁=> ?_
  have hf₁:=hfit.rely hr₁;have hg₁:=hv.trans (hr₁.view hfit);generalize hv₁:view G w₁=v₁ at hg₁;have hd₁:=hd.same (hg₁.kept _);obtain⟨m,rfl,hm,hb⟩:=hd₁.all d (List.mem_cons_self ..);obtain⟨w₂,es,e1,e2,e3⟩:=yB (P:=P) hb G w₁ hf₁ hv₁ #[];refine⟨_,w₂,_,yF h2 h5 e1,by simpa using e3.seen fr.fn,?_⟩;have hlt:m<v₁.heap.size:=(jP.1 hb).1;have hk:Kept (λk=>W0.heap.size<=k) v (v₁.putObj m (.deferred none)):=(hg₁.kept _).trans ⟨rfl,rfl,rfl,by simp[World.putObj],λk hk hne=>World.putObj_heap_other (by omega)⟩;have hc:∀k c t fr,v.heap[k]?=some (Obj.cells c t fr)->(v₁.putObj m (.deferred none)).heap[k]?=some (Obj.cells c t fr):=λk c t fr hc=>by
   rw[World.putObj_heap_other (by rintro rfl;rw[hg₁.at hc]at hb;cases hb)];exact hg₁.at hc
  have hpw:=List.pairwise_cons.1 hd₁.diff;refine yG hC hf hQ ds { fr with defers:=ds } (v₁.putObj m (.deferred none)) h1 h2 h3 h4 rfl ⟨W0,⟨λe he=> ?_,hpw.2⟩,λwx q1 q2=>hl wx (hk.trans (q1.mono λ_ _ h=>h)) λk c t fr hh=>q2 k c t fr (hc k c t fr hh)⟩ _ w₂ (hf₁.did e3) (by rw[<- e2];exact Ge.refl _);obtain⟨q,rfl,h1,h2⟩:=hd₁.all e (List.mem_cons_of_mem _ he);refine⟨q,rfl,h1,?_⟩;rw[World.putObj_heap_other (by rintro rfl;exact hpw.1 _ he _ rfl rfl)];exact h2
theorem pA{f:QF}{fn:Func}(Z:P.funcs[f]?=some fn){c:QOq}(hb:fn.body=some c){args:QA}{v:QB}{R:QC->QB->Prop}
  (h:WpX mn none P c (λe A v'=>(e=.normal\/e=.ret)/\lK P fn A.tmps R A.defers v') { tmps:=args++jD (fn.ntmps - args.size) undef,defers:=[] } v):Ua6 mn P f args v R:=λPr L cs G w J hv hQ=>by
 let b:QL:={ fn:=f,tmps:=#[],todo:=[],defers:=[],mode:=.run,kind:=.normal }
 have he:Frame.enter P f args .normal=b.atR { tmps:=args++jD (fn.ntmps - args.size) undef,defers:=[] } [.code c]:=by simp[Frame.enter,Frame.atR,b,Z,hb]
 rw[he];refine h Pr L b rfl rfl [] cs G w J hv λe A v' hq G' w' O U=> ?_
 obtain⟨V,hl⟩:=hq;have fin:∀(k:List Item) (w:QB),stepG P mn.main (gr (b.atR A k) cs) w=.go (gr { b.atR A k with mode:=.returning } cs) w #[]->True:=λ_ _ _=>trivial
 have go:∀k:List Item,(∀w,stepG P mn.main (gr (b.atR A k) cs) w=.go (gr { b.atR A k with mode:=.returning } cs) w #[])->Pr G' w' (gr (b.atR A k) cs):=λk hs=>
  L.calm O rfl hs λw₁ hf₁ hg=>yG L Z hQ A.defers _ v' rfl rfl rfl rfl rfl hl G' w₁ hf₁ (U.trans hg)
 rcases V with rfl|rfl
 ·exact go [] λw=>by simp[gr,stepG,stepG.exec,Frame.atR,b]
 ·exact λk₁=>go _ λw=>by simp[gr,stepG,stepG.exec,Frame.atR,b]
theorem gD (hm:P.follows .mixedOrders=true) (hΓ:ConsOkX mn P (Ual mn P) Γ) {f:QF} {fn:Func} (hf:P.funcs[f]? = some fn) {c:QOq} (hb:fn.body=some c) {res:List ResultVar} (hres:fn.results.toList=res) {nt:Nat} (hnt:fn.ntmps=nt) (p:Plan) :
  Uad mn P f (funV P Γ N res nt c p):=by
 intro ρ h w args vals r ef hno hr hA hH;refine pA hf hb ?_;have hlen:args.length=vals.length:=hA.1
 have hR:R P w h.length [] ρ ρ (entry nt args h) { tmps:=vals.toArray++jD (fn.ntmps - vals.toArray.size) undef,defers:=[] } w:=by
  refine⟨by simp[entry,hlen,hnt],λi v hv=> ?_,hH,λ_ _=>rfl,λk hk hp=> ?_,Kept.refl _ w,λn len C e _ h=>absurd h (hno n len C e),DefOk.nil _ _,jE _⟩
  ·simp only[entry]at hv|-
   by_cases hi:i<args.length
   ·rw[jM (by simpa using hi),List.getElem?_map,jF hi]at hv;simp only[Option.map_some,Q8]at hv;subst hv;have:(vals.toArray++jD (fn.ntmps - vals.toArray.size) undef).getD i undef=vals[i]'(by omega):=by
     rw[jQ,Array.getElem?_append_left (by simp;omega)];simp[show i<vals.length by omega]
    rw[this];exact hA.2 i _ _ (jF hi) (jF (by omega))
   ·rw[List.getElem?_append_right (by simp;omega),List.getElem?_replicate]at hv;split at hv
    ·cases hv;have:(vals.toArray++jD (fn.ntmps - vals.toArray.size) undef).getD i undef=undef:=by
      rw[jQ,Array.getElem?_append_right (by simp;omega),Array.getElem?_replicate];split<;>rfl
     rw[this];rfl
    ·cases hv
  ·exfalso;cases hp with|row e=>have:=(jC.1 e).1;simp only[entry]at this;omega|one e=>have:=(jC.1 e).1;simp only[entry]at this;omega|own e _ _=>have:=(jC.1 e).1;simp only[entry]at this;omega
 refine WpX.mono (Yvv hm hΓ rfl c p ρ _ _ w hr hR) ?_;rintro e a' w' ⟨ρ',st',hk,hR',hE⟩
 have key:iu P h res st'=some (r,ef,true) →
   lK P fn a'.tmps (λv w'=>Ua4 P ρ h w r ef v w') a'.defers w':=by
  intro hk;unfold iu at hk;cases hcl:oe h.length st'.d with
  | false=>
   rw[hcl]at hk;simp only[Q2]at hk;cases hv0:ir P st' res with
   |none=>rw[hv0]at hk;cases hk
   |some vv0=>
   cases hfirst:og h.length st'.d with
   |none=>rw[hv0,hfirst]at hk;cases hk
   |some m=>
   rw[hv0,hfirst]at hk;dsimp only at hk;cases hone:fi h.length m st'.d with
   |false=>rw[hone]at hk;cases hk
   |true=>
   rw[hone]at hk;simp only[Q1]at hk;have hmlt:=Ap hfirst;have hρ:ρ' m=ρ m:=hE.ren m hmlt;have hk0:Kept (λk=>k=(ρ m).a) w w':=hR'.keptR.mono λk _ ⟨q,h1,h2,h3⟩=>by
    rcases h2 with h2|h2
    ·rw[<- h3,Aq hone q h2 h1]
    ·cases h2
   have hkx2:∀wx:QB,Kept (λk=>w.heap.size<=k) w' wx->Kept (λk=>k=(ρ m).a) w wx:=λwx hkx=>
    ⟨hkx.os.trans hk0.os,hkx.tape.trans hk0.tape,hkx.output.trans hk0.output,jK hk0.size hkx.size,λk hk he=>(hkx.block k (jN hk hk0.size) (by omega)).trans (hk0.block k hk he)⟩
   have hresW:∀ wx:QB,Kept (fun k=>w.heap.size≤k) w' wx→(∀ (k:Nat) c t fr,w'.heap[k]? = some (Obj.cells c t fr)→wx.heap[k]? = some (Obj.cells c t fr))→∃ v,(results fn a'.tmps).run P wx = .ok v wx∧IsV P ρ h vv0 v:=fun wx hkx hcx=>by
    cases hre:res with
    |nil=>rw[hre]at hv0;simp only[ir,Q8]at hv0;subst hv0;rw[hre]at hres;exact⟨undef,by simp[results,Array.toList_eq_nil_iff.1 hres];rfl,rfl⟩
    | cons r0 l0=>
     rw[hre]at hv0;simp only[ir]at hv0;split at hv0
     ·rename_i ys hys;cases hd:ys.all jm with
      |false=>rw[hd]at hv0;cases hv0
      | true=>
       rw[hd]at hv0;simp only[Q1,Q8]at hv0;subst hv0;have hHx:HIs P ρ' st'.h wx:=⟨λn b hb=>(hR'.heap.is n b hb).world' hkx.size (λg c t fr hc=>hcx _ _ _ _ hc) λc t fr hc=>hcx _ _ _ _ hc,hR'.heap.inj,hR'.heap.far⟩;obtain⟨vs,hrun2,hall⟩:=lf hR'.slots hHx (fn:=fn) (by rw[hres,hre];exact hys);have hall2:Uap P ρ h ys vs:=by refine⟨hall.1,λi y v hy hv=> ?_⟩;rw[jI]at hd;have h1:=hall.2 i y v hy hv;have h2:=hd y (jO hy);cases y<;>first|exact h1|cases h2
       refine⟨_,hrun2,?_⟩
       match ys,vs,hall2 with|[],[],h2=>exact⟨[],rfl,h2⟩|[y],[v],h2=>exact h2.2 0 y v rfl rfl|y::z::l,v::u::vs,h2=>refine⟨v::u::vs,?_,h2⟩;rw[dif_neg (by simp)]|[],v::vs,h2=>exact absurd h2.1 (by simp)|[y],[],h2=>exact absurd h2.1 (by simp)|[y],v::u::vs,h2=>exact absurd h2.1 (by simp)|y::z::l,[],h2=>exact absurd h2.1 (by simp)|y::z::l,[v],h2=>exact absurd h2.1 (by simp)
     ·cases hv0
   split at hk
   ·rename_i C t C0 t0 hmt hm0;cases hbt:jA t t0 with
    |false=>rw[hbt]at hk;cases hk
    |true=>rw[hbt]at hk;obtain rfl:=jH hbt;simp only[Q1,Q8,Q0]at hk;obtain⟨rfl,rfl,-⟩:=hk;refine⟨_,hR'.defers,λwx hkx hcx=> ?_⟩;obtain⟨v,hrun,hiv⟩:=hresW wx hkx hcx;refine⟨v,hrun,hiv,.inl ⟨_,_,_,hm0,rfl⟩,hkx2 wx hkx,?_⟩;have hB:=(hR'.heap.is m _ hmt).row;rw[hρ]at hB;exact⟨hcx _ _ _ _ hB.1,hB.2⟩
   ·rename_i len C e0 len0 C0 e1 hmt hm0;cases hbl:jG 0 len with
    |false=>rw[hbl]at hk;cases hk
    | true=>
     rw[hbl]at hk;simp only[Q1,Q8,Q0]at hk;obtain⟨rfl,rfl,-⟩:=hk;have hl0:1<=len:=by simpa [jG] using hbl
     obtain⟨rfl,rfl⟩:len0=len/\e1=e0:=by
      rcases(hE.hle m).sl _ _ _ _ hm0 with ⟨C',h1⟩ | ⟨h1,_⟩
      ·rw[hmt]at h1;cases h1;exact⟨rfl,rfl⟩
      ·cases h1
     refine⟨_,hR'.defers,λwx hkx hcx=> ?_⟩;obtain⟨v,hrun,hiv⟩:=hresW wx hkx hcx;refine⟨v,hrun,hiv,.inr (.inl ⟨_,_,_,_,_,rfl,hm0,rfl,by omega⟩),hkx2 wx hkx,?_⟩;have hB:=hR'.heap.is m _ hmt;rw[hρ]at hB;exact BIs.world' (b:=.sl .lent _ C _) ⟨hB.1,hB.2⟩ hkx.size (λg c t fr hc=>hcx _ _ _ _ hc) λc t fr hc=>hcx _ _ _ _ hc
   ·cases hk
  | true=>
   rw[hcl]at hk;simp only[Q1]at hk;split at hk
   ·rename_i l hl;cases hrl:l.all (Ub3 h.length) with
    | false=>
     rw[hrl]at hk;simp only[Q2]at hk;unfold fj at hk;split at hk
     ·rename_i i m hfst;obtain⟨-,hli,hml⟩:=Al hfst;rw[Nat.sub_zero]at hli;split at hk
      ·rename_i len C e hm;have hkept0:Kept (λ_=>False) w w':=hR'.keptR.mono λk _ ⟨m,h1,h2,_⟩=>by
        rcases h2 with h2|h2
        ·have:=lh hcl m h2;omega
        ·cases h2
       cases hb1:jA l.length 1 with
       | true=>
        rw[hb1]at hk;simp only[Q1,Q8,Q0]at hk;obtain⟨rfl,rfl,-⟩:=hk;refine⟨_,hR'.defers,λwx hkx hcx=> ?_⟩;have hHx:HIs P ρ' st'.h wx:=⟨λn b hb=>(hR'.heap.is n b hb).world' hkx.size (λg c t fr hc=>hcx _ _ _ _ hc) λc t fr hc=>hcx _ _ _ _ hc,hR'.heap.inj,hR'.heap.far⟩;obtain⟨vs,hrun2,hall⟩:=lf hR'.slots hHx (fn:=fn) (by rw[hres];exact hl);have hkept:Kept (λ_=>False) w wx:=⟨hkx.os.trans hkept0.os,hkx.tape.trans hkept0.tape,hkx.output.trans hkept0.output,jK hkept0.size hkx.size,λk hk he=>(hkx.block k (jN hk hkept0.size) (by omega)).trans (hkept0.block k hk he)⟩;have h1l:=jH hb1
        match l,vs,h1l,hall,hrun2,hli with
        |[y],[v],_,hall,hrun2,hli=>
         have hi0:i=0:=by have:=(jC.1 hli).1;simp at this;exact this
         subst hi0;simp only[List.getElem?_cons_zero,Q8]at hli;subst hli;obtain⟨ad,cap,h2,h3,h4⟩:=Is.l_of (hall.2 0 _ v rfl rfl) hm;refine⟨v,hrun2,ρ' m,ad,cap,h2,⟨(h4 rfl).1,λh0=>⟨h3 h0,(h4 rfl).2 h0⟩⟩,λh0=>hR'.freshR m hml (.own hm rfl h0),hkept,?_⟩;exact hHx.is m _ hm
        |[y],[],_,hall,_,_=>exact absurd hall.1 (by simp)
        |[y],_::_::_,_,hall,_,_=>exact absurd hall.1 (by simp)
       | false=>
        rw[hb1]at hk;simp only[Q2]at hk;cases hra0:(l.set i .x).all (Ub3 h.length) && !Nat.ble 1000000 i with
        |false=>rw[hra0]at hk;cases hk
        | true=>
         rw[hra0]at hk;obtain⟨hra,hlen0⟩:=Bool.and_eq_true_iff.1 hra0;simp only[Q1,Q8,Q0]at hk;obtain⟨rfl,rfl,-⟩:=hk;refine⟨_,hR'.defers,λwx hkx hcx=> ?_⟩;have hHx:HIs P ρ' st'.h wx:=⟨λn b hb=>(hR'.heap.is n b hb).world' hkx.size (λg c t fr hc=>hcx _ _ _ _ hc) λc t fr hc=>hcx _ _ _ _ hc,hR'.heap.inj,hR'.heap.far⟩;obtain⟨vs,hrun2,hall⟩:=lf hR'.slots hHx (fn:=fn) (by rw[hres];exact hl);have hkept:Kept (λ_=>False) w wx:=⟨hkx.os.trans hkept0.os,hkx.tape.trans hkept0.tape,hkx.output.trans hkept0.output,jK hkept0.size hkx.size,λk hk he=>(hkx.block k (jN hk hkept0.size) (by omega)).trans (hkept0.block k hk he)⟩;have hne1:vs.toArray.size≠1:=by rw[List.size_toArray,<- hall.1];intro e;rw[e]at hb1;cases hb1
         rw[dif_neg hne1]at hrun2;have hilt:=(jC.1 hli).1;have hvi:=jF (show i<vs.length by rw[<- hall.1];exact hilt);obtain⟨ad,cap,h2,h3,h4⟩:=Is.l_of (hall.2 i _ _ hli hvi) hm;have hh:∀k,k<h.length->h[k]?=st'.h[k]?:=λk hk=>by
          refine(hE.heap k hk λhd=> ?_).symm;have:=lh hcl k hd;omega
         have hall2:Uap P ρ h (l.set i .x) vs:=by
          refine⟨by simpa using hall.1,λk y v hy hv=> ?_⟩
          by_cases e:i=k
          ·subst e;rw[List.getElem?_set_self hilt]at hy;cases hy;trivial
          ·have hy':=hy;rw[List.getElem?_set_ne e]at hy;rw[jI]at hra;have h1:=(hall.2 k y v hy hv).cut hh (hra y (jO hy'));exact h1.mono (HLe.refl _) λk hk=>(hE.ren k (Zw6 hk)).symm
         have hismall:Nat.ble 1000000 i=false:=by cases hbi:Nat.ble 1000000 i with|false=>rfl|true=>rw[hbi]at hlen0;cases hlen0
         refine⟨_,hrun2,ρ' m,ad,cap,by simp only[gX,hismall,Q2];exact⟨_,vs,rfl,rfl,hall2,by rw[hvi,h2]⟩,⟨(h4 rfl).1,λh0=>⟨h3 h0,(h4 rfl).2 h0⟩⟩,λh0=>hR'.freshR m hml (.own hm rfl h0),hkept,?_⟩;exact hHx.is m _ hm
      ·cases hk
     ·unfold Ai at hk;split at hk
      ·rename_i m hfst;obtain⟨hml,j0,D0,T0,ns0,i0,hj0,hi0⟩:=Ak hfst;split at hk
       ·rename_i len C e hm;cases hok:Nat.ble h.length 1000000&&l.all (okH h.length m) with
        |false=>rw[hok]at hk;cases hk
        |true=>
        rw[hok]at hk;simp only[Q1,Q8,Q0]at hk;obtain⟨rfl,rfl,-⟩:=hk;obtain⟨hsm,hok⟩:=Bool.and_eq_true_iff.1 hok;have hsm:=Nat.le_of_ble_eq_true hsm;have hkept0:Kept (λ_=>False) w w':=hR'.keptR.mono λk _ ⟨m,h1,h2,_⟩=>by
         rcases h2 with h2|h2
         ·have:=lh hcl m h2;omega
         ·cases h2
        refine⟨_,hR'.defers,λwx hkx hcx=> ?_⟩;have hHx:HIs P ρ' st'.h wx:=⟨λn b hb=>(hR'.heap.is n b hb).world' hkx.size (λg c t fr hc=>hcx _ _ _ _ hc) λc t fr hc=>hcx _ _ _ _ hc,hR'.heap.inj,hR'.heap.far⟩;obtain⟨vs,hrun2,hall⟩:=lf hR'.slots hHx (fn:=fn) (by rw[hres];exact hl);have hkept:Kept (λ_=>False) w wx:=⟨hkx.os.trans hkept0.os,hkx.tape.trans hkept0.tape,hkx.output.trans hkept0.output,jK hkept0.size hkx.size,λk hk he=>(hkx.block k (jN hk hkept0.size) (by omega)).trans (hkept0.block k hk he)⟩;have hj0lt:j0<vs.length:=by rw[<- hall.1];exact(jC.1 hj0).1
        obtain⟨D0',-,-,hR0⟩:=hall.2 j0 _ _ hj0 (jF hj0lt);obtain⟨-,ad,l0,c0,-,hIL⟩:=hR0.refs i0 m (Yph hR0.uniq hi0);obtain⟨ad',cap',h2,h3,h4⟩:=Is.l_of (P:=P) hIL hm;cases h2;have hh:∀k,k<h.length->h[k]?=st'.h[k]?:=λk hk=>by
         refine(hE.heap k hk λhd=> ?_).symm;have:=lh hcl k hd;omega
        refine⟨_,hrun2,ρ' m,ad,c0,?_,⟨(h4 rfl).1,λh0=>⟨h3 h0,(h4 rfl).2 h0⟩⟩,λh0=>hR'.freshR m hml (.own hm rfl h0),hkept,hHx.is m _ hm⟩;have e1:Nat.ble 1000000 1000000=true:=rfl;simp only[gX,e1,Q1];intro ρ2 h2 id hle2 hren2 hsl2 hid;exact Li (hole_all hm hh (λk hk=>(hE.ren k (Zw6 hk)).symm) hsm hml hok hall hIL hle2 hren2 hid)
       ·cases hk
      ·cases hk
    | true=>
     rw[hrl]at hk;simp only[Q1,Q8,Q0]at hk;obtain⟨rfl,rfl,-⟩:=hk;refine⟨_,hR'.defers,λwx hkx hcx=> ?_⟩;have hHx:HIs P ρ' st'.h wx:=⟨λn b hb=>(hR'.heap.is n b hb).world' hkx.size (λg c t fr hc=>hcx _ _ _ _ hc) λc t fr hc=>hcx _ _ _ _ hc,hR'.heap.inj,hR'.heap.far⟩;obtain⟨vs,hrun2,hall⟩:=lf hR'.slots hHx (fn:=fn) (by rw[hres];exact hl);have hh:∀k,k<h.length->h[k]?=st'.h[k]?:=λk hk=>by
      refine(hE.heap k hk λhd=> ?_).symm;have:=lh hcl k hd;omega
     have hall2:Uap P ρ h l vs:=by refine⟨hall.1,λi y v hy hv=> ?_⟩;rw[jI]at hrl;have h1:=(hall.2 i y v hy hv).cut hh (hrl y (jO hy));exact h1.mono (HLe.refl _) λk hk=>(hE.ren k (Zw6 hk)).symm
     have hkept0:Kept (λ_=>False) w w':=hR'.keptR.mono λk _ ⟨m,h1,h2,_⟩=>by
      rcases h2 with h2|h2
      ·have:=lh hcl m h2;omega
      ·cases h2
     have hkept:Kept (λ_=>False) w wx:=⟨hkx.os.trans hkept0.os,hkx.tape.trans hkept0.tape,hkx.output.trans hkept0.output,jK hkept0.size hkx.size,λk hk he=>(hkx.block k (jN hk hkept0.size) (by omega)).trans (hkept0.block k hk he)⟩;refine⟨_,hrun2,?_,hkept⟩
     match l,vs,hall2 with|[],[],h2=>exact⟨[],rfl,h2⟩|[y],[v],h2=>exact h2.2 0 y v rfl rfl|y::z::l,v::u::vs,h2=>refine⟨v::u::vs,?_,h2⟩;rw[dif_neg (by simp)]|[],v::vs,h2=>exact absurd h2.1 (by simp)|[y],[],h2=>exact absurd h2.1 (by simp)|[y],v::u::vs,h2=>exact absurd h2.1 (by simp)|y::z::l,[],h2=>exact absurd h2.1 (by simp)|y::z::l,[v],h2=>exact absurd h2.1 (by simp)
   ·cases hk
 cases e with
 |normal=>exact⟨.inl rfl,key hk⟩
 |ret=>exact⟨.inr rfl,key hk⟩
 |exit id=>cases hk
 |goto l=>cases hk
 |panic ch=>cases hk
 |outgrown=>cases hk
theorem gE(L:P.follows .mixedOrders=true)(O:ConsOkX mn P (Ual mn P) Γ){f:QF}{fn:Func}(U:P.funcs[f]?=some fn)(J:fn.body.isNone=false)(l:List (List Nat×List Nat)):
  Uad mn P f (ansV P Γ N fn l):=by
 cases A:fn.body with
 |none=>rw[A]at J;cases J
 |some c=>
  have:codeOf fn=c:=by unfold codeOf;rw[A]
  exact λρ h w args vals r e V Z hH=>gD L O U (by rw[A,this]) rfl rfl _ ρ h w args vals r e V Z hH
theorem ansY(g:ConsOkX mn P (Ual mn P) Γ){f:QF}(fn:Func)(l:List (List Nat×List Nat))(A:P.follows .mixedOrders=true:=by kernel_rfl)(J:P.funcs[f]?=some fn:=by kernel_rfl)(L:fn.body.isNone=false:=by kernel_rfl):
  Uad mn P f (ansV P Γ N fn l):=gE A g J L l
end
end
section
variable {mn:Md}
section
variable {P:QD} {Γ:Cons} {N:Nat}
theorem mKn:ConsOkX mn P (Ual mn P) (mkΓ []):=by refine⟨λ_ _=>bT,?_,?_,?_,?_,?_⟩<;>(intro f F h;cases h)
theorem Yxc{m:List (String×af)}(J:∀q∈m,Uft mn P q.1 q.2){Γ:Cons}(h:ConsOkX mn P (Ual mn P) Γ):ConsOkX mn P (Ual mn P) (withM m Γ):=by
 refine⟨h.e,h.c,h.n,h.i,h.s,λnm F hF=> ?_⟩;simp only[withM]at hF
 induction m with
 |nil=>cases hF
 | cons q r L=>
  simp only[fk]at hF;cases A:nm==q.1 with
  |true=>rw[A]at hF;cases hF;rw[eq_of_beq A];exact J q (List.mem_cons_self ..)
  |false=>rw[A]at hF;exact L (λx O=>J x (List.mem_cons_of_mem _ O)) hF
theorem aS:ConsOkX mn P (Ual mn P) (mkΓx [] [] []):=mKn
theorem mKw{s:List (QF×bk)}{g:QF}{G:af}{c:List (QF×af)}{n:List (QF×bB)}{i:List (QF×ICon)}(L:cI mn P g G)(h2:EntX P g)(A:ConsOkX mn P (Ual mn P) (mkΓw s c n i)):ConsOkX mn P (Ual mn P) (mkΓw s ((g,G)::c) n i):=⟨A.e,λf F h=>by
 simp only[mkΓw,lj]at h;cases J:jA f g with
 |true=>rw[J]at h;obtain rfl:=jH J;cases h;exact⟨L,h2⟩
 |false=>rw[J]at h;exact A.c f F h,A.n,A.i,A.s,A.m⟩
theorem gF{s:List (QF×bk)}{g:QF}{G:bB}{c:List (QF×af)}{n:List (QF×bB)}{i:List (QF×ICon)}(L:Uby mn P g G)(h2:EntX P g)(A:ConsOkX mn P (Ual mn P) (mkΓw s c n i)):ConsOkX mn P (Ual mn P) (mkΓw s c ((g,G)::n) i):=⟨A.e,A.c,λf F h=>by
 simp only[mkΓw,lj]at h;cases J:jA f g with
 |true=>rw[J]at h;obtain rfl:=jH J;cases h;exact⟨L,h2⟩
 |false=>rw[J]at h;exact A.n f F h,A.i,A.s,A.m⟩
theorem gG{s:List (QF×bk)}{g:QF}{G:ICon}{c:List (QF×af)}{n:List (QF×bB)}{i:List (QF×ICon)}(L:Ual mn P g G)(h2:EntX P g)(A:ConsOkX mn P (Ual mn P) (mkΓw s c n i)):ConsOkX mn P (Ual mn P) (mkΓw s c n ((g,G)::i)):=⟨A.e,A.c,A.n,λf F h=>by
 simp only[mkΓw,Ve.look]at h;cases J:jA f g with
 |true=>rw[J]at h;obtain rfl:=jH J;cases h;exact⟨L,h2⟩
 |false=>rw[J]at h;exact A.i f F h,A.s,A.m⟩
theorem mkΓw_sX{s:List (QF×bk)}{g:QF}{G:bk}{c:List (QF×af)}{n:List (QF×bB)}{i:List (QF×ICon)}(L:cI mn P g (λargs h=>Uak (G args h)))(h2:EntX P g)(A:ConsOkX mn P (Ual mn P) (mkΓw s c n i)):ConsOkX mn P (Ual mn P) (mkΓw ((g,G)::s) c n i):=⟨A.e,A.c,A.n,A.i,λf F h=>by
 simp only[mkΓw,lj]at h;cases J:jA f g with
 |true=>rw[J]at h;obtain rfl:=jH J;cases h;exact⟨L,h2⟩
 |false=>rw[J]at h;exact A.s f F h,A.m⟩
theorem mKx{g:QF}{G:af}{c:List (QF×af)}{n:List (QF×bB)}{i:List (QF×ICon)}(A:cI mn P g G)(h2:EntX P g)(J:ConsOkX mn P (Ual mn P) (mkΓx c n i)):ConsOkX mn P (Ual mn P) (mkΓx ((g,G)::c) n i):=mKw A h2 J
theorem mkΓx_nX{g:QF}{G:bB}{c:List (QF×af)}{n:List (QF×bB)}{i:List (QF×ICon)}(A:Uby mn P g G)(h2:EntX P g)(J:ConsOkX mn P (Ual mn P) (mkΓx c n i)):ConsOkX mn P (Ual mn P) (mkΓx c ((g,G)::n) i):=gF A h2 J
theorem mkΓx_iX{g:QF}{G:ICon}{c:List (QF×af)}{n:List (QF×bB)}{i:List (QF×ICon)}(A:Ual mn P g G)(h2:EntX P g)(J:ConsOkX mn P (Ual mn P) (mkΓx c n i)):ConsOkX mn P (Ual mn P) (mkΓx c n ((g,G)::i)):=gG A h2 J
theorem mKc{g:QF}{G:af}{r:List (QF×af)}(A:cI mn P g G)(h2:EntX P g)(J:ConsOkX mn P (Ual mn P) (mkΓ r)):ConsOkX mn P (Ual mn P) (mkΓ ((g,G)::r)):=mKx A h2 J
theorem Uad.of{f:QF}{G G':af}(h:Uad mn P f G)(hle:∀ρ h w args vals r e,Uap P ρ h args vals->HIs P ρ h w->G' args h=some (r,e,true)->G args h=some (r,e,true)):Uad mn P f G':=
 λρ hh w args vals r e L O A J=>h ρ hh w args vals r e L (hle ρ hh w args vals r e A J O) A J
theorem vm {gl wr:Bool} {f:QF} {G:af} (hG:Uad mn P f G):cI mn P f (conX gl wr G):=by
 intro ρ h w args vals r e hr hA hH;unfold conX wrapL at hr;cases hok:ll (ld gl h).length args&&cV (ld gl h++Uaq args++Uba h (Uaq args)) with
 |false=>rw[hok]at hr;cases hr
 | true=>
  rw[hok]at hr;simp only[Q7]at hok;simp only[Q1]at hr;split at hr
  ·rename_i h1 h2 hrows hsls;have hpre:∀n∈ld gl h,∀y t,h[n]?≠some (.one y t):=λn hn y t e=>by
    obtain⟨i,hi⟩:=List.mem_iff_getElem?.1 hn;obtain⟨q1,g,t',a,x,q2⟩:=wh (jC.1 hi).1;rw[q1]at hi;cases hi;rw[q2]at e;cases e
   obtain⟨hlen,hget⟩:=fm hpre hrows hsls;generalize hh':h1++h2=h' at hr hlen hget;generalize hidsE:ld gl h++Uaq args++Uba h (Uaq args)=ids at hlen hget hok;have hsub:∀(k n:Nat),(ld gl h++Uaq args)[k]?=some n->ids[k]?=some n:=λk n hk=>by
    rw[<- hidsE,jM (jC.1 hk).1];exact hk
   have hgl:∀n,n<(ld gl h).length->h'[n]?=h[n]?:=λn hn=>by
    obtain⟨h1,g,t,a,x,h2⟩:=wh hn;obtain⟨b,b',h3,h4,h5⟩:=hget n n (hsub n n (by rw[jM hn];exact h1));rw[h2]at h3;cases h3;cases h5;rw[h4,h2]
   have hgl':∀n,n<(ld gl h).length->h[n]?=h'[n]?:=λn hn=>(hgl n hn).symm
   have hA':=Zxc (P:=P) (h':=h') (ρ:=ρ) hgl hget args vals (ld gl h) hok.1 hsub hA;have idx0:∀{k:Nat} {b:VB},h'[k]?=some b->∃n b0,ids[k]?=some n/\h[n]?=some b0/\LB wr ids b0 b:=λ{k b} hb=>by
    have hk:k<ids.length:=by rw[<- hlen];exact(jC.1 hb).1
    obtain⟨bb,bb',h1,h2,h3⟩:=hget k _ (jF hk);rw[h2]at hb;cases hb;exact⟨_,bb,jF hk,h1,h3⟩
   have idxS:∀{k:Nat} {a:SlK} {len:Nat} {C:QA} {t:QE},h'[k]?=some (.sl a len C t)->∃n a0,ids[k]?=some n/\h[n]?=some (.sl a0 len C t)/\a=lend wr a0:=λ{k a len C t} hb=>by
    obtain⟨n,b0,h1,h2,h3⟩:=idx0 hb;cases h3;exact⟨n,_,h1,h2,rfl⟩
   have hno:eD h':=λk len C e hk=>by
    obtain⟨n,a0,_,_,h3⟩:=idxS hk;exact fl h3.symm
   have hH':HIs P (λk=>ρ (ids.getD k 0)) h' w:=by
    have out:∀{k:Nat},present h' k->∃n,ids[k]?=some n/\present h n:=λ{k} hp=>by
     cases hp with
     |row e=>obtain⟨n,b0,h1,h2,h3⟩:=idx0 e;cases h3;exact⟨n,h1,.row h2⟩
     |one e=>obtain⟨n,b0,h1,h2,h3⟩:=idx0 e;cases h3<;>exact⟨n,h1,.one h2⟩
     |own e hk h0=>obtain⟨n,a0,h1,h2,h3⟩:=idxS e;exact⟨n,h1,.own h2 (by rw[<- wk,<- h3];exact hk) h0⟩
    refine⟨λk b hb=> ?_,λk q hp hq e=> ?_,λk b x h1 h2 m hp=> ?_⟩
    ·obtain⟨n,b0,q1,q2,q3⟩:=idx0 hb;have hB:=hH.is n _ q2;cases q3 with
     |row C t=>simp only[cG q1];exact hB
     |gl g t a x=>exact hB
     |sl a len C t=>simp only[cG q1];exact⟨by rw[qd];exact hB.1,λh=>hB.2 (Yq5 h)⟩
     |oneR D t' t hren=>simp only[cG q1];obtain⟨v,⟨D',rfl,hW,hR⟩,hg⟩:=hB;exact⟨_,⟨D',rfl,hW,hR.lent hget hren⟩,hg⟩
     |oneL t hk=>simp only[cG q1];obtain⟨v,hv,hg⟩:=hB;exact⟨v,Ypl (P:=P) hget hk hv,hg⟩
     |oneV y t=>simp only[cG q1];obtain⟨v,hv,hg⟩:=hB;exact⟨v,hv,hg⟩
    ·obtain⟨n,h1,h2⟩:=out hp;obtain⟨m,h3,h4⟩:=out hq;simp only[cG h1,cG h3]at e;have:=hH.inj n m h2 h4 e;subst this;exact Ay hok.2 k q n h1 h3
    ·obtain⟨n,b0,h3,h4,h5⟩:=idx0 h1;obtain⟨m',h6,h7⟩:=out hp;simp only[cG h6];refine hH.far n b0 x h4 ?_ m' h7;cases h5 with|sl a len C e=>exact Lm (b:=.sl a len C e) h2|gl g t a x=>exact h2|_=>exact h2.elim
   split at hr
   ·rename_i r' g hGr;cases hd:mo (ld gl h).length r' with
    | false=>
     rw[hd]at hr;simp only[Q2]at hr;split at hr
     ·rename_i r2 hm;simp only[Q8,Q0]at hr;obtain⟨rfl,rfl,rfl⟩:=hr;have hm':co (ld gl h).length ids r'=some r2:=Ln hsub hm;refine(hG _ h' w _ vals _ _ hno hGr hA' hH').mono ?_;rintro v w' ⟨hi,hk⟩;exact⟨iw hgl' hget hm' hi,hk⟩
     ·cases hr
    |true=>rw[hd]at hr;simp only[Q1,Q8,Q0]at hr;obtain⟨rfl,rfl,rfl⟩:=hr;refine(hG _ h' w _ vals _ _ hno hGr hA' hH').mono ?_;rintro v w' ⟨hi,hk⟩;exact⟨wm hgl' hd hi,hk⟩
   ·rename_i r' m b g hGr;cases hd:mo (ld gl h).length r' with
    |false=>rw[hd]at hr;cases hr
    |true=>
    rw[hd,Q1]at hr;split at hr
    ·rename_i q hq;have hq:=hsub _ _ hq;split at hr
     ·rename_i b' hb';simp only[Q8,Q0]at hr;obtain⟨rfl,rfl,rfl⟩:=hr;refine(hG _ h' w _ vals _ _ hno hGr hA' hH').mono ?_;rintro v w' ⟨hv,hkp,hk,hB⟩;simp only[cG hq]at hk hB;rcases hkp with ⟨C,t,D,hrow,rfl⟩ | ⟨k,len,C,t,D,hmk,hrow,rfl,h0⟩ | ⟨y,t,y',hrow,rfl⟩
      ·obtain⟨n,b0,h1,h2,h3⟩:=idx0 hrow;cases h3;rw[hq]at h1;cases h1;rw[h2]at hb';cases hb';exact⟨wm hgl' hd hv,.inl ⟨_,_,_,h2,rfl⟩,hk,hB⟩
      ·obtain⟨n,a0,h1,h2,h3⟩:=idxS hrow;rw[hq]at h1;cases h1;rw[h2]at hb';cases hb';subst h3;exact⟨wm hgl' hd hv,.inr (.inl ⟨_,_,_,_,_,Yq5 hmk,h2,rfl,h0⟩),hk,⟨by rw[<- qd wr];exact hB.1,λ_ hl=>hB.2 hmk hl⟩⟩
      ·exfalso;cases hq2:h[q]? with
       |none=>rw[hq2]at hb';cases hb'
       |some b0=>rw[hq2]at hb';cases b0<;>cases hb'
     ·cases hr
    ·cases hr
   ·rename_i len C e g hGr;simp only[Q8,Q0]at hr;obtain⟨rfl,rfl,rfl⟩:=hr;refine(hG _ h' w _ vals _ _ hno hGr hA' hH').mono ?_;rintro v w' hE;exact hE
   ·rename_i v0 i len C e g hGr;cases hbig:Nat.ble 1000000 i with
    | true=>
     rw[hbig]at hr;simp only[Q1]at hr;cases hd:qe (ld gl h).length v0 with
     |false=>rw[hd]at hr;cases hr
     | true=>
      rw[hd]at hr;simp only[Q1,Q8,Q0]at hr;obtain⟨rfl,rfl,rfl⟩:=hr;refine(hG _ h' w _ vals _ _ hno hGr hA' hH').mono ?_;rintro v w' ⟨g,ad,cap,hN,hE⟩;refine⟨g,ad,cap,?_,hE⟩;simp only[gX,hbig,Q1]at hN|-
      intro ρ3 h3 id hle3 hren3 hsl3 hid3;obtain⟨a3,l3,C3,e3,hb3⟩:=pO hsl3;have hlast:(h'++[VB.sl a3 l3 C3 e3])[h'.length]?=some (.sl a3 l3 C3 e3):=by simp
      refine fo (id2:=h'.length) (ρ2:=λk=>if k=h'.length then ρ3 id else ρ (ids.getD k 0)) (h2:=h'++[.sl a3 l3 C3 e3]) (λn hn=> ?_) (λv hv=> ?_) hd (hN _ _ h'.length (λn=> ?_) (λn hp=>if_neg (λe=> ?_)) (by unfold bK;rw[hlast]) ?_)
      ·have hn':n<h'.length:=by rw[hlen,<- hidsE];simp;omega
       rw[jM hn',hgl n hn];obtain⟨h1,g',t,a,x,h2⟩:=wh hn;rw[h2];exact(hle3 n).gl _ _ _ _ h2
      ·rcases hv with hv | ⟨a,l,C',e',ad',cap',q1,q2,q3,q4⟩
       ·rw[hlast]at hv;cases hv
       ·rw[hlast]at q1;cases q1;simp only[adOf,if_true]at q3 q4;exact .inr ⟨_,_,_,_,ad',cap',hb3,q2,q3,q4⟩
      ·by_cases hn:n<h'.length
       ·exact .same (jM hn)
       ·refine⟨λC t k=> ?_,λy t k=> ?_,λ_ _ C _ k=> ?_,λk=> ?_,λ_ _ _ _ k=> ?_⟩<;>(rw[List.getElem?_eq_none (by omega)]at k;cases k)
      ·have:=Zw6 hp;omega
      ·rcases hid3 with hv | ⟨a,l,C',e',ad',cap',q1,q2,q3,q4⟩
       ·rw[hb3]at hv;cases hv
       ·rw[hb3]at q1;cases q1;exact .inr ⟨_,_,_,_,ad',cap',hlast,q2,by simpa only [adOf,if_true] using q3,by simpa only [if_true] using q4⟩
    |false=>
    rw[hbig]at hr;simp only[Q2]at hr;split at hr
    ·rename_i l;cases hd:l.all (Ugw (ld gl h).length) with
     |false=>rw[hd]at hr;cases hr
     |true=>rw[hd]at hr;simp only[Q1,Q8,Q0]at hr;obtain⟨rfl,rfl,rfl⟩:=hr;refine(hG _ h' w _ vals _ _ hno hGr hA' hH').mono ?_;rintro v w' ⟨g,ad,cap,hN,hE⟩;simp only[gX,hbig,Q2]at hN;obtain⟨l',vs,he,hvv,hA2,hi⟩:=hN;cases he;rw[jI]at hd;refine⟨g,ad,cap,?_,hE⟩;simp only[gX,hbig,Q2];exact⟨l,vs,rfl,hvv,⟨hA2.1,λk y u hy hu=>Az hgl' (hd y (jO hy)) (hA2.2 k y u hy hu)⟩,hi⟩
    ·cases hr
   ·cases hr
   ·cases hr
  ·cases hr
theorem eh{wr:Bool}{f:QF}{G:af}(A:Uad mn P f G):cI mn P f (conL wr G):=vm A
theorem JJ{gl wr:Bool}{f:QF}{S:bk}(A:Uad mn P f (λargs h=>Uak (S args h))):cI mn P f (λargs h=>Uak (conSX gl wr S args h)):=by
 have e:(λargs h=>Uak (conSX gl wr S args h))=conX gl wr (λargs h=>Uak (S args h)):=by
  funext args h;unfold conSX conX;cases ll (ld gl h).length args&&cV (ld gl h++Uaq args++Uba h (Uaq args)) with
  |false=>rfl
  |true=>
   simp only[Q1];split
   ·rw[vD]
   ·rfl
 rw[e];exact vm A
theorem JK{wr:Bool}{f:QF}{S:bk}(A:Uad mn P f (λargs h=>Uak (S args h))):cI mn P f (λargs h=>Uak (conSL wr S args h)):=JJ A
theorem Zlj{f:QF}{G:af}(A:Uad mn P f G):cI mn P f (conG G):=vm A
theorem Yr8{f:QF}{S:bk}(A:Uad mn P f (λargs h=>Uak (S args h))):cI mn P f (λargs h=>Uak (conSW S args h)):=JK A
theorem Zae{f:QF}{G:af}(A:Uad mn P f G):cI mn P f (con G):=eh A
theorem Uad.nil{f:QF}{G:af}(hG:Uad mn P f G)(i:Nat)(e:QE):Uad mn P f (λargs h=>nilN i e (G args h)):=by
 intro ρ h w args vals r ef hn hr hA hH;dsimp only at hr;cases hg:G args h with
 |none=>rw[hg]at hr;cases hr
 | some q=>
  obtain⟨v,ef',g⟩:=q;rw[hg]at hr;unfold nilN at hr;split at hr
  ·rename_i l g' heq;cases heq;split at hr
   ·rename_i hl;cases hbig:Nat.ble 1000000 i with
    |true=>rw[hbig]at hr;cases hr
    |false=>
    rw[hbig]at hr;simp only[Q2,Q8,Q0]at hr;obtain⟨rfl,rfl,rfl⟩:=hr;refine(hG ρ h w args vals _ _ hn hg hA hH).mono ?_;rintro vv w' ⟨⟨vs,rfl,hall⟩,hk⟩;have hlt:i<l.length:=(jC.1 hl).1;have hvi:=hall.2 i _ _ hl (jF (show i<vs.length by rw[<- hall.1];exact hlt));refine⟨⟨0,0⟩,none,0,by simp only[gX,hbig,Q2];exact⟨_,vs,rfl,rfl,⟨by rw[List.length_set];exact hall.1,λj y u hy hu=>ix hall j y u hy hu⟩,iy hall hl hvi⟩,⟨λ_=>rfl,λh0=>absurd rfl h0⟩,λh0=>absurd rfl h0,hk,AI⟩
   ·simp only[Q8,Q0]at hr;obtain⟨rfl,rfl,rfl⟩:=hr;exact hG ρ h w args vals _ _ hn hg hA hH
  ·rename_i g' heq;cases heq;simp only[Q8,Q0]at hr;obtain⟨rfl,rfl,rfl⟩:=hr;refine(hG ρ h w args vals _ _ hn hg hA hH).mono ?_;rintro vv w' ⟨hv,hk⟩;exact⟨⟨0,0⟩,none,0,hv,⟨λ_=>rfl,λh0=>absurd rfl h0⟩,λh0=>absurd rfl h0,hk,AI⟩
  ·cases hr;exact hG ρ h w args vals _ _ hn hg hA hH
theorem Yuo (hm:P.follows .mixedOrders=true) (hΓ:ConsOkX mn P (Ual mn P) Γ) {f:QF} {fn:Func} (hf:P.funcs[f]? = some fn) (hb:fn.body.isNone=false) (l:List (List Nat×List Nat)) :
  Uby mn P f (ansN P Γ N fn l):=by
 cases hc:fn.body with
 |none=>rw[hc]at hb;cases hb
 |some c=>
 have hco:codeOf fn=c:=by unfold codeOf;rw[hc]
 intro ρ h w args vals cc hr hA hH;unfold ansN at hr;cases hd:args.all iv with
 |false=>rw[hd]at hr;cases hr
 |true=>
 rw[hd,hco]at hr;simp only[Q1]at hr;rw[jI]at hd;refine pA hf hc ?_;have hlen:args.length=vals.length:=hA.1;have hA0:Uap P ρ [] args vals:=⟨hA.1,λi y v hy hv=>wl (hd y (jO hy)) (hA.2 i y v hy hv)⟩
 have hR:R P w 0 [] ρ ρ (entry fn.ntmps args []) { tmps:=vals.toArray++jD (fn.ntmps - vals.toArray.size) undef,defers:=[] } w:=by
  refine⟨by simp[entry,hlen],λi v hv=> ?_,⟨λn b hb=>by simp[entry]at hb,λn m hp=> ?_,λn b k h1=>by simp[entry]at h1⟩,λ_ h=>absurd h (Nat.not_lt_zero _),λk hk hp=> ?_,Kept.refl _ w,λn _ _ _ h=>absurd h (Nat.not_lt_zero _),DefOk.nil _ _,Nat.zero_le _⟩
  ·simp only[entry]at hv|-
   by_cases hi:i<args.length
   ·rw[jM (by simpa using hi),List.getElem?_map,jF hi]at hv;simp only[Option.map_some,Q8]at hv;subst hv;have:(vals.toArray++jD (fn.ntmps - vals.toArray.size) undef).getD i undef=vals[i]'(by omega):=by
     rw[jQ,Array.getElem?_append_left (by simp;omega)];simp[show i<vals.length by omega]
    rw[this];exact hA0.2 i _ _ (jF hi) (jF (by omega))
   ·rw[List.getElem?_append_right (by simp;omega),List.getElem?_replicate]at hv;split at hv
    ·cases hv;have:(vals.toArray++jD (fn.ntmps - vals.toArray.size) undef).getD i undef=undef:=by
      rw[jQ,Array.getElem?_append_right (by simp;omega),Array.getElem?_replicate];split<;>rfl
     rw[this];rfl
    ·cases hv
  ·exfalso;cases hp with|row e=>simp[entry]at e|one e=>simp[entry]at e|own e _ _=>simp[entry]at e
  ·exfalso;cases hp with|row e=>simp[entry]at e|one e=>simp[entry]at e|own e _ _=>simp[entry]at e
 refine WpX.mono (Zd1 hm hΓ c _ none (.inl rfl) [] w 0 ρ _ _ _ cc [] ρ _ w hr hR) ?_;rintro e a' w' ⟨ρ',st',hk,hR',hE⟩
 have key:iA P fn.results.toList st'=some cc →
   lK P fn a'.tmps (λe w'=>∃gs:List Nat,e=(.func (.func cc.f) #[] (gs.map λg=>Value.pointer (some ⟨g,0,none⟩)).toArray)/\gs.length=cc.rows.length/\gs.Nodup /\
    (∀(j g:Nat) (r:QA×QE),gs[j]?=some g->cc.rows[j]?=some r->w.heap.size<=g/\w'.heap[g]?=some (.cells r.1 r.2 (0,0))/\WT P r.2 r.1)/\Kept (λ_=>False) w w') a'.defers w':=by
  intro hk;unfold iA at hk;split at hk
  ·rename_i f' ns hl;cases hnd:cV ns with
   |false=>rw[hnd]at hk;cases hk
   | true=>
    rw[hnd]at hk;simp only[Q1]at hk;split at hk
    ·rename_i rs hrs;cases hk;obtain⟨hrl,hrow⟩:=AL hrs;refine⟨_,hR'.defers,λwx hkx hcx=> ?_⟩;have hHx:HIs P ρ' st'.h wx:=⟨λn b hb=>(hR'.heap.is n b hb).world' hkx.size (λg c t fr hc=>hcx _ _ _ _ hc) λc t fr hc=>hcx _ _ _ _ hc,hR'.heap.inj,hR'.heap.far⟩;obtain⟨vs,hrun,hall⟩:=lf hR'.slots hHx hl
     match vs,hall,hrun with
     | [v],hall,hrun2=>
      obtain⟨hv,hpr⟩:=hall.2 0 _ v rfl rfl;have hkept:Kept (λ_=>False) w w':=hR'.keptR.mono λk _ ⟨m,h1,_⟩=>absurd h1 (Nat.not_lt_zero _)
      refine⟨v,hrun2,ns.map (λn=>(ρ' n).a),?_,by simp[hrl],?_,λj g r hj hr=> ?_,?_⟩
      ·rw[hv,List.map_map];rfl
      ·exact AM (Zwr hnd) λa ha b hb e=>hR'.heap.inj a b (hpr a ha).present (hpr b hb).present e
      ·rw[List.getElem?_map]at hj;cases hn:ns[j]? with
       |none=>rw[hn]at hj;cases hj
       |some n=>rw[hn]at hj;simp only[Option.map_some,Q8]at hj;subst hj;have hb:=hrow j n r hn hr;obtain⟨q1,q2⟩:=(hHx.is n _ hb);exact⟨hR'.freshR n (Nat.zero_le _) (.row hb),q1,q2⟩
      ·exact⟨hkx.os.trans hkept.os,hkx.tape.trans hkept.tape,hkx.output.trans hkept.output,jK hkept.size hkx.size,λk hk he=>(hkx.block k (jN hk hkept.size) (by omega)).trans (hkept.block k hk he)⟩
     |[],hall,_=>exact absurd hall.1 (by simp)
     |_::_::_,hall,_=>exact absurd hall.1 (by simp)
    ·cases hk
  ·cases hk
 cases e with
 |normal=>exact⟨.inl rfl,key hk⟩
 |ret=>exact⟨.inr rfl,key hk⟩
 |exit id=>cases hk
 |goto l=>cases hk
 |panic ch=>cases hk
 |outgrown=>cases hk
theorem Uby.of{f:QF}{G G':bB}(h:Uby mn P f G)(hle:∀ρ h args vals c,Uap P ρ h args vals->G' args=some c->G args=some c):Uby mn P f G':=
 λρ hh w args vals c J A L=>h ρ hh w args vals c (hle ρ hh args vals c A J) A L
end
end
section
variable {mn:Md}
abbrev Uf1:Md:=⟨false,λ_=>none⟩
def bR(ops:Array QN)(s:Nat):Nat->Array Bool->Bool
 |0,listed=>Region.ready .any ops.pop listed==[]&&(Region.ready .any ops (listed.push false)==[s]&&Region.ready .any ops ((listed.push false).setIfInBounds s true)==[])
 |fuel+1,listed=>Region.ready .any ops (listed.push false)==Region.ready .any ops.pop listed&&(!(Region.ready .any ops.pop listed).isEmpty&&(Region.ready .any ops.pop listed).all λi=>decide (i<listed.size)&&bR ops s fuel (listed.setIfInBounds i true))
theorem pB{ops:Array QN}{fuel t:Nat}{listed:Array Bool}{i:Nat}(hi:(Region.ready .any ops listed)[t % (Region.ready .any ops listed).length]?=some i):
  Region.linearise.go .any ops (fuel+1) t listed []=i::Region.linearise.go .any ops fuel (t / (Region.ready .any ops listed).length) (listed.setIfInBounds i true) []:=by
 simp only[Region.linearise.go];change (match (Region.ready .any ops listed)[t % (Region.ready .any ops listed).length]? with
   |some i=>Region.linearise.go .any ops fuel (t / (Region.ready .any ops listed).length) (listed.setIfInBounds i true) [i]
   |none=>[].reverse)=_
 rw[hi];simp only[];rw[linearise_go_acc,List.reverse_singleton,List.singleton_append]
theorem yH{listed:Array Bool}{i:Nat}(hi:i<listed.size)(x b:Bool):(listed.push b).setIfInBounds i x=(listed.setIfInBounds i x).push b:=by
 apply Array.ext_getElem?;intro j;rw[Array.getElem?_push,Array.getElem?_setIfInBounds,Array.getElem?_push,Array.getElem?_setIfInBounds];simp only[Array.size_setIfInBounds,Array.size_push]
 by_cases J:j=listed.size
 ·subst J;rw[if_neg (by omega),if_pos rfl,if_pos rfl]
 ·rw[if_neg J,if_neg J]
  by_cases A:i=j
  ·subst A;rw[if_pos rfl,if_pos rfl,if_pos (by omega),if_pos hi]
  ·rw[if_neg A,if_neg A]
theorem yI{rs:List Nat}(h:rs.isEmpty=false)(t:Nat):∃i,rs[t % rs.length]?=some i/\i∈rs:=by
 have hl:0<rs.length:=by cases rs with
  |nil=>cases h
  |cons a l=>simp
 exact⟨rs[t % rs.length]'(Nat.mod_lt _ hl),jF (Nat.mod_lt _ hl),List.getElem_mem _⟩
theorem vo{ops:Array QN}{s:Nat}:∀(fuel t:Nat) (listed:Array Bool),bR ops s fuel listed=true ->
  Region.linearise.go .any ops (fuel+1) t (listed.push false) []=(Region.linearise.go .any ops (fuel+1) t (listed.push false) []).dropLast++[s]
 |0,t,listed,h=>by
  simp only[bR,Q7,beq_iff_eq]at h;obtain⟨J,h2,O⟩:=h;have hi:(Region.ready .any ops (listed.push false))[t % (Region.ready .any ops (listed.push false)).length]?=some s:=by rw[h2];simp[Nat.mod_one]
  rw[pB hi];simp[Region.linearise.go]
 |fuel+1,t,listed,h=>by
  simp only[bR,Q7,beq_iff_eq,jI,Bool.not_eq_true',decide_eq_true_eq]at h;obtain⟨J,h2,O⟩:=h;obtain⟨i,hi,A⟩:=yI h2 t;rw[<- J]at hi;obtain⟨V,Z⟩:=O i A;rw[pB hi,yH V];have U:=vo fuel (t / (Region.ready .any ops (listed.push false)).length) (listed.setIfInBounds i true) Z;generalize Region.linearise.go .any ops (fuel+1) (t / (Region.ready .any ops (listed.push false)).length) ((listed.setIfInBounds i true).push false) []=L at U;rw[U,<- List.cons_append,List.dropLast_concat]
theorem vp{P:QD}{ops:Array QN}{s:Nat}(hs:ops.size=s+1)(hg:∀o∈ops,o.guard=none){K:Act->QB->Prop}:∀(fuel t:Nat) (listed:Array Bool) (a:Act) (v:QB),listed.size=s->bR ops s fuel listed=true ->
  AnyX mn P ops.pop K fuel listed a v->OpsX mn P ops K (Region.linearise.go .any ops (fuel+1) t (listed.push false) []).dropLast a v
 |0,t,listed,a,v,hl,h,hX=>by
  simp only[bR,Q7,beq_iff_eq]at h;obtain⟨h1,h2,h3⟩:=h;have hi:(Region.ready .any ops (listed.push false))[t % (Region.ready .any ops (listed.push false)).length]?=some s:=by rw[h2];simp[Nat.mod_one]
  rw[pB hi]
  simpa [Region.linearise.go,OpsX] using hX.2
 | fuel+1,t,listed,a,v,hl,h,hX=>by
  simp only[bR,Q7,beq_iff_eq,jI,Bool.not_eq_true',decide_eq_true_eq]at h;obtain⟨h1,h2,h3⟩:=h;obtain⟨i,hi,him⟩:=yI h2 t;have hX':=hX.2 i him;have e1:=h1;rw[<- h1]at hi;obtain⟨h4,h5⟩:=h3 i him;rw[pB hi,yH h4,vo fuel _ _ h5,<- List.cons_append,List.dropLast_concat,OpsX];have hops:ops.pop[i]?=ops[i]?:=by rw[Array.getElem?_pop,if_pos (by omega)]
  have hw:∀o,ops[i]?=some o->∀y,Region.wanted o y=true:=λo ho y=>by
   unfold Region.wanted;rw[hg o (Array.mem_of_getElem? ho)]
  unfold OpIX at hX'|-
  rw[hops]at hX';cases ho:ops[i]? with
  |none=>rw[ho]at hX';exact vp hs hg fuel _ _ a v (by simpa using hl) h5 hX'
  |some o=>
   rw[ho]at hX';dsimp only at hX'|-
   rw[if_pos (hw o ho _)]at hX'|-
   exact hX'.mono λa v hk=>vp hs hg fuel _ _ a v (by simpa using hl) h5 hk
theorem JL{P:QD}{c:Nat}{vv:QC}:Closed P false (GoW P c vv) where
 step:=λG w g O U h=>.step G w g O U (λw₁ h₁=>let ⟨g',w',es,A,J,_⟩:=h w₁ h₁;⟨g',w',es,A,J⟩) λw₁ h₁ g' w' es L=>by
  obtain⟨g₂,w₂,es₂,A,J,V⟩:=h w₁ h₁;rw[A]at L;cases L;exact V
 spawn:=λe=>by cases e
 recv:=λe=>by cases e
abbrev botF(P:QD):QL:={ (default:QL) with fn:=P.funcs.size,defers:=[],mode:=.panicking [goexitEntry] }
theorem JM{P:QD}{b:QL}{fn:Func}(J:P.funcs[b.fn]?=some fn)(L:fn.results=#[])(hk:b.kind=.deferred)(A:b.roundOf=none){T:QA}{ops:Array QN}:Conc.QuitsIn P 4 (gr (b.atR ⟨T,[]⟩ [.inRegion ops []]) [botF P]):=by
 refine .inr ⟨rfl,_,λw=>vj (mn:=Uf1),?_⟩;refine .inr ⟨rfl,gr { b.atR ⟨T,[]⟩ [] with mode:=.returning } [botF P],λw=>by simp[gr,stepG,stepG.exec,Frame.atR,A],?_⟩;refine .inr ⟨rfl,gr (botF P) [],λw=> ?_,?_⟩
 ·simp[gr,stepG,unwind,doReturn,results,Frame.atR,J,L,hk,seen,GStep.after,goexitEntry]
 refine .inr ⟨rfl,{ gr (botF P) [] with status:=.finished },λw=> ?_,rfl⟩;simp[gr,stepG,unwind,goexitEntry,Frame.catches];rfl
theorem gH{P:QD}{b:QL}{a:Act}{k:List Item}{cs:List QL}{w:QB}{ops:Array QN}{i:Nat}{rest:List Nat}{o:QN}{cases:Array CommCase}{bl:Bool}{sh:CommShape}(ho:ops[i]?=some o)(hk:b.kind ≠ .early)
  (J:Region.wanted o (yielded ops a.tmps)=true) (L:∀c,o.op ≠ .defer c) (O:(QI a.eval o).runT P w #[]=(.ok (.comm cases bl sh) w,#[])) :
  stepG P mn.main (gr (b.atR a (.inRegion ops (i::rest)::k)) cs) w=.comm (gr (b.atR a (.inRegion ops (i::rest)::k)) cs) cases bl sh w #[]:=by
 have A:(b.kind==CallKind.early)=false:=by simpa using hk
 rw[kG ho J L];simp only[stepG.apply,if_true,O,Frame.atR,A,Bool.false_eq_true,if_false,GStep.after,gr,Array.append_empty];simp[seen]
theorem gI{P:QD}{d:QK}{f:QF}{args:QA}{w:QB}(A:∃x ys,d.target=.fn x ys)(hi:(invoke d.target d.args).runT P w #[]=(.ok (.enter f args) w,#[])):
  stepG P mn.main (Udn P d) w=.go (gr (Frame.enter P f args .deferred) [botF P]) w #[]:=by
 obtain⟨x,ys,A⟩:=A;obtain⟨tg,as⟩:=d;dsimp only at A hi;subst A;simp[stepG,unwind,callDeferred,hi,GStep.after,seen,gr,-Sem.runT_eq]
theorem JN{P:QD}{f:QF}{fn:Func}(hf:P.funcs[f]?=some fn){id:Nat}{ops:Array QN}(hb:fn.body=some (.region id ops true))(hr:fn.results=#[])(hm:P.follows .mixedOrders=true)
  {s:Nat} (hs:ops.size=s+1) (hg:∀o∈ops,o.guard=none) (hc:bR ops s s (jD s false)=true) {d:QK} {args:QA} (hn:∃x ys,d.target=.fn x ys) (hi:∀w,(invoke d.target d.args).runT P w #[]=(.ok (.enter f args) w,#[]))
  {c:Nat} {vv z:QC} {G:Gh} {w:QB} (J:Fit G w) (hF:G.F=λ_=>none) {o:QN} (ho:ops[s]?=some o) (hd:∀c,o.op ≠ .defer c)
  (hX:AnyX Uf1 P ops.pop (λa v=>a.defers=[]/\∀w,(QI a.eval o).runT P w #[]=(.ok (.comm #[Conc.scase c vv z] true .send) w,#[])) s (jD s false) { tmps:=args++jD (fn.ntmps - args.size) undef,defers:=[] } (view G w)) :
  GoW P c vv G w (Udn P d):=by
 have hC:Closed P Uf1.main (GoW P c vv):=JL;have O:FitM Uf1 G w:=⟨J,hF⟩;refine hC.calm O rfl (λw=>gI hn (hi w)) λw₁ hf₁ hg₁=> ?_
 let b:QL:={ fn:=f,tmps:=#[],todo:=[],defers:=[],mode:=.run,kind:=.deferred }
 have U:Frame.enter P f args .deferred=b.atR { tmps:=args++jD (fn.ntmps - args.size) undef,defers:=[] } [.code (.region id ops true)]:=by simp[Frame.enter,Frame.atR,b,hf,hb]
 rw[U];have V:b.kind ≠ .early:=by intro e;cases e
 refine hC.step G w₁ _ hf₁.toFit rfl λw₂ hr₂=>⟨_,_,_,yl,⟨rfl,rfl,rfl,jE _,λ_ _ _=>rfl,λe U=>by simp at U⟩,?_⟩
 have hf₂:=hf₁.rely hr₂;rw[show G.grow w₂.heap.size ({ w₂ with drawn:=w₂.drawn+1 }:QB).heap.size=G from Gh.grow_self G _];simp only[Region.schedule,hm,Bool.true_or,if_true];generalize w₂.tape w₂.drawn (.order b.fn id)=t;have Z:jD ops.size false=(jD s false).push false:=by rw[hs,Array.replicate_succ]
 have b5:Region.linearise .any ops t=(Region.linearise.go .any ops (s+1) t ((jD s false).push false) []).dropLast++[s]:=by rw[<- vo s t _ hc];unfold Region.linearise;rw[Z,hs]
 rw[b5];have b7:=vp (mn:=Uf1) (P:=P) hs hg s t (jD s false) _ _ (by simp) hc hX;refine gz hC V [s] _ _ _ b7 G _ (hf₂.drew _) ((hg₁.trans (hr₂.view hf₁.toFit)).trans (by rw[yp];exact Ywy _ _)) λA v' hk G' w' hf' hv'=> ?_
 obtain⟨hdf,L⟩:=hk;have hw:Region.wanted o (yielded ops A.tmps)=true:=by unfold Region.wanted;rw[hg o (Array.mem_of_getElem? ho)]
 refine .stop G' w' _ hf'.toFit ⟨rfl,gr (b.atR A [.inRegion ops [s]]) [botF P],z,4,?_,λw₃ hr₃=>⟨#[],gH (mn:=Uf1) ho V hw hd (L w₃),λe U=>by simp at U⟩⟩;have b9:(b.atR A [.inRegion ops [s]]).finish undef=b.atR (A.put o.dst undef) [.inRegion ops []]:=by rw[Frame.finish_atR,ho];rfl
 have hsv:Conc.served (gr (b.atR A [.inRegion ops [s]]) [botF P]) undef=gr (b.atR (A.put o.dst undef) [.inRegion ops []]) [botF P]:=by rw[<- b9];rfl
 rw[hsv];have e2:A.put o.dst undef=⟨(A.put o.dst undef).tmps,[]⟩:=by
  have:(A.put o.dst undef).defers=A.defers:=by cases o.dst<;>rfl
  rw[hdf]at this;cases hp:A.put o.dst undef;rw[hp]at this;simp only at this;subst this;rfl
 rw[e2];exact JM hf hr rfl rfl
end
section
variable {mn:Md}
theorem JO{P:QD}{o:QN}{a:Act}{v:QB}{K:Act->QB->Prop}{c:Call}{y:QH}{l:Nat}{R:QC->QB->Prop}(ho:o.op=.call c)(A:c.callee=.value y)(L:a.eval y=.func (.yield l) #[] #[])
  (h:YieldX mn P l (c.args.map a.eval) v R) (O:∀r v',R r v'->K (a.put o.dst r) v'):OpX mn P o a v K:=by
 have J:∀c,o.op ≠ .defer c:=λc A=>by rw[ho]at A;cases A
 have U:QI a.eval o=Instr.yield l (c.args.map a.eval):=by
  unfold QI;rw[ho];simp only[resolve,A,L,Deferred.ofValue]
  show Instr.yield l _=_
  congr 1;rw[<- Array.toList_inj];simp
 refine⟨J,λv₁ h₁=> ?_⟩;obtain⟨f,tmps,assign,body,V,Z⟩:=h v₁ h₁;exact .inr (.inr (.inr ⟨l,f,tmps,assign,body,v₁,by rw[U];exact V,Z.mono λr v' hR=>O r v' hR⟩))
theorem lL{P:QD}{ops:Array QN}{K:Act->QB->Prop}{i:Nat}{rest:List Nat}{a:Act}{v:QB}{o:QN}(ho:ops[i]?=some o)(A:o.guard=none)(h:OpX mn P o a v (OpsX mn P ops K rest)):OpsX mn P ops K (i::rest) a v:=by unfold OpsX OpIX;rw[ho];dsimp only;rw[if_pos (by unfold Region.wanted;rw[A])];exact h
section
variable {P:QD} {o:QN} {a:Act} {v:QB} {K:Act->QB->Prop}
theorem yJ{vv:QC}(A:∀c,o.op ≠ .defer c)(J:Simple P (QI a.eval o))(L:∀v₁,Ge v v₁->(QI a.eval o).run P v₁=.ok (.value vv) v₁)(h:∀v₁,Ge v v₁->K (a.put o.dst vv) v₁):OpX mn P o a v K:=
 ⟨A,λv₁ h₁=>.inl ⟨vv,v₁,J.tr (L v₁ h₁),h v₁ h₁⟩⟩
theorem Yub{T:QE}{x:QH}{vv:QC}(ho:o.op=.load T x)(J:∀v₁,Ge v v₁->(Instr.loadAt T (a.eval x)).run P v₁=.ok vv v₁)(h:∀v₁,Ge v v₁->K (a.put o.dst vv) v₁):OpX mn P o a v K:=
 yJ (λc A=>by rw[ho]at A;cases A) (by unfold QI;rw[ho];exact .bind (Ydd _ _) λ_=>.pure _) (λv₁ h₁=>by unfold QI;rw[ho];dsimp only;rw[Sem.run_bind,J v₁ h₁];rfl) h
theorem Yji{f:QF}{args:QA}{c:Call}{y:QH}{R:QC->QB->Prop}(ho:o.op=.call c)(O:c.callee=.value y)(U:a.eval y=.func (.func f) #[] #[])(L:EntX P f)(A:c.args.map a.eval=args)
  (h:∀v₁,Ge v v₁->Ua6 mn P f args v₁ R) (V:∀r v',R r v'->K (a.put o.dst r) v'):OpX mn P o a v K:=by
 have Z:QI a.eval o=callFunc f args:=by
  subst A;unfold QI;rw[ho];simp only[resolve,O,U,Deferred.ofValue]
  show callFunc f _=_
  congr 1;rw[<- Array.toList_inj];simp
 exact⟨(λc' J=>by rw[ho]at J;cases J),λv₁ h₁=>.inr (.inr (.inl ⟨f,args,v₁,by rw[Z];exact(L.2 _).tr (L.1 _ v₁),(h v₁ h₁).mono V⟩))⟩
end
end
end Go.Proofs.YtefjogahegolbaaGreatDoor.Vc
