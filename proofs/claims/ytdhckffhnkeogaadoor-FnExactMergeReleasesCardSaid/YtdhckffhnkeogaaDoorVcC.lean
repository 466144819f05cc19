/- Codes of the symbolic run, in company. No program is named. -/
import Derived.Test.YtdhckffhnkeogaaDoorVcB
set_option linter.unusedVariables false
set_option linter.unusedSimpArgs false
open _root_.List renaming mem_append_left→jB,getElem?_eq_some_iff→jE,getElem?_eq_getElem→jF,all_eq_true→jG,mem_append_right→jI,getElem?_append_left→jK,mem_of_getElem?→jM
open _root_.Array renaming replicate→jJ
open _root_.Nat renaming beq→jA,le_refl→jC,eq_of_beq_eq_true→jD,le_trans→jH,lt_of_lt_of_le→jL
namespace Go.Proofs.YtdhckffhnkeogaaDoor.Vc
open Go.RowKit Go.Conc Go.Proofs.YtdhckffhnkeogaaDoor.Ve
variable {mn:Md}
def Uai (mn:Md) (P:Program) (f:FuncId) (I:ICon):Prop:=
 ∀ ρ h v ns Y,I (getH h ns) h=some Y→Y.ok=true→HIs P ρ h v→(∀ n ∈ ns,∃ C t,h[n]? = some (.row C t)) →
  (∀ (pre:List Y.X) (x:Y.X),pre++[x] <+: Y.xs→∀ y ∈ Y.enc x,known y=true∧Is P ρ h y (Ve.valOf y)) ∧
  SeqX mn P f (ns.map fun m=>Value.pointer (some ⟨ρ m,0,none⟩)).toArray (fun x=>((Y.enc x).map Ve.valOf).toArray) (Udx ((ns.map fun m=>(ρ m).a)++glL h)) Y.xs v
section
variable {P:Program} {Γ:Cons} {N:Nat} {W0:World} {n0:Nat} {D E:List Nat} {ρ0:Nat→Ad} {ro:Option Nat}
theorem asgLX {ops:Array Oper} {V:World}:∀ (l:List Oper) (i:Nat),ops.toList.drop i=l→∀ {m:List (Nat×Nat)},asgL l=some m→∀ {a a₀:Act} {v:World},Ud7 m a=a₀→Ge V v →
  OpsX mn P ops (Exit.then (fun a w=>a=a₀∧Ge V w) (fun _ _ _=>False) .normal) (List.range' i l.length) a v
 | [],i,_,m,hm,a,a₀,v,ha,hv=>by
  simp only [asgL,Q8] at hm
  subst hm
  exact ⟨ha,hv⟩
 | o::l,i,hl,m,hm,a,a₀,v,ha,hv=>by
  have ho:ops[i]? = some o:=by
   have:=congrArg (fun x=>x[0]?) hl
   simpa using this
  have hl':ops.toList.drop (i+1)=l:=by
   have:=congrArg List.tail hl
   simpa [List.tail_drop] using this
  unfold asgL at hm
  split at hm
  ·rename_i heq
   cases heq
  ·rename_i d p ty pos aft r heq
   obtain ⟨rfl,rfl⟩:=List.cons.inj heq
   split at hm
   ·rename_i m' hm'
    cases hm
    rw [List.length_cons,List.range'_succ,OpsX]
    exact Zls ho (by simp [Region.wanted]) (pickX (fun c hc=>by cases hc) rfl fun v₁ hg=>asgLX _ (i+1) hl' hm' ha (hv.trans hg))
   ·cases hm
  ·cases hm
theorem asgX {as:Code} {l:List (Nat×Nat)} (hl:asgOf as=some l) {a:Act} {v:World}:WpX mn ro P as (Exit.then (fun a' w=>a'=Ud7 l a∧Ge v w) fun _ _ _=>False) a v:=by
 unfold asgOf at hl
 split at hl
 ·cases hl;exact Zhp ⟨rfl,Ge.refl _⟩
 ·rename_i id ops
  refine Zax ?_
  rw [List.range_eq_range',← Array.length_toList]
  exact asgLX ops.toList 0 rfl hl rfl (Ge.refl _)
 ·cases hl
theorem Zup (hΓ:ConsOkX mn P (Uai mn P) Γ) {g:Operand} {ps:Array Tmp} {as x:Code} {bs:List Nat} {p:Plan} {α:Type} {K:Exit→St→Option α} {r:α} {ρ:Nat→Ad} {st:St} {a:Act} {w:World}
  (body:∀ (l:Nat) (st1:St) (r':Stp BS (Exit×BS)) (ρ1:Nat→Ad) (a1:Act) (W:World),Ua3 p=true→veC P Γ N x p (Stp BS (Exit×BS)) st1 (Uby st.h.length bs)=some r'→R P W st.h.length [] ρ1 ρ1 st1 a1 W →
   WpX mn (some l) P x (fun e a' w'=>∃ ρ' st',Uby st.h.length bs e st'=some r'∧R P W st.h.length [] ρ1 ρ' st' a' w'∧Ext (writes x) st1.h.length ρ1 ρ' st1 st') a1 W)
  (hr:(match Ufp Γ st.h (asA (evO st.s g)),asgOf as with
  | some (ns,Y),some l=>
   bif Y.ok then (bif Ubi st.h ns&&Ubi st.h bs&&apart ns bs&&Ua3 p&&Uer st.h then
    Ufd (Ua7 (fun y hb=>bif jA (Y.enc y).length ps.toList.length then veC P Γ N x p (Stp BS (Exit×BS)) (Udu bs ps.toList l st (Y.enc y) hb) (Uby st.h.length bs) else none) Y.xs (getH st.h bs)) (fun hb=>K .normal (Ub4 bs st hb)) (fun e hb=>K e (Ub4 bs st hb))
   else none) else none
  | _,_=>none)=some r) (hR:RS E P W0 n0 D ρ0 ρ st a w) :
  WpX mn none P (.rangeFunc g ps as x) (fun e a' w'=>∃ ρ' st',K e st'=some r∧RS E P W0 n0 D ρ0 ρ' st' a' w'∧Ext (writes (.rangeFunc g ps as x)) st.h.length ρ ρ' st st') a w:=by
 split at hr
 case h_2=>cases hr
 rename_i ns Y l hit hasg
 cases hyok:Y.ok with
 | false=>rw [hyok] at hr;cases hr
 | true=>
 rw [hyok] at hr
 simp only [Q1] at hr
 cases hok:Ubi st.h ns&&Ubi st.h bs&&apart ns bs&&Ua3 p&&Uer st.h with
 | false=>rw [hok] at hr;cases hr
 | true=>
 rw [hok] at hr
 simp only [Q1] at hr
 simp only [Q7] at hok
 obtain ⟨⟨⟨⟨hns,hbs⟩,hap⟩,hni⟩,hown⟩:=hok
 have hown:=Ybi hown
 have hns:=Zpr hns
 have hbs:=Zpr hbs
 have hap:=Zyp hap
 generalize hstep:(fun (y:Y.X) (hb:BS)=>bif jA (Y.enc y).length ps.toList.length then veC P Γ N x p (Stp BS (Exit×BS)) (Udu bs ps.toList l st (Y.enc y) hb) (Uby st.h.length bs) else none)=step at hr
 -- the iterator
 unfold Ufp at hit
 have hgv:=Zb2 (Zj1 hR.slots g)
 split at hit
 case h_2=>cases hit
 rename_i f ns' hcl
 split at hit
 case h_2=>cases hit
 rename_i I hI
 split at hit
 case h_2=>cases hit
 rename_i Y' hY
 simp only [Q8,Q0] at hit
 obtain ⟨rfl,rfl⟩:=hit
 rw [hcl] at hgv
 obtain ⟨hgv,-⟩:=hgv
 obtain ⟨hico,hent⟩:=hΓ.i f I hI
 obtain ⟨hknown,hseq⟩:=hico ρ st.h w ns' Y' hY hyok hR.heap hns
 have hW0:W0.heap.size≤w.heap.size:=hR.kept.size
 have hmarks:∀ m,({ target:=.collected m,args:=#[] }:Deferred) ∈ a.defers→m<w.heap.size:=fun m hm=>by
  obtain ⟨m',e,_,h2⟩:=hR.defers.all _ hm
  cases e
  exact (Array.getElem?_eq_some_iff.1 h2).1
 let RH:(Nat→Ad)→BS→World→Prop:=fun ρ' hb W=>RS E P W0 n0 (st.d++D) ρ0 ρ' { s:=st.s,h:=setMany st.h bs hb,d:=bs } a W∧(∀ k,k<st.h.length→ρ' k=ρ k)∧HLe st.h (setMany st.h bs hb)
 have hRHown:∀ {ρ' hb W W' row},RH ρ' hb W→W.grownBy W' row→(∀ r,row=some r→w.heap.size≤r∧∃ o:Obj,W.heap[r]? = some o∧o.isCells=false)→RH ρ' hb W':=
  fun h hg hrow=>⟨h.1.grown hg hrow hW0 hmarks,h.2⟩
 have hself:setMany st.h bs (getH st.h bs)=st.h:=by
  refine List.ext_getElem? fun i=> ?_
  rw [Zc4 (g:=fun c=>st.h.getD c .no) bs _ _ i (Zj2 _ _)]
  split
  ·rename_i h
   rw [List.getD_eq_getElem?_getD,jF h.2];rfl
  ·rfl
 have hfin:∀ {ρ' hb W} {ds:List Deferred},RH ρ' hb W→DefOk W0 ds W→RS E P W0 n0 D ρ0 ρ' (Ub4 bs st hb) { a with defers:=ds } W∧Ext (writes (.rangeFunc g ps as x)) st.h.length ρ ρ' st (Ub4 bs st hb):=by
  rintro ρ' hb W ds ⟨h1,h2,h3⟩ hds
  refine ⟨⟨h1.len,h1.slots,h1.heap,h1.base,h1.fresh,h1.kept.mono fun k _ ⟨m,e1,e2,e3⟩=>⟨m,e1, ?_,e3⟩,h1.own0,hds,h1.bound⟩,⟨fun _ _=>rfl,rfl,fun m hm hd=> ?_,fun m hm=>jI _ hm, ?_,h3,h2⟩⟩
  ·simp only [Ub4,List.mem_append] at e2⊢
   rcases e2 with e2 | (e2 | e2) | e2
   ·exact .inl (.inl e2)
   ·exact .inl (.inr e2)
   ·exact .inr (.inl e2)
   ·exact .inr (.inr e2)
  ·simp only [Ub4] at hd⊢
   exact Zag _ _ _ fun hb'=>hd (jB _ hb')
  ·simp only [Ub4]
   rw [Zak]
   exact jC _
 have hpush:∀ {ρ' hb W} {Dk:Nat},RH ρ' hb W→w.heap.size≤Dk→W.heap[Dk]? = some (.deferred (some []))→DefOk W0 ({ target:=.collected Dk,args:=#[] }::a.defers) W:=fun h hD hm=>
  h.1.defers.push (jH hW0 hD) hm fun k hk=>by have:=hmarks k hk;omega
 have hone:∀ (pre:List Y'.X) (y:Y'.X) (hb:BS),Ua7 step pre (getH st.h bs)=some (.more hb)→pre++[y] <+: Y'.xs →
   ∃ r',step y hb=some r'∧Ua7 step (pre++[y]) (getH st.h bs)=some r'∧(Y'.enc y).length=ps.toList.length∧veC P Γ N x p (Stp BS (Exit×BS)) (Udu bs ps.toList l st (Y'.enc y) hb) (Uby st.h.length bs)=some r':=by
  rintro pre y hb hf ⟨suf,hsuf⟩
  cases hs:step y hb with
  | none=>
   rw [← hsuf,List.append_assoc,Znu,hf] at hr
   simp [Ua7,hs,Ufd] at hr
  | some r'=>
   refine ⟨r',rfl, ?_, ?_⟩
   ·rw [Znu,hf]
    simp only [Ua7,hs]
    cases r'<;>rfl
   ·rw [← hstep] at hs
    dsimp only at hs
    cases hb':jA (Y'.enc y).length ps.toList.length with
    | false=>rw [hb'] at hs;cases hs
    | true=>rw [hb'] at hs;exact ⟨jD hb',hs⟩
 refine Zt7 (α:=Y'.X) (v0:=w) hgv hent hseq
  (fun {A B C} h k q hq Ce t fr e=>k q hq Ce t fr (h q hq Ce t fr e))
  (fun W l' o o' hl ho hc _ k hk C t fr e=>by
   have:l'≠k:=fun e'=>by subst e';rw [ho] at e;cases e;cases hc
   rw [World.putObj_heap_other (Ne.symm this)];exact e)
  (fun {A B} hAB k _ C t fr e=>hAB.at e)
  (Ge.refl w)
  (fun pre W=>∃ ρ' hb,Ua7 step pre (getH st.h bs)=some (.more hb)∧RH ρ' hb W)
  (fun c pre W=>∃ ρ' hb e,Ua7 step pre (getH st.h bs)=some (.done (e,hb))∧c=exCode e∧(e = .ret∨∃ id,e = .exit id)∧RH ρ' hb W)
  ?hps ?hI ?hIx ?h0 (fun y=>Ud7 l { tmps:=(ps.zip ((Y'.enc y).map Ve.valOf).toArray).foldl (fun t (p,v)=>t.setIfInBounds p v) a.tmps,defers:=[] }) ?hassign ?hbody ?hdone ?hstop
 case hps=>
  rintro pre y W ⟨ρ',hb,hf,-⟩ hpre
  obtain ⟨r',hs,-,hlen,-⟩:=hone pre y hb hf hpre
  simp [hlen]
 case hI=>exact fun pre W W' row ⟨ρ',hb,h1,h2⟩ hg hrow=>⟨ρ',hb,h1,hRHown h2 hg hrow⟩
 case hIx=>exact fun c pre W W' row ⟨ρ',hb,e,h1,h2,h3,h4⟩ hg hrow=>⟨ρ',hb,e,h1,h2,h3,hRHown h4 hg hrow⟩
 case h0=>
  refine ⟨ρ,getH st.h bs,rfl,⟨hR.len, ?_, ?_,hR.base, ?_,hR.kept.mono fun k _ ⟨m,e1,e2,e3⟩=>⟨m,e1,.inr (by simp only [List.mem_append];exact or_assoc.2 e2),e3⟩, ?_,hR.defers, ?_⟩,fun _ _=>rfl, ?_⟩
  all_goals ((try dsimp only);rw [hself])
  ·exact hR.slots
  ·exact hR.heap
  ·exact hR.fresh
  ·exact hR.own0
  ·exact hR.bound
  ·exact HLe.refl _
 case hassign=>exact fun l' y W=>asgX hasg
 case hbody=>
  rintro l' pre y W hl' - ⟨ρ',hb,hf,h1,h2,h3⟩ hpre
  obtain ⟨r',hs,hf',hlen,hv⟩:=hone pre y hb hf hpre
  have hlenh:(setMany st.h bs hb).length=st.h.length:=Zak _ _ _
  have hroot:=h1.root (E':=[]) fun k len C e he=>by
   dsimp only at he
   by_cases hkb:k ∈ bs
   ·obtain ⟨C',t,e1⟩:=hbs k hkb
    obtain ⟨C2,e2⟩:=(h3 k).row _ _ e1
    rw [e2] at he;cases he
   ·rw [Zag _ _ _ hkb] at he
    exact absurd he (hown k len C e)
  dsimp only at hroot
  rw [hlenh] at hroot
  have hA:Ual P ρ' (setMany st.h bs hb) (Y'.enc y) ((Y'.enc y).map Ve.valOf):=Yco (hknown pre y hpre)
  have hset:=(RS.setPs ps.toList (Y'.enc y) ((Y'.enc y).map Ve.valOf) hroot hlen hA).runAsg l
  dsimp only at hset
  have hact:(ps.zip ((Y'.enc y).map Ve.valOf).toArray).foldl (fun t (x:Nat×Value)=>t.setIfInBounds x.1 x.2) a.tmps=(ps.toList.zip ((Y'.enc y).map Ve.valOf)).foldl (fun t (x:Nat×Value)=>t.setIfInBounds x.1 x.2) a.tmps:=by
   rw [← Array.foldl_toList,Array.toList_zip]
  refine WpX.mono (body l' (Udu bs ps.toList l st (Y'.enc y) hb) r' ρ' _ W hni hv (by
   simp only [Udu]
   rw [hact]
   exact hset)) ?_
  rintro e a2 W2 ⟨ρ2,st2,hk,hR2,hE⟩
  have hE':Ext (writes x) st.h.length ρ' ρ2 { s:=runAsg l (setPs st.s ps.toList (Y'.enc y)),h:=setMany st.h bs hb,d:=[] } st2:=by
   have:=hE
   simp only [Udu] at this
   rw [hlenh] at this
   exact this
  have good:∀ {s:BS},Ufy st.h.length bs st2=some s→s=getH st2.h bs∧Uap st.h.length bs st2.d=true∧(getH st2.h bs).all (Uao st.h.length)=true:=by
   intro s h
   unfold Ufy at h
   cases hok':Uap st.h.length bs st2.d&&(getH st2.h bs).all (Uao st.h.length) with
   | false=>rw [hok'] at h;cases h
   | true=>
    rw [hok'] at h
    simp only [Q1,Q8] at h
    simp only [Q7] at hok'
    exact ⟨h.symm,hok'.1,hok'.2⟩
  have moreE:∀ {o:Option BS},Uav (X:=Exit×BS) o=some r'→∃ s',o=some s'∧r' = .more s':=fun {o} h=>by cases o<;>cases h;exact ⟨_,rfl,rfl⟩
  have doneE:∀ {o:Option BS} {e:Exit},Uaw e o=some r'→∃ s',o=some s'∧r' = .done (e,s'):=fun {o e} h=>by cases o<;>cases h;exact ⟨_,rfl,rfl⟩
  have keeps:Uap st.h.length bs st2.d=true→(getH st2.h bs).all (Uao st.h.length)=true→RH ρ2 (getH st2.h bs) W2∧KeepsX P w.heap.size W W2∧Udx ((ns'.map fun m=>(ρ m).a)++glL st.h) W W2:=fun g1 g2=>by
   obtain ⟨k1,k2,k3,k4,k5,k6⟩:=Ycm hbs h1 h3 hR2 hE' g1 g2
   refine ⟨⟨k1,fun k hp=>(k3 k hp).trans (h2 k hp),k2⟩,⟨k6,fun k hk hlt _=>k5 k hlt fun b hb' e=> ?_⟩, ?_⟩
   ·obtain ⟨C,t,eb⟩:=hbs b hb'
    have h1b:=h2 b (jE.1 eb).1
    have:=hR.heap.lt (.row eb)
    rw [h1b] at e
    omega
   intro q hq C t fr hk'
   rcases List.mem_append.1 hq with hq | hq
   case inr=>
    obtain ⟨n,tg,ag,xg,hg⟩:=Yad hq
    refine k4 _ C t fr hk' fun b hb' e=> ?_
    obtain ⟨Cb,tb,eb⟩:=hbs b hb'
    obtain ⟨Cb',eb'⟩:=(h3 b).row _ _ eb
    exact h1.heap.far n _ q ((h3 n).gl _ _ _ _ hg) (.inl rfl) b (.row eb') e
   obtain ⟨m,hm,rfl⟩:=List.mem_map.1 hq
   refine k4 _ C t fr hk' fun b hb' e=> ?_
   obtain ⟨Cm,tm,em⟩:=hns m hm
   obtain ⟨Cb,tb,eb⟩:=hbs b hb'
   obtain ⟨Cm',em'⟩:=(h3 m).row _ _ em
   obtain ⟨Cb',eb'⟩:=(h3 b).row _ _ eb
   have:b=m:=h1.heap.inj b m (.row eb') (.row em') (by rw [e,h2 m (jE.1 em).1])
   exact hap b hb' (this ▸ hm)
  cases e with
  | normal=>
   obtain ⟨s',ht,rfl⟩:=moreE hk
   obtain ⟨rfl,g1,g2⟩:=good ht
   obtain ⟨q1,q2,q3⟩:=keeps g1 g2
   exact ⟨q2,q3,ρ2,_,hf',q1⟩
  | ret=>
   obtain ⟨s',ht,rfl⟩:=doneE hk
   obtain ⟨rfl,g1,g2⟩:=good ht
   obtain ⟨q1,q2,q3⟩:=keeps g1 g2
   exact ⟨q2,ρ2,_,.ret,hf',rfl,.inl rfl,q1⟩
  | exit id=>
   obtain ⟨s',ht,rfl⟩:=doneE hk
   obtain ⟨rfl,g1,g2⟩:=good ht
   obtain ⟨q1,q2,q3⟩:=keeps g1 g2
   exact ⟨q2,ρ2,_,.exit id,hf',rfl,.inr ⟨id,rfl⟩,q1⟩
  | goto l=>cases hk
  | panic ch=>cases hk
  | outgrown=>cases hk
 case hdone=>
  rintro Dk W hD ⟨ρ',hb,hf,hRH⟩ hm
  rw [hf] at hr
  obtain ⟨h1,h2⟩:=hfin hRH (hpush hRH hD hm)
  exact ⟨ρ',_,hr,h1,h2⟩
 case hstop=>
  rintro Dk c pre W hD ⟨suf,hsuf⟩ ⟨ρ',hb,e,hf,rfl,he,hRH⟩ hm
  rw [← hsuf,Znu,hf] at hr
  obtain ⟨h1,h2⟩:=hfin hRH (hpush hRH hD hm)
  rcases he with rfl | ⟨id,rfl⟩
  ·exact Zld ⟨ρ',_,hr,h1,h2⟩
  ·exact Zt3 ⟨ρ',_,hr,h1,h2⟩
theorem Ztg (hΓ:ConsOkX mn P (Uai mn P) Γ) {g:Operand} {ps:Array Tmp} {as x:Code} {bs:List Nat} {p:Plan} {α:Type} {K:Exit→St→Option α} {r:α} {ρ:Nat→Ad} {st:St} {a:Act} {w:World}
  (body:∀ (l:Nat) (st1:St) (r':Stp BS (Exit×BS)) (ρ1:Nat→Ad) (a1:Act) (W:World),Ua3 p=true→veC P Γ N x p (Stp BS (Exit×BS)) st1 (Uby (Ubd st).h.length bs)=some r'→R P W (Ubd st).h.length [] ρ1 ρ1 st1 a1 W →
   WpX mn (some l) P x (fun e a' w'=>∃ ρ' st',Uby (Ubd st).h.length bs e st'=some r'∧R P W (Ubd st).h.length [] ρ1 ρ' st' a' w'∧Ext (writes x) st1.h.length ρ1 ρ' st1 st') a1 W)
  (hr:veC P Γ N (.rangeFunc g ps as x) (.iter bs p) α st K=some r) (hR:RS E P W0 n0 D ρ0 ρ st a w) :
  WpX mn none P (.rangeFunc g ps as x) (fun e a' w'=>∃ ρ' st',K e st'=some r∧RS E P W0 n0 D ρ0 ρ' st' a' w'∧Ext (writes (.rangeFunc g ps as x)) st.h.length ρ ρ' st st') a w:=by
 rw [veC] at hr
 obtain ⟨hR',hE⟩:=hR.spend (writes (.rangeFunc g ps as x)) st.h.length
 refine WpX.mono (Zup hΓ body hr hR') ?_
 rintro e a' w' ⟨ρ',st',k1,k2,k3⟩
 exact ⟨ρ',st',k1,k2,hE.trans (k3.mono (fun _ h=>h) (by simp [Ubd]))⟩
theorem Zsu {c:Code} {p:Plan} {cs bs:List Nat} (hcs:cs.all (Uag · (writes c))=true) {α:Type} {K:Exit→St→Option α} {r:α} {st:St} {ρs:Nat→Ad}
  (body:∀ (s:LS) (r':Stp LS (Exit×LS)) (ρ:Nat→Ad) (a:Act) (w:World),
   veC P Γ N c p (Stp LS (Exit×LS)) (head (writes c) cs bs st s) (Uel st.h.length cs bs)=some r'→RS E P W0 n0 (st.d++D) ρ0 ρ (head (writes c) cs bs st s) a w →
   WpX mn ro P c (fun e a' w'=>∃ ρ' st',Uel st.h.length cs bs e st'=some r'∧RS E P W0 n0 (st.d++D) ρ0 ρ' st' a' w'∧Ext (writes c) (head (writes c) cs bs st s).h.length ρ ρ' (head (writes c) cs bs st s) st') a w) :
  ∀ (m:Nat) (s:LS) (ρ:Nat→Ad) (a:Act) (w:World),
   Uak (Uaa (fun s=>veC P Γ N c p (Stp LS (Exit×LS)) (head (writes c) cs bs st s) (Uel st.h.length cs bs)) m s) (fun e s=>K e (left (writes c) cs bs st s))=some r →
   RS E P W0 n0 (st.d++D) ρ0 ρ (head (writes c) cs bs st s) a w→HLe st.h (head (writes c) cs bs st s).h→(∀ k,k<st.h.length→ρ k=ρs k) →
   Ua5 mn ro P c (fun e a' w'=>∃ ρ' st',K e st'=some r∧RS E P W0 n0 D ρ0 ρ' st' a' w'∧Ext (writes c) st.h.length ρs ρ' st st') m a w
 | 0,s,ρ,a,w,hr,_,_,_=>by simp [Uaa,Uak] at hr
 | m+1,s,ρ,a,w,hr,hR,hhl,hren=>by
  rw [Uaa] at hr
  rw [Ua5]
  have good:∀ {st':St} {s':LS},tail st.h.length cs bs st'=some s'→s'=(getS st'.s cs,getH st'.h bs)∧Uap st.h.length bs st'.d=true∧(getS st'.s cs).all (Uat st.h.length)=true∧(getH st'.h bs).all (Uao st.h.length)=true:=by
   intro st' s' h
   unfold tail at h
   cases hok:Uap st.h.length bs st'.d&&((getS st'.s cs).all (Uat st.h.length)&&(getH st'.h bs).all (Uao st.h.length)) with
   | false=>rw [hok] at h;cases h
   | true=>
    rw [hok] at h
    simp only [Q1,Q8] at h
    simp only [Q7] at hok
    exact ⟨h.symm,hok.1,hok.2.1,hok.2.2⟩
  have moreE:∀ {o:Option LS} {s':LS},Uav (X:=Exit×LS) o=some (.more s')→o=some s':=fun {o s'} h=>by cases o<;>cases h;rfl
  have moreN:∀ {o:Option LS} {x:Exit×LS},Uav (X:=Exit×LS) o=some (.done x)→False:=fun {o x} h=>by cases o<;>cases h
  have doneE:∀ {o:Option LS} {e:Exit} {x:Exit×LS},Uaw e o=some (.done x)→∃ s',o=some s'∧x=(e,s'):=fun {o e x} h=>by cases o<;>cases h;exact ⟨_,rfl,rfl⟩
  have doneN:∀ {o:Option LS} {e:Exit} {s':LS},Uaw e o=some (.more s')→False:=fun {o e s'} h=>by cases o<;>cases h
  cases hs':veC P Γ N c p (Stp LS (Exit×LS)) (head (writes c) cs bs st s) (Uel st.h.length cs bs) with
  | none=>rw [hs'] at hr;simp [Uak] at hr
  | some x=>
   rw [hs'] at hr
   cases x with
   | more s'=>
    dsimp only at hr
    refine WpX.mono (body s _ ρ a w hs' hR) ?_
    rintro e a' w' ⟨ρ',st',hk,hR',hE⟩
    cases e with
    | normal=>
     obtain ⟨rfl,h1,h2,h3⟩:=good (moreE hk)
     obtain ⟨hR2,hhl2⟩:=Zk7 hR hR' hE hhl h1 h2 h3
     exact Zsu hcs body m _ ρ' a' w' hr hR2 hhl2 fun k hk'=>(hE.ren k (by rw [show (head (writes c) cs bs st s).h.length=st.h.length from Zak _ _ _];exact hk')).trans (hren k hk')
    | exit id=>exact (doneN hk).elim
    | goto l=>exact (doneN hk).elim
    | ret=>exact (doneN hk).elim
    | panic ch=>cases hk
    | outgrown=>cases hk
   | done x=>
    simp only [Uak] at hr
    refine WpX.mono (body s _ ρ a w hs' hR) ?_
    rintro e a' w' ⟨ρ',st',hk,hR',hE⟩
    have fin:Uaw e (tail st.h.length cs bs st')=some (.done x)→∃ ρ' st',K e st'=some r∧RS E P W0 n0 D ρ0 ρ' st' a' w'∧Ext (writes c) st.h.length ρs ρ' st st':=fun h=>by
     obtain ⟨s',hs,rfl⟩:=doneE h
     obtain ⟨rfl,h1,h2,h3⟩:=good hs
     obtain ⟨hR2,hhl2⟩:=Zk7 hR hR' hE hhl h1 h2 h3
     obtain ⟨h4,h5⟩:=Zqx hcs hR2 hhl2 fun k hk'=>(hE.ren k (by rw [show (head (writes c) cs bs st s).h.length=st.h.length from Zak _ _ _];exact hk')).trans (hren k hk')
     exact ⟨ρ',_,hr,h4,h5⟩
    cases e with
    | normal=>exact (moreN hk).elim
    | exit id=>exact fin hk
    | goto l=>exact fin hk
    | ret=>exact fin hk
    | panic ch=>cases hk
    | outgrown=>cases hk
theorem Zqu {c:Code} {p:Plan} {cs bs:List Nat} (hcs:cs.all (Uag · (writes c))=true) {α:Type} {K:Exit→St→Option α} {r:α} {st:St} {ρs:Nat→Ad}
  (body:∀ (s:LS) (r':Stp LS ((Exit×LS) ⊕ α)) (ρ:Nat→Ad) (a:Act) (w:World),
   veC P Γ N c p (Stp LS ((Exit×LS) ⊕ α)) (head (writes c) cs bs st s) (Ud5 st.h.length cs bs st K)=some r'→RS E P W0 n0 (st.d++D) ρ0 ρ (head (writes c) cs bs st s) a w →
   WpX mn ro P c (fun e a' w'=>∃ ρ' st',Ud5 st.h.length cs bs st K e st'=some r'∧RS E P W0 n0 (st.d++D) ρ0 ρ' st' a' w'∧Ext (writes c) (head (writes c) cs bs st s).h.length ρ ρ' (head (writes c) cs bs st s) st') a w) :
  ∀ (m:Nat) (s:LS) (ρ:Nat→Ad) (a:Act) (w:World),
   Ubx (Uaa (fun s=>veC P Γ N c p (Stp LS ((Exit×LS) ⊕ α)) (head (writes c) cs bs st s) (Ud5 st.h.length cs bs st K)) m s) (fun e s=>K e (left (writes c) cs bs st s))=some r →
   RS E P W0 n0 (st.d++D) ρ0 ρ (head (writes c) cs bs st s) a w→HLe st.h (head (writes c) cs bs st s).h→(∀ k,k<st.h.length→ρ k=ρs k) →
   Ua5 mn ro P c (fun e a' w'=>∃ ρ' st',K e st'=some r∧RS E P W0 n0 D ρ0 ρ' st' a' w'∧Ext (writes c) st.h.length ρs ρ' st st') m a w
 | 0,s,ρ,a,w,hr,_,_,_=>by simp [Uaa,Ubx] at hr
 | m+1,s,ρ,a,w,hr,hR,hhl,hren=>by
  rw [Uaa] at hr
  rw [Ua5]
  have good:∀ {st':St} {s':LS},tail st.h.length cs bs st'=some s'→s'=(getS st'.s cs,getH st'.h bs)∧Uap st.h.length bs st'.d=true∧(getS st'.s cs).all (Uat st.h.length)=true∧(getH st'.h bs).all (Uao st.h.length)=true:=by
   intro st' s' h
   unfold tail at h
   cases hok:Uap st.h.length bs st'.d&&((getS st'.s cs).all (Uat st.h.length)&&(getH st'.h bs).all (Uao st.h.length)) with
   | false=>rw [hok] at h;cases h
   | true=>
    rw [hok] at h
    simp only [Q1,Q8] at h
    simp only [Q7] at hok
    exact ⟨h.symm,hok.1,hok.2.1,hok.2.2⟩
  have moreE:∀ {o:Option LS} {s':LS},Uav (X:=(Exit×LS) ⊕ α) o=some (.more s')→o=some s':=fun {o s'} h=>by cases o<;>cases h;rfl
  have moreN:∀ {o:Option LS} {x:(Exit×LS) ⊕ α},Uav (X:=(Exit×LS) ⊕ α) o=some (.done x)→False:=fun {o x} h=>by cases o<;>cases h
  have doneE:∀ {o:Option LS} {e:Exit} {x:(Exit×LS) ⊕ α},Udz e o=some (.done x)→∃ s',o=some s'∧x = .inl (e,s'):=fun {o e x} h=>by cases o<;>cases h;exact ⟨_,rfl,rfl⟩
  have doneN:∀ {o:Option LS} {e:Exit} {s':LS},Udz (α:=α) e o=some (.more s')→False:=fun {o e s'} h=>by cases o<;>cases h
  have doneAN:∀ {o:Option α} {s':LS},Ufj (S:=LS) o=some (.more s')→False:=fun {o s'} h=>by cases o<;>cases h
  cases hs':veC P Γ N c p (Stp LS ((Exit×LS) ⊕ α)) (head (writes c) cs bs st s) (Ud5 st.h.length cs bs st K) with
  | none=>rw [hs'] at hr;simp [Ubx] at hr
  | some x=>
   rw [hs'] at hr
   cases x with
   | more s'=>
    dsimp only at hr
    refine WpX.mono (body s _ ρ a w hs' hR) ?_
    rintro e a' w' ⟨ρ',st',hk,hR',hE⟩
    cases e with
    | normal=>
     obtain ⟨rfl,h1,h2,h3⟩:=good (moreE hk)
     obtain ⟨hR2,hhl2⟩:=Zk7 hR hR' hE hhl h1 h2 h3
     exact Zqu hcs body m _ ρ' a' w' hr hR2 hhl2 fun k hk'=>(hE.ren k (by rw [show (head (writes c) cs bs st s).h.length=st.h.length from Zak _ _ _];exact hk')).trans (hren k hk')
    | exit id=>exact (doneN hk).elim
    | goto l=>exact (doneN hk).elim
    | ret=>exact (doneAN hk).elim
    | panic ch=>cases hk
    | outgrown=>cases hk
   | done x=>
    refine WpX.mono (body s _ ρ a w hs' hR) ?_
    rintro e a' w' ⟨ρ',st',hk,hR',hE⟩
    have fin:Udz e (tail st.h.length cs bs st')=some (.done x)→∃ ρ' st',K e st'=some r∧RS E P W0 n0 D ρ0 ρ' st' a' w'∧Ext (writes c) st.h.length ρs ρ' st st':=fun h=>by
     obtain ⟨s',hs,rfl⟩:=doneE h
     simp only [Ubx] at hr
     obtain ⟨rfl,h1,h2,h3⟩:=good hs
     obtain ⟨hR2,hhl2⟩:=Zk7 hR hR' hE hhl h1 h2 h3
     obtain ⟨h4,h5⟩:=Zqx hcs hR2 hhl2 fun k hk'=>(hE.ren k (by rw [show (head (writes c) cs bs st s).h.length=st.h.length from Zak _ _ _];exact hk')).trans (hren k hk')
     exact ⟨ρ',_,hr,h4,h5⟩
    cases e with
    | normal=>exact (moreN hk).elim
    | exit id=>exact fin hk
    | goto l=>exact fin hk
    | ret=>
     have hk2:Ufj (S:=LS) (K .ret (fixR bs st st'))=some (.done x):=hk
     cases hkr:K .ret (fixR bs st st') with
     | none=>rw [hkr] at hk2;cases hk2
     | some r0=>
      rw [hkr] at hk2
      cases hk2
      simp only [Ubx] at hr
      cases hr
      exact ⟨ρ',_,hkr,fix_R hR',(Zqx hcs hR hhl hren).2.trans (Ydx hE (Nat.le_of_eq (Zak _ _ _).symm))⟩
    | panic ch=>cases hk
    | outgrown=>cases hk
theorem Zq6 {c:Code} {p:Plan} {cs bs:List Nat} {g:Nat} {t:TypeId} {st st1:St} (hcs:∀ x ∈ cs,x ∈ writes c) (hs1:st1.s=st.s.set g (.a (.l st.h.length))) (hl1:st1.h.length=st.h.length+1) (hd1:∀ n ∈ st.d,n ∈ st1.d) (hst:∀ n,n<st.h.length→n ∉ st1.d→st1.h[n]? = st.h[n]?) (hgW:g ∈ writes c) (hgc:g ∉ cs) (hbs:∀ b ∈ bs,b<st.h.length)
  (hlow:∀ (i:Nat) (u:SV),st.s[i]? = some u→Uat st.h.length u=true) (hlowB:∀ (k:Nat) (b:VB),k<st.h.length→st1.h[k]? = some b→Uao st.h.length b=true) (hn0:n0≤st.h.length)
  {α:Type} {K:Exit→St→Option α} {r:α} {ρs:Nat→Ad}
  (body:∀ (s:LS) (r':Stp LS (Exit×LS)) (ρ:Nat→Ad) (a:Act) (w:World),
   veC P Γ N c p (Stp LS (Exit×LS)) (head (writes c) (cs++[g]) (bs++[st.h.length]) st1 s) (Udy st.h.length cs bs g t)=some r'→RS E P W0 n0 (st1.d++D) ρ0 ρ (head (writes c) (cs++[g]) (bs++[st.h.length]) st1 s) a w →
   WpX mn ro P c (fun e a' w'=>∃ ρ' st',Udy st.h.length cs bs g t e st'=some r'∧RS E P W0 n0 (st1.d++D) ρ0 ρ' st' a' w'∧Ext (writes c) (head (writes c) (cs++[g]) (bs++[st.h.length]) st1 s).h.length ρ ρ' (head (writes c) (cs++[g]) (bs++[st.h.length]) st1 s) st') a w) :
  ∀ (m:Nat) (s:LS) (ρ:Nat→Ad) (a:Act) (w:World),
   Uak (Uaa (fun s=>veC P Γ N c p (Stp LS (Exit×LS)) (head (writes c) (cs++[g]) (bs++[st.h.length]) st1 s) (Udy st.h.length cs bs g t)) m s) (fun e s=>K e (left (writes c) (cs++[g]) (bs++[st.h.length]) st1 s))=some r →
   RS E P W0 n0 (st1.d++D) ρ0 ρ (head (writes c) (cs++[g]) (bs++[st.h.length]) st1 s) a w→HLe st.h (head (writes c) (cs++[g]) (bs++[st.h.length]) st1 s).h→(∀ k,k<st.h.length→ρ k=ρs k) →
   Ua5 mn ro P c (fun e a' w'=>∃ ρ' st',K e st'=some r∧RS E P W0 n0 D ρ0 ρ' st' a' w'∧Ext (writes c) st.h.length ρs ρ' st st') m a w
 | 0,s,ρ,a,w,hr,_,_,_=>by simp [Uaa,Uak] at hr
 | m+1,s,ρ,a,w,hr,hR,hhl,hren=>by
  rw [Uaa] at hr
  rw [Ua5]
  have good:∀ {st':St} {s':LS} {ρ':Nat→Ad} {a':Act} {w':World},Ucs st.h.length cs bs g t st'=some s'→RS E P W0 n0 (st1.d++D) ρ0 ρ' st' a' w'→Ext (writes c) (head (writes c) (cs++[g]) (bs++[st.h.length]) st1 s).h.length ρ ρ' (head (writes c) (cs++[g]) (bs++[st.h.length]) st1 s) st' →
    ∃ ρ2,RS E P W0 n0 (st1.d++D) ρ0 ρ2 (head (writes c) (cs++[g]) (bs++[st.h.length]) st1 s') a' w'∧HLe st.h (head (writes c) (cs++[g]) (bs++[st.h.length]) st1 s').h∧∀ k,k<st.h.length→ρ2 k=ρs k:=by
   intro st' s' ρ' a' w' h hR' hE
   unfold Ucs at h
   split at h
   ·rename_i n hg
    split at h
    ·rename_i len C e' hown
     cases hok:jA t e'&&(Nat.ble st.h.length n&&(Uap st.h.length bs st'.d&&((getS st'.s cs).all (Uat st.h.length)&&(getH st'.h bs).all (Uao st.h.length)))) with
     | false=>rw [hok] at h;cases h
     | true=>
      rw [hok] at h
      simp only [Q1,Q8] at h
      simp only [Q7] at hok
      obtain rfl:=jD hok.1
      subst h
      obtain ⟨h1,h2⟩:=Zwp hs1 hl1 hgW hgc hbs hlow hlowB hn0 hR hR' hE hhl hg hown (Nat.le_of_ble_eq_true hok.2.1) hok.2.2.1 hok.2.2.2.1 hok.2.2.2.2
      refine ⟨_,h1,h2,fun k hk=> ?_⟩
      show (if k=st.h.length then ρ' n else ρ' k)=ρs k
      rw [if_neg (by omega)]
      exact (hE.ren k (by rw [show (head (writes c) (cs++[g]) (bs++[st.h.length]) st1 s).h.length=st1.h.length from Zak _ _ _,hl1];omega)).trans (hren k hk)
    ·cases h
   ·cases h
  have moreE:∀ {o:Option LS} {s':LS},Uav (X:=Exit×LS) o=some (.more s')→o=some s':=fun {o s'} h=>by cases o<;>cases h;rfl
  have moreN:∀ {o:Option LS} {x:Exit×LS},Uav (X:=Exit×LS) o=some (.done x)→False:=fun {o x} h=>by cases o<;>cases h
  have doneE:∀ {o:Option LS} {e:Exit} {x:Exit×LS},Uaw e o=some (.done x)→∃ s',o=some s'∧x=(e,s'):=fun {o e x} h=>by cases o<;>cases h;exact ⟨_,rfl,rfl⟩
  have doneN:∀ {o:Option LS} {e:Exit} {s':LS},Uaw e o=some (.more s')→False:=fun {o e s'} h=>by cases o<;>cases h
  cases hs':veC P Γ N c p (Stp LS (Exit×LS)) (head (writes c) (cs++[g]) (bs++[st.h.length]) st1 s) (Udy st.h.length cs bs g t) with
  | none=>rw [hs'] at hr;simp [Uak] at hr
  | some x=>
   rw [hs'] at hr
   cases x with
   | more s'=>
    dsimp only at hr
    refine WpX.mono (body s _ ρ a w hs' hR) ?_
    rintro e a' w' ⟨ρ',st',hk,hR',hE⟩
    cases e with
    | normal=>
     obtain ⟨ρ2,hR2,hhl2,hren2⟩:=good (moreE hk) hR' hE
     exact Zq6 hcs hs1 hl1 hd1 hst hgW hgc hbs hlow hlowB hn0 body m _ ρ2 a' w' hr hR2 hhl2 hren2
    | exit id=>exact (doneN hk).elim
    | goto l=>exact (doneN hk).elim
    | ret=>exact (doneN hk).elim
    | panic ch=>cases hk
    | outgrown=>cases hk
   | done x=>
    simp only [Uak] at hr
    refine WpX.mono (body s _ ρ a w hs' hR) ?_
    rintro e a' w' ⟨ρ',st',hk,hR',hE⟩
    have fin:Uaw e (Ucs st.h.length cs bs g t st')=some (.done x)→∃ ρ' st',K e st'=some r∧RS E P W0 n0 D ρ0 ρ' st' a' w'∧Ext (writes c) st.h.length ρs ρ' st st':=fun h=>by
     obtain ⟨s',hs,rfl⟩:=doneE h
     obtain ⟨ρ2,hR2,hhl2,hren2⟩:=good hs hR' hE
     obtain ⟨h4,h5⟩:=Zry hs1 hl1 hd1 hst hgW hcs hR2 hhl2 hren2
     exact ⟨ρ2,_,hr,h4,h5⟩
    cases e with
    | normal=>exact (moreN hk).elim
    | exit id=>exact fin hk
    | goto l=>exact fin hk
    | ret=>exact fin hk
    | panic ch=>cases hk
    | outgrown=>cases hk
theorem Zp6 {c:Code} {p:Plan} {cs bs:List Nat} {g:Nat} {t:TypeId} {st st1:St} (hcs:∀ x ∈ cs,x ∈ writes c) {T:TypeId} {y1:SA} (hq:∀ a b,Γ.e a b=true ↔ a=b) (hs1:st1.s=st.s) (hl1:st1.h.length=st.h.length+1) (hg1:st1.h[g]? = some (.one y1 T)) (hbR0:BoxR st.h.length st.h.length y1 y1) (hgl:g<st.h.length) (hgd:g ∈ st1.d) (hd1:∀ n ∈ st.d,n ∈ st1.d) (hst:∀ n,n<st.h.length→n ∉ st1.d→st1.h[n]? = st.h[n]?) (hgb:g ∉ bs) (hbs:∀ b ∈ bs,b<st.h.length)
  (hlow:∀ (i:Nat) (u:SV),st.s[i]? = some u→Uat st.h.length u=true) (hlowB:∀ (k:Nat) (b:VB),k<st.h.length→k≠g→st1.h[k]? = some b→Uao st.h.length b=true) (hn0:n0≤st.h.length)
  {α:Type} {K:Exit→St→Option α} {r:α} {ρs:Nat→Ad}
  (body:∀ (s:LS) (r':Stp LS (Exit×LS)) (ρ:Nat→Ad) (a:Act) (w:World),
   veC P Γ N c p (Stp LS (Exit×LS)) (head (writes c) cs (bs++[st.h.length]) st1 s) (Ub2 Γ.e (boxY st1 g) st.h.length cs bs g t)=some r'→RS E P W0 n0 (st1.d++D) ρ0 ρ (head (writes c) cs (bs++[st.h.length]) st1 s) a w →
   WpX mn ro P c (fun e a' w'=>∃ ρ' st',Ub2 Γ.e (boxY st1 g) st.h.length cs bs g t e st'=some r'∧RS E P W0 n0 (st1.d++D) ρ0 ρ' st' a' w'∧Ext (writes c) (head (writes c) cs (bs++[st.h.length]) st1 s).h.length ρ ρ' (head (writes c) cs (bs++[st.h.length]) st1 s) st') a w) :
  ∀ (m:Nat) (s:LS) (ρ:Nat→Ad) (a:Act) (w:World),
   Uak (Uaa (fun s=>veC P Γ N c p (Stp LS (Exit×LS)) (head (writes c) cs (bs++[st.h.length]) st1 s) (Ub2 Γ.e (boxY st1 g) st.h.length cs bs g t)) m s) (fun e s=>K e (left (writes c) cs (bs++[st.h.length]) st1 s))=some r →
   RS E P W0 n0 (st1.d++D) ρ0 ρ (head (writes c) cs (bs++[st.h.length]) st1 s) a w→HLe st.h (head (writes c) cs (bs++[st.h.length]) st1 s).h→(∀ k,k<st.h.length→ρ k=ρs k) →
   Ua5 mn ro P c (fun e a' w'=>∃ ρ' st',K e st'=some r∧RS E P W0 n0 D ρ0 ρ' st' a' w'∧Ext (writes c) st.h.length ρs ρ' st st') m a w
 | 0,s,ρ,a,w,hr,_,_,_=>by simp [Uaa,Uak] at hr
 | m+1,s,ρ,a,w,hr,hR,hhl,hren=>by
  rw [Uaa] at hr
  rw [Ua5]
  have good:∀ {st':St} {s':LS} {ρ':Nat→Ad} {a':Act} {w':World},Udw Γ.e (boxY st1 g) st.h.length cs bs g t st'=some s'→RS E P W0 n0 (st1.d++D) ρ0 ρ' st' a' w'→Ext (writes c) (head (writes c) cs (bs++[st.h.length]) st1 s).h.length ρ ρ' (head (writes c) cs (bs++[st.h.length]) st1 s) st' →
    ∃ ρ2,RS E P W0 n0 (st1.d++D) ρ0 ρ2 (head (writes c) cs (bs++[st.h.length]) st1 s') a' w'∧HLe st.h (head (writes c) cs (bs++[st.h.length]) st1 s').h∧∀ k,k<st.h.length→ρ2 k=ρs k:=by
   intro st' s' ρ' a' w' h hR' hE
   unfold Udw at h
   split at h
   case h_2=>cases h
   rename_i b hgb'
   have hby:boxY st1 g=y1:=by unfold boxY;rw [hg1]
   rw [hby] at hgb'
   obtain ⟨n,T',len,C,y',hg,hbR,hown,hmn,rfl⟩:=Yeb hq hbR0 hgb'
   cases hok:Uap st.h.length (g::bs) st'.d&&((getS st'.s cs).all (Uat st.h.length)&&(getH st'.h bs).all (Uao st.h.length)) with
   | false=>rw [hok] at h;cases h
   | true=>
    rw [hok] at h
    simp only [Q1,Q8] at h
    simp only [Q7] at hok
    subst h
    obtain ⟨h1,h2⟩:=Yck hs1 hl1 hg1 hgl hgb hbs hlow hlowB hn0 hR hR' (jB _ hgd) hE hhl hg hbR hown hmn hok.1 hok.2.1 hok.2.2
    refine ⟨_,h1,h2,fun k hk=> ?_⟩
    show (if k=st.h.length then ρ' n else ρ' k)=ρs k
    rw [if_neg (by omega)]
    exact (hE.ren k (by rw [show (head (writes c) cs (bs++[st.h.length]) st1 s).h.length=st1.h.length from Zak _ _ _,hl1];omega)).trans (hren k hk)
  have moreE:∀ {o:Option LS} {s':LS},Uav (X:=Exit×LS) o=some (.more s')→o=some s':=fun {o s'} h=>by cases o<;>cases h;rfl
  have moreN:∀ {o:Option LS} {x:Exit×LS},Uav (X:=Exit×LS) o=some (.done x)→False:=fun {o x} h=>by cases o<;>cases h
  have doneE:∀ {o:Option LS} {e:Exit} {x:Exit×LS},Uaw e o=some (.done x)→∃ s',o=some s'∧x=(e,s'):=fun {o e x} h=>by cases o<;>cases h;exact ⟨_,rfl,rfl⟩
  have doneN:∀ {o:Option LS} {e:Exit} {s':LS},Uaw e o=some (.more s')→False:=fun {o e s'} h=>by cases o<;>cases h
  cases hs':veC P Γ N c p (Stp LS (Exit×LS)) (head (writes c) cs (bs++[st.h.length]) st1 s) (Ub2 Γ.e (boxY st1 g) st.h.length cs bs g t) with
  | none=>rw [hs'] at hr;simp [Uak] at hr
  | some x=>
   rw [hs'] at hr
   cases x with
   | more s'=>
    dsimp only at hr
    refine WpX.mono (body s _ ρ a w hs' hR) ?_
    rintro e a' w' ⟨ρ',st',hk,hR',hE⟩
    replace hk:=Ybp hk
    cases e with
    | normal=>
     obtain ⟨ρ2,hR2,hhl2,hren2⟩:=good (moreE hk) hR' hE
     exact Zp6 hcs hq hs1 hl1 hg1 hbR0 hgl hgd hd1 hst hgb hbs hlow hlowB hn0 body m _ ρ2 a' w' hr hR2 hhl2 hren2
    | exit id=>exact (doneN hk).elim
    | goto l=>exact (doneN hk).elim
    | ret=>exact (doneN hk).elim
    | panic ch=>cases hk
    | outgrown=>cases hk
   | done x=>
    simp only [Uak] at hr
    refine WpX.mono (body s _ ρ a w hs' hR) ?_
    rintro e a' w' ⟨ρ',st',hk,hR',hE⟩
    replace hk:=Ybp hk
    have fin:Uaw e (Udw Γ.e (boxY st1 g) st.h.length cs bs g t st')=some (.done x)→∃ ρ' st',K e st'=some r∧RS E P W0 n0 D ρ0 ρ' st' a' w'∧Ext (writes c) st.h.length ρs ρ' st st':=fun h=>by
     obtain ⟨s',hs,rfl⟩:=doneE h
     obtain ⟨ρ2,hR2,hhl2,hren2⟩:=good hs hR' hE
     obtain ⟨h4,h5⟩:=Ycp hs1 hl1 hd1 hst hcs hR2 hhl2 hren2
     exact ⟨ρ2,_,hr,h4,h5⟩
    cases e with
    | normal=>exact (moreN hk).elim
    | exit id=>exact fin hk
    | goto l=>exact fin hk
    | ret=>exact fin hk
    | panic ch=>cases hk
    | outgrown=>cases hk
theorem Zo7 {c:Code} {p:Plan} {cs bs:List Nat} {g:Nat} {t:TypeId} {st st1:St} (hcs:∀ x ∈ cs,x ∈ writes c) (hs1:st1.s=st.s.set g (.a (.l st.h.length))) (hl1:st1.h.length=st.h.length+1) (hd1:∀ n ∈ st.d,n ∈ st1.d) (hst:∀ n,n<st.h.length→n ∉ st1.d→st1.h[n]? = st.h[n]?) (hgW:g ∈ writes c) (hgc:g ∉ cs) (hbs:∀ b ∈ bs,b<st.h.length)
  (hlow:∀ (i:Nat) (u:SV),st.s[i]? = some u→Uat st.h.length u=true) (hlowB:∀ (k:Nat) (b:VB),k<st.h.length→st1.h[k]? = some b→Uao st.h.length b=true) (hn0:n0≤st.h.length)
  {α:Type} {K:Exit→St→Option α} {r:α} {ρs:Nat→Ad}
  (body:∀ (s:LS) (r':Stp LS ((Exit×LS) ⊕ α)) (ρ:Nat→Ad) (a:Act) (w:World),
   veC P Γ N c p (Stp LS ((Exit×LS) ⊕ α)) (head (writes c) (cs++[g]) (bs++[st.h.length]) st1 s) (Ub8 st.h.length cs bs g t st1 K)=some r'→RS E P W0 n0 (st1.d++D) ρ0 ρ (head (writes c) (cs++[g]) (bs++[st.h.length]) st1 s) a w →
   WpX mn ro P c (fun e a' w'=>∃ ρ' st',Ub8 st.h.length cs bs g t st1 K e st'=some r'∧RS E P W0 n0 (st1.d++D) ρ0 ρ' st' a' w'∧Ext (writes c) (head (writes c) (cs++[g]) (bs++[st.h.length]) st1 s).h.length ρ ρ' (head (writes c) (cs++[g]) (bs++[st.h.length]) st1 s) st') a w) :
  ∀ (m:Nat) (s:LS) (ρ:Nat→Ad) (a:Act) (w:World),
   Ubx (Uaa (fun s=>veC P Γ N c p (Stp LS ((Exit×LS) ⊕ α)) (head (writes c) (cs++[g]) (bs++[st.h.length]) st1 s) (Ub8 st.h.length cs bs g t st1 K)) m s) (fun e s=>K e (left (writes c) (cs++[g]) (bs++[st.h.length]) st1 s))=some r →
   RS E P W0 n0 (st1.d++D) ρ0 ρ (head (writes c) (cs++[g]) (bs++[st.h.length]) st1 s) a w→HLe st.h (head (writes c) (cs++[g]) (bs++[st.h.length]) st1 s).h→(∀ k,k<st.h.length→ρ k=ρs k) →
   Ua5 mn ro P c (fun e a' w'=>∃ ρ' st',K e st'=some r∧RS E P W0 n0 D ρ0 ρ' st' a' w'∧Ext (writes c) st.h.length ρs ρ' st st') m a w
 | 0,s,ρ,a,w,hr,_,_,_=>by simp [Uaa,Ubx] at hr
 | m+1,s,ρ,a,w,hr,hR,hhl,hren=>by
  rw [Uaa] at hr
  rw [Ua5]
  have good:∀ {st':St} {s':LS} {ρ':Nat→Ad} {a':Act} {w':World},Ucs st.h.length cs bs g t st'=some s'→RS E P W0 n0 (st1.d++D) ρ0 ρ' st' a' w'→Ext (writes c) (head (writes c) (cs++[g]) (bs++[st.h.length]) st1 s).h.length ρ ρ' (head (writes c) (cs++[g]) (bs++[st.h.length]) st1 s) st' →
    ∃ ρ2,RS E P W0 n0 (st1.d++D) ρ0 ρ2 (head (writes c) (cs++[g]) (bs++[st.h.length]) st1 s') a' w'∧HLe st.h (head (writes c) (cs++[g]) (bs++[st.h.length]) st1 s').h∧∀ k,k<st.h.length→ρ2 k=ρs k:=by
   intro st' s' ρ' a' w' h hR' hE
   unfold Ucs at h
   split at h
   ·rename_i n hg
    split at h
    ·rename_i len C e' hown
     cases hok:jA t e'&&(Nat.ble st.h.length n&&(Uap st.h.length bs st'.d&&((getS st'.s cs).all (Uat st.h.length)&&(getH st'.h bs).all (Uao st.h.length)))) with
     | false=>rw [hok] at h;cases h
     | true=>
      rw [hok] at h
      simp only [Q1,Q8] at h
      simp only [Q7] at hok
      obtain rfl:=jD hok.1
      subst h
      obtain ⟨h1,h2⟩:=Zwp hs1 hl1 hgW hgc hbs hlow hlowB hn0 hR hR' hE hhl hg hown (Nat.le_of_ble_eq_true hok.2.1) hok.2.2.1 hok.2.2.2.1 hok.2.2.2.2
      refine ⟨_,h1,h2,fun k hk=> ?_⟩
      show (if k=st.h.length then ρ' n else ρ' k)=ρs k
      rw [if_neg (by omega)]
      exact (hE.ren k (by rw [show (head (writes c) (cs++[g]) (bs++[st.h.length]) st1 s).h.length=st1.h.length from Zak _ _ _,hl1];omega)).trans (hren k hk)
    ·cases h
   ·cases h
  have moreE:∀ {o:Option LS} {s':LS},Uav (X:=(Exit×LS) ⊕ α) o=some (.more s')→o=some s':=fun {o s'} h=>by cases o<;>cases h;rfl
  have moreN:∀ {o:Option LS} {x:(Exit×LS) ⊕ α},Uav (X:=(Exit×LS) ⊕ α) o=some (.done x)→False:=fun {o x} h=>by cases o<;>cases h
  have doneE:∀ {o:Option LS} {e:Exit} {x:(Exit×LS) ⊕ α},Udz e o=some (.done x)→∃ s',o=some s'∧x = .inl (e,s'):=fun {o e x} h=>by cases o<;>cases h;exact ⟨_,rfl,rfl⟩
  have doneN:∀ {o:Option LS} {e:Exit} {s':LS},Udz (α:=α) e o=some (.more s')→False:=fun {o e s'} h=>by cases o<;>cases h
  have doneAN:∀ {o:Option α} {s':LS},Ufj (S:=LS) o=some (.more s')→False:=fun {o s'} h=>by cases o<;>cases h
  cases hs':veC P Γ N c p (Stp LS ((Exit×LS) ⊕ α)) (head (writes c) (cs++[g]) (bs++[st.h.length]) st1 s) (Ub8 st.h.length cs bs g t st1 K) with
  | none=>rw [hs'] at hr;simp [Ubx] at hr
  | some x=>
   rw [hs'] at hr
   cases x with
   | more s'=>
    dsimp only at hr
    refine WpX.mono (body s _ ρ a w hs' hR) ?_
    rintro e a' w' ⟨ρ',st',hk,hR',hE⟩
    cases e with
    | normal=>
     obtain ⟨ρ2,hR2,hhl2,hren2⟩:=good (moreE hk) hR' hE
     exact Zo7 hcs hs1 hl1 hd1 hst hgW hgc hbs hlow hlowB hn0 body m _ ρ2 a' w' hr hR2 hhl2 hren2
    | exit id=>exact (doneN hk).elim
    | goto l=>exact (doneN hk).elim
    | ret=>exact (doneAN hk).elim
    | panic ch=>cases hk
    | outgrown=>cases hk
   | done x=>
    refine WpX.mono (body s _ ρ a w hs' hR) ?_
    rintro e a' w' ⟨ρ',st',hk,hR',hE⟩
    have fin:Udz e (Ucs st.h.length cs bs g t st')=some (.done x)→∃ ρ' st',K e st'=some r∧RS E P W0 n0 D ρ0 ρ' st' a' w'∧Ext (writes c) st.h.length ρs ρ' st st':=fun h=>by
     obtain ⟨s',hs,rfl⟩:=doneE h
     simp only [Ubx] at hr
     obtain ⟨ρ2,hR2,hhl2,hren2⟩:=good hs hR' hE
     obtain ⟨h4,h5⟩:=Zry hs1 hl1 hd1 hst hgW hcs hR2 hhl2 hren2
     exact ⟨ρ2,_,hr,h4,h5⟩
    cases e with
    | normal=>exact (moreN hk).elim
    | exit id=>exact fin hk
    | goto l=>exact fin hk
    | ret=>
     have hk2:Ufj (S:=LS) (K .ret (fixR (bs++[st.h.length]) st1 st'))=some (.done x):=hk
     cases hkr:K .ret (fixR (bs++[st.h.length]) st1 st') with
     | none=>rw [hkr] at hk2;cases hk2
     | some r0=>
      rw [hkr] at hk2
      cases hk2
      simp only [Ubx] at hr
      cases hr
      exact ⟨ρ',_,hkr,fix_R hR',(Zry hs1 hl1 hd1 hst hgW hcs hR hhl hren).2.trans (Ydx hE (by rw [show (head (writes c) (cs++[g]) (bs++[st.h.length]) st1 s).h.length=st1.h.length from Zak _ _ _,hl1];omega))⟩
    | panic ch=>cases hk
    | outgrown=>cases hk
theorem Zct (hm:P.follows .mixedOrders=true) (hΓ:ConsOkX mn P (Uai mn P) Γ):∀ (c:Code) (p:Plan) (ro:Option Nat) (hW:ro=none∨Ua3 p=true) (E:List Nat) (W0:World) (n0:Nat) (ρ0:Nat→Ad) (α:Type) (st:St) (K:Exit→St→Option α) (r:α) (D:List Nat) (ρ:Nat→Ad) (a:Act) (w:World),
  veC P Γ N c p α st K=some r→RS E P W0 n0 D ρ0 ρ st a w →
  WpX mn ro P c (fun e a' w'=>∃ ρ' st',K e st'=some r∧RS E P W0 n0 D ρ0 ρ' st' a' w'∧Ext (writes c) st.h.length ρ ρ' st st') a w
 | .skip,p,ro,hW,E,W0,n0,ρ0,α,st,K,r,D,ρ,a,w,hr,hR=>Zhp ⟨ρ,st,by simpa [veC] using hr,hR,.refl _ _ _ _⟩
 | .region id ops draw,p,ro,hW,E,W0,n0,ρ0,α,st,K,r,D,ρ,a,w,hr,hR=>by
  rw [veC] at hr
  exact Zz9 hm hΓ hR hr fun ρ' st' a' w' hk hR' hE=>⟨ρ',st',hk,hR',hE⟩
 | .exit id,p,ro,hW,E,W0,n0,ρ0,α,st,K,r,D,ρ,a,w,hr,hR=>Zt3 ⟨ρ,st,by simpa [veC] using hr,hR,.refl _ _ _ _⟩
 | .ret,p,ro,hW,E,W0,n0,ρ0,α,st,K,r,D,ρ,a,w,hr,hR=>Zld ⟨ρ,st,by simpa [veC] using hr,hR,.refl _ _ _ _⟩
 | .seq x y,p,ro,hW,E,W0,n0,ρ0,α,st,K,r,D,ρ,a,w,hr,hR=>by
  cases p with
  | one=>simp [veC] at hr
  | loop cs bs p=>simp [veC] at hr
  | loopG cs bs g e p=>simp [veC] at hr
  | loopR cs bs p=>simp [veC] at hr
  | loopGR cs bs g e p=>simp [veC] at hr
  | loopB cs bs g e p=>simp [veC] at hr
  | iterB bs g e p=>simp [veC] at hr
  | jump l cs bs p q=>simp [veC] at hr
  | sc p=>simp [veC] at hr
  | iter bs p=>simp [veC] at hr
  | two p q=>
   rw [veC] at hr
   refine Zar (WpX.mono (Zct hm hΓ x p ro (hW.imp_right fun h=>by simp only [Ua3,Q7] at h;exact h.1) E W0 n0 ρ0 α st _ r D ρ a w hr hR) ?_)
   rintro e a1 w1 ⟨ρ1,st1,hk,hR1,hE1⟩
   cases e with
   | normal=>
    refine WpX.mono (Zct hm hΓ y q ro (hW.imp_right fun h=>by simp only [Ua3,Q7] at h;exact h.2) E W0 n0 ρ0 α st1 K r D ρ1 a1 w1 hk hR1) ?_
    rintro e2 a2 w2 ⟨ρ2,st2,hk2,hR2,hE2⟩
    exact ⟨ρ2,st2,hk2,hR2,Yfd hE1 hE2⟩
   | exit id=>exact ⟨ρ1,st1,hk,hR1,hE1.mono (fun _ h=>jB _ h) (jC _)⟩
   | goto l=>exact ⟨ρ1,st1,hk,hR1,hE1.mono (fun _ h=>jB _ h) (jC _)⟩
   | ret=>exact ⟨ρ1,st1,hk,hR1,hE1.mono (fun _ h=>jB _ h) (jC _)⟩
   | panic ch=>exact ⟨ρ1,st1,hk,hR1,hE1.mono (fun _ h=>jB _ h) (jC _)⟩
   | outgrown=>exact ⟨ρ1,st1,hk,hR1,hE1.mono (fun _ h=>jB _ h) (jC _)⟩
 | .cond c x y,p,ro,hW,E,W0,n0,ρ0,α,st,K,r,D,ρ,a,w,hr,hR=>by
  cases p with
  | one=>simp [veC] at hr
  | loop cs bs p=>simp [veC] at hr
  | loopG cs bs g e p=>simp [veC] at hr
  | loopR cs bs p=>simp [veC] at hr
  | loopGR cs bs g e p=>simp [veC] at hr
  | loopB cs bs g e p=>simp [veC] at hr
  | iterB bs g e p=>simp [veC] at hr
  | jump l cs bs p q=>simp [veC] at hr
  | sc p=>simp [veC] at hr
  | iter bs p=>simp [veC] at hr
  | two p q=>
   rw [veC] at hr
   have hc:=Zb2 (Zj1 hR.slots c)
   split at hr
   ·rename_i t ht
    rw [ht] at hc
    have hc:a.eval c = .bool t:=hc
    cases t with
    | true=>
     refine Ze6 hc (WpX.mono (Zct hm hΓ x p ro (hW.imp_right fun h=>by simp only [Ua3,Q7] at h;exact h.1) E W0 n0 ρ0 α st K r D ρ a w hr hR) ?_)
     rintro e2 a2 w2 ⟨ρ2,st2,hk2,hR2,hE2⟩
     exact ⟨ρ2,st2,hk2,hR2,hE2.mono (fun _ h=>jB _ h) (jC _)⟩
    | false=>
     refine Zc9 hc (WpX.mono (Zct hm hΓ y q ro (hW.imp_right fun h=>by simp only [Ua3,Q7] at h;exact h.2) E W0 n0 ρ0 α st K r D ρ a w hr hR) ?_)
     rintro e2 a2 w2 ⟨ρ2,st2,hk2,hR2,hE2⟩
     exact ⟨ρ2,st2,hk2,hR2,hE2.mono (fun _ h=>jI _ h) (jC _)⟩
   ·cases hr
 | .block id x,p,ro,hW,E,W0,n0,ρ0,α,st,K,r,D,ρ,a,w,hr,hR=>by
  rw [veC] at hr
  refine Zi5 (WpX.mono (Zct hm hΓ x p ro hW E W0 n0 ρ0 α st _ r D ρ a w hr hR) ?_)
  rintro e a1 w1 ⟨ρ1,st1,hk,hR1,hE1⟩
  cases e with
  | exit id'=>
   simp only [Uaz] at hk
   unfold Exit.inBlock
   cases hb:jA id' id with
   | true=>
    rw [hb] at hk
    have:=jD hb
    simp only [if_pos this]
    exact ⟨ρ1,st1,hk,hR1,hE1⟩
   | false=>
    rw [hb] at hk
    have:id'≠id:=fun e=>by subst e;rw [Nat.beq_refl] at hb;cases hb
    simp only [if_neg this]
    exact ⟨ρ1,st1,hk,hR1,hE1⟩
  | normal=>exact ⟨ρ1,st1,hk,hR1,hE1⟩
  | goto l=>exact ⟨ρ1,st1,hk,hR1,hE1⟩
  | ret=>exact ⟨ρ1,st1,hk,hR1,hE1⟩
  | panic ch=>exact ⟨ρ1,st1,hk,hR1,hE1⟩
  | outgrown=>exact ⟨ρ1,st1,hk,hR1,hE1⟩
 | .loop x,p,ro,hW,E,W0,n0,ρ0,α,st,K,r,D,ρ,a,w,hr,hR=>by
  cases p with
  | one=>simp [veC] at hr
  | two p q=>simp [veC] at hr
  | iter bs p=>simp [veC] at hr
  | jump l cs bs p q=>simp [veC] at hr
  | sc p=>simp [veC] at hr
  | iterB bs g e p=>simp [veC] at hr
  | loopB cs bs g t p=>
   rw [veC] at hr
   split at hr
   ·rename_i st1 hprep
    cases hok:cs.all (Uag · (writes x))&&(Nat.blt g st.h.length&&(!Uag g bs&&bs.all (Nat.blt · st.h.length))) with
    | false=>rw [hok] at hr;cases hr
    | true=>
     rw [hok] at hr
     simp only [Q7,Bool.not_eq_true',jG] at hok
     simp only [Q1] at hr
     obtain ⟨ρ1,T,len,C,y1,hR1,hs1,hl1,hle1,hg1,hbR0,hgl,hm1,hgd,hst,hst2,hd1,hren1⟩:=Yaf hR hprep
     obtain ⟨hR0,hhl0⟩:=Ziy (W:=writes x) (cs:=cs) (bs:=bs++[st.h.length]) hR1
     have hlow:∀ (i:Nat) (u:SV),st.s[i]? = some u→Uat st.h.length u=true:=fun i u hu=>(hR.slots i u hu).lt
     have hlowB:∀ (k:Nat) (b:VB),k<st.h.length→k≠g→st1.h[k]? = some b→Uao st.h.length b=true:=fun k b hk hkg hb=>by
      rcases hst2 k hk hkg with h | h
      ·rw [h] at hb;exact (hR.heap.is k b hb).lt
      ·rw [h] at hb;cases hb;rfl
     have hgb:g ∉ bs:=fun h=>by rw [Zck.2 h] at hok;exact absurd hok.2.2.1 (by simp)
     exact Zde N (Zp6 (ρs:=ρ) (fun c hc=>Zck.1 (hok.1 c hc)) hΓ.e hs1 hl1 hg1 hbR0 hgl hgd hd1 hst hgb (fun b hb=>by have:=hok.2.2.2 b hb;simp [Nat.blt] at this;omega) hlow hlowB hR.bound
      (fun s r' ρ a w h1 h2=>Zct hm hΓ x p ro (hW.imp_right fun h=>h) E W0 n0 ρ0 _ _ _ r' (st1.d++D) ρ a w h1 h2) N _ ρ1 a w hr hR0 (hle1.trans hhl0) hren1)
   ·cases hr
  | loopG cs bs g t p=>
   rw [veC] at hr
   split at hr
   ·rename_i st1 hprep
    cases hok:cs.all (Uag · (writes x))&&(Uag g (writes x)&&(!Uag g cs&&bs.all (Nat.blt · st.h.length))) with
    | false=>rw [hok] at hr;cases hr
    | true=>
     rw [hok] at hr
     simp only [Q7,Bool.not_eq_true',jG] at hok
     simp only [Q1] at hr
     obtain ⟨ρ1,hR1,hs1,hl1,hle1,hst,hst2,hd1,hren1⟩:=Zw2 hR hprep
     obtain ⟨hR0,hhl0⟩:=Ziy (W:=writes x) (cs:=cs++[g]) (bs:=bs++[st.h.length]) hR1
     have hlow:∀ (i:Nat) (u:SV),st.s[i]? = some u→Uat st.h.length u=true:=fun i u hu=>(hR.slots i u hu).lt
     have hlowB:∀ (k:Nat) (b:VB),k<st.h.length→st1.h[k]? = some b→Uao st.h.length b=true:=fun k b hk hb=>by
      rcases hst2 k hk with h | h
      ·rw [h] at hb;exact (hR.heap.is k b hb).lt
      ·rw [h] at hb;cases hb;rfl
     have hgc:g ∉ cs:=fun h=>by rw [Zck.2 h] at hok;exact absurd hok.2.2.1 (by simp)
     exact Zde N (Zq6 (ρs:=ρ) (fun c hc=>Zck.1 (hok.1 c hc)) hs1 hl1 hd1 hst (Zck.1 hok.2.1) hgc (fun b hb=>by have:=hok.2.2.2 b hb;simp [Nat.blt] at this;omega) hlow hlowB hR.bound
      (fun s r' ρ a w h1 h2=>Zct hm hΓ x p ro (hW.imp_right fun h=>h) E W0 n0 ρ0 _ _ _ r' (st1.d++D) ρ a w h1 h2) N _ ρ1 a w hr hR0 (hle1.trans hhl0) hren1)
   ·cases hr
  | loop cs bs p=>
   rw [veC] at hr
   cases hcs:cs.all (Uag · (writes x)) with
   | false=>rw [hcs] at hr;cases hr
   | true=>
    rw [hcs] at hr
    simp only [Q1] at hr
    obtain ⟨hR0,hhl0⟩:=Ziy (W:=writes x) (cs:=cs) (bs:=bs) hR
    exact Zde N (Zsu hcs (ρs:=ρ) (fun s r' ρ a w h1 h2=>Zct hm hΓ x p ro (hW.imp_right fun h=>h) E W0 n0 ρ0 _ _ _ r' (st.d++D) ρ a w h1 h2) N _ ρ a w hr hR0 hhl0 fun _ _=>rfl)
  | loopGR cs bs g t p=>
   rw [veC] at hr
   split at hr
   ·rename_i st1 hprep
    cases hok:cs.all (Uag · (writes x))&&(Uag g (writes x)&&(!Uag g cs&&bs.all (Nat.blt · st.h.length))) with
    | false=>rw [hok] at hr;cases hr
    | true=>
     rw [hok] at hr
     simp only [Q7,Bool.not_eq_true',jG] at hok
     simp only [Q1] at hr
     obtain ⟨ρ1,hR1,hs1,hl1,hle1,hst,hst2,hd1,hren1⟩:=Zw2 hR hprep
     obtain ⟨hR0,hhl0⟩:=Ziy (W:=writes x) (cs:=cs++[g]) (bs:=bs++[st.h.length]) hR1
     have hlow:∀ (i:Nat) (u:SV),st.s[i]? = some u→Uat st.h.length u=true:=fun i u hu=>(hR.slots i u hu).lt
     have hlowB:∀ (k:Nat) (b:VB),k<st.h.length→st1.h[k]? = some b→Uao st.h.length b=true:=fun k b hk hb=>by
      rcases hst2 k hk with h | h
      ·rw [h] at hb;exact (hR.heap.is k b hb).lt
      ·rw [h] at hb;cases hb;rfl
     have hgc:g ∉ cs:=fun h=>by rw [Zck.2 h] at hok;exact absurd hok.2.2.1 (by simp)
     exact Zde N (Zo7 (ρs:=ρ) (fun c hc=>Zck.1 (hok.1 c hc)) hs1 hl1 hd1 hst (Zck.1 hok.2.1) hgc (fun b hb=>by have:=hok.2.2.2 b hb;simp [Nat.blt] at this;omega) hlow hlowB hR.bound
      (fun s r' ρ a w h1 h2=>Zct hm hΓ x p ro (hW.imp_right fun h=>h) E W0 n0 ρ0 _ _ _ r' (st1.d++D) ρ a w h1 h2) N _ ρ1 a w hr hR0 (hle1.trans hhl0) hren1)
   ·cases hr
  | loopR cs bs p=>
   rw [veC] at hr
   cases hcs:cs.all (Uag · (writes x)) with
   | false=>rw [hcs] at hr;cases hr
   | true=>
    rw [hcs] at hr
    simp only [Q1] at hr
    obtain ⟨hR0,hhl0⟩:=Ziy (W:=writes x) (cs:=cs) (bs:=bs) hR
    exact Zde N (Zqu hcs (ρs:=ρ) (fun s r' ρ a w h1 h2=>Zct hm hΓ x p ro (hW.imp_right fun h=>h) E W0 n0 ρ0 _ _ _ r' (st.d++D) ρ a w h1 h2) N _ ρ a w hr hR0 hhl0 fun _ _=>rfl)
 | .rangeFunc f ps as b,p,ro,hW,E,W0,n0,ρ0,α,st,K,r,D,ρ,a,w,hr,hR=>by
  cases p with
  | one=>simp [veC] at hr
  | two p q=>simp [veC] at hr
  | loop cs bs p=>simp [veC] at hr
  | loopG cs bs g e p=>simp [veC] at hr
  | loopR cs bs p=>simp [veC] at hr
  | loopGR cs bs g e p=>simp [veC] at hr
  | loopB cs bs g e p=>simp [veC] at hr
  | iterB bs g e p=>simp [veC] at hr
  | jump l cs bs p q=>simp [veC] at hr
  | sc p=>simp [veC] at hr
  | iter bs p=>
   rcases hW with rfl | h
   ·exact Ztg hΓ (fun l st1 r' ρ1 a1 W hni hv hR1=>Zct hm hΓ b p (some l) (.inr hni) [] W _ ρ1 _ st1 _ r' [] ρ1 a1 W hv hR1) hr hR
   ·simp [Ua3] at h
 | .scope b,p,ro,hW,E,W0,n0,ρ0,α,st,K,r,D,ρ,a,w,hr,hR=>by simp [veC] at hr
 | .label l,p,ro,hW,E,W0,n0,ρ0,α,st,K,r,D,ρ,a,w,hr,hR=>Zyr ⟨ρ,st,by simpa [veC] using hr,hR,.refl _ _ _ _⟩
 | .goto l,p,ro,hW,E,W0,n0,ρ0,α,st,K,r,D,ρ,a,w,hr,hR=>wpX_goto ⟨ρ,st,by simpa [veC] using hr,hR,.refl _ _ _ _⟩
 | .refuse l,p,ro,hW,E,W0,n0,ρ0,α,st,K,r,D,ρ,a,w,hr,hR=>by simp [veC] at hr
def Udc (mn:Md) (ro:Option Nat) (P:Program) (c:Code) (l:Nat) (Q:Exit→Act→World→Prop):Nat→Act→World→Prop
 | 0,_,_=>False
 | m+1,a,w=>WpX mn ro P c (Exit.hop l (Udc mn ro P c l Q m) Q) a w
theorem Zv3 {c rest:Code} {l m:Nat} {a:Act} {v:World} {Q:Exit→Act→World→Prop} (hf:findLabel c l=some rest) (first:WpX mn ro P c (Exit.hop l (Udc mn ro P rest l Q m) Q) a v):WpX mn ro P (.scope c) Q a v:=fun Pr hC b hb hkd k cs G w hfit hv hQ=>by
 have hg:gotoIn l (.inScope c::k)=some (.code rest :: .inScope c::k):=by simp [gotoIn,hf]
 have leave:∀ (e:Exit) (a':Act) (v':World),(∀ l',e ≠ .goto l')→Q e a' v'→∀ G' w',FitM mn G' w'→Ge v' (view G' w')→Arr Pr b (.inScope c::k) cs e a' G' w':=by
  intro e a' v' hne hq G' w' hf' hv'
  cases e with
  | normal=>exact hC.calm hf' rfl (fun w=>Ydi) fun w₂ hf₂ hg₂=>hQ .normal a' v' hq G' w₂ hf₂ (hv'.trans hg₂)
  | exit id'=>
   have hx:exitTo id' (.inScope c::k)=exitTo id' k:=by simp [exitTo]
   have:=hQ (.exit id') a' v' hq G' w' hf' hv'
   exact ⟨fun k' hk=>this.1 k' (by rwa [hx] at hk),fun hk=>this.2 (by rwa [hx] at hk)⟩
  | goto l'=>exact absurd rfl (hne l')
  | ret=>exact hQ .ret a' v' hq G' w' hf' hv'
  | panic ch=>trivial
  | outgrown=>trivial
 have key:∀ (m:Nat) (a:Act) (v:World),Udc mn ro P rest l Q m a v→∀ (G:Gh) (w:World),FitM mn G w→Ge v (view G w)→Pr G w (gr (b.atR a (.code rest :: .inScope c::k)) cs):=by
  intro m
  induction m with
  | zero=>intro a v h;exact h.elim
  | succ m ih=>
   intro a v h G w hfit hv
   refine h Pr hC b hb hkd (.inScope c::k) cs G w hfit hv fun e a' v' hq G' w' hf' hv'=> ?_
   cases e with
   | goto l'=>
    obtain ⟨rfl,hJ⟩:=hq
    refine ⟨fun k' hk=> ?_,fun hk=> ?_⟩
    ·rw [hg] at hk
     cases hk
     exact ih a' v' hJ G' w' hf' hv'
    ·rw [hg] at hk;cases hk
   | normal=>exact leave .normal a' v' (by simp) hq G' w' hf' hv'
   | exit id=>exact leave (.exit id) a' v' (by simp) hq G' w' hf' hv'
   | ret=>exact leave .ret a' v' (by simp) hq G' w' hf' hv'
   | panic ch=>trivial
   | outgrown=>trivial
 exact hC.calm hfit rfl (fun w=>sg_scope) fun w₁ hf₁ hg₁=>first Pr hC b hb hkd (.inScope c::k) cs G w₁ hf₁ (hv.trans hg₁) fun e a' v' hq G' w' hf' hv'=>by
  cases e with
  | goto l'=>
   obtain ⟨rfl,hJ⟩:=hq
   refine ⟨fun k' hk=> ?_,fun hk=> ?_⟩
   ·rw [hg] at hk
    cases hk
    exact key m a' v' hJ G' w' hf' hv'
   ·rw [hg] at hk;cases hk
  | normal=>exact leave .normal a' v' (by simp) hq G' w' hf' hv'
  | exit id=>exact leave (.exit id) a' v' (by simp) hq G' w' hf' hv'
  | ret=>exact leave .ret a' v' (by simp) hq G' w' hf' hv'
  | panic ch=>trivial
  | outgrown=>trivial
theorem Zvc {c:Code} {p:Plan} {l:Nat} {cs bs:List Nat} (hcs:cs.all (Uag · (writes c))=true) {α:Type} {K:Exit→St→Option α} {r:α} {st stt:St} {ρs ρt:Nat→Ad} {Wt:List Nat} (hWt:∀ x ∈ writes c,x ∈ Wt) (hEt:Ext Wt stt.h.length ρt ρs stt st)
  (body:∀ (s:LS) (r':Stp LS (Exit×LS)) (ρ:Nat→Ad) (a:Act) (w:World),
   Ue1 P Γ N c p l cs bs st s=some r'→RS E P W0 n0 (st.d++D) ρ0 ρ (head (writes c) cs bs st s) a w →
   WpX mn ro P c (fun e a' w'=>∃ ρ' st',Uey l st.h.length cs bs e st'=some r'∧RS E P W0 n0 (st.d++D) ρ0 ρ' st' a' w'∧Ext (writes c) (head (writes c) cs bs st s).h.length ρ ρ' (head (writes c) cs bs st s) st') a w) :
  ∀ (m:Nat) (s:LS) (ρ:Nat→Ad) (a:Act) (w:World),
   Uak (Uaa (Ue1 P Γ N c p l cs bs st) m s) (fun e s=>K e (left (writes c) cs bs st s))=some r →
   RS E P W0 n0 (st.d++D) ρ0 ρ (head (writes c) cs bs st s) a w→HLe st.h (head (writes c) cs bs st s).h→(∀ k,k<st.h.length→ρ k=ρs k) →
   ∃ m',m=m'+1∧WpX mn ro P c (Exit.hop l (Udc mn ro P (.seq .skip c) l (HopQ E P W0 n0 D ρ0 K r Wt ρt stt) m') (HopQ E P W0 n0 D ρ0 K r Wt ρt stt)) a w
 | 0,s,ρ,a,w,hr,_,_,_=>by simp [Uaa,Uak] at hr
 | m+1,s,ρ,a,w,hr,hR,hhl,hren=>by
  rw [Uaa] at hr
  refine ⟨m,rfl, ?_⟩
  have moreE:∀ {o:Option LS} {s':LS},Uav (X:=Exit×LS) o=some (.more s')→o=some s':=fun {o s'} h=>by cases o<;>cases h;rfl
  have moreN:∀ {o:Option LS} {x:Exit×LS},Uav (X:=Exit×LS) o=some (.done x)→False:=fun {o x} h=>by cases o<;>cases h
  have doneE:∀ {o:Option LS} {e:Exit} {x:Exit×LS},Uaw e o=some (.done x)→∃ s',o=some s'∧x=(e,s'):=fun {o e x} h=>by cases o<;>cases h;exact ⟨_,rfl,rfl⟩
  have doneN:∀ {o:Option LS} {e:Exit} {s':LS},Uaw e o=some (.more s')→False:=fun {o e s'} h=>by cases o<;>cases h
  cases hs':Ue1 P Γ N c p l cs bs st s with
  | none=>rw [hs'] at hr;simp [Uak] at hr
  | some x=>
   rw [hs'] at hr
   cases x with
   | more s'=>
    dsimp only at hr
    refine WpX.mono (body s _ ρ a w hs' hR) ?_
    rintro e a' w' ⟨ρ',st',hk,hR',hE⟩
    cases e with
    | goto l'=>
     simp only [Uey] at hk
     cases hb:jA l' l with
     | false=>rw [hb] at hk;cases hk
     | true=>
      rw [hb] at hk
      obtain ⟨rfl,h1,h2,h3⟩:=Zyz (moreE hk)
      obtain ⟨hR2,hhl2⟩:=Zk7 hR hR' hE hhl h1 h2 h3
      obtain ⟨m',rfl,hrec⟩:=Zvc hcs hWt hEt body m _ ρ' a' w' hr hR2 hhl2 fun k hk'=>(hE.ren k (by rw [show (head (writes c) cs bs st s).h.length=st.h.length from Zak _ _ _];exact hk')).trans (hren k hk')
      exact ⟨jD hb,Zar (Zhp hrec)⟩
    | normal=>exact (doneN hk).elim
    | exit id=>exact (doneN hk).elim
    | ret=>exact (doneN hk).elim
    | panic ch=>cases hk
    | outgrown=>cases hk
   | done x=>
    simp only [Uak] at hr
    refine WpX.mono (body s _ ρ a w hs' hR) ?_
    rintro e a' w' ⟨ρ',st',hk,hR',hE⟩
    have fin:Uaw e (tail st.h.length cs bs st')=some (.done x)→HopQ E P W0 n0 D ρ0 K r Wt ρt stt e a' w':=fun h=>by
     obtain ⟨s',hs,rfl⟩:=doneE h
     obtain ⟨rfl,h1,h2,h3⟩:=Zyz hs
     obtain ⟨hR2,hhl2⟩:=Zk7 hR hR' hE hhl h1 h2 h3
     obtain ⟨h4,h5⟩:=Zqx hcs hR2 hhl2 fun k hk'=>(hE.ren k (by rw [show (head (writes c) cs bs st s).h.length=st.h.length from Zak _ _ _];exact hk')).trans (hren k hk')
     exact ⟨ρ',_,hr,h4,hEt.trans (h5.mono hWt hEt.hlen)⟩
    cases e with
    | goto l'=>
     simp only [Uey] at hk
     cases hb:jA l' l with
     | false=>rw [hb] at hk;cases hk
     | true=>rw [hb] at hk;exact (moreN hk).elim
    | normal=>exact fin hk
    | exit id=>exact fin hk
    | ret=>exact fin hk
    | panic ch=>cases hk
    | outgrown=>cases hk
theorem Zux (hm:P.follows .mixedOrders=true) (hΓ:ConsOkX mn P (Uai mn P) Γ) (hW:ro=none) {W0:World} {n0:Nat} {ρ0:Nat→Ad} {α:Type} {K:Exit→St→Option α} {r:α} {D E:List Nat} {Wt:List Nat} {ρt:Nat→Ad} {stt:St} (hKg:∀ l st,K (.goto l) st=none) {j:JD} :
  ∀ (c:Code) (p:Plan) (ρ:Nat→Ad) (st:St) (a:Act) (w:World),jd c p=some j→(∀ x ∈ writes c,x ∈ Wt)→veSc P Γ N c p α st K=some r→RS E P W0 n0 D ρ0 ρ st a w→Ext Wt stt.h.length ρt ρ stt st →
   WpX mn ro P c (Exit.hop j.l (Udc mn ro P (.seq .skip j.z) j.l (HopQ E P W0 n0 D ρ0 K r Wt ρt stt) N) (HopQ E P W0 n0 D ρ0 K r Wt ρt stt)) a w
 | .seq x y,.two p q,ρ,st,a,w,hj,hWc,hr,hR,hEt=>by
  simp only [jd] at hj
  split at hj
  ·rename_i j' hjy
   cases hb:(findLabel x j'.l).isNone with
   | false=>rw [hb] at hj;cases hj
   | true=>
    rw [hb] at hj
    cases hj
    rw [veSc] at hr
    refine Zar (WpX.mono (Zct hm hΓ x p ro (.inl hW) E W0 n0 ρ0 α st _ r D ρ a w hr hR) ?_)
    rintro e a1 w1 ⟨ρ1,st1,hk,hR1,hE1⟩
    have hE2:=hEt.trans (hE1.mono (fun i hi=>hWc i (jB _ hi)) hEt.hlen)
    cases e with
    | normal=>exact Zux hm hΓ hW hKg y q ρ1 st1 a1 w1 hjy (fun i hi=>hWc i (jI _ hi)) hk hR1 hE2
    | goto l=>exact absurd hk (by rw [show kSeq (veSc P Γ N y q α) K (.goto l) st1=K (.goto l) st1 from rfl,hKg];simp)
    | exit id=>exact ⟨ρ1,st1,hk,hR1,hE2⟩
    | ret=>exact ⟨ρ1,st1,hk,hR1,hE2⟩
    | panic ch=>exact ⟨ρ1,st1,hk,hR1,hE2⟩
    | outgrown=>exact ⟨ρ1,st1,hk,hR1,hE2⟩
  ·cases hj
 | .seq x y,.jump l cs bs p q,ρ,st,a,w,hj,hWc,hr,hR,hEt=>by
  simp only [jd] at hj
  split at hj
  ·rename_i z hz
   cases hb:(findLabel x l).isNone with
   | false=>rw [hb] at hj;cases hj
   | true=>
    rw [hb] at hj
    cases hj
    rw [veSc] at hr
    rw [hz] at hr
    dsimp only at hr⊢
    have hy:=Zz1 hz
    cases hcs:cs.all (Uag · (writes z)) with
    | false=>rw [hcs] at hr;cases hr
    | true=>
     rw [hcs,Q1] at hr
     refine Zar (WpX.mono (Zct hm hΓ x p ro (.inl hW) E W0 n0 ρ0 α st _ r D ρ a w hr hR) ?_)
     rintro e a1 w1 ⟨ρ1,st1,hk,hR1,hE1⟩
     have hE2:=hEt.trans (hE1.mono (fun i hi=>hWc i (jB _ hi)) hEt.hlen)
     cases e with
     | normal=>
      simp only [kSeq] at hk
      have hwz:∀ i ∈ writes z,i ∈ Wt:=fun i hi=>hWc i (jI _ (by rw [hy];exact jI _ hi))
      obtain ⟨hR0,hhl0⟩:=Ziy (W:=writes z) (cs:=cs) (bs:=bs) hR1
      obtain ⟨N',hN,hrounds⟩:=Zvc (P:=P) (Γ:=Γ) (mn:=mn) (ro:=ro) (N:=N) (W0:=W0) (n0:=n0) (D:=D) (ρ0:=ρ0) hcs (p:=q) (l:=l) hwz hE2 (fun s r' ρ a w h1 h2=>Zct hm hΓ z q ro (.inl hW) E W0 n0 ρ0 _ _ _ r' (st1.d++D) ρ a w h1 h2) N _ ρ1 a1 w1 hk hR0 hhl0 (fun _ _=>rfl)
      -- the first round, from the label itself
      show WpX mn ro P y _ a1 w1
      rw [hy]
      generalize hQ:HopQ E P W0 n0 D ρ0 K r Wt ρt stt=Q at hrounds⊢
      refine Zar (Zyr ?_)
      show WpX mn ro P z _ a1 w1
      have hN2:∀ (m:Nat) (a:Act) (w:World),Udc mn ro P (.seq .skip z) l Q m a w→Udc mn ro P (.seq .skip z) l Q (m+1) a w:=by
       intro m
       induction m with
       | zero=>intro a w h;exact h.elim
       | succ m ih=>
        intro a w h
        refine WpX.mono h ?_
        intro e a' w' he
        cases e with
        | goto l'=>exact ⟨he.1,ih a' w' he.2⟩
        | _=>exact he
      refine WpX.mono hrounds fun e a' w' he=> ?_
      cases e with
      | goto l'=>exact ⟨he.1,by have:=hN2 _ a' w' he.2;rw [← hN] at this;exact this⟩
      | _=>exact he
     | goto l'=>exact absurd hk (by simp only [kSeq];rw [hKg];simp)
     | exit id=>exact ⟨ρ1,st1,hk,hR1,hE2⟩
     | ret=>exact ⟨ρ1,st1,hk,hR1,hE2⟩
     | panic ch=>exact ⟨ρ1,st1,hk,hR1,hE2⟩
     | outgrown=>exact ⟨ρ1,st1,hk,hR1,hE2⟩
  ·cases hj
 | .seq x y,.one,_,_,_,_,hj,_,_,_,_ | .seq x y,.loop _ _ _,_,_,_,_,hj,_,_,_,_ | .seq x y,.loopG _ _ _ _ _,_,_,_,_,hj,_,_,_,_ | .seq x y,.loopR _ _ _,_,_,_,_,hj,_,_,_,_ | .seq x y,.loopGR _ _ _ _ _,_,_,_,_,hj,_,_,_,_ | .seq x y,.iter _ _,_,_,_,_,hj,_,_,_,_ | .seq x y,.sc _,_,_,_,_,hj,_,_,_,_=>by simp [jd] at hj
 | .skip,_,_,_,_,_,hj,_,_,_,_ | .region _ _ _,_,_,_,_,_,hj,_,_,_,_ | .cond _ _ _,_,_,_,_,_,hj,_,_,_,_ | .block _ _,_,_,_,_,_,hj,_,_,_,_ | .loop _,_,_,_,_,_,hj,_,_,_,_ | .rangeFunc _ _ _ _,_,_,_,_,_,hj,_,_,_,_ | .exit _,_,_,_,_,_,hj,_,_,_,_ | .scope _,_,_,_,_,_,hj,_,_,_,_ | .label _,_,_,_,_,_,hj,_,_,_,_ | .goto _,_,_,_,_,_,hj,_,_,_,_ | .ret,_,_,_,_,_,hj,_,_,_,_ | .refuse _,_,_,_,_,_,hj,_,_,_,_=>by simp [jd] at hj
theorem Zw0 (hm:P.follows .mixedOrders=true) (hΓ:ConsOkX mn P (Uai mn P) Γ) (hW:ro=none) {W0:World} {n0:Nat} {ρ0:Nat→Ad} {α:Type} {K:Exit→St→Option α} {r:α} {D E:List Nat} :
  ∀ (c:Code) (p:Plan) (ρ:Nat→Ad) (st:St) (a:Act) (w:World),veF P Γ N c p α st K=some r→RS E P W0 n0 D ρ0 ρ st a w →
   WpX mn ro P c (fun e a' w'=>∃ ρ' st',K e st'=some r∧RS E P W0 n0 D ρ0 ρ' st' a' w'∧Ext (writes c) st.h.length ρ ρ' st st') a w
 | .seq x y,.two p q,ρ,st,a,w,hr,hR=>by
  rw [veF] at hr
  refine Zar (WpX.mono (Zct hm hΓ x p ro (.inl hW) E W0 n0 ρ0 α st _ r D ρ a w hr hR) ?_)
  rintro e a1 w1 ⟨ρ1,st1,hk,hR1,hE1⟩
  cases e with
  | normal=>
   refine WpX.mono (Zw0 hm hΓ hW y q ρ1 st1 a1 w1 hk hR1) ?_
   rintro e2 a2 w2 ⟨ρ2,st2,hk2,hR2,hE2⟩
   exact ⟨ρ2,st2,hk2,hR2,Yfd hE1 hE2⟩
  | exit id=>exact ⟨ρ1,st1,hk,hR1,hE1.mono (fun _ h=>jB _ h) (jC _)⟩
  | goto l=>exact ⟨ρ1,st1,hk,hR1,hE1.mono (fun _ h=>jB _ h) (jC _)⟩
  | ret=>exact ⟨ρ1,st1,hk,hR1,hE1.mono (fun _ h=>jB _ h) (jC _)⟩
  | panic ch=>exact ⟨ρ1,st1,hk,hR1,hE1.mono (fun _ h=>jB _ h) (jC _)⟩
  | outgrown=>exact ⟨ρ1,st1,hk,hR1,hE1.mono (fun _ h=>jB _ h) (jC _)⟩
 | .scope x,p,ρ,st,a,w,hr,hR=>by
  rw [veF] at hr
  split at hr
  ·rename_i j hj
   refine Zv3 (Ye1 hj) (m:=N) ?_
   have:=Zux (K:=Ud3 K) (ρt:=ρ) (stt:=st) (Wt:=writes x) hm hΓ hW (fun l st=>rfl) x p ρ st a w hj (fun _ h=>h) hr hR (.refl _ _ _ _)
   have up:∀ (e:Exit) (a':Act) (w':World),HopQ E P W0 n0 D ρ0 (Ud3 K) r (writes x) ρ st e a' w'→∃ ρ' st',K e st'=some r∧RS E P W0 n0 D ρ0 ρ' st' a' w'∧Ext (writes (.scope x)) st.h.length ρ ρ' st st':=fun e a' w' ⟨ρ',st',h1,h2,h3⟩=>⟨ρ',st',Yd2 h1,h2,h3⟩
   have hops:∀ (m:Nat) (a:Act) (w:World),Udc mn ro P (.seq .skip j.z) j.l (HopQ E P W0 n0 D ρ0 (Ud3 K) r (writes x) ρ st) m a w→Udc mn ro P (.seq .skip j.z) j.l (fun e a' w'=>∃ ρ' st',K e st'=some r∧RS E P W0 n0 D ρ0 ρ' st' a' w'∧Ext (writes (.scope x)) st.h.length ρ ρ' st st') m a w:=by
    intro m
    induction m with
    | zero=>intro a w h;exact h.elim
    | succ m ih=>
     intro a w h
     refine WpX.mono h fun e a' w' he=> ?_
     cases e with
     | goto l'=>exact ⟨he.1,ih a' w' he.2⟩
     | _=>exact up _ _ _ he
   refine WpX.mono this fun e a' w' he=> ?_
   cases e with
   | goto l'=>exact ⟨he.1,hops _ a' w' he.2⟩
   | _=>exact up _ _ _ he
  ·cases hr
 | .seq x y,.one,_,_,_,_,hr,_ | .seq x y,.loop _ _ _,_,_,_,_,hr,_ | .seq x y,.loopG _ _ _ _ _,_,_,_,_,hr,_ | .seq x y,.loopR _ _ _,_,_,_,_,hr,_ | .seq x y,.loopGR _ _ _ _ _,_,_,_,_,hr,_ | .seq x y,.iter _ _,_,_,_,_,hr,_ | .seq x y,.sc _,_,_,_,_,hr,_ | .seq x y,.jump _ _ _ _ _,_,_,_,_,hr,_=>by simp [veF] at hr
 | .skip,_,_,_,_,_,hr,_ | .region _ _ _,_,_,_,_,_,hr,_ | .cond _ _ _,_,_,_,_,_,hr,_ | .block _ _,_,_,_,_,_,hr,_ | .loop _,_,_,_,_,_,hr,_ | .rangeFunc _ _ _ _,_,_,_,_,_,hr,_ | .exit _,_,_,_,_,_,hr,_ | .label _,_,_,_,_,_,hr,_ | .goto _,_,_,_,_,_,hr,_ | .ret,_,_,_,_,_,hr,_ | .refuse _,_,_,_,_,_,hr,_=>by simp [veF] at hr
theorem Yc8 (hm:P.follows .mixedOrders=true) (hΓ:ConsOkX mn P (Uai mn P) Γ) (hW:ro=none) {W0:World} {n0:Nat} {ρ0:Nat→Ad} {α:Type} {K:Exit→St→Option α} {r:α} {D E:List Nat}
  (c:Code) (p:Plan) (ρ:Nat→Ad) (st:St) (a:Act) (w:World) (hr:veT P Γ N c p α st K=some r) (hR:RS E P W0 n0 D ρ0 ρ st a w) :
   WpX mn ro P c (fun e a' w'=>∃ ρ' st',K e st'=some r∧RS E P W0 n0 D ρ0 ρ' st' a' w'∧Ext (writes c) st.h.length ρ ρ' st st') a w:=by
 cases p with
 | sc p=>exact Zw0 hm hΓ hW c p ρ st a w hr hR
 | _=>exact Zct hm hΓ c _ ro (.inl hW) E W0 n0 ρ0 α st K r D ρ a w hr hR
end
end Go.Proofs.YtdhckffhnkeogaaDoor.Vc
/- Functions of the symbolic run, in company. No program is named. -/
namespace Go.Proofs.YtdhckffhnkeogaaDoor.Vc
open Go.RowKit Go.Conc Go.Proofs.YtdhckffhnkeogaaDoor.Ve
variable {mn:Md}
section
variable {P:Program} {Γ:Cons} {N:Nat}
def Ucn (P:Program) (fn:Func) (tmps:Array Value) (R:Value→World→Prop) (ds:List Deferred) (v:World):Prop:=
 ∃ W0,DefOk W0 ds v∧∀ wx:World,Kept (fun k=>W0.heap.size≤k) v wx→(∀ (k:Nat) c t fr,v.heap[k]? = some (Obj.cells c t fr)→wx.heap[k]? = some (Obj.cells c t fr))→∃ r,(results fn tmps).run P wx = .ok r wx∧R r wx
theorem Zj5 (fn:Func) (tmps:Array Value):Simple P (results fn tmps):=by
 unfold results
 refine .bind (Zs2 _ (fun r=> ?_) _) fun _=>.pure _
 cases r with
 | tmp t=>exact .pure _
 | cell a t=>exact .bind (Zxb _) fun _=>Zgl _ _
theorem Zy2 {fr:Frame} {cs:List Frame} {w w':World} {m:Nat} {ds:List Deferred} {es:Array Event} (hm:fr.mode = .returning) (hd:fr.defers={ target:=.collected m,args:=#[] }::ds) (hr:(Instr.takeDeferred m).runT P w #[]=(.ok [] w',es)) :
  stepG P mn.main (gr fr cs) w = .go (gr { fr with defers:=ds } cs) w' (seen P fr.fn es):=by
 simp [gr,stepG,unwind,hm,hd,hr,GStep.after,-Sem.runT_eq]
theorem Zs3 {Pr:Gh→World→Goroutine→Prop} (hC:Closed P mn.main Pr) {f:FuncId} {fn:Func} (hf:P.funcs[f]? = some fn) {tmps:Array Value} {R:Value→World→Prop} {cs:List Frame}
  (hQ:∀ v' fr,fr.fn=f→Ucp P fr R v'→∀ G' w',FitM mn G' w'→Ge v' (view G' w')→Pr G' w' (gr fr cs)) :
  ∀ (ds:List Deferred) (fr:Frame) (v:World),fr.fn=f→fr.mode = .returning→fr.kind = .normal→fr.tmps=tmps→fr.defers=ds→Ucn P fn tmps R ds v→∀ (G:Gh) (w:World),FitM mn G w→Ge v (view G w)→Pr G w (gr fr cs)
 | [],fr,v,h1,h2,h3,h4,h5,⟨W0,_,hl⟩,G,w,hfit,hv=>hQ v fr h1 ⟨h2,h5,h3,fn,by rw [h1];exact hf,fun v₁ hg=>by
   obtain ⟨r,q1,q2⟩:=hl v₁ (hg.kept _) fun k c t fr hk=>hg.at hk
   exact ⟨r,by rw [h4];exact (Zj5 fn tmps).tr q1,q2⟩⟩ G w hfit hv
 | d::ds,fr,v,h1,h2,h3,h4,h5,⟨W0,hd,hl⟩,G,w,hfit,hv=>by
  refine hC.step G w _ hfit rfl fun w₁ hr₁=> ?_
  have hf₁:=hfit.rely hr₁
  have hg₁:=hv.trans (hr₁.view hfit)
  generalize hv₁:view G w₁=v₁ at hg₁
  have hd₁:=hd.same (hg₁.kept _)
  obtain ⟨m,rfl,hm,hb⟩:=hd₁.all d (List.mem_cons_self ..)
  obtain ⟨w₂,es,e1,e2,e3⟩:=Zm4 (P:=P) hb G w₁ hf₁ hv₁ #[]
  refine ⟨_,w₂,_,Zy2 h2 h5 e1,by simpa using e3.seen fr.fn, ?_⟩
  have hlt:m<v₁.heap.size:=(Array.getElem?_eq_some_iff.1 hb).1
  have hk:Kept (fun k=>W0.heap.size≤k) v (v₁.putObj m (.deferred none)):=(hg₁.kept _).trans ⟨rfl,rfl,rfl,by simp [World.putObj],fun k hk hne=>World.putObj_heap_other (by omega)⟩
  have hc:∀ k c t fr,v.heap[k]? = some (Obj.cells c t fr)→(v₁.putObj m (.deferred none)).heap[k]? = some (Obj.cells c t fr):=fun k c t fr hc=>by
   rw [World.putObj_heap_other (by rintro rfl;rw [hg₁.at hc] at hb;cases hb)]
   exact hg₁.at hc
  have hpw:=List.pairwise_cons.1 hd₁.diff
  refine Zs3 hC hf hQ ds { fr with defers:=ds } (v₁.putObj m (.deferred none)) h1 h2 h3 h4 rfl ⟨W0,⟨fun e he=> ?_,hpw.2⟩,fun wx q1 q2=>hl wx (hk.trans (q1.mono fun _ _ h=>h)) fun k c t fr hh=>q2 k c t fr (hc k c t fr hh)⟩ _ w₂ (hf₁.did e3) (by rw [← e2];exact Ge.refl _)
  obtain ⟨q,rfl,h1,h2⟩:=hd₁.all e (List.mem_cons_of_mem _ he)
  refine ⟨q,rfl,h1, ?_⟩
  rw [World.putObj_heap_other (by rintro rfl;exact hpw.1 _ he _ rfl rfl)]
  exact h2
theorem Zi2 {f:FuncId} {fn:Func} (hf:P.funcs[f]? = some fn) {c:Code} (hb:fn.body=some c) {args:Array Value} {v:World} {R:Value→World→Prop}
  (h:WpX mn none P c (fun e a' v'=>(e = .normal∨e = .ret)∧Ucn P fn a'.tmps R a'.defers v') { tmps:=args++jJ (fn.ntmps - args.size) undef,defers:=[] } v):Ua6 mn P f args v R:=fun Pr hC cs G w hfit hv hQ=>by
 let b:Frame:={ fn:=f,tmps:=#[],todo:=[],defers:=[],mode:=.run,kind:=.normal }
 have he:Frame.enter P f args .normal=b.atR { tmps:=args++jJ (fn.ntmps - args.size) undef,defers:=[] } [.code c]:=by
  simp [Frame.enter,Frame.atR,b,hf,hb]
 rw [he]
 refine h Pr hC b rfl rfl [] cs G w hfit hv fun e a' v' hq G' w' hf' hv'=> ?_
 obtain ⟨hex,hl⟩:=hq
 have fin:∀ (k:List Item) (w:World),stepG P mn.main (gr (b.atR a' k) cs) w = .go (gr { b.atR a' k with mode:=.returning } cs) w #[]→True:=fun _ _ _=>trivial
 have go:∀ k:List Item,(∀ w,stepG P mn.main (gr (b.atR a' k) cs) w = .go (gr { b.atR a' k with mode:=.returning } cs) w #[])→Pr G' w' (gr (b.atR a' k) cs):=fun k hs=>
  hC.calm hf' rfl hs fun w₁ hf₁ hg=>Zs3 hC hf hQ a'.defers _ v' rfl rfl rfl rfl rfl hl G' w₁ hf₁ (hv'.trans hg)
 rcases hex with rfl | rfl
 ·exact go [] fun w=>by simp [gr,stepG,stepG.exec,Frame.atR,b]
 ·exact fun k₁=>go _ fun w=>by simp [gr,stepG,stepG.exec,Frame.atR,b]
theorem funX_ok (hm:P.follows .mixedOrders=true) (hΓ:ConsOkX mn P (Uai mn P) Γ) {f:FuncId} {fn:Func} (hf:P.funcs[f]? = some fn) {c:Code} (hb:fn.body=some c) {res:List ResultVar} (hres:fn.results.toList=res) {nt:Nat} (hnt:fn.ntmps=nt) (p:Plan) :
  Uab mn P f (funV P Γ N res nt c p):=by
 intro ρ h w args vals r ef hno hr hA hH
 refine Zi2 hf hb ?_
 have hlen:args.length=vals.length:=hA.1
 have hR:R P w h.length [] ρ ρ (entry nt args h) { tmps:=vals.toArray++jJ (fn.ntmps - vals.toArray.size) undef,defers:=[] } w:=by
  refine ⟨by simp [entry,hlen,hnt],fun i v hv=> ?_,hH,fun _ _=>rfl,fun k hk hp=> ?_,Kept.refl _ w,fun n len C e _ h=>absurd h (hno n len C e),DefOk.nil _ _,jC _⟩
  ·simp only [entry] at hv⊢
   by_cases hi:i<args.length
   ·rw [jK (by simpa using hi),List.getElem?_map,jF hi] at hv
    simp only [Option.map_some,Q8] at hv
    subst hv
    have:(vals.toArray++jJ (fn.ntmps - vals.toArray.size) undef).getD i undef=vals[i]'(by omega):=by
     rw [Array.getD_eq_getD_getElem?,Array.getElem?_append_left (by simp;omega)]
     simp [show i<vals.length by omega]
    rw [this]
    exact hA.2 i _ _ (jF hi) (jF (by omega))
   ·rw [List.getElem?_append_right (by simp;omega),List.getElem?_replicate] at hv
    split at hv
    ·cases hv
     have:(vals.toArray++jJ (fn.ntmps - vals.toArray.size) undef).getD i undef=undef:=by
      rw [Array.getD_eq_getD_getElem?,Array.getElem?_append_right (by simp;omega),Array.getElem?_replicate]
      split<;>rfl
     rw [this]
     rfl
    ·cases hv
  ·exfalso
   cases hp with
   | row e=>have:=(jE.1 e).1;simp only [entry] at this;omega
   | one e=>have:=(jE.1 e).1;simp only [entry] at this;omega
   | own e _ _=>have:=(jE.1 e).1;simp only [entry] at this;omega
 refine WpX.mono (Yc8 hm hΓ rfl c p ρ _ _ w hr hR) ?_
 rintro e a' w' ⟨ρ',st',hk,hR',hE⟩
 have key:finA P h res st'=some (r,ef,true) →
   Ucn P fn a'.tmps (fun v w'=>Uax P ρ h w r ef v w') a'.defers w':=by
  intro hk
  unfold finA at hk
  cases hcl:Ud1 h.length st'.d with
  | false=>
   rw [hcl] at hk
   simp only [Q2] at hk
   cases hv0:ansW P st' res with
   | none=>rw [hv0] at hk;cases hk
   | some vv0=>
   cases hfirst:Ud6 h.length st'.d with
   | none=>rw [hv0,hfirst] at hk;cases hk
   | some m=>
   rw [hv0,hfirst] at hk
   dsimp only at hk
   cases hone:oneD h.length m st'.d with
   | false=>rw [hone] at hk;cases hk
   | true=>
   rw [hone] at hk
   simp only [Q1] at hk
   have hmlt:=Zyj hfirst
   have hρ:ρ' m=ρ m:=hE.ren m hmlt
   have hk0:Kept (fun k=>k=(ρ m).a) w w':=hR'.keptR.mono fun k _ ⟨q,h1,h2,h3⟩=>by
    rcases h2 with h2 | h2
    ·rw [← h3,Ybr hone q h2 h1]
    ·cases h2
   have hkx2:∀ wx:World,Kept (fun k=>w.heap.size≤k) w' wx→Kept (fun k=>k=(ρ m).a) w wx:=fun wx hkx=>
    ⟨hkx.os.trans hk0.os,hkx.tape.trans hk0.tape,hkx.output.trans hk0.output,jH hk0.size hkx.size,fun k hk he=>(hkx.block k (jL hk hk0.size) (by omega)).trans (hk0.block k hk he)⟩
   have hresW:∀ wx:World,Kept (fun k=>w.heap.size≤k) w' wx→(∀ (k:Nat) c t fr,w'.heap[k]? = some (Obj.cells c t fr)→wx.heap[k]? = some (Obj.cells c t fr))→∃ v,(results fn a'.tmps).run P wx = .ok v wx∧IsV P ρ h vv0 v:=fun wx hkx hcx=>by
    cases hre:res with
    | nil=>
     rw [hre] at hv0
     simp only [ansW,Q8] at hv0
     subst hv0
     rw [hre] at hres
     exact ⟨undef,by simp [results,Array.toList_eq_nil_iff.1 hres];rfl,rfl⟩
    | cons r0 l0=>
     rw [hre] at hv0
     simp only [ansW] at hv0
     split at hv0
     ·rename_i ys hys
      cases hd:ys.all dataR with
      | false=>rw [hd] at hv0;cases hv0
      | true=>
       rw [hd] at hv0
       simp only [Q1,Q8] at hv0
       subst hv0
       have hHx:HIs P ρ' st'.h wx:=⟨fun n b hb=>(hR'.heap.is n b hb).world' hkx.size (fun g c t fr hc=>hcx _ _ _ _ hc) fun c t fr hc=>hcx _ _ _ _ hc,hR'.heap.inj,hR'.heap.far⟩
       obtain ⟨vs,hrun2,hall⟩:=Zgm hR'.slots hHx (fn:=fn) (by rw [hres,hre];exact hys)
       have hall2:Ual P ρ h ys vs:=by
        refine ⟨hall.1,fun i y v hy hv=> ?_⟩
        rw [jG] at hd
        have h1:=hall.2 i y v hy hv
        have h2:=hd y (jM hy)
        cases y<;>first | exact h1 | cases h2
       refine ⟨_,hrun2, ?_⟩
       match ys,vs,hall2 with
       | [],[],h2=>exact ⟨[],rfl,h2⟩
       | [y],[v],h2=>exact h2.2 0 y v rfl rfl
       | y::z::l,v::u::vs,h2=>
        refine ⟨v::u::vs, ?_,h2⟩
        rw [dif_neg (by simp)]
       | [],v::vs,h2=>exact absurd h2.1 (by simp)
       | [y],[],h2=>exact absurd h2.1 (by simp)
       | [y],v::u::vs,h2=>exact absurd h2.1 (by simp)
       | y::z::l,[],h2=>exact absurd h2.1 (by simp)
       | y::z::l,[v],h2=>exact absurd h2.1 (by simp)
     ·cases hv0
   split at hk
   ·rename_i C t C0 t0 hmt hm0
    cases hbt:jA t t0 with
    | false=>rw [hbt] at hk;cases hk
    | true=>
     rw [hbt] at hk
     obtain rfl:=jD hbt
     simp only [Q1,Q8,Q0] at hk
     obtain ⟨rfl,rfl,-⟩:=hk
     refine ⟨_,hR'.defers,fun wx hkx hcx=> ?_⟩
     obtain ⟨v,hrun,hiv⟩:=hresW wx hkx hcx
     refine ⟨v,hrun,hiv,.inl ⟨_,_,_,hm0,rfl⟩,hkx2 wx hkx, ?_⟩
     have hB:=(hR'.heap.is m _ hmt).row
     rw [hρ] at hB
     exact ⟨hcx _ _ _ _ hB.1,hB.2⟩
   ·rename_i len C e0 len0 C0 e1 hmt hm0
    cases hbl:Nat.blt 0 len with
    | false=>rw [hbl] at hk;cases hk
    | true=>
     rw [hbl] at hk
     simp only [Q1,Q8,Q0] at hk
     obtain ⟨rfl,rfl,-⟩:=hk
     have hl0:1≤len:=by simpa [Nat.blt] using hbl
     obtain ⟨rfl,rfl⟩:len0=len∧e1=e0:=by
      rcases (hE.hle m).sl _ _ _ _ hm0 with ⟨C',h1⟩ | ⟨h1,_⟩
      ·rw [hmt] at h1
       cases h1
       exact ⟨rfl,rfl⟩
      ·cases h1
     refine ⟨_,hR'.defers,fun wx hkx hcx=> ?_⟩
     obtain ⟨v,hrun,hiv⟩:=hresW wx hkx hcx
     refine ⟨v,hrun,hiv,.inr (.inl ⟨_,_,_,_,_,rfl,hm0,rfl,by omega⟩),hkx2 wx hkx, ?_⟩
     have hB:=hR'.heap.is m _ hmt
     rw [hρ] at hB
     exact BIs.world' (b:=.sl .lent _ C _) ⟨hB.1,hB.2⟩ hkx.size (fun g c t fr hc=>hcx _ _ _ _ hc) fun c t fr hc=>hcx _ _ _ _ hc
   ·cases hk
  | true=>
   rw [hcl] at hk
   simp only [Q1] at hk
   split at hk
   ·rename_i l hl
    cases hrl:l.all (Ubg h.length) with
    | false=>
     rw [hrl] at hk
     simp only [Q2] at hk
     unfold newRes at hk
     split at hk
     ·rename_i i m hfst
      obtain ⟨-,hli,hml⟩:=Zw3 hfst
      rw [Nat.sub_zero] at hli
      split at hk
      ·rename_i len C e hm
       have hkept0:Kept (fun _=>False) w w':=hR'.keptR.mono fun k _ ⟨m,h1,h2,_⟩=>by
        rcases h2 with h2 | h2
        ·have:=Zh2 hcl m h2
         omega
        ·cases h2
       cases hb1:jA l.length 1 with
       | true=>
        rw [hb1] at hk
        simp only [Q1,Q8,Q0] at hk
        obtain ⟨rfl,rfl,-⟩:=hk
        refine ⟨_,hR'.defers,fun wx hkx hcx=> ?_⟩
        have hHx:HIs P ρ' st'.h wx:=⟨fun n b hb=>(hR'.heap.is n b hb).world' hkx.size (fun g c t fr hc=>hcx _ _ _ _ hc) fun c t fr hc=>hcx _ _ _ _ hc,hR'.heap.inj,hR'.heap.far⟩
        obtain ⟨vs,hrun2,hall⟩:=Zgm hR'.slots hHx (fn:=fn) (by rw [hres];exact hl)
        have hkept:Kept (fun _=>False) w wx:=⟨hkx.os.trans hkept0.os,hkx.tape.trans hkept0.tape,hkx.output.trans hkept0.output,jH hkept0.size hkx.size,fun k hk he=>(hkx.block k (jL hk hkept0.size) (by omega)).trans (hkept0.block k hk he)⟩
        have h1l:=jD hb1
        match l,vs,h1l,hall,hrun2,hli with
        | [y],[v],_,hall,hrun2,hli=>
         have hi0:i=0:=by have:=(jE.1 hli).1;simp at this;exact this
         subst hi0
         simp only [List.getElem?_cons_zero,Q8] at hli
         subst hli
         obtain ⟨ad,cap,h2,h3,h4⟩:=Is.l_of (hall.2 0 _ v rfl rfl) hm
         refine ⟨v,hrun2,ρ' m,ad,cap,h2,⟨(h4 rfl).1,fun h0=>⟨h3 h0,(h4 rfl).2 h0⟩⟩,fun h0=>hR'.freshR m hml (.own hm rfl h0),hkept, ?_⟩
         exact hHx.is m _ hm
        | [y],[],_,hall,_,_=>exact absurd hall.1 (by simp)
        | [y],_::_::_,_,hall,_,_=>exact absurd hall.1 (by simp)
       | false=>
        rw [hb1] at hk
        simp only [Q2] at hk
        cases hra0:(l.set i .x).all (Ubg h.length) && !Nat.ble 1000000 i with
        | false=>rw [hra0] at hk;cases hk
        | true=>
         rw [hra0] at hk
         obtain ⟨hra,hlen0⟩:=Bool.and_eq_true_iff.1 hra0
         simp only [Q1,Q8,Q0] at hk
         obtain ⟨rfl,rfl,-⟩:=hk
         refine ⟨_,hR'.defers,fun wx hkx hcx=> ?_⟩
         have hHx:HIs P ρ' st'.h wx:=⟨fun n b hb=>(hR'.heap.is n b hb).world' hkx.size (fun g c t fr hc=>hcx _ _ _ _ hc) fun c t fr hc=>hcx _ _ _ _ hc,hR'.heap.inj,hR'.heap.far⟩
         obtain ⟨vs,hrun2,hall⟩:=Zgm hR'.slots hHx (fn:=fn) (by rw [hres];exact hl)
         have hkept:Kept (fun _=>False) w wx:=⟨hkx.os.trans hkept0.os,hkx.tape.trans hkept0.tape,hkx.output.trans hkept0.output,jH hkept0.size hkx.size,fun k hk he=>(hkx.block k (jL hk hkept0.size) (by omega)).trans (hkept0.block k hk he)⟩
         have hne1:vs.toArray.size≠1:=by
          rw [List.size_toArray,← hall.1]
          intro e
          rw [e] at hb1
          cases hb1
         rw [dif_neg hne1] at hrun2
         have hilt:=(jE.1 hli).1
         have hvi:=jF (show i<vs.length by rw [← hall.1];exact hilt)
         obtain ⟨ad,cap,h2,h3,h4⟩:=Is.l_of (hall.2 i _ _ hli hvi) hm
         have hh:∀ k,k<h.length→h[k]? = st'.h[k]? := fun k hk=>by
          refine (hE.heap k hk fun hd=> ?_).symm
          have:=Zh2 hcl k hd
          omega
         have hall2:Ual P ρ h (l.set i .x) vs:=by
          refine ⟨by simpa using hall.1,fun k y v hy hv=> ?_⟩
          by_cases e:i=k
          ·subst e
           rw [List.getElem?_set_self hilt] at hy
           cases hy
           trivial
          ·have hy':=hy
           rw [List.getElem?_set_ne e] at hy
           rw [jG] at hra
           have h1:=(hall.2 k y v hy hv).cut hh (hra y (jM hy'))
           exact h1.mono (HLe.refl _) fun k hk=>(hE.ren k (Zn6 hk)).symm
         have hismall:Nat.ble 1000000 i=false:=by
          cases hbi:Nat.ble 1000000 i with
          | false=>rfl
          | true=>rw [hbi] at hlen0;cases hlen0
         refine ⟨_,hrun2,ρ' m,ad,cap,by simp only [Udq,hismall,Q2];exact ⟨_,vs,rfl,rfl,hall2,by rw [hvi,h2]⟩,⟨(h4 rfl).1,fun h0=>⟨h3 h0,(h4 rfl).2 h0⟩⟩,fun h0=>hR'.freshR m hml (.own hm rfl h0),hkept, ?_⟩
         exact hHx.is m _ hm
      ·cases hk
     ·unfold Uf3 at hk
      split at hk
      ·rename_i m hfst
       obtain ⟨hml,j0,D0,T0,ns0,i0,hj0,hi0⟩:=Zwl hfst
       split at hk
       ·rename_i len C e hm
        cases hok:Nat.ble h.length 1000000&&l.all (okH h.length m) with
        | false=>rw [hok] at hk;cases hk
        | true=>
        rw [hok] at hk
        simp only [Q1,Q8,Q0] at hk
        obtain ⟨rfl,rfl,-⟩:=hk
        obtain ⟨hsm,hok⟩:=Bool.and_eq_true_iff.1 hok
        have hsm:=Nat.le_of_ble_eq_true hsm
        have hkept0:Kept (fun _=>False) w w':=hR'.keptR.mono fun k _ ⟨m,h1,h2,_⟩=>by
         rcases h2 with h2 | h2
         ·have:=Zh2 hcl m h2
          omega
         ·cases h2
        refine ⟨_,hR'.defers,fun wx hkx hcx=> ?_⟩
        have hHx:HIs P ρ' st'.h wx:=⟨fun n b hb=>(hR'.heap.is n b hb).world' hkx.size (fun g c t fr hc=>hcx _ _ _ _ hc) fun c t fr hc=>hcx _ _ _ _ hc,hR'.heap.inj,hR'.heap.far⟩
        obtain ⟨vs,hrun2,hall⟩:=Zgm hR'.slots hHx (fn:=fn) (by rw [hres];exact hl)
        have hkept:Kept (fun _=>False) w wx:=⟨hkx.os.trans hkept0.os,hkx.tape.trans hkept0.tape,hkx.output.trans hkept0.output,jH hkept0.size hkx.size,fun k hk he=>(hkx.block k (jL hk hkept0.size) (by omega)).trans (hkept0.block k hk he)⟩
        have hj0lt:j0<vs.length:=by rw [← hall.1];exact (jE.1 hj0).1
        obtain ⟨D0',-,-,hR0⟩:=hall.2 j0 _ _ hj0 (jF hj0lt)
        obtain ⟨-,ad,l0,c0,-,hIL⟩:=hR0.refs i0 m (Zye hR0.uniq hi0)
        obtain ⟨ad',cap',h2,h3,h4⟩:=Is.l_of (P:=P) hIL hm
        cases h2
        have hh:∀ k,k<h.length→h[k]? = st'.h[k]? := fun k hk=>by
         refine (hE.heap k hk fun hd=> ?_).symm
         have:=Zh2 hcl k hd
         omega
        refine ⟨_,hrun2,ρ' m,ad,c0, ?_,⟨(h4 rfl).1,fun h0=>⟨h3 h0,(h4 rfl).2 h0⟩⟩,fun h0=>hR'.freshR m hml (.own hm rfl h0),hkept,hHx.is m _ hm⟩
        have e1:Nat.ble 1000000 1000000=true:=rfl
        simp only [Udq,e1,Q1]
        intro ρ2 h2 id hle2 hren2 hsl2 hid
        exact Yex (hole_all hm hh (fun k hk=>(hE.ren k (Zn6 hk)).symm) hsm hml hok hall hIL hle2 hren2 hid)
       ·cases hk
      ·cases hk
    | true=>
     rw [hrl] at hk
     simp only [Q1,Q8,Q0] at hk
     obtain ⟨rfl,rfl,-⟩:=hk
     refine ⟨_,hR'.defers,fun wx hkx hcx=> ?_⟩
     have hHx:HIs P ρ' st'.h wx:=⟨fun n b hb=>(hR'.heap.is n b hb).world' hkx.size (fun g c t fr hc=>hcx _ _ _ _ hc) fun c t fr hc=>hcx _ _ _ _ hc,hR'.heap.inj,hR'.heap.far⟩
     obtain ⟨vs,hrun2,hall⟩:=Zgm hR'.slots hHx (fn:=fn) (by rw [hres];exact hl)
     have hh:∀ k,k<h.length→h[k]? = st'.h[k]? := fun k hk=>by
      refine (hE.heap k hk fun hd=> ?_).symm
      have:=Zh2 hcl k hd
      omega
     have hall2:Ual P ρ h l vs:=by
      refine ⟨hall.1,fun i y v hy hv=> ?_⟩
      rw [jG] at hrl
      have h1:=(hall.2 i y v hy hv).cut hh (hrl y (jM hy))
      exact h1.mono (HLe.refl _) fun k hk=>(hE.ren k (Zn6 hk)).symm
     have hkept0:Kept (fun _=>False) w w':=hR'.keptR.mono fun k _ ⟨m,h1,h2,_⟩=>by
      rcases h2 with h2 | h2
      ·have:=Zh2 hcl m h2
       omega
      ·cases h2
     have hkept:Kept (fun _=>False) w wx:=⟨hkx.os.trans hkept0.os,hkx.tape.trans hkept0.tape,hkx.output.trans hkept0.output,jH hkept0.size hkx.size,fun k hk he=>(hkx.block k (jL hk hkept0.size) (by omega)).trans (hkept0.block k hk he)⟩
     refine ⟨_,hrun2, ?_,hkept⟩
     match l,vs,hall2 with
     | [],[],h2=>exact ⟨[],rfl,h2⟩
     | [y],[v],h2=>exact h2.2 0 y v rfl rfl
     | y::z::l,v::u::vs,h2=>
      refine ⟨v::u::vs, ?_,h2⟩
      rw [dif_neg (by simp)]
     | [],v::vs,h2=>exact absurd h2.1 (by simp)
     | [y],[],h2=>exact absurd h2.1 (by simp)
     | [y],v::u::vs,h2=>exact absurd h2.1 (by simp)
     | y::z::l,[],h2=>exact absurd h2.1 (by simp)
     | y::z::l,[v],h2=>exact absurd h2.1 (by simp)
   ·cases hk
 cases e with
 | normal=>exact ⟨.inl rfl,key hk⟩
 | ret=>exact ⟨.inr rfl,key hk⟩
 | exit id=>cases hk
 | goto l=>cases hk
 | panic ch=>cases hk
 | outgrown=>cases hk
theorem ansX_ok (hm:P.follows .mixedOrders=true) (hΓ:ConsOkX mn P (Uai mn P) Γ) {f:FuncId} {fn:Func} (hf:P.funcs[f]? = some fn) (hb:fn.body.isNone=false) (l:List (List Nat×List Nat)) :
  Uab mn P f (ansV P Γ N fn l):=by
 cases hc:fn.body with
 | none=>rw [hc] at hb;cases hb
 | some c=>
  have:codeOf fn=c:=by unfold codeOf;rw [hc]
  exact fun ρ h w args vals r e hr hA hH=>funX_ok hm hΓ hf (by rw [hc,this]) rfl rfl _ ρ h w args vals r e hr hA hH
theorem ansY (g:ConsOkX mn P (Uai mn P) Γ) {f:FuncId} (fn:Func) (l:List (List Nat×List Nat)) (hm:P.follows .mixedOrders=true:=by kernel_rfl) (hf:P.funcs[f]? = some fn:=by kernel_rfl) (hb:fn.body.isNone=false:=by kernel_rfl) :
  Uab mn P f (ansV P Γ N fn l):=ansX_ok hm g hf hb l
end
end Go.Proofs.YtdhckffhnkeogaaDoor.Vc
/- Contracts of the symbolic run, in company. No program is named. -/
namespace Go.Proofs.YtdhckffhnkeogaaDoor.Vc
open Go.RowKit Go.Conc Go.Proofs.YtdhckffhnkeogaaDoor.Ve
variable {mn:Md}
section
variable {P:Program} {Γ:Cons} {N:Nat}
theorem mkΓ_nilX:ConsOkX mn P (Uai mn P) (mkΓ []):=by
 refine ⟨fun _ _=>Zif, ?_, ?_, ?_, ?_, ?_⟩<;>(intro f F h;cases h)
theorem mkΓx_nilX:ConsOkX mn P (Uai mn P) (mkΓx [] [] []):=mkΓ_nilX
theorem mkΓw_cX {s:List (FuncId×SCon)} {g:FuncId} {G:Con} {c:List (FuncId×Con)} {n:List (FuncId×NCon)} {i:List (FuncId×ICon)} (h1:Ua4 mn P g G) (h2:EntX P g) (h3:ConsOkX mn P (Uai mn P) (mkΓw s c n i)):ConsOkX mn P (Uai mn P) (mkΓw s ((g,G)::c) n i):=⟨h3.e,fun f F h=>by
 simp only [mkΓw,Ueu] at h
 cases hb:jA f g with
 | true=>
  rw [hb] at h
  obtain rfl:=jD hb
  cases h
  exact ⟨h1,h2⟩
 | false=>rw [hb] at h;exact h3.c f F h,h3.n,h3.i,h3.s,h3.m⟩
theorem mkΓw_nX {s:List (FuncId×SCon)} {g:FuncId} {G:NCon} {c:List (FuncId×Con)} {n:List (FuncId×NCon)} {i:List (FuncId×ICon)} (h1:Uds mn P g G) (h2:EntX P g) (h3:ConsOkX mn P (Uai mn P) (mkΓw s c n i)):ConsOkX mn P (Uai mn P) (mkΓw s c ((g,G)::n) i):=⟨h3.e,h3.c,fun f F h=>by
 simp only [mkΓw,Ueu] at h
 cases hb:jA f g with
 | true=>
  rw [hb] at h
  obtain rfl:=jD hb
  cases h
  exact ⟨h1,h2⟩
 | false=>rw [hb] at h;exact h3.n f F h,h3.i,h3.s,h3.m⟩
theorem mkΓw_iX {s:List (FuncId×SCon)} {g:FuncId} {G:ICon} {c:List (FuncId×Con)} {n:List (FuncId×NCon)} {i:List (FuncId×ICon)} (h1:Uai mn P g G) (h2:EntX P g) (h3:ConsOkX mn P (Uai mn P) (mkΓw s c n i)):ConsOkX mn P (Uai mn P) (mkΓw s c n ((g,G)::i)):=⟨h3.e,h3.c,h3.n,fun f F h=>by
 simp only [mkΓw,Ve.look] at h
 cases hb:jA f g with
 | true=>
  rw [hb] at h
  obtain rfl:=jD hb
  cases h
  exact ⟨h1,h2⟩
 | false=>rw [hb] at h;exact h3.i f F h,h3.s,h3.m⟩
theorem mkΓw_sX {s:List (FuncId×SCon)} {g:FuncId} {G:SCon} {c:List (FuncId×Con)} {n:List (FuncId×NCon)} {i:List (FuncId×ICon)} (h1:Ua4 mn P g (fun args h=>Uae (G args h))) (h2:EntX P g) (h3:ConsOkX mn P (Uai mn P) (mkΓw s c n i)):ConsOkX mn P (Uai mn P) (mkΓw ((g,G)::s) c n i):=⟨h3.e,h3.c,h3.n,h3.i,fun f F h=>by
 simp only [mkΓw,Ueu] at h
 cases hb:jA f g with
 | true=>
  rw [hb] at h
  obtain rfl:=jD hb
  cases h
  exact ⟨h1,h2⟩
 | false=>rw [hb] at h;exact h3.s f F h,h3.m⟩
theorem mkΓx_cX {g:FuncId} {G:Con} {c:List (FuncId×Con)} {n:List (FuncId×NCon)} {i:List (FuncId×ICon)} (h1:Ua4 mn P g G) (h2:EntX P g) (h3:ConsOkX mn P (Uai mn P) (mkΓx c n i)):ConsOkX mn P (Uai mn P) (mkΓx ((g,G)::c) n i):=mkΓw_cX h1 h2 h3
theorem mkΓx_nX {g:FuncId} {G:NCon} {c:List (FuncId×Con)} {n:List (FuncId×NCon)} {i:List (FuncId×ICon)} (h1:Uds mn P g G) (h2:EntX P g) (h3:ConsOkX mn P (Uai mn P) (mkΓx c n i)):ConsOkX mn P (Uai mn P) (mkΓx c ((g,G)::n) i):=mkΓw_nX h1 h2 h3
theorem mkΓx_iX {g:FuncId} {G:ICon} {c:List (FuncId×Con)} {n:List (FuncId×NCon)} {i:List (FuncId×ICon)} (h1:Uai mn P g G) (h2:EntX P g) (h3:ConsOkX mn P (Uai mn P) (mkΓx c n i)):ConsOkX mn P (Uai mn P) (mkΓx c n ((g,G)::i)):=mkΓw_iX h1 h2 h3
theorem mkΓ_consX {g:FuncId} {G:Con} {r:List (FuncId×Con)} (h1:Ua4 mn P g G) (h2:EntX P g) (h3:ConsOkX mn P (Uai mn P) (mkΓ r)):ConsOkX mn P (Uai mn P) (mkΓ ((g,G)::r)):=mkΓx_cX h1 h2 h3
theorem Uab.of {f:FuncId} {G G':Con} (h:Uab mn P f G) (hle:∀ ρ h w args vals r e,Ual P ρ h args vals→HIs P ρ h w→G' args h=some (r,e,true)→G args h=some (r,e,true)):Uab mn P f G':=
 fun ρ hh w args vals r e hn hr hA hH=>h ρ hh w args vals r e hn (hle ρ hh w args vals r e hA hH hr) hA hH
theorem Zxs {gl wr:Bool} {f:FuncId} {G:Con} (hG:Uab mn P f G):Ua4 mn P f (conX gl wr G):=by
 intro ρ h w args vals r e hr hA hH
 unfold conX wrapL at hr
 cases hok:Uci (ld gl h).length args&&Ubo (ld gl h++Uaj args++Ua2 h (Uaj args)) with
 | false=>rw [hok] at hr;cases hr
 | true=>
  rw [hok] at hr
  simp only [Q7] at hok
  simp only [Q1] at hr
  split at hr
  ·rename_i h1 h2 hrows hsls
   have hpre:∀ n ∈ ld gl h,∀ y t,h[n]? ≠ some (.one y t):=fun n hn y t e=>by
    obtain ⟨i,hi⟩:=List.mem_iff_getElem?.1 hn
    obtain ⟨q1,g,t',a,x,q2⟩:=Yel (jE.1 hi).1
    rw [q1] at hi
    cases hi
    rw [q2] at e
    cases e
   obtain ⟨hlen,hget⟩:=lent_get hpre hrows hsls
   generalize hh':h1++h2=h' at hr hlen hget
   generalize hidsE:ld gl h++Uaj args++Ua2 h (Uaj args)=ids at hlen hget hok
   have hsub:∀ (k n:Nat),(ld gl h++Uaj args)[k]? = some n→ids[k]? = some n:=fun k n hk=>by
    rw [← hidsE,jK (jE.1 hk).1];exact hk
   have hgl:∀ n,n<(ld gl h).length→h'[n]? = h[n]? := fun n hn=>by
    obtain ⟨h1,g,t,a,x,h2⟩:=Yel hn
    obtain ⟨b,b',h3,h4,h5⟩:=hget n n (hsub n n (by rw [jK hn];exact h1))
    rw [h2] at h3;cases h3
    cases h5
    rw [h4,h2]
   have hgl':∀ n,n<(ld gl h).length→h[n]? = h'[n]? := fun n hn=>(hgl n hn).symm
   have hA':=Zn9 (P:=P) (h':=h') (ρ:=ρ) hgl hget args vals (ld gl h) hok.1 hsub hA
   have idx0:∀ {k:Nat} {b:VB},h'[k]? = some b→∃ n b0,ids[k]? = some n∧h[n]? = some b0∧LB wr ids b0 b:=fun {k b} hb=>by
    have hk:k<ids.length:=by rw [← hlen];exact (jE.1 hb).1
    obtain ⟨bb,bb',h1,h2,h3⟩:=hget k _ (jF hk)
    rw [h2] at hb
    cases hb
    exact ⟨_,bb,jF hk,h1,h3⟩
   have idxS:∀ {k:Nat} {a:SlK} {len:Nat} {C:Array Value} {t:TypeId},h'[k]? = some (.sl a len C t)→∃ n a0,ids[k]? = some n∧h[n]? = some (.sl a0 len C t)∧a=lend wr a0:=fun {k a len C t} hb=>by
    obtain ⟨n,b0,h1,h2,h3⟩:=idx0 hb
    cases h3
    exact ⟨n,_,h1,h2,rfl⟩
   have hno:NoOwn h':=fun k len C e hk=>by
    obtain ⟨n,a0,_,_,h3⟩:=idxS hk
    exact lend_own h3.symm
   have hH':HIs P (fun k=>ρ (ids.getD k 0)) h' w:=by
    have out:∀ {k:Nat},present h' k→∃ n,ids[k]? = some n∧present h n:=fun {k} hp=>by
     cases hp with
     | row e=>obtain ⟨n,b0,h1,h2,h3⟩:=idx0 e;cases h3;exact ⟨n,h1,.row h2⟩
     | one e=>obtain ⟨n,b0,h1,h2,h3⟩:=idx0 e;cases h3<;>exact ⟨n,h1,.one h2⟩
     | own e hk h0=>obtain ⟨n,a0,h1,h2,h3⟩:=idxS e;exact ⟨n,h1,.own h2 (by rw [← Zul,← h3];exact hk) h0⟩
    refine ⟨fun k b hb=> ?_,fun k q hp hq e=> ?_,fun k b x h1 h2 m hp=> ?_⟩
    ·obtain ⟨n,b0,q1,q2,q3⟩:=idx0 hb
     have hB:=hH.is n _ q2
     cases q3 with
     | row C t=>simp only [Zg6 q1];exact hB
     | gl g t a x=>exact hB
     | sl a len C t=>
      simp only [Zg6 q1]
      exact ⟨by rw [Zt5];exact hB.1,fun h=>hB.2 (Zzl h)⟩
     | oneR D t' t hren=>
      simp only [Zg6 q1]
      obtain ⟨v,⟨D',rfl,hW,hR⟩,hg⟩:=hB
      exact ⟨_,⟨D',rfl,hW,hR.lent hget hren⟩,hg⟩
     | oneL t hk=>
      simp only [Zg6 q1]
      obtain ⟨v,hv,hg⟩:=hB
      exact ⟨v,Zxe (P:=P) hget hk hv,hg⟩
     | oneV y t=>
      simp only [Zg6 q1]
      obtain ⟨v,hv,hg⟩:=hB
      exact ⟨v,hv,hg⟩
    ·obtain ⟨n,h1,h2⟩:=out hp
     obtain ⟨m,h3,h4⟩:=out hq
     simp only [Zg6 h1,Zg6 h3] at e
     have:=hH.inj n m h2 h4 e
     subst this
     exact Zwj hok.2 k q n h1 h3
    ·obtain ⟨n,b0,h3,h4,h5⟩:=idx0 h1
     obtain ⟨m',h6,h7⟩:=out hp
     simp only [Zg6 h6]
     refine hH.far n b0 x h4 ?_ m' h7
     cases h5 with
     | sl a len C e=>exact Yeg (b:=.sl a len C e) h2
     | gl g t a x=>exact h2
     | _=>exact h2.elim
   split at hr
   ·rename_i r' g hGr
    cases hd:Ufe (ld gl h).length r' with
    | false=>
     rw [hd] at hr
     simp only [Q2] at hr
     split at hr
     ·rename_i r2 hm
      simp only [Q8,Q0] at hr
      obtain ⟨rfl,rfl,rfl⟩:=hr
      have hm':mapV (ld gl h).length ids r'=some r2:=Yek hsub hm
      refine (hG _ h' w _ vals _ _ hno hGr hA' hH').mono ?_
      rintro v w' ⟨hi,hk⟩
      exact ⟨mapV_is hgl' hget hm' hi,hk⟩
     ·cases hr
    | true=>
     rw [hd] at hr
     simp only [Q1,Q8,Q0] at hr
     obtain ⟨rfl,rfl,rfl⟩:=hr
     refine (hG _ h' w _ vals _ _ hno hGr hA' hH').mono ?_
     rintro v w' ⟨hi,hk⟩
     exact ⟨Zx6 hgl' hd hi,hk⟩
   ·rename_i r' m b g hGr
    cases hd:Ufe (ld gl h).length r' with
    | false=>rw [hd] at hr;cases hr
    | true=>
    rw [hd,Q1] at hr
    split at hr
    ·rename_i q hq
     have hq:=hsub _ _ hq
     split at hr
     ·rename_i b' hb'
      simp only [Q8,Q0] at hr
      obtain ⟨rfl,rfl,rfl⟩:=hr
      refine (hG _ h' w _ vals _ _ hno hGr hA' hH').mono ?_
      rintro v w' ⟨hv,hkp,hk,hB⟩
      simp only [Zg6 hq] at hk hB
      rcases hkp with ⟨C,t,D,hrow,rfl⟩ | ⟨k,len,C,t,D,hmk,hrow,rfl,h0⟩ | ⟨y,t,y',hrow,rfl⟩
      ·obtain ⟨n,b0,h1,h2,h3⟩:=idx0 hrow
       cases h3
       rw [hq] at h1
       cases h1
       rw [h2] at hb'
       cases hb'
       exact ⟨Zx6 hgl' hd hv,.inl ⟨_,_,_,h2,rfl⟩,hk,hB⟩
      ·obtain ⟨n,a0,h1,h2,h3⟩:=idxS hrow
       rw [hq] at h1
       cases h1
       rw [h2] at hb'
       cases hb'
       subst h3
       exact ⟨Zx6 hgl' hd hv,.inr (.inl ⟨_,_,_,_,_,Zzl hmk,h2,rfl,h0⟩),hk,⟨by rw [← Zt5 wr];exact hB.1,fun _ hl=>hB.2 hmk hl⟩⟩
      ·exfalso
       cases hq2:h[q]? with
       | none=>rw [hq2] at hb';cases hb'
       | some b0=>rw [hq2] at hb';cases b0<;>cases hb'
     ·cases hr
    ·cases hr
   ·rename_i len C e g hGr
    simp only [Q8,Q0] at hr
    obtain ⟨rfl,rfl,rfl⟩:=hr
    refine (hG _ h' w _ vals _ _ hno hGr hA' hH').mono ?_
    rintro v w' hE
    exact hE
   ·rename_i v0 i len C e g hGr
    cases hbig:Nat.ble 1000000 i with
    | true=>
     rw [hbig] at hr
     simp only [Q1] at hr
     cases hd:Ub3 (ld gl h).length v0 with
     | false=>rw [hd] at hr;cases hr
     | true=>
      rw [hd] at hr
      simp only [Q1,Q8,Q0] at hr
      obtain ⟨rfl,rfl,rfl⟩:=hr
      refine (hG _ h' w _ vals _ _ hno hGr hA' hH').mono ?_
      rintro v w' ⟨g,ad,cap,hN,hE⟩
      refine ⟨g,ad,cap, ?_,hE⟩
      simp only [Udq,hbig,Q1] at hN⊢
      intro ρ3 h3 id hle3 hren3 hsl3 hid3
      obtain ⟨a3,l3,C3,e3,hb3⟩:=Ztz hsl3
      have hlast:(h'++[VB.sl a3 l3 C3 e3])[h'.length]? = some (.sl a3 l3 C3 e3):=by simp
      refine hole_isV (id2:=h'.length) (ρ2:=fun k=>if k=h'.length then ρ3 id else ρ (ids.getD k 0)) (h2:=h'++[.sl a3 l3 C3 e3]) (fun n hn=> ?_) (fun v hv=> ?_) hd (hN _ _ h'.length (fun n=> ?_) (fun n hp=>if_neg (fun e=> ?_)) (by unfold Ua1;rw [hlast]) ?_)
      ·have hn':n<h'.length:=by rw [hlen,← hidsE];simp;omega
       rw [jK hn',hgl n hn]
       obtain ⟨h1,g',t,a,x,h2⟩:=Yel hn
       rw [h2]
       exact (hle3 n).gl _ _ _ _ h2
      ·rcases hv with hv | ⟨a,l,C',e',ad',cap',q1,q2,q3,q4⟩
       ·rw [hlast] at hv;cases hv
       ·rw [hlast] at q1
        cases q1
        simp only [adOf,if_true] at q3 q4
        exact .inr ⟨_,_,_,_,ad',cap',hb3,q2,q3,q4⟩
      ·by_cases hn:n<h'.length
       ·exact .same (jK hn)
       ·refine ⟨fun C t k=> ?_,fun y t k=> ?_,fun _ _ C _ k=> ?_,fun k=> ?_,fun _ _ _ _ k=> ?_⟩<;>(rw [List.getElem?_eq_none (by omega)] at k;cases k)
      ·have:=Zn6 hp
       omega
      ·rcases hid3 with hv | ⟨a,l,C',e',ad',cap',q1,q2,q3,q4⟩
       ·rw [hb3] at hv;cases hv
       ·rw [hb3] at q1
        cases q1
        exact .inr ⟨_,_,_,_,ad',cap',hlast,q2,by simpa only [adOf,if_true] using q3,by simpa only [if_true] using q4⟩
    | false=>
    rw [hbig] at hr
    simp only [Q2] at hr
    split at hr
    ·rename_i l
     cases hd:l.all (Uf1 (ld gl h).length) with
     | false=>rw [hd] at hr;cases hr
     | true=>
      rw [hd] at hr
      simp only [Q1,Q8,Q0] at hr
      obtain ⟨rfl,rfl,rfl⟩:=hr
      refine (hG _ h' w _ vals _ _ hno hGr hA' hH').mono ?_
      rintro v w' ⟨g,ad,cap,hN,hE⟩
      simp only [Udq,hbig,Q2] at hN
      obtain ⟨l',vs,he,hvv,hA2,hi⟩:=hN
      cases he
      rw [jG] at hd
      refine ⟨g,ad,cap, ?_,hE⟩
      simp only [Udq,hbig,Q2]
      exact ⟨l,vs,rfl,hvv,⟨hA2.1,fun k y u hy hu=>Ybx hgl' (hd y (jM hy)) (hA2.2 k y u hy hu)⟩,hi⟩
    ·cases hr
   ·cases hr
   ·cases hr
  ·cases hr
theorem conL_okX {wr:Bool} {f:FuncId} {G:Con} (hG:Uab mn P f G):Ua4 mn P f (conL wr G):=Zxs hG
theorem Ydu {gl wr:Bool} {f:FuncId} {S:SCon} (hS:Uab mn P f (fun args h=>Uae (S args h))):Ua4 mn P f (fun args h=>Uae (conSX gl wr S args h)):=by
 have e:(fun args h=>Uae (conSX gl wr S args h))=conX gl wr (fun args h=>Uae (S args h)):=by
  funext args h
  unfold conSX conX
  cases Uci (ld gl h).length args&&Ubo (ld gl h++Uaj args++Ua2 h (Uaj args)) with
  | false=>rfl
  | true=>
   simp only [Q1]
   split
   ·rw [Zso]
   ·rfl
 rw [e]
 exact Zxs hS
theorem Zz3 {wr:Bool} {f:FuncId} {S:SCon} (hS:Uab mn P f (fun args h=>Uae (S args h))):Ua4 mn P f (fun args h=>Uae (conSL wr S args h)):=Ydu hS
theorem Zt0 {f:FuncId} {G:Con} (hG:Uab mn P f G):Ua4 mn P f (conG G):=Zxs hG
theorem Zxk {f:FuncId} {S:SCon} (hS:Uab mn P f (fun args h=>Uae (S args h))):Ua4 mn P f (fun args h=>Uae (conS S args h)):=Zz3 hS
theorem Zut {f:FuncId} {S:SCon} (hS:Uab mn P f (fun args h=>Uae (S args h))):Ua4 mn P f (fun args h=>Uae (conSW S args h)):=Zz3 hS
theorem Zam {f:FuncId} {G:Con} (hG:Uab mn P f G):Ua4 mn P f (con G):=conL_okX hG
theorem Uab.nil {f:FuncId} {G:Con} (hG:Uab mn P f G) (i:Nat) (e:TypeId):Uab mn P f (fun args h=>nilN i e (G args h)):=by
 intro ρ h w args vals r ef hn hr hA hH
 dsimp only at hr
 cases hg:G args h with
 | none=>rw [hg] at hr;cases hr
 | some q=>
  obtain ⟨v,ef',g⟩:=q
  rw [hg] at hr
  unfold nilN at hr
  split at hr
  ·rename_i l g' heq
   cases heq
   split at hr
   ·rename_i hl
    cases hbig:Nat.ble 1000000 i with
    | true=>rw [hbig] at hr;cases hr
    | false=>
    rw [hbig] at hr
    simp only [Q2,Q8,Q0] at hr
    obtain ⟨rfl,rfl,rfl⟩:=hr
    refine (hG ρ h w args vals _ _ hn hg hA hH).mono ?_
    rintro vv w' ⟨⟨vs,rfl,hall⟩,hk⟩
    have hlt:i<l.length:=(jE.1 hl).1
    have hvi:=hall.2 i _ _ hl (jF (show i<vs.length by rw [← hall.1];exact hlt))
    refine ⟨⟨0,0⟩,none,0,by simp only [Udq,hbig,Q2];exact ⟨_,vs,rfl,rfl,⟨by rw [List.length_set];exact hall.1,fun j y u hy hu=>nil_all hall j y u hy hu⟩,nil_get hall hl hvi⟩,⟨fun _=>rfl,fun h0=>absurd rfl h0⟩,fun h0=>absurd rfl h0,hk,Zxx⟩
   ·simp only [Q8,Q0] at hr
    obtain ⟨rfl,rfl,rfl⟩:=hr
    exact hG ρ h w args vals _ _ hn hg hA hH
  ·rename_i g' heq
   cases heq
   simp only [Q8,Q0] at hr
   obtain ⟨rfl,rfl,rfl⟩:=hr
   refine (hG ρ h w args vals _ _ hn hg hA hH).mono ?_
   rintro vv w' ⟨hv,hk⟩
   exact ⟨⟨0,0⟩,none,0,hv,⟨fun _=>rfl,fun h0=>absurd rfl h0⟩,fun h0=>absurd rfl h0,hk,Zxx⟩
  ·cases hr
   exact hG ρ h w args vals _ _ hn hg hA hH
def nilR (o:Nat) (e:TypeId):Option (SV×Eff×Bool)→Option (SV×Eff×Bool)
 | some (.t [.r D T [],.i k n],.none,g)=>(match D[o]? with
  | some (.slice none 0 0)=>some (.t [.r D T [(o,HOLE)],.i k n],.newS (some 1000000) 0 #[] e,g)
  | _=>none)
 | r=>r
theorem Uab.nilR {f:FuncId} {G:Con} (hG:Uab mn P f G) (o:Nat) (e:TypeId):Uab mn P f (fun args h=>nilR o e (G args h)):=by
 intro ρ h w args vals r ef hn hr hA hH
 dsimp only at hr
 unfold Vc.nilR at hr
 split at hr
 ·rename_i D T k n g heq
  split at hr
  ·rename_i hD
   simp only [Q8,Q0] at hr
   obtain ⟨rfl,rfl,rfl⟩:=hr
   refine (hG ρ h w args vals _ _ hn heq hA hH).mono ?_
   rintro vv w' ⟨⟨vs,rfl,hall⟩,hk⟩
   refine ⟨⟨0,0⟩,none,0, ?_,⟨fun _=>rfl,fun h0=>absurd rfl h0⟩,fun h0=>absurd rfl h0,hk,Zxx⟩
   show ∀ ρ' h' id,HLe h h'→(∀ n,present h n→ρ' n=ρ n)→Ua1 h' id=true→IsL P ρ' h' id (.slice none 0 0)→IsV P ρ' h' (Ufl id (.t [.r D T [(o,HOLE)],.i k n])) (.tuple vs.toArray)
   intro ρ' h' id _ _ _ hL
   refine ⟨vs,rfl,hall.1,fun i y v hy hv=> ?_⟩
   match i,hy with
   | 0,hy=>
    cases hy
    obtain ⟨D',rfl,hw,hR⟩:=hall.2 0 _ v rfl hv
    refine ⟨D',rfl,hw,hR.size,fun j _=>hR.same j rfl,fun j m hj=> ?_,by simp⟩
    have hj:(bif jA o j then some (Ubz id HOLE) else none)=some m:=hj
    cases hb:jA o j with
    | false=>rw [hb] at hj;cases hj
    | true=>
     rw [hb,Q1] at hj
     have hm:id=m:=Q5 (show some id=some m from hj)
     subst hm
     have ho:=jD hb
     subst ho
     exact ⟨hD,none,0,0,(hR.same o rfl).trans hD,hL⟩
   | 1,hy=>
    cases hy
    exact hall.2 1 _ v rfl hv
   | _+2,hy=>cases hy
  ·cases hr
 ·exact hG ρ h w args vals _ _ hn hr hA hH
end
end Go.Proofs.YtdhckffhnkeogaaDoor.Vc
/- A worker whose function is one region that ends in a send: (1) the orders of a region whose last operation waits for all; (2) from the go statement to the send, and behind it. No program is named. -/
namespace Go.Proofs.YtdhckffhnkeogaaDoor.Vc
open Go.RowKit Go.Conc Go.Proofs.YtdhckffhnkeogaaDoor.Ve
variable {mn:Md}
end Go.Proofs.YtdhckffhnkeogaaDoor.Vc
/- Yields, in company; operations one by one. No program is named. -/
namespace Go.Proofs.YtdhckffhnkeogaaDoor.Vc
open Go.RowKit Go.Conc Go.Proofs.YtdhckffhnkeogaaDoor.Ve
variable {mn:Md}
theorem Yes {P:Program} {o:Oper} {a:Act} {v:World} {K:Act→World→Prop} {c:Call} {y:Operand} {l:Nat} {R:Value→World→Prop} (ho:o.op = .call c) (hc:c.callee = .value y) (hy:a.eval y = .func (.yield l) #[] #[])
  (h:YieldX mn P l (c.args.map a.eval) v R) (hK:∀ r v',R r v'→K (a.put o.dst r) v'):OpX mn P o a v K:=by
 have hns:∀ c,o.op ≠ .defer c:=fun c hc=>by rw [ho] at hc;cases hc
 have hx:execOp a.eval o=Instr.yield l (c.args.map a.eval):=by
  unfold execOp
  rw [ho]
  simp only [resolve,hc,hy,Deferred.ofValue]
  show Instr.yield l _=_
  congr 1
  rw [← Array.toList_inj]
  simp
 refine ⟨hns,fun v₁ h₁=> ?_⟩
 obtain ⟨f,tmps,assign,body,ht,hr⟩:=h v₁ h₁
 exact .inr (.inr (.inr ⟨l,f,tmps,assign,body,v₁,by rw [hx];exact ht,hr.mono fun r v' hR=>hK r v' hR⟩))
theorem Zy1 {P:Program} {ops:Array Oper} {K:Act→World→Prop} {i:Nat} {rest:List Nat} {a:Act} {v:World} {o:Oper} (ho:ops[i]? = some o) (hg:o.guard=none) (h:OpX mn P o a v (OpsX mn P ops K rest)):OpsX mn P ops K (i::rest) a v:=by
 unfold OpsX OpIX
 rw [ho]
 dsimp only
 rw [if_pos (by unfold Region.wanted;rw [hg])]
 exact h
section
variable {P:Program} {o:Oper} {a:Act} {v:World} {K:Act→World→Prop}
theorem Ydw {f:FuncId} {args:Array Value} {c:Call} {y:Operand} {R:Value→World→Prop} (ho:o.op = .call c) (hc:c.callee = .value y) (hy:a.eval y = .func (.func f) #[] #[]) (he:EntX P f) (hargs:c.args.map a.eval=args)
  (h:∀ v₁,Ge v v₁→Ua6 mn P f args v₁ R) (hK:∀ r v',R r v'→K (a.put o.dst r) v'):OpX mn P o a v K:=by
 have hx:execOp a.eval o=callFunc f args:=by
  subst hargs
  unfold execOp
  rw [ho]
  simp only [resolve,hc,hy,Deferred.ofValue]
  show callFunc f _=_
  congr 1
  rw [← Array.toList_inj]
  simp
 exact ⟨(fun c' hc'=>by rw [ho] at hc';cases hc'),fun v₁ h₁=>.inr (.inr (.inl ⟨f,args,v₁,by rw [hx];exact (he.2 _).tr (he.1 _ v₁),(h v₁ h₁).mono hK⟩))⟩
end
end Go.Proofs.YtdhckffhnkeogaaDoor.Vc
