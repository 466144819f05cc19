/- Operations of the symbolic run, in company. No program is named. -/
import Derived.Test.YtefjogahegolbaaGreatDoorVcA
set_option linter.unusedVariables false
set_option linter.unusedSimpArgs false
open _root_.List renaming replicate->jE,getElem?_eq_some_iff->jH
open _root_.Array renaming getElem?_eq_getElem->jB,getD_eq_getD_getElem?->jC,toList_inj->jF,getElem?_eq_some_iff->jG,getElem?_setIfInBounds_ne->jI
open _root_.Nat renaming zero_add->jA,le_refl->jD
open _root_.Go renaming World->QB,Value->QC,Program->QD,TypeId->QE,FuncId->QF,Operand->QH,execOp->QI,Oper->QN,Code->QOq,Sem->QQ,callFunc->QS
namespace Go.Proofs.YtefjogahegolbaaGreatDoor.Vc
open Go.RowKit Go.Conc Go.Proofs.YtefjogahegolbaaGreatDoor.Ve
section
variable {mn:Md}
theorem Ge.kept{v v':QB}(h:Ge v v')(E:Nat->Prop):Kept E v v':=.of_below h
theorem HIs.ge{P:QD}{ρ:Nat->Ad}{h:List VB}{v v':QB}(A:HIs P ρ h v)(J:Ge v v'):HIs P ρ h v':=
 ⟨λn b L=>BIs.kept A L (J.kept λ_=>False) (λ_=>not_false) λ_ _=>not_false,A.inj,A.far⟩
theorem RS.ge{P:QD}{W0:QB}{n0:Nat}{D E:List Nat}{ρ0 ρ:Nat->Ad}{st:St}{a:Act}{v v':QB}(A:RS E P W0 n0 D ρ0 ρ st a v)(J:Ge v v'):RS E P W0 n0 D ρ0 ρ st a v':=A.world (J.kept _)
section
variable {P:QD}
def Uad(mn:Md)(P:QD)(f:QF)(F:af):Prop:=
 ∀ρ h v args vals r ef,eD h->F args h=some (r,ef,true)->Uap P ρ h args vals->HIs P ρ h v->Ua6 mn P f vals.toArray v λvv v'=>Ua4 P ρ h v r ef vv v'
def cI(mn:Md)(P:QD)(f:QF)(F:af):Prop:=
 ∀ρ h v args vals r ef,F args h=some (r,ef,true)->Uap P ρ h args vals->HIs P ρ h v->Ua6 mn P f vals.toArray v λvv v'=>Ua4 P ρ h v r ef vv v'
def Uft(mn:Md)(P:QD)(nm:String)(F:af):Prop:=
 ∀ρ h v z args vals r ef,F (.v z::args) h=some (r,ef,true)->Uap P ρ h args vals->HIs P ρ h v ->
  ∃f vals',Tr P (callMethod z nm vals.toArray) v (.enter f vals') v/\Ua6 mn P f vals' v λvv v'=>Ua4 P ρ h v r ef vv v'
def Uby(mn:Md)(P:QD)(f:QF)(G:bB):Prop:=
 ∀ ρ h v args vals c,G args=some c→Uap P ρ h args vals→HIs P ρ h v →
  Ua6 mn P f vals.toArray v λvv v'=>∃gs:List Nat,vv=.func (.func c.f) #[] (gs.map λg=>Value.pointer (some ⟨g,0,none⟩)).toArray/\gs.length=c.rows.length/\gs.Nodup /\
   (∀(j g:Nat) (r:QA×QE),gs[j]?=some g->c.rows[j]?=some r->v.heap.size<=g/\v'.heap[g]?=some (.cells r.1 r.2 (0,0))/\WT P r.2 r.1)/\Kept (λ_=>False) v v'
def EntX(P:QD)(f:QF):Prop:=(∀args w,(QS f args).run P w=.ok (.enter f args) w)/\∀args,Simple P (QS f args)
theorem Zaj {f : QF} {fn : Func} (hf : P.funcs[f]? = some fn := by kernel_rfl) (hn : (fn.name == "runtime.NumGoroutine") = false := by kernel_rfl) (hb : fn.body.isNone = false := by kernel_rfl) : EntX P f := by
 have hs:∀args,Simple P (QS f args):=λargs=>by
  unfold QS;refine kI ?_;rw[hf];dsimp only;rw[hn,hb];exact .pure _
 refine⟨λargs w=> ?_,hs⟩;unfold QS
 show (match P.funcs[f]? with|none=>_|some fn=>_:QQ Next).run P w=_
 rw[hf];dsimp only;rw[hn,hb];rfl
theorem Jp(v:QC):Simple P (Builtin.lenOf v):=by unfold Builtin.lenOf;split<;>first|exact .pure _|exact .halt _
theorem Jq(s n:Nat)(v:QC):Simple P (Builtin.firstCells s n v):=by unfold Builtin.firstCells;split<;>first|exact Zk4 _ _ _ _|exact .pure _|exact .halt _
theorem Ynx{α β:Type}{s:QQ α}{f:α->QQ β}(h:∀a,∀(v:QB) (r:β) (v':QB),(f a).run P v ≠ .ok r v'):∀(v:QB) (r:β) (v':QB),(s >>= f).run P v ≠ .ok r v':=λv r v' e=>by
 rw[Sem.run_bind]at e;cases A:s.run P v with|ok a w=>rw[A]at e;exact h a w r v' e|halt hh w=>rw[A]at e;cases e
theorem Zs7{α:Type}(u:Unsupported):∀(v:QB) (r:α) (v':QB),(unsupported u:QQ α).run P v ≠ .ok r v':=λv r v' e=>by cases e
theorem Jr{α:Type}{c:Prop}[Decidable c]{s t:QQ α}(A:c->Simple P s)(h2:¬c->Simple P t):Simple P (if c then s else t):=by
 by_cases h:c
 ·rw[if_pos h];exact A h
 ·rw[if_neg h];exact h2 h
theorem Js{α:Type}{c:Prop}[Decidable c]{s t:QQ α}(A:∀(v:QB) (r:α) (v':QB),s.run P v ≠ .ok r v')(h2:∀(v:QB) (r:α) (v':QB),t.run P v ≠ .ok r v'):∀(v:QB) (r:α) (v':QB),(if c then s else t).run P v ≠ .ok r v':=by
 by_cases h:c
 ·rw[if_pos h];exact A
 ·rw[if_neg h];exact h2
theorem Ypo(Ts:Array QE)(ty:QE)(args:QA):Simple P (Builtin.append_ Ts ty args):=by
 unfold Builtin.append_;dsimp only
 repeat' (first
  |with_reducible exact Simple.pure' _
  |with_reducible exact yr _
  |with_reducible exact Zbh _
  |with_reducible exact Zdl _
  |with_reducible exact Zeh _
  |with_reducible exact Zd2 _
  |with_reducible exact nn _ _
  |with_reducible exact nr _
  |with_reducible exact Jp _
  |with_reducible exact Jq _ _ _
  |with_reducible exact pu _ _ _
  |with_reducible exact pw _
  |with_reducible exact Zmq _
  |with_reducible exact ec _
  |with_reducible exact Simple.never (Builtin.mayShare _ _ _ _ _ >>= _) (Ynx λ_=>Js (Ynx λ_=>Zs7 _) (Zs7 _))
  |with_reducible refine .bind ?_ λ_=> ?_
  |with_reducible refine Jr (λ_=> ?_) λ_=> ?_
  |split
  |dsimp only)
theorem nu{s:QQ QC}{v v':QB}{r:Next}(h:(s >>= λx=>(Pure.pure (Next.value x):QQ Next)).run P v=.ok r v'):∃vv,r=.value vv:=by
 rw[Sem.run_bind]at h;cases A:s.run P v with
 |ok a w=>rw[A]at h;cases h;exact⟨a,rfl⟩
 |halt hh w=>rw[A]at h;cases h
theorem res_u{s:QQ Unit}{v v':QB}{r:Next}(h:(s >>= λ_=>(Pure.pure Next.skip:QQ Next)).run P v=.ok r v'):r=.skip:=by
 rw[Sem.run_bind]at h;cases A:s.run P v with
 |ok a w=>rw[A]at h;cases h;rfl
 |halt hh w=>rw[A]at h;cases h
theorem lJ{o:QN}{a:Act}{v:QB}{K:Act->QB->Prop}(O:∀c,o.op ≠ .defer c)(U:Simple P (QI a.eval o))
  (J:∀(v:QB) (r:Next) (v':QB),(QI a.eval o).run P v=.ok r v'->(∃vv,r=.value vv)\/r=.skip) (h:∀v₁,Ge v v₁->o.wpIn Fence.wide 0 P a v₁ K λ_ _ _=>False):OpX mn P o a v K:=by
 refine⟨O,λv₁ h₁=> ?_⟩;obtain⟨-,A⟩:=h v₁ h₁;change o.uponIn Fence.wide 0 P a K (λ_ _ _=>False) ((QI a.eval o).run P v₁) at A;cases L:(QI a.eval o).run P v₁ with
 |ok r v'=>
  rw[L]at A;rcases J v₁ r v' L with ⟨vv,rfl⟩|rfl
  ·exact .inl ⟨vv,v',U.tr L,A⟩
  ·exact .inr (.inl ⟨v',U.tr L,A⟩)
 |halt hh v'=>rw[L]at A;cases hh<;>exact A.elim
def bareΓ(Γ:Cons):Cons:={ c:=λ_=>none,n:=λ_=>none,i:=λ_=>none,e:=Γ.e,s:=λ_=>none,m:=λ_=>none }
theorem bareΓ_ok{Γ:Cons}(A:∀a b,Γ.e a b=true ↔ a=b):ConsOk P (bareΓ Γ):=⟨A,λ_ _ h=>(by cases h),λ_ _ h=>(by cases h),λ_ _ h=>(by cases h),λ_ _ h=>(by cases h),λ_ _ h=>(by cases h)⟩
theorem kJ:FenceOk P Fence.wide:=⟨λ_=>trivial,rfl,λn f args w R h=>callsIn_wide.2 h⟩
section
variable {Γ:Cons} {o:QN} {a:Act} {v:QB} {ρ:Nat->Ad} {h:List VB} {ev:QH->SV} {K:Act->QB->Prop} {sv:SV} {e:Eff}
theorem Jt(J:∀c y,o.op=.call c->c.callee ≠ .value y)(hi:∀c y nm,o.op=.call c->c.callee ≠ .invoke y nm):aH P Γ ev h o=aH P (bareΓ Γ) ev h o:=by
 unfold aH;cases ho:o.op with
 |call c=>dsimp only;cases A:c.callee with|value y=>exact absurd A (J c y ho)|invoke y nm=>exact absurd A (hi c y nm ho)|_=>rfl
 |_=>rfl
theorem Ydg(x:QC)(xT t:QE)(ok:Bool):Simple P (Instr.typeAssert x xT t ok):=by
 unfold Instr.typeAssert;refine .bind (Zbh t) λ_=> ?_
 repeat' (first|exact Zd2 _|exact ec _|exact Zdl _|exact .pure _|exact .halt _|split | (refine .bind ?_ λ_=> ?_))
theorem gA (he : ∀ a b, Γ.e a b = true ↔ a = b) (hcl : ∀ c y, o.op = .call c → c.callee ≠ .value y) (hin : ∀ c y nm, o.op = .call c → c.callee ≠ .invoke y nm) (hev : ∀ x, IsV P ρ h (ev x) (a.eval x)) (hH : HIs P ρ h v) (hr : aH P Γ ev h o = some (sv, e, true))
    (hK:∀v₁,Ge v v₁->Post P ρ h v₁ a o K sv e):OpX mn P o a v K:=by
  rw[Jt hcl hin]at hr;have lone:∀v₁,Ge v v₁->o.wpIn Fence.wide 0 P a v₁ K λ_ _ _=>False:=λv₁ h₁=>KN kJ (bareΓ_ok he) hev (HIs.ge hH h₁) hr (hK v₁ h₁)
  have pv:∀{s:QQ QC},QI a.eval o=(s >>= λx=>(Pure.pure (Next.value x):QQ Next))->Simple P s->(∀c,o.op ≠ .defer c)->OpX mn P o a v K:=λ{s} hx hs hns =>
    lJ hns (by rw[hx]; exact .bind hs λ_ => .pure _) (λv r v' hv => .inl (by rw[hx]at hv; exact nu hv)) lone
  cases ho:o.op with
  |move y=>exact lJ (λc hc=>by rw[ho]at hc; cases hc) (by unfold QI; rw[ho]; exact .pure _) (λv r v' hv=>by unfold QI at hv; rw[ho]at hv; cases hv; exact .inl ⟨_,rfl⟩) lone
  |assign y=>exact lJ (λc hc=>by rw[ho]at hc; cases hc) (by unfold QI; rw[ho]; exact .pure _) (λv r v' hv=>by unfold QI at hv; rw[ho]at hv; cases hv; exact .inl ⟨_,rfl⟩) lone
  | pick c y z =>
    have hx:QI a.eval o=asBool (a.eval c) >>= λt=>Pure.pure (Next.value (if t=true then a.eval y else a.eval z)):=by unfold QI; rw[ho]
    refine lJ (λc hc=>by rw[ho]at hc; cases hc) (by rw[hx]; exact .bind (Yox _) λ_ => .pure _) (λv r v' hv => ?_) lone;rw[hx,Sem.run_bind]at hv;cases hs:(asBool (a.eval c)).run P v with
    |ok t w=>rw[hs]at hv; cases hv; exact .inl ⟨_,rfl⟩
    |halt hh w=>rw[hs]at hv; cases hv
  |load T y=>exact pv (by unfold QI; rw[ho]) (Ydd _ _) (λc hc=>by rw[ho]at hc; cases hc)
  |store T y z=>exact lJ (λc hc=>by rw[ho]at hc; cases hc) (by unfold QI; rw[ho]; exact .bind (Ymm _ _ _) λ_ => .pure _) (λv r v' hv=>by unfold QI at hv; rw[ho]at hv; exact .inr (res_u hv)) lone
  |alloc T=>exact pv (by unfold QI; rw[ho]) (Yqi _) (λc hc=>by rw[ho]at hc; cases hc)
  |box T y=>exact pv (by unfold QI; rw[ho]) (Ynm _ _) (λc hc=>by rw[ho]at hc; cases hc)
  |makeSlice T y z=>exact pv (by unfold QI; rw[ho]) (Yhw _ _ _) (λc hc=>by rw[ho]at hc; cases hc)
  |buildSlice T n parts=>exact pv (by unfold QI; rw[ho]) (Yfb _ _ _) (λc hc=>by rw[ho]at hc; cases hc)
  | fieldAddr T y f =>
    unfold aH at hr;rw[ho]at hr;dsimp only at hr;split at hr
    · rename_i q e' hf;obtain⟨fs,fd,hu,hfd,rfl,rfl,hs,h0,hz⟩:=lX hf;have hzi:=bW hz;have hzl:=Zd9 (P:=P) fd.type;cases hq:P.info? fd.type with
      |none=>simp[hq]at hzi
      | some i =>
        have:i.size=(zc P fd.type).size:=by simpa [hq] using hzi
        exact pv (by unfold QI; rw[ho]) (Ymq _ hu hfd hq (by omega)) (λc hc=>by rw[ho]at hc; cases hc)
    . cases hr
  |field T y f=>exact pv (by unfold QI; rw[ho]) (Yqc _ _ _) (λc hc=>by rw[ho]at hc; cases hc)
  |indexAddr T y z=>exact pv (by unfold QI; rw[ho]) (Ymu _ _ _) (λc hc=>by rw[ho]at hc; cases hc)
  |index T y z=>exact pv (by unfold QI; rw[ho]) (Yqe _ _ _) (λc hc=>by rw[ho]at hc; cases hc)
  |extract y k=>exact pv (by unfold QI; rw[ho]) (Ymo _ _) (λc hc=>by rw[ho]at hc; cases hc)
  | nilCheck y =>
    have hy:=Zcl (hev y);have hptr:∃ad,a.eval y=.pointer (some ad):=by
      unfold aH at hr;rw[ho]at hr;dsimp only at hr;split at hr
      . rename_i n hm; rw[hm]at hy; exact⟨_,hy.1⟩
      . rename_i n q T hm; rw[hm]at hy; exact⟨_,hy.1⟩
      · rename_i n q T hm;rw[hm]at hy;cases hb:bK h n with
        |false=>rw[hb]at hr; cases hr
        |true=>obtain⟨_,_,_,_,_,_,_,_,_,_,h3,_⟩:=Is.q_of hy hb; exact⟨_,h3⟩
      . cases hr
    obtain⟨ad,hptr⟩:=hptr;have hx:QI a.eval o=Pure.pure (Next.value (.pointer (some ad))):=by unfold QI; rw[ho]; dsimp only; rw[hptr]
    exact lJ (λc hc=>by rw[ho]at hc; cases hc) (by rw[hx]; exact .pure _) (λv r v' hv=>by rw[hx]at hv; cases hv; exact .inl ⟨_,rfl⟩) lone
  | binOp op T y z T2 =>
    have hy:=Zcl (hev y);have hz:=Zcl (hev z);refine pv (by unfold QI; rw[ho]) ?_ (λc hc=>by rw[ho]at hc; cases hc);unfold aH at hr;rw[ho]at hr;dsimp only at hr;split at hr
    · rename_i r hb;unfold gP at hb;split at hb
      · rename_i k p k' q h1 h2;rw[h1]at hy; rw[h2]at hz;rw[hy.1,hz.1];exact .bind (Yc9 _ _ _ _ _ _ _ _) λ_=>Jm _ _ _ _ _ _
      · rename_i p q h1 h2;rw[h1]at hy; rw[h2]at hz;rw[show a.eval y=.string p from hy,show a.eval z=.string q from hz];exact .bind (Ybz _ _ _ _ _ _) λ_=>Jn _ _ _ _
      · rename_i p q h1 h2;rw[h1]at hy; rw[h2]at hz;rw[show a.eval y=.bool p from hy,show a.eval z=.bool q from hz];refine .bind (Yad _ _ _ _ _ _) λ_ => ?_
        cases hB:Ucv P T with
        |false=>rw[hB]at hb; split at hb<;>cases hb
        | true =>
          have hT:=Ygl hB;split at hb
          . exact .bind (Zsy hT _ _) λ_ => .pure _
          . exact .bind (Zsy hT _ _) λ_ => .pure _
          . cases hb
      . cases hb
    · split at hr
      · rename_i r hb;unfold gQ at hb;split at hb
        · rename_i C T1 D T2' h1 h2;rw[h1]at hy; rw[h2]at hz;obtain⟨hy,hC⟩:=hy;obtain⟨hz,hD⟩:=hz;rw[hy,hz];cases hok:isRow P T&&(eqT P 8 T&&(!P.eqGuardType P.depth T&&(leq (lay P T) (lay P T1)&&leq (lay P T) (lay P T2')))) with
          |false=>rw[hok]at hb; cases hb
          | true =>
            rw[hok]at hb;simp only[Q7,Bool.not_eq_true']at hok;obtain⟨hR,hq,hgt,hl1,hl2⟩:=hok;have hC':WT P T C:=⟨by rw[Zix hl1]; exact hC.1,hC.2⟩;have hD':WT P T D:=⟨by rw[Zix hl2]; exact hD.1,hD.2⟩;have hv:∀A,valP P T A=.agg A:=λA=>by unfold valP; rw[hR]; rfl
            have hsim:=Zr8 8 T hq 9992 C D hC' hD';rw[hv,hv]at hsim;have hsim:Simple P (Op.equal T (.agg C) (.agg D)):=hsim;have hg:Simple P (eqGuard op T y z (.agg C) (.agg D)):=by
              unfold eqGuard;cases op<;>first
           |exact .pure _
           | (dsimp only
              refine kI ?_;refine kI ?_;rw[hgt];exact .pure _)
            simp only[Q1]at hb;refine .bind hg λ_ => ?_
            split at hb
            . exact .bind hsim λ_ => .pure _
            . exact .bind hsim λ_ => .pure _
            . cases hb
        . cases hb
      · split at hr
        · rename_i r hb;unfold gU at hb;cases hT:cD P T with
          |false=>rw[hT]at hb; cases hb
          | true =>
            obtain⟨ms,hu⟩:=vI hT;rw[hT]at hb;simp only[Q1]at hb;have heq:∀(x z:QC),(x=.nilIface \/ ∃t u,x=.iface t u)->(z=.nilIface \/ ∃t u,z=.iface t u)->(x=.nilIface\/z=.nilIface)->Simple P (Op.equal T x z):=by intro x z hx hz hn;unfold Op.equal Op.maxDepth Op.equalIn;refine Zda hu ?_;rcases hx with rfl | ⟨t,u,rfl⟩<;>rcases hz with rfl | ⟨t',u',rfl⟩<;>first|exact .pure _ | (rcases hn with hn|hn<;>cases hn)
            have both:∀(x z:QC) (X Y:QH),(x=.nilIface \/ ∃t u,x=.iface t u)->(z=.nilIface \/ ∃t u,z=.iface t u)->(x=.nilIface\/z=.nilIface)->(Ua0 X||Ua0 Y)=true\/(∃t u,x=.iface t u)\/(∃t u,z=.iface t u) ->
           (op=.eql\/op=.neq)->Simple P (do eqGuard op T X Y x z; binOp op T x z:QQ QC):=by
              intro x z X Y hx hz hn hc hop;refine .bind ?_ λ_ => ?_
              · unfold eqGuard;rcases hop with rfl|rfl<;>rcases hx with rfl | ⟨t,u,rfl⟩<;>rcases hz with rfl | ⟨t',u',rfl⟩<;>first
                  |exact .pure _
                  | (dsimp only
                     rcases hc with hc | ⟨t,u,hc⟩ | ⟨t,u,hc⟩
                     . cases X<;>cases Y<;>first|exact .pure _ | (simp[Ua0]at hc)
                     . cases hc
                     . cases hc)
              . rcases hop with rfl|rfl<;>rcases hx with rfl | ⟨t,u,rfl⟩<;>rcases hz with rfl | ⟨t',u',rfl⟩<;>exact .bind (heq _ _ (by simp) (by simp) hn) λ_ => .pure _
            have hop:op=.eql\/op=.neq:=by
              split at hb
              · split at hb
                . exact .inl rfl
                . exact .inr rfl
                . cases hb
              . cases hb
            split at hb
            · rename_i b hE;unfold pM at hE;split at hE
              · rename_i h1 h2;rw[h1]at hy; rw[h2]at hz;rw[show a.eval y=.nilIface from hy,show a.eval z=.nilIface from hz];cases hcc:Ua0 y||Ua0 z with
                |false=>rw[hcc]at hE; cases hE
                |true=>exact both _ _ _ _ (.inl rfl) (.inl rfl) (.inl rfl) (.inl hcc) hop
              · rename_i n h1 h2;rw[h1]at hy; rw[h2]at hz;obtain⟨g,t,ad,x,-,hy⟩:=hy;rw[hy,show a.eval z=.nilIface from hz];exact both _ _ _ _ (.inr ⟨_,_,rfl⟩) (.inl rfl) (.inr rfl) (.inr (.inl ⟨_,_,rfl⟩)) hop
              · rename_i n h1 h2;rw[h1]at hy; rw[h2]at hz;obtain⟨g,t,ad,x,-,hz⟩:=hz;rw[hz,show a.eval y=.nilIface from hy];exact both _ _ _ _ (.inl rfl) (.inr ⟨_,_,rfl⟩) (.inl rfl) (.inr (.inr ⟨_,_,rfl⟩)) hop
              · rename_i h1 h2;rw[h1]at hy; rw[h2]at hz;rw[show a.eval y=_ from hy,show a.eval z=.nilIface from hz];exact both _ _ _ _ (.inr ⟨_,_,rfl⟩) (.inl rfl) (.inr rfl) (.inr (.inl ⟨_,_,rfl⟩)) hop
              · rename_i h1 h2;rw[h1]at hy; rw[h2]at hz;rw[show a.eval z=_ from hz,show a.eval y=.nilIface from hy];exact both _ _ _ _ (.inl rfl) (.inr ⟨_,_,rfl⟩) (.inl rfl) (.inr (.inr ⟨_,_,rfl⟩)) hop
              . cases hE
            . cases hb
        . cases hr
  |unOp op T y=>exact pv (by unfold QI; rw[ho]) (Yrv _ _) (λc hc=>by rw[ho]at hc; cases hc)
  | convert s d y =>
    have hy:=Zcl (hev y);refine pv (by unfold QI; rw[ho]) ?_ (λc hc=>by rw[ho]at hc; cases hc);unfold aH at hr;rw[ho]at hr;dsimp only at hr;split at hr
    · rename_i k k' n hd hm;rw[hm]at hy;rw[hy.1];cases h1:has1 P s with
      |false=>rw[h1]at hr; cases hr
      |true=>exact Jo h1 hd
    . cases hr
  | makeInterface T y =>
    have hy:=Zcl (hev y);refine pv (by unfold QI; rw[ho]) ?_ (λc hc=>by rw[ho]at hc; cases hc);unfold aH at hr;rw[ho]at hr;dsimp only at hr;split at hr
    · rename_i k' k n hd hm;unfold Instr.makeInterface;exact Zda hd (.pure _)
    · rename_i fs D T' hd hm;unfold Instr.makeInterface;exact Zda hd (.pure _)
    . cases hr
  |typeAssert y xT T ok=>exact pv (s:=Instr.typeAssert (a.eval y) xT T ok) (by unfold QI; rw[ho]) (Ydg _ _ _ _) (λc hc=>by rw[ho]at hc; cases hc)
  |build T parts=>exact pv (by unfold QI; rw[ho]) (Yro _ _) (λc hc=>by rw[ho]at hc; cases hc)
  |makeFunc fn first captured=>exact pv (s:=Instr.makeFunc fn (first.map a.eval) (captured.map a.eval)) (by unfold QI; rw[ho]) (.pure _) (λc hc=>by rw[ho]at hc; cases hc)
  | call c =>
    have hA:=Zld hev c.args.toList;have hargs:c.args.map a.eval=(c.args.toList.map a.eval).toArray:=by rw[<- jF]; simp
    cases hc:c.callee with
    |value y=>exact absurd hc (hcl c y ho)
    |invoke y nm=>exact absurd hc (hin c y nm ho)
    | builtin b =>
      have hx:QI a.eval o=builtin b c.argTypes o.type (c.args.map λ | .const _=>true|_=>false) (c.args.map a.eval):=by unfold QI;rw[ho];simp only[resolve,hc];rfl
      unfold aH at hr;rw[ho]at hr;dsimp only at hr;rw[hc]at hr;dsimp only at hr;split at hr
      · rename_i r hb;unfold pL at hb;split at hb
        · rename_i k p k' q hl;rw[hl]at hA;obtain⟨hlen,hA⟩:=hA;have:∃v1 v2,c.args.toList.map a.eval=[v1,v2]:=by
            match hm:c.args.toList.map a.eval with|[v1,v2]=>exact⟨v1,v2,rfl⟩|[]=>rw[hm]at hlen; simp at hlen|[_]=>rw[hm]at hlen; simp at hlen|_::_::_::_=>rw[hm]at hlen; simp at hlen
          obtain⟨v1,v2,hm⟩:=this;rw[hm]at hA;obtain⟨rfl,-⟩:=hA 0 _ v1 rfl rfl;obtain⟨rfl,-⟩:=hA 1 _ v2 rfl rfl;refine pv (s:=Builtin.min_ c.argTypes o.type (c.args.map a.eval)) (by rw[hx]; rfl) ?_ (λc hc=>by rw[ho]at hc; cases hc);rw[hargs,hm];exact .bind (Ysx _ _ _ _) λ_ => .pure _
        · rename_i k p k' q hl;rw[hl]at hA;obtain⟨hlen,hA⟩:=hA;have:∃v1 v2,c.args.toList.map a.eval=[v1,v2]:=by
            match hm:c.args.toList.map a.eval with|[v1,v2]=>exact⟨v1,v2,rfl⟩|[]=>rw[hm]at hlen; simp at hlen|[_]=>rw[hm]at hlen; simp at hlen|_::_::_::_=>rw[hm]at hlen; simp at hlen
          obtain⟨v1,v2,hm⟩:=this;rw[hm]at hA;obtain⟨rfl,-⟩:=hA 0 _ v1 rfl rfl;obtain⟨rfl,-⟩:=hA 1 _ v2 rfl rfl;refine pv (s:=Builtin.max_ c.argTypes o.type (c.args.map a.eval)) (by rw[hx]; rfl) ?_ (λc hc=>by rw[ho]at hc; cases hc);rw[hargs,hm];exact .bind (Ysc _ _ _ _) λ_ => .pure _
        . cases hb
      · split at hr
        · rename_i r hb;unfold gR at hb;split at hb
          · rename_i T n hT hl hnone;rw[hl]at hA;cases hs:(Ucq P T).isSome with
            |false=>rw[hs]at hb; cases hb
            | true =>
              rw[hs]at hb;simp only[Q1]at hb;obtain⟨q,hq⟩:=Option.isSome_iff_exists.1 hs;obtain⟨e',m⟩:=q;obtain⟨hu,-⟩:=jb hq;split at hb
              · rename_i k len C t hn;obtain⟨hlen,hA⟩:=hA;have:∃v1,c.args.toList.map a.eval=[v1]:=by
                  match hm:c.args.toList.map a.eval with|[v1]=>exact⟨v1,rfl⟩|[]=>rw[hm]at hlen; simp at hlen|_::_::_=>rw[hm]at hlen; simp at hlen
                obtain⟨v1,hm⟩:=this;rw[hm]at hA;obtain⟨ad,cap,rfl,-⟩:=Is.l_of (hA 0 _ v1 rfl rfl) hn;refine pv (s:=Builtin.len_ c.argTypes o.type (c.args.map a.eval)) (by rw[hx]; rfl) ?_ (λc hc=>by rw[ho]at hc; cases hc);have hTs:c.argTypes=#[T]:=by rw[<- jF,hT]
                rw[hargs,hm,hTs];unfold Builtin.len_;exact Zda hu (.pure _)
              . cases hb
          · rename_i T hT hl hnone;rw[hl]at hA;cases hs:(Ucq P T).isSome with
            |false=>rw[hs]at hb; cases hb
            | true =>
              rw[hs]at hb;simp only[Q1]at hb;obtain⟨q,hq⟩:=Option.isSome_iff_exists.1 hs;obtain⟨e',m⟩:=q;obtain⟨hu,-⟩:=jb hq;obtain⟨hlen,hA⟩:=hA;have:∃v1,c.args.toList.map a.eval=[v1]:=by match hm:c.args.toList.map a.eval with|[v1]=>exact⟨v1,rfl⟩|[]=>rw[hm]at hlen; simp at hlen|_::_::_=>rw[hm]at hlen; simp at hlen
              obtain⟨v1,hm⟩:=this;rw[hm]at hA;obtain rfl:v1=.slice none 0 0:=hA 0 _ v1 rfl rfl;refine pv (s:=Builtin.len_ c.argTypes o.type (c.args.map a.eval)) (by rw[hx]; rfl) ?_ (λc hc=>by rw[ho]at hc; cases hc);have hTs:c.argTypes=#[T]:=by rw[<- jF,hT]
              rw[hargs,hm,hTs];unfold Builtin.len_;exact Zda hu (.pure _)
          . cases hb
        · split at hr
          · rename_i r hb;unfold gS at hb;split at hb
            . exact pv (s:=Builtin.append_ c.argTypes o.type (c.args.map a.eval)) (by rw[hx]; rfl) (Ypo _ _ _) (λc hc=>by rw[ho]at hc; cases hc)
            . cases hb
          . cases hr
  |_=>unfold aH at hr; rw[ho]at hr; cases hr
end
end
end
section
variable {mn:Md}
structure ConsOkX (mn:Md) (P:QD) (IC:QF->ICon->Prop) (Γ:Cons):Prop where
 e:∀a b,Γ.e a b=true ↔ a=b
 c:∀f F,Γ.c f=some F->cI mn P f F/\EntX P f
 n:∀f F,Γ.n f=some F->Uby mn P f F/\EntX P f
 i:∀f F,Γ.i f=some F->IC f F/\EntX P f
 s:∀f S,Γ.s f=some S->cI mn P f (λargs h=>Uak (S args h))/\EntX P f
 m:∀nm F,Γ.m nm=some F->Uft mn P nm F
section
variable {P:QD} {IC:QF->ICon->Prop} {Γ:Cons} {W0:QB} {n0:Nat} {D E:List Nat} {ρ0:Nat->Ad} {Q:Exit->Act->QB->Prop}
theorem yw{o:QN}{a:Act}{v:QB}{ρ:Nat->Ad}{h:List VB}{ev:QH->SV}{K:Act->QB->Prop}{c:Call}(ho:o.op=.call c)(U:∀x,IsV P ρ h (ev x) (a.eval x))(hH:HIs P ρ h v){y:QH}(Z:c.callee=.value y){f:QF}{ns:List Nat}(hm:asA (ev y)=.c f ns)
  {G:af} (V:cI mn P f G) (J:EntX P f) {sv:SV} {e:Eff} (L:G (c.args.toList.map (λz=>asA (ev z))++ns.map SA.w) h=some (sv,e,true)) (hK:∀v₁,Ge v v₁->Post P ρ h v₁ a o K sv e):OpX mn P o a v K:=by
 have b5:∀c,o.op ≠ .defer c:=λc Z=>by rw[ho]at Z;cases Z
 have A:=Zcl (U y);rw[hm]at A;obtain⟨b7,b9⟩:=A;have hA:Uap P ρ h (c.args.toList.map (λz=>asA (ev z))++ns.map SA.w) (c.args.toList.map a.eval++ns.map λn=>Value.pointer (some ⟨(ρ n).a,0,none⟩)):=by
  have h1:=Zld U c.args.toList;refine⟨by simp,λi y v A O=> ?_⟩
  by_cases hi:i<c.args.toList.length
  ·rw[List.getElem?_append_left (by simpa using hi)]at A O;exact h1.2 i y v A O
  ·rw[List.getElem?_append_right (by simp at hi |-;exact hi)]at A O;simp only[List.length_map]at A O;rw[List.getElem?_map]at A O;cases hn:ns[i - c.args.toList.length]? with
   |none=>rw[hn]at A;cases A
   |some m=>simp only[hn,Option.map_some,Q8]at A O;subst A;subst O;exact⟨rfl,b9 m (List.mem_of_getElem? hn)⟩
 have hx:QI a.eval o=QS f (c.args.toList.map a.eval++ns.map λn=>Value.pointer (some ⟨(ρ n).a,0,none⟩)).toArray:=by
  unfold QI;rw[ho];simp only[resolve,Z,b7,Deferred.ofValue]
  show QS f _=_
  congr 1;rw[<- jF];simp
 refine⟨b5,λv₁ h₁=>.inr (.inr (.inl ⟨f,_,v₁,?_,(V ρ h v₁ _ _ _ _ L hA (HIs.ge hH h₁)).mono λr v' hE=>hK v₁ h₁ r v' hE⟩))⟩;rw[hx];exact(J.2 _).tr (J.1 _ v₁)
theorem yx{ρ:Nat->Ad}{st:St}{a:Act}{w:QB}(hR:RS E P W0 n0 D ρ0 ρ st a w){id:Nat}(hid:n0<=id){o:QN}{α:Type}{K:St->Option α}{r:α}{v:SV}{e:Eff}(hok:cr st.h id e=true)(hr:K (Uai st id o.dst v e)=some r)
  {b:Nat} (hb:b<=id) {K':Act->QB->Prop} (hpost:(∀v₁,Ge w v₁->Post P ρ st.h v₁ a o K' v e)->OpX mn P o a w K')
  (hK:∀ρ' st' a' w',K st'=some r->RS E P W0 n0 D ρ0 ρ' st' a' w'->Ext (match o.dst with|some d=>[d]|none=>[]) b ρ ρ' st st'->K' a' w'):OpX mn P o a w K':=by
 have hW:∀d,o.dst=some d->d∈(match o.dst with|some d=>[d]|none=>[]:List Nat):=λd hd=>by rw[hd];exact List.mem_singleton.2 rfl
 refine hpost λw₁ hg=> ?_
 replace hR:=RS.ge hR hg;clear hg;intro vv w' hE
 by_cases hnew:∃bb,e=.new bb
 ·obtain⟨bb,rfl⟩:=hnew;have hno:st.h[id]?=some .no:=by
   simp only[cr]at hok;split at hok
   ·assumption
   ·cases hok
  obtain⟨ρ',hR',hren⟩:=hR.apply (HLe.refl _) hno hid (dst:=o.dst) (λ_ _ e=>by cases e) (λ_ _ _ _ e=>by cases e) hE;exact hK ρ' _ _ w' hr hR' (Zwz hW hok hb (λm b e=>by cases e) hren (λh=>absurd rfl (h bb)) (λ_ _ _ _ e=>by cases e))
 by_cases hnew2:∃j len C t,e=.newS j len C t
 ·obtain⟨j,len,C,t,rfl⟩:=hnew2;have hno:st.h[id]?=some .no:=by
   simp only[cr]at hok;split at hok
   ·assumption
   ·cases hok
  obtain⟨ρ',hR',hren⟩:=hR.apply (HLe.refl _) hno hid (dst:=o.dst) (λ_ _ e=>by cases e) (λ_ _ _ _ e=>by cases e) hE;exact hK ρ' _ _ w' hr hR' (Zwz hW hok hb (λm b e=>by cases e) hren (λ_ h=>absurd rfl (h j len C t)) (λ_ _ _ _ e=>by cases e))
 ·cases e with
  |new bb=>exact absurd ⟨bb,rfl⟩ hnew
  |newS j len C t=>exact absurd ⟨j,len,C,t,rfl⟩ hnew2
  | app j len C t=>
   have hno:st.h[id]?=some .no:=by
    simp only[cr]at hok;split at hok
    ·assumption
    ·cases hok
   have hown:∀k,j=some k->∃l0 C0,st.h[k]?=some (.sl .own l0 C0 t):=by obtain⟨_,_,_,_,_,_,_,_,_,h9⟩:=hE;exact h9
   obtain⟨ρ',hR',hren⟩:=hR.applyApp hno hid (dst:=o.dst) hE;exact hK ρ' _ _ w' hr hR' (Zwz hW hok hb (λm b e=>by cases e) hren (λ_ _ h=>absurd rfl (h j len C t)) (λk _ _ _ e=>by cases e;exact hown k rfl))
  | none=>
   have hR':RS E P W0 n0 D ρ0 ρ (Uai st id o.dst v .none) (a.put o.dst vv) w':=by obtain⟨hv,hk⟩:=hE;have:=hR.put o.dst hv;refine⟨this.len,this.slots,⟨λm bb hbb=>BIs.kept hR.heap hbb hk (λ_=>not_false) λ_ _=>not_false,hR.heap.inj,hR.heap.far⟩,this.base,this.fresh,hR.kept.trans (hk.mono λ_ _ hf=>hf.elim),hR.own0,by rw[cB];exact hR.defers.same hk,hR.bound⟩
   exact hK ρ _ _ w' hr hR' (Zwz hW hok hb (λm b e=>by cases e) (λ_ _=>rfl) (λ_ _ _=>rfl) (λ_ _ _ _ e=>by cases e))
  |set m bb=>have hkp:=hE.2.1;have hR':RS E P W0 n0 D ρ0 ρ (Uai st id o.dst v (.set m bb)) (a.put o.dst vv) w':=hR.applySet hE;exact hK ρ _ _ w' hr hR' (Zwz hW hok hb (λm b e=>by cases e;exact hkp) (λ_ _=>rfl) (λ_ _ _=>rfl) (λ_ _ _ _ e=>by cases e))
theorem pickX{o:QN}{a:Act}{v:QB}{K:Act->QB->Prop}{vv:QC}(A:∀c,o.op ≠ .defer c)(J:QI a.eval o=Pure.pure (Next.value vv))(h:∀v₁,Ge v v₁->K (a.put o.dst vv) v₁):OpX mn P o a v K:=
 ⟨A,λv₁ h₁=>.inl ⟨vv,v₁,by rw[J];exact(Simple.pure _).tr rfl,h v₁ h₁⟩⟩
theorem Yw1(hΓ:ConsOkX mn P IC Γ){o:QN}{a:Act}{v:QB}{ρ:Nat->Ad}{h:List VB}{ev:QH->SV}{K:Act->QB->Prop}{sv:SV}{e:Eff}(O:∀x,IsV P ρ h (ev x) (a.eval x))(hH:HIs P ρ h v)(J:aH P Γ ev h o=some (sv,e,true))
  (hK:∀v₁,Ge v v₁->Post P ρ h v₁ a o K sv e):OpX mn P o a v K:=by
 by_cases U:∃c y,o.op=.call c/\c.callee=.value y
 ·obtain⟨c,y,ho,L⟩:=U;unfold aH at J;rw[ho]at J;dsimp only at J;rw[L]at J;dsimp only at J;split at J
  ·rename_i f ns hm;split at J
   ·rename_i r A;obtain⟨r,re,gb⟩:=r;simp only[Q8,Q0]at J;obtain⟨rfl,rfl,rfl⟩:=J;unfold en at A;split at A
    ·rename_i Fc hFc;obtain⟨V,Z⟩:=hΓ.c f Fc hFc;exact yw ho O hH L hm V Z A hK
    ·cases A
   ·cases J
  ·cases J
 ·by_cases b5:∃c y nm,o.op=.call c/\c.callee=.invoke y nm
  ·obtain⟨c,y,nm,ho,L⟩:=b5;have hns:∀c,o.op ≠ .defer c:=λc L=>by rw[ho]at L;cases L
   unfold aH at J;rw[ho]at J;dsimp only at J;rw[L]at J;dsimp only at J;have hy:=Zcl (O y);split at J
   case h_2=>cases J
   rename_i z hm;rw[hm]at hy;replace hy:a.eval y=z:=hy;split at J
   case h_2=>cases J
   rename_i G hG;have hx:QI a.eval o=callMethod z nm (c.args.toList.map a.eval).toArray:=by
    unfold QI;rw[ho];simp only[resolve,L,hy]
    show invoke (.fn (.method nm) #[]) (#[z]++c.args.map a.eval)=_
    rw[zC,show (c.args.map a.eval).toList=c.args.toList.map a.eval by simp]
   refine⟨hns,λv₁ h₁=> ?_⟩;obtain⟨f,vals',b7,A⟩:=hΓ.m nm G hG ρ h v₁ z _ _ _ _ J (Zld O c.args.toList) (HIs.ge hH h₁);exact .inr (.inr (.inl ⟨f,vals',v₁,by rw[hx];exact b7,A.mono λr v' hE=>hK v₁ h₁ r v' hE⟩))
  ·exact gA hΓ.e (λc y ho L=>U ⟨c,y,ho,L⟩) (λc y nm ho L=>b5 ⟨c,y,nm,ho,L⟩) O hH J hK
theorem Zj6 (hΓ:ConsOkX mn P IC Γ) {ρ:Nat→Ad} {st:St} {a:Act} {w:QB} (hR:RS E P W0 n0 D ρ0 ρ st a w) {m id:Nat} (hid:n0≤id) {o:QN} {α:Type} {K:St→Option α} {r:α}
  (hr:jf P Γ m id o st K=some r) {b:Nat} (hb:b<=id) {K':Act->QB->Prop}
  (hK:∀ρ' st' a' w',K st'=some r->RS E P W0 n0 D ρ0 ρ' st' a' w'->Ext (match o.dst with|some d=>[d]|none=>[]) b ρ ρ' st st'->K' a' w'):OpX mn P o a w K':=by
 have hW:∀d,o.dst=some d->d∈(match o.dst with|some d=>[d]|none=>[]:List Nat):=λd hd=>by rw[hd];exact List.mem_singleton.2 rfl
 unfold jf at hr;split at hr
 ·rename_i q hq;unfold nT at hq;split at hq
  ·rename_i c ho;have hns:∀c,o.op ≠ .defer c:=λc hc=>by rw[ho]at hc;cases hc
   unfold jc at hq;split at hq
   ·rename_i y hc;have hy:=Zcl (Zq6 hR.slots y);split at hq
    ·rename_i f hm;rw[hm]at hy;obtain⟨hfv,-⟩:=hy;split at hq
     ·rename_i G hG;obtain⟨hcon,hent⟩:=hΓ.n f G hG;unfold je at hr;cases hok:nU st.h (Ucw id m 1 q.rows)&&cV (Ucw id m 1 q.rows) with
      |false=>rw[hok]at hr;cases hr
      | true=>
       rw[hok]at hr;simp only[Q1]at hr;simp only[Q7]at hok;have hA:Uap P ρ st.h (c.args.toList.map λz=>asA (evO st.s z)) (c.args.toList.map a.eval):=Zld (Zq6 hR.slots) c.args.toList;have hx:QI a.eval o=QS f (c.args.toList.map a.eval).toArray:=by
        unfold QI;rw[ho];simp only[resolve,hc,hfv,Deferred.ofValue]
        show QS f _=_
        congr 1;rw[<- jF];simp
       refine⟨hns,λw₁ hg=>.inr (.inr (.inl ⟨f,_,w₁,by rw[hx];exact(hent.2 _).tr (hent.1 _ w₁),(hcon ρ st.h w₁ _ _ _ hq hA (HIs.ge hR.heap hg)).mono ?_⟩))⟩;replace hR:=RS.ge hR hg;clear hg
       ·rintro e w' ⟨gs,rfl,hl,hnd,hgs,hk⟩;have hno:=zF hok.1;have hle:=zG id m 1 q.rows;obtain⟨ρ',hR',e1,e2,e3,e4,e5,e6⟩:=(hR.world hk).addMany (Ucw id m 1 q.rows) gs q.rows (Yrr id m 1 q.rows) hl (Zwr hok.2) hnd (λi hi=>⟨hno i hi,Nat.le_trans hid (hle i hi)⟩)
         (fun j g r hj hr=>by
          obtain⟨q1,q2,q3⟩:=hgs j g r hj hr;exact⟨Nat.le_trans hR.kept.size q1,q2,q3⟩)
         (fun g hg n hp=>by
          obtain⟨j,hj⟩:=List.mem_iff_getElem?.1 hg;have hjlt:j<q.rows.length:=by rw[<- hl];exact(jH.1 hj).1
          have:=(hgs j g _ hj (List.getElem?_eq_getElem hjlt)).1;have:=hR.heap.lt hp;omega)
         (fun g hg n b' x h1 h2=>by
          obtain⟨j,hj⟩:=List.mem_iff_getElem?.1 hg;have hjlt:j<q.rows.length:=by rw[<- hl];exact(jH.1 hj).1
          have:=(hgs j g _ hj (List.getElem?_eq_getElem hjlt)).1;have:=hR.heap.farLt h1 h2;omega)
        have hR2:=hR'.put o.dst (v:=.a (.c q.f (Ucw id m 1 q.rows))) (vv:=.func (.func q.f) #[] (gs.map λg=>Value.pointer (some ⟨g,0,none⟩)).toArray) ⟨by rw[<- e2,List.map_map];rfl,e6⟩;refine hK ρ' _ _ w' hr hR2 ⟨(Zmy (b:=b) (ρ:=ρ) (st:=st) hW).slots,Zjs _ _ _,λn hn _=>e4 n λhmem=>by have:=hle n hmem;omega,λ_ h=>h,by show st.h.length<=_;rw[e5];exact jD _,e3,λn hn=>e1 n λhmem=>by have:=hle n hmem;omega⟩
     ·cases hq
    ·cases hq
   ·cases hq
  ·cases hq
 split at hr
 ·rename_i q hq;obtain⟨v,e,hres,hok,hr2⟩:=vO hr;unfold eP at hq;split at hq
  ·rename_i c ho;split at hq
   ·rename_i y hc;split at hq
    ·rename_i f ns hm;split at hq
     ·rename_i S hS;cases hq;obtain⟨hcon,hent⟩:=hΓ.s f S hS;exact yx hR hid hok hr2 hb (λhK=>yw ho (Zq6 hR.slots) hR.heap hc hm hcon hent hres hK) hK
     ·cases hq
    ·cases hq
   ·cases hq
  ·cases hq
 split at hr
 ·rename_i c y z ho;have hns:∀c,o.op ≠ .defer c:=λc hc=>by rw[ho]at hc;cases hc
  have hc:=Zcl (Zq6 hR.slots c);split at hr
  ·rename_i t ht;rw[ht]at hc;have hc:a.eval c=.bool t:=hc;cases t with
   |true=>simp only[Q1]at hr;exact pickX hns (by unfold QI;rw[ho];simp only[hc,asBool];rfl) λw₁ hg=>hK ρ _ _ w₁ hr ((RS.ge hR hg).put o.dst (Zq6 hR.slots y)) (Zmy hW)
   |false=>simp only[Q2]at hr;exact pickX hns (by unfold QI;rw[ho];simp only[hc,asBool];rfl) λw₁ hg=>hK ρ _ _ w₁ hr ((RS.ge hR hg).put o.dst (Zq6 hR.slots z)) (Zmy hW)
  ·cases hr
 ·split at hr
  ·rename_i v e g hop;cases g with
   |false=>simp only[Q2]at hr;cases hr
   | true=>
    simp only[Q1]at hr;cases hok:cr st.h id e with
    |false=>rw[hok]at hr;cases hr
    |true=>rw[hok]at hr;simp only[Q1]at hr;exact yx hR hid hok hr hb (λhK=>Yw1 hΓ (Zq6 hR.slots) hR.heap hop hK) hK
  ·cases hr
theorem fw{o:QN}{ops:Array QN}{i:Nat}(ho:ops[i]?=some o){a:Act}{w:QB}{K:Act->QB->Prop}(A:Region.wanted o (yielded ops a.tmps)=true)(h:OpX mn P o a w K):OpIX mn P ops i K a w:=by unfold OpIX;simp only[ho,A,if_true];exact h
theorem kK{o:QN}{ops:Array QN}{i:Nat}(ho:ops[i]?=some o){a:Act}{w:QB}{K:Act->QB->Prop}(A:Region.wanted o (yielded ops a.tmps)=false)(h:K (a.put o.dst undef) w):OpIX mn P ops i K a w:=by unfold OpIX;simp only[ho,A,Bool.false_eq_true,if_false];exact h
theorem py(hΓ:ConsOkX mn P IC Γ){ops:Array QN}{base:Nat}(hbase:n0<=base){α:Type}{K:St->Option α}{r:α}:
  ∀(l:List QN) (i:Nat),ops.toList.drop i=l->∀{ρ:Nat->Ad} {st:St} {a:Act} {w:QB},RS E P W0 n0 D ρ0 ρ st a w->bS P Γ ops base l i st K=some r ->
   (∀ρ' st' a' w',K st'=some r->RS E P W0 n0 D ρ0 ρ' st' a' w'->Ext (wrL l) base ρ ρ' st st'->Q .normal a' w')->OpsX mn P ops (Q .normal) (List.range' i l.length) a w
 |[],i,_,ρ,st,a,w,hR,hr,hQ=>hQ ρ st a w hr hR (.refl _ _ _ _)
 | o::l,i,hl,ρ,st,a,w,hR,hr,hQ=>by
  have ho:ops[i]?=some o:=by
   have:=congrArg (λx=>x[0]?) hl
   simpa using this
  have hl':ops.toList.drop (i+1)=l:=by
   have:=congrArg List.tail hl
   simpa [List.tail_drop] using this
  rw[List.length_cons,List.range'_succ,OpsX];have next:∀{ρ1:Nat->Ad} {st1:St} {a1:Act} {w1:QB},bS P Γ ops base l (i+1) st1 K=some r->RS E P W0 n0 D ρ0 ρ1 st1 a1 w1->Ext (wrL (o::l)) base ρ ρ1 st st1->OpsX mn P ops (Q .normal) (List.range' (i+1) l.length) a1 w1:=
   λh1 hR1 he=>py hΓ hbase l (i+1) hl' hR1 h1 λρ' st' a' w' hk hR' he'=>hQ ρ' st' a' w' hk hR' (he.trans (he'.mono vQ (jD _)))
  have hWd:∀d,o.dst=some d->d∈wrL (o::l):=λd hd=>ij d (by rw[hd];exact List.mem_singleton.2 rfl)
  unfold bS at hr;split at hr
  ·rename_i hg;refine fw ho (by simp[Region.wanted,hg]) (Zj6 hΓ hR (by omega) hr (Nat.le_add_right base i) λρ' st' a' w' hk hR' he=>next hk hR' (he.mono ij (jD _)))
  ·rename_i j want hg;split at hr
   ·cases hr
   ·rename_i d hd;split at hr
    ·rename_i t hslot;have hs:=getD_some hslot (by intro h;cases h);have hy:=pR hd hR hs;have hwant:Region.wanted o (yielded ops a.tmps)=(t==want):=by simp[Region.wanted,hg,hy]
     cases t with
     | true=>have hR2:=hR.known hs (t':=true) rfl;have he2:Ext (wrL (o::l)) base ρ ρ st { st with s:=st.s.set d (.a (.b true)) }:=pS hs rfl;simp only[Q1]at hr;cases want with|true=>simp only[Q1]at hr;exact fw ho (by rw[hwant];rfl) (Zj6 hΓ hR2 (by omega) hr (Nat.le_add_right base i) λρ' st' a' w' hk hR' he=>next hk hR' (he2.trans (he.mono ij (jD _))))|false=>simp only[Q2]at hr;exact kK ho (by rw[hwant];rfl) (next hr (hR2.skip o.dst) (he2.trans (Zmy hWd)))
     | false=>have hR2:=hR.known hs (t':=false) rfl;have he2:Ext (wrL (o::l)) base ρ ρ st { st with s:=st.s.set d (.a (.b false)) }:=pS hs rfl;simp only[Q2]at hr;cases want with|true=>simp only[Q1]at hr;exact kK ho (by rw[hwant];rfl) (next hr (hR2.skip o.dst) (he2.trans (Zmy hWd)))|false=>simp only[Q2]at hr;exact fw ho (by rw[hwant];rfl) (Zj6 hΓ hR2 (by omega) hr (Nat.le_add_right base i) λρ' st' a' w' hk hR' he=>next hk hR' (he2.trans (he.mono ij (jD _))))
    ·rename_i hslot;have hs:=getD_some hslot (by intro h;cases h);have hy:=vP hd hR hs;exact kK ho (by simp[Region.wanted,hg,hy]) (next hr (hR.skip o.dst) (Zmy hWd))
    ·cases hr
theorem yy(hΓ:ConsOkX mn P IC Γ){ops:Array QN}{base:Nat}(hbase:n0<=base){st0:St}(hno:∀i,i<ops.size->st0.h[base+i]?=some .no)
  (hE:il ops.toList 0=true) {tr:List ac} (hlen:tr.length=ops.size) (hX:mb P Γ ops base st0 tr) (hT:cf st0 (befs ops.toList []) base ops.toList tr tr 0=true)
  {ρs:Nat->Ad} (hQ:∀ρ' a' w',RS E P W0 n0 D ρ0 ρ' (Uaj base (λ_=>true) tr 0 st0) a' w'->HLe st0.h (Uaj base (λ_=>true) tr 0 st0).h->(∀m,m<base->ρ' m=ρs m)->Q .normal a' w') :
  ∀(f:Nat) (listed:Array Bool) (ρ:Nat->Ad) (a:Act) (w:QB),listed.size=ops.size->di listed.toList=f ->
   (∀i k,lst listed i=true->bef (befs ops.toList []) i k=true->lst listed k=true)->RS E P W0 n0 D ρ0 ρ (Uaj base (lst listed) tr 0 st0) a w->HLe st0.h (Uaj base (lst listed) tr 0 st0).h->(∀m,m<base->ρ m=ρs m) ->
   AnyX mn P ops (Q .normal) f listed a w:=by
 have hT':=λi x h=>zJ st0 _ base ops.toList tr tr 0 hT i x h
 have pair:∀{i k:Nat} {x y:ac},tr[i]?=some x->tr[k]?=some y->Ubr (befs ops.toList []) i k=true->Uc3 x.2.2 y.2.2=true/\(Aside ops.size base (Ubr (befs ops.toList []) i) y.2.2\/cF (hidL st0 ops.toList base (befs ops.toList []) i ops.toList 0) y.2.2=true):=λ{i k x y} hx hy hi=>by
  have:=(hT' i x hx).1;have h:=(Yoe _ _ _ _ _ _ 0 this k y hy).2 (by rw[jA,jA];exact hi);rw[jA]at h;refine⟨h.1,h.2.imp (λh=> ?_) id⟩;have hl:(befs ops.toList []).length=ops.size:=by obtain⟨m,hm,hlen⟩:=vT ops.toList [];rw[hm];simpa using hlen
  rw[<- hl];exact KT h
 have apart:∀{i k:Nat} {x y:ac},tr[i]?=some x->tr[k]?=some y->i≠k->fD x.1 y.1=true:=λ{i k x y} hx hy hi=>by
  have:=(hT' i x hx).1;exact(Yoe _ _ _ _ _ _ 0 this k y hy).1 (by omega)
 have lstlt:∀{listed:Array Bool} {k:Nat},listed.size=ops.size->lst listed k=true->k<ops.size:=λ{listed k} hs h=>by
  unfold lst at h;rw[jC]at h;cases hk:listed[k]? with
  |none=>rw[hk]at h;cases h
  |some b=>have:=(jG.1 hk).1;omega
 have step:∀ {listed:Array Bool} {ρ:Nat→Ad} {a:Act} {w:QB} {i:Nat} {K:Act→QB→Prop},listed.size=ops.size →
   (∀i k,lst listed i=true->bef (befs ops.toList []) i k=true->lst listed k=true)->RS E P W0 n0 D ρ0 ρ (Uaj base (lst listed) tr 0 st0) a w->HLe st0.h (Uaj base (lst listed) tr 0 st0).h->(∀m,m<base->ρ m=ρs m)->i∈Region.ready .any ops listed ->
   (∀ρ' a' w',RS E P W0 n0 D ρ0 ρ' (Uaj base (lst (listed.setIfInBounds i true)) tr 0 st0) a' w'->HLe st0.h (Uaj base (lst (listed.setIfInBounds i true)) tr 0 st0).h->(∀m,m<base->ρ' m=ρs m)->K a' w')->OpIX mn P ops i K a w:=by
  intro listed ρ a w i K hs hcl hR hhl hren hi hK;obtain⟨hlt,hli,hed⟩:=oa hi;have ho:ops[i]?=some ops[i]:=jB hlt;have hx:tr[i]?=some tr[i]:=List.getElem?_eq_getElem (by omega);obtain⟨hd,hgd⟩:=hX i _ _ ho hx;have hedge:=nW _ _ hE i ops[i] (by simp[hlt]);rw[jA]at hedge;have hLi:lst listed i=false:=by
   unfold lst;rw[jC]at hli|-
   cases hk:listed[i]? with|none=>rfl|some b=>rw[hk]at hli;exact hli
  have hBL:∀k,bef (befs ops.toList []) i k=true->lst listed k=true:=λk hk=>by
   obtain⟨e,he,hb,h⟩:=vU ho hedge hk;have:=hed _ ho e he hb;rcases h with rfl|h
   ·exact this
   ·exact hcl _ _ this h
  have hcommon:∀k,lst listed k=true->bef (befs ops.toList []) i k=false->Ubr (befs ops.toList []) i k=true:=λk hk hb=>by
   unfold Ubr;rw[hb];have h1:bef (befs ops.toList []) k i=false:=by cases h:bef (befs ops.toList []) k i with|false=>rfl|true=>have:=hcl k i hk h;rw[hLi]at this;cases this
   have h2:Nat.beq i k=false:=by cases h:Nat.beq i k with|false=>rfl|true=>have:=Nat.eq_of_beq_eq_true h;subst this;rw[hLi]at hk;cases hk
   rw[h1,h2];rfl
  -- less is known at the mask
  have hag:Agree (hidL st0 ops.toList base (befs ops.toList []) i ops.toList 0) ops.size base (λk=>((ops[k]?).bind (·.dst))) (Ubr (befs ops.toList []) i) (Uaj base (bef (befs ops.toList []) i) tr 0 st0) (Uaj base (lst listed) tr 0 st0):=by
   refine zP hBL tr 0 st0 st0 (by omega) (λj x hj=> ?_) ⟨rfl,rfl,λ_ _=>rfl,λ_ _ _=>rfl⟩;rw[jA];have hjlt:j<ops.size:=by have:=(jH.1 hj).1;omega
   refine⟨?_,λh1 h2=> ?_⟩
   ·have:=(hX j ops[j] x (jB hjlt) hj).1;rw[this,jB hjlt];rfl
   ·have hc:=hcommon j h1 h2;exact⟨hc,(pair hx hj hc).2⟩
  have htake:Uaj base (bef (befs ops.toList []) i) (tr.take i) 0 st0=Uaj base (bef (befs ops.toList []) i) tr 0 st0:=by
   have:=zM base (B:=bef (befs ops.toList []) i) (i:=i) (λk hk=>vV hE i k hlt hk) tr 0 st0
   rwa [Nat.sub_zero]at this
  have hless:Less (hide st0.h (hidL st0 ops.toList base (befs ops.toList []) i ops.toList 0) (Uey (befs ops.toList []) base i ops.toList 0 (Uaj base (bef (befs ops.toList []) i) (tr.take i) 0 st0))) (Uaj base (lst listed) tr 0 st0):=by
   rw[htake];constructor
   ·intro t v hv;have hv:(Uey (befs ops.toList []) base i ops.toList 0 (Uaj base (bef (befs ops.toList []) i) tr 0 st0)).s[t]?=some v:=by
     revert hv;unfold hide;cases hidL st0 ops.toList base (befs ops.toList []) i ops.toList 0<;>exact id
    rcases zN _ _ _ _ _ _ _ hv with h | ⟨h,hall⟩
    ·exact .inl h
    ·refine .inr ?_;rw[<- h];refine(hag.slots t λk hk hi'=> ?_).symm;have:=hall k ops[k] (by simp[hk]) (by rw[jA];exact hi');rw[jB hk];exact this
   ·intro m b hb;cases hh:hidL st0 ops.toList base (befs ops.toList []) i ops.toList 0 with
    | none=>
     rw[hh]at hb;simp only[hide,List.getElem?_map]at hb;rcases hg:st0.h[m]? with _|z
     ·rw[hg]at hb;cases hb
     ·rw[hg]at hb;simp only[Option.map_some,Q8]at hb;subst hb;cases z with|gl g t a x=>exact .inr ((hhl m).gl _ _ _ _ hg)|_=>exact .inl rfl
    |some hidden=>
    rw[hh]at hb;simp only[hide]at hb;rcases zH _ hb with h | ⟨hb,hn⟩
    ·exact .inl h
    rcases zO _ _ _ _ _ _ _ hb with h | ⟨h,hall⟩
    ·exact .inl h
    ·refine .inr ?_;rw[<- h];refine(hag.heap m (by rw[hh];exact hn) λk hk hi'=> ?_).symm;have:=hall k (by simpa using hk) (by rw[jA];exact hi');rw[jA]at this;exact this
  obtain⟨hslots,hheap,hhle⟩:=eU hless hR;have hfresh:(Uaj base (lst listed) tr 0 st0).h[base+i]?=some .no:=by
   rw[zS hLi tr 0 st0 λj x hj hq=>⟨λm b he=>by
    have h:=(hT' j x hj).2;rw[he]at h;simp only[pT,Bool.or_eq_true,jA]at h hq;rcases h with h|h
    ·exact .inl (by simp[Nat.blt]at h;omega)
    ·exact .inr (hcl j _ hq h),λm len C t he=>by
    have h:=(hT' j x hj).2;rw[he]at h;simp only[pT,Bool.or_eq_true,jA]at h hq;rcases h with h|h
    ·exact .inl (by simp[Nat.blt]at h;omega)
    ·exact .inr (hcl j _ hq h)⟩]
   exact hno i hlt
  have hins:Uaj base (lst (listed.setIfInBounds i true)) tr 0 st0=Uai (Uaj base (lst listed) tr 0 st0) (base+i) tr[i].1 tr[i].2.1 tr[i].2.2:=by
   rw[<- zQ hLi tr 0 st0 (Nat.zero_le _) (by rw[Nat.sub_zero];exact hx) λj y hj hlt' hL=>by
    rw[jA]at hL hlt';refine⟨apart hx hj (by omega),(pair hx hj (hcommon j hL ?_)).1⟩;cases h:bef (befs ops.toList []) i j with
    |false=>rfl
    |true=>have:=vV hE i j hlt h;omega]
   refine pW base tr 0 st0 λk _ hk=> ?_
   have hk':k<listed.size:=by omega
   unfold lst;simp only[jC]
   by_cases hki:k=i
   ·subst hki;rw[Nat.beq_refl,Array.getElem?_setIfInBounds_self_of_lt hk'];simp
   ·have:Nat.beq k i=false:=by
     cases hb:Nat.beq k i with|false=>rfl|true=>exact absurd (Nat.eq_of_beq_eq_true hb) hki
    rw[this,jI (by omega)];simp
  have run:kZ P Γ ops base st0 tr i ops[i] tr[i]->Region.wanted ops[i] (yielded ops a.tmps)=true->OpIX mn P ops i K a w:=by
   rintro⟨hop,hnew⟩ hw;refine fw ho hw (Yw1 hΓ (Zq6 (st:=mkSt ops base st0 (tr.take i) i) hslots) hheap hop λw₁ hg=> ?_);replace hR:=RS.ge hR hg;clear hg;intro vv w' hEp;obtain⟨ρ',hR',hne⟩:∃ρ',RS E P W0 n0 D ρ0 ρ' (Uai (Uaj base (lst listed) tr 0 st0) (base+i) tr[i].1 tr[i].2.1 tr[i].2.2) (a.put tr[i].1 vv) w'/\(∀n,n≠base+i->ρ' n=ρ n):=by
    by_cases happ:∃k len C t,tr[i].2.2=.app k len C t
    ·obtain⟨k,len,C,t,he⟩:=happ;rw[he]at hEp|-
     exact hR.applyApp hfresh (by omega) (hEp.app_less hless hhle)
    ·exact hR.apply hhle hfresh (by omega) (dst:=tr[i].1) (λm b e=>by rw[e]at hEp;exact hEp.2.1.less hless) (λk len C t e=>happ ⟨k,len,C,t,e⟩) hEp
   have hl2:HLe (Uaj base (lst listed) tr 0 st0).h (Uai (Uaj base (lst listed) tr 0 st0) (base+i) tr[i].1 tr[i].2.1 tr[i].2.2).h:=by
    revert hEp;cases tr[i].2.2 with
    |none=>exact λ_=>HLe.refl _
    |new b=>exact λ_=>Zgk b hfresh
    |newS _ _ _ _=>exact λ_=>Zgk _ hfresh
    |set m b=>rintro⟨_,hkp,_⟩;exact(hkp.less hless).hle
    | app k len C t=>intro hEp;obtain⟨_,_,_,_,_,_,_,_,_,hown⟩:=Ua4.app_less hless hhle hEp;cases k with|none=>exact Zgk _ hfresh|some k=>obtain⟨_,_,e2⟩:=hown k rfl;refine(Yj3 e2).trans (Zgk _ ?_);rw[List.getElem?_set_ne (by rintro rfl;rw[hfresh]at e2;cases e2)];exact hfresh
   rw[<- hins]at hl2;rw[<- hins,hd]at hR';refine hK ρ' _ w' hR' (hhl.trans hl2) λm hm=>(hne m (by omega)).trans (hren m hm)
  have skip:tr[i].2=(.a .u,.none)->Region.wanted ops[i] (yielded ops a.tmps)=false->OpIX mn P ops i K a w:=by
   intro hx2 hw;refine kK ho hw ?_;have hR':=hR.skip tr[i].1;have he:({ Uaj base (lst listed) tr 0 st0 with s:=putS (Uaj base (lst listed) tr 0 st0).s tr[i].1 (.a .u) }:St)=Uai (Uaj base (lst listed) tr 0 st0) (base+i) tr[i].1 tr[i].2.1 tr[i].2.2:=by rw[hx2];rfl
   rw[he,<- hins,hd]at hR';refine hK ρ _ w hR' ?_ hren;rw[hins,hx2];exact hhl
  revert hgd;cases hgu:ops[i].guard with
  |none=>exact λhgd=>run hgd (by simp[Region.wanted,hgu])
  | some q=>
   obtain⟨j,want⟩:=q;rintro⟨hb,hgd⟩;have hLj:=hBL j hb;have hji:=vV hE i j hlt hb;have slot:∀{d:Nat} {v:SV},tr[j]?=some (some d,v,.none)->d<st0.s.length->(Uaj base (lst listed) tr 0 st0).s[d]?=some v/\jg ops j=some d:=by
    intro d v hj hdl;refine⟨zR hLj tr 0 st0 (Nat.zero_le _) (by rw[Nat.sub_zero];exact hj) (λk x hk hne=> ?_) hdl,?_⟩
    ·have:=apart hj hk (by omega);intro e;rw[e]at this;simp[fD,Nat.beq_refl]at this
    ·have:=(hX j ops[j] _ (jB (by omega)) hj).1;unfold jg;rw[jB (show j<ops.size by omega)];exact this.symm
   rcases hgd with ⟨d,t,hj,hdl,h⟩ | ⟨d,hj,hdl,h⟩
   ·obtain⟨hs,hds⟩:=slot hj hdl;have hy:=pR hds hR hs;rcases h with ⟨rfl,h⟩ | ⟨hne,h⟩
    ·exact run h (by simp[Region.wanted,hgu,hy])
    ·exact skip h (by simp[Region.wanted,hgu,hy,hne])
   ·obtain⟨hs,hds⟩:=slot hj hdl;have hy:=vP hds hR hs;exact skip h (by simp[Region.wanted,hgu,hy])
 have noReady:∀{listed:Array Bool},listed.size=ops.size->Region.ready .any ops listed=[]->∀i,i<ops.size->listed.getD i true=true:=by
  intro listed hs hr i
  induction i using Nat.strongRecOn with
  | _ i ih=>
   intro hi;cases h:listed.getD i true with
   |true=>rfl
   | false=>
    exfalso;have:i∈Region.ready .any ops listed:=Ve.mem_ready hi h λo ho e he hb=>by
     have hedge:=nW _ _ hE i o (by simpa using ho);rw[jA]at hedge;have hlt:=hedge e he hb;have:=ih e.on hlt (by omega);unfold lst;rw[jC]at this|-
     rw[jB (show e.on<listed.size by omega)]at this|-
     exact this
    rw[hr]at this;cases this
 have fin:∀{listed:Array Bool} {ρ:Nat->Ad} {a:Act} {w:QB},listed.size=ops.size->(∀i,i<ops.size->listed.getD i true=true)->RS E P W0 n0 D ρ0 ρ (Uaj base (lst listed) tr 0 st0) a w->HLe st0.h (Uaj base (lst listed) tr 0 st0).h->(∀m,m<base->ρ m=ρs m)->Q .normal a w:=by
  intro listed ρ a w hs hall hR hhl hren;have hQ':=hQ ρ a w;rw[pW base (B':=lst listed) tr 0 st0 λk _ hk=>by
   have:=hall k (by omega);unfold lst;rw[jC]at this|-
   rw[jB (show k<listed.size by omega)]at this|-
   exact this.symm]at hQ'
  exact hQ' hR hhl hren
 intro f
 induction f with
 | zero=>
  intro listed ρ a w hs hu hcl hR hhl hren;have hall:∀i,i<ops.size->listed.getD i true=true:=λi hi=>by
   rw[jC,jB (show i<listed.size by omega)];exact vZ listed.toList hu i _ (by simp[show i<listed.size by omega])
  refine⟨?_,fin hs hall hR hhl hren⟩;cases hr:Region.ready .any ops listed with
  |nil=>rfl
  |cons i l=>
   have hi:i∈Region.ready .any ops listed:=by rw[hr];exact List.mem_cons_self ..
   obtain⟨h1,h2,_⟩:=oa hi;rw[hall i h1]at h2;cases h2
 | succ f ih=>
  intro listed ρ a w hs hu hcl hR hhl hren;refine⟨λhr=>fin hs (noReady hs hr) hR hhl hren,λi hi=>step hs hcl hR hhl hren hi λρ' a' w' hR' hhl' hren'=> ?_⟩;obtain⟨hlt,hli,hed⟩:=oa hi;have hli':listed[i]?=some false:=by rw[jC,jB (show i<listed.size by omega)]at hli;rw[jB (show i<listed.size by omega)];exact congrArg some hli
  refine ih _ ρ' a' w' (by simp[hs]) ?_ (λj k hj hjk=> ?_) hR' hhl' hren'
  ·have:=vY listed.toList i (by simpa using hli');rw[Array.toList_setIfInBounds];omega
  ·have up:∀k,lst listed k=true->lst (listed.setIfInBounds i true) k=true:=λk hk=>by
    unfold lst at hk|-
    rw[jC]at hk|-
    by_cases hki:i=k
    ·subst hki;rw[Array.getElem?_setIfInBounds_self_of_lt (by omega)];rfl
    ·rw[jI hki];exact hk
   by_cases hji:i=j
   ·subst hji;have ho:ops[i]?=some ops[i]:=jB hlt;have hedge:=nW _ _ hE i ops[i] (by simp[hlt]);rw[jA]at hedge;obtain⟨e,he,hb,h⟩:=vU ho hedge hjk;have:=hed _ ho e he hb;rcases h with rfl|h
    ·exact up _ this
    ·exact up _ (hcl _ _ this h)
   ·refine up k (hcl j k ?_ hjk);unfold lst at hj|-
    rw[jC]at hj|-
    rw[jI hji]at hj;exact hj
variable {ro:Option Nat}
theorem Ju(hm:P.follows .mixedOrders=true)(hΓ:ConsOkX mn P IC Γ){id:Nat}{ops:Array QN}{draw:Bool}{α:Type}{K:St->Option α}{r:α}{ρ:Nat->Ad}{st:St}{a:Act}{w:QB}
  (hR:RS E P W0 n0 D ρ0 ρ st a w) (hr:mc P Γ ops draw st K=some r)
  (hQ:∀ρ' st' a' w',K st'=some r->RS E P W0 n0 D ρ0 ρ' st' a' w'->Ext (wrL ops.toList) st.h.length ρ ρ' st st'->Q .normal a' w'):WpX mn ro P (.region id ops draw) Q a w:=by
 have roomExt:∀(k:Nat) (W:List Nat) (ρ:Nat->Ad),Ext W st.h.length ρ ρ st { st with h:=st.h++jE k .no }:=λk W ρ=>
  ⟨λ_ _=>rfl,rfl,λm hm _=>by rw[List.getElem?_append_left hm],λ_ h=>h,by simp,(hR.room k).2,λ_ _=>rfl⟩
 unfold mc at hr;cases draw with
 | false=>
  simp only[Q2]at hr;refine Za2 ?_;rw[List.range_eq_range',<- Array.length_toList];cases hcl:eV Γ ops.toList with
  |true=>rw[hcl]at hr;simp only[Q1]at hr;exact py hΓ hR.bound ops.toList 0 rfl (hR.room (4*ops.size)).1 hr λρ' st' a' w' hk hR' he=>hQ ρ' st' a' w' hk hR' ((roomExt _ _ _).trans he)
  |false=>
  rw[hcl]at hr;simp only[Q2]at hr;cases hnew:wa P ops.toList with
  |true=>rw[hnew]at hr;simp only[Q1]at hr;exact py hΓ hR.bound ops.toList 0 rfl (hR.room ops.size).1 hr λρ' st' a' w' hk hR' he=>hQ ρ' st' a' w' hk hR' ((roomExt _ _ _).trans he)
  |false=>rw[hnew]at hr;simp only[Q2]at hr;exact py hΓ hR.bound ops.toList 0 rfl hR hr λρ' st' a' w' hk hR' he=>hQ ρ' st' a' w' hk hR' he
 | true=>
  simp only[Q1]at hr;cases hE:il ops.toList 0 with
  |false=>rw[hE]at hr;cases hr
  | true=>
   rw[hE]at hr;simp only[Q1]at hr;obtain⟨tr,hlen,hX,hT,hk⟩:=pX ops.toList 0 [] rfl (Nat.zero_le _) rfl (λi o x _ hx=>by simp at hx) hr;refine yq hm ?_;have hR1:=(hR.room ops.size).1;have hno:∀i,i<ops.size->(st.h++jE ops.size VB.no)[st.h.length+i]?=some .no:=λi hi=>by
    rw[List.getElem?_append_right (by omega),List.getElem?_replicate,if_pos (by omega)]
   have hl0:∀k,lst (Array.replicate ops.size false) k=false:=λk=>by
    unfold lst;rw[jC,Array.getElem?_replicate];split<;>rfl
   have hst:Uaj st.h.length (lst (Array.replicate ops.size false)) tr 0 { st with h:=st.h++jE ops.size .no }={ st with h:=st.h++jE ops.size .no }:=
    Zt8 _ tr 0 _ λk _=>hl0 k
   refine yy hΓ hR.bound (st0:={ st with h:=st.h++jE ops.size .no }) hno hE hlen hX hT (ρs:=ρ) (λρ' a' w' hR' hhl hren=> ?_) ops.size _ ρ a _ (by simp) (by simp[di]) (λi k h=>by rw[hl0]at h;cases h) (by rw[hst];exact hR1) (by rw[hst];exact HLe.refl _) (λ_ _=>rfl);refine hQ ρ' _ a' w' hk hR' ?_;obtain⟨h1,h2,h3⟩:=zX (base:=st.h.length) (B:=λ_=>true) (wrL ops.toList) (jD st.h.length) tr 0 { st with h:=st.h++jE ops.size .no } λj x hj d hd=>by
    have hjlt:j<ops.size:=by have:=(jH.1 hj).1;omega
    have:=(hX j ops[j] x (jB hjlt) hj).1;exact im (l:=ops.toList) (j:=j) (o:=ops[j]) (by simp[hjlt]) (by rw[<- this];exact hd)
   have hlens:=zL st.h.length (λ_=>true) tr 0 { st with h:=st.h++jE ops.size .no };exact(roomExt _ (wrL ops.toList) ρ).trans ⟨h1,hlens.1,h2,h3,by rw[hlens.2];exact jD _,hhl,hren⟩
end
end
section
variable {mn:Md}
section
variable {P:QD}
theorem Tr.pure{α:Type}(a:α)(v:QB):Tr P (Pure.pure a:QQ α) v a v:=(Simple.pure a).tr rfl
theorem Tr.bind{α β:Type}{s:QQ α}{f:α->QQ β}{v v₁ v₂:QB}{a:α}{b:β}(h:Tr P s v a v₁)(k:Tr P (f a) v₁ b v₂):Tr P (s >>= f) v b v₂:=λG w J O es=>by
 obtain⟨w₁,es₁,U,V,A⟩:=h G w J O es;obtain⟨w₂,es₂,Z,q2,L⟩:=k _ w₁ (J.did A) V.symm (es++es₁);refine⟨w₂,es₁++es₂,?_,?_,vi A L⟩
 ·show (s.bind f).runT P w es=_
  rw[Sem.runT_bind',U];dsimp only;rw[Z,Array.append_assoc]
 ·rw[q2,Gh.grow_grow G A.size L.size]
theorem yz{G:Gh}{w:QB}{r:Nat}{o:Obj}(h:(view G w).heap[r]?=some o)(J:o.isCells=false)(h2:o.isChan=false):G.M r/\w.heap[r]?=some o:=by
 rw[cp]at h;obtain⟨U,O,A⟩:=Option.map_eq_some_iff.1 h
 by_cases L:G.M r
 ·rw[Uc8 L]at A;refine⟨L,?_⟩;rcases pq U with ⟨Z,e',fr',rfl,h' | h'⟩ | ⟨a,u,rfl,h'⟩ | ⟨-,h'⟩
  ·rw[h']at A;unfold bj at A;subst A;cases J
  ·rw[h']at A;subst A;cases J
  ·rw[h']at A;unfold bj at A;subst A;cases J
  ·rw[h']at A;rw[O,A]
 ·exfalso
  by_cases V:G.S r
  ·rw[de L V]at A;cases U<;>simp only[cU,bj]at A<;>subst A<;>cases J
  ·rw[dV L V]at A;cases hF:G.F r with
   |none=>rw[hF]at A;unfold bj at A;subst A;cases J
   |some x=>rw[hF]at A;unfold cq at A;subst A;cases h2
theorem Yry{v:QB}{r:Nat}{o:Obj}(h:v.heap[r]?=some o)(A:o.isCells=false)(h2:o.isChan=false):Tr P (getObj r) v o v:=λG w V L es=>by
 subst L;obtain⟨O,U⟩:=yz h A h2;refine⟨w,#[⟨.obj r,false,false⟩],?_,by rw[Gh.grow_self],rfl,rfl,rfl,jD _,λ_ _ _=>rfl,λe J=> ?_⟩
 ·unfold getObj;simp only[Sem.runT,U];cases o<;>first | (cases A;done) | (cases h2;done)|simp[Obj.isChan]
 ·simp at J;subst J;exact .inr (.inr (.inr ⟨r,false,rfl,.inl O⟩))
theorem Ysi{G:Gh}{w:QB}{r:Nat}{o:Obj}(J:G.M r)(ho:own o=o):view G (w.putObj r o)=(view G w).putObj r o:=by
 unfold view World.putObj;simp only[World.mk.injEq,true_and,and_true];refine Array.ext_getElem? λi=> ?_
 rw[Array.getElem?_mapIdx,Array.getElem?_setIfInBounds,Array.getElem?_setIfInBounds,Array.getElem?_mapIdx,Array.size_mapIdx]
 by_cases hi:r=i
 ·subst hi;rw[if_pos rfl,if_pos rfl]
  by_cases A:r<w.heap.size
  ·rw[if_pos A];exact congrArg some ((Uc8 J).trans ho)
  ·rw[if_neg A];rfl
 ·rw[if_neg hi,if_neg hi]
theorem Ydf{v:QB}{r:Nat}{o A:Obj}(h:v.heap[r]?=some o)(U:o.isCells=false)(h2:o.isChan=false)(Z:own A=A)(h4:A.isChan=false):Tr P (setObj r A) v () (v.putObj r A):=λG w hf hv es=>by
 subst hv;obtain⟨L,hw⟩:=yz h U h2;have J:(w.putObj r A).heap.size=w.heap.size:=by simp[World.putObj]
 refine⟨w.putObj r A,#[⟨.obj r,true,false⟩],?_,?_,rfl,rfl,rfl,Nat.le_of_eq J.symm,λk hk O=> ?_,λe V=> ?_⟩
 ·unfold setObj;simp only[Sem.runT,hw];cases o<;>first | (cases U;done) | (simp only[h4];simp[World.putObj])
 ·rw[J,Gh.grow_self];exact(Ysi L Z).symm
 ·exact World.putObj_heap_other (λe=>O (by first | (rw[e];exact L) | (rw[<- e];exact L)))
 ·simp at V;subst V;exact .inr (.inr (.inr ⟨r,true,rfl,.inl L⟩))
theorem Zxe{v:QB}{l:Nat}{r:Loop}(h:v.heap[l]?=some (.loop r)):Tr P (Instr.getLoop l) v r v:=(Yry h rfl rfl).bind (Tr.pure r v)
theorem ee{v:QB}{l:Nat}{r:Loop}{args:QA}(h:v.heap[l]?=some (.loop r))(A:args.size=r.params.size):
  Tr P (Instr.yield l args) v (.round l r.fn ((r.params.zip args).foldl (λtmps (t,a)=>tmps.setIfInBounds t a) r.tmps) r.assign r.body) v:=by
 unfold Instr.yield;refine(Zxe h).bind ?_;dsimp only;rw[if_neg (by simpa using A)];exact Tr.pure _ _
theorem Jv{v:QB}{l:Nat}{r:Loop}(h:v.heap[l]?=some (.loop r))(A:r.state=.ready):Tr P (Instr.beginRound l) v () (v.putObj l (.loop { r with state:=.busy })):=by unfold Instr.beginRound;refine(Zxe h).bind ((Ydf h rfl rfl rfl rfl).bind ?_);rw[A];exact Tr.pure _ _
theorem Jw{v:QB}{l:Nat}{r:Loop}(jump:Option QOq)(h:v.heap[l]?=some (.loop r)):
  Tr P (Instr.endRound l jump) v (.bool jump.isNone) (v.putObj l (.loop { r with state:=if jump.isNone then .ready else .done,pending:=jump })):=by
 unfold Instr.endRound;exact(Zxe h).bind ((Ydf h rfl rfl rfl rfl).bind (Tr.pure _ _))
theorem yA{v:QB}{l:Nat}{r:Loop}(h:v.heap[l]?=some (.loop r))(A:r.state ≠ .busy):Tr P (Instr.endLoop l) v r.pending (v.putObj l (.loop { r with state:=.exhausted })):=by unfold Instr.endLoop;refine(Zxe h).bind ?_;rw[if_neg (by simpa using A)];exact(Ydf h rfl rfl rfl rfl).bind (Tr.pure _ _)
theorem tr_new{v:QB}{o:Obj}(ho:own o=o):Tr P (newObj o) v v.heap.size (v.alloc o):=(Simple.new o _ ho λ_=>.pure _).tr rfl
theorem Jy{v:QB}(fn:QF)(tmps:QA)(params:Array Tmp)(assign body:QOq):
  Tr P (Instr.enterLoop fn tmps params assign body none) v (v.heap.size+1,[{ target:=.collected v.heap.size,args:=#[] }])
   ((v.alloc (.deferred (some []))).alloc (.loop { state:=.ready,pending:=none,fn,tmps,params,assign,body,defers:=v.heap.size })):=by
 unfold Instr.enterLoop;refine((tr_new rfl).bind (Tr.pure _ _)).bind ?_;have:=tr_new (P:=P) (v:=v.alloc (.deferred (some []))) (o:=.loop { state:=.ready,pending:=none,fn,tmps,params,assign,body,defers:=v.heap.size }) rfl;rw[World.size_alloc]at this;exact this.bind (Tr.pure _ _)
theorem yB{v:QB}{m:Nat}(h:v.heap[m]?=some (.deferred (some []))):Tr P (Instr.takeDeferred m) v [] (v.putObj m (.deferred none)):=by unfold Instr.takeDeferred;exact(Yry h rfl rfl).bind ((Ydf h rfl rfl rfl rfl).bind (Tr.pure _ _))
structure KeepsS (sf:QE->Bool) (B:Nat) (W W':QB):Prop where
 size:W.heap.size<=W'.heap.size
 same:∀k,B<=k->k<W.heap.size->(∀C t fr,W.heap[k]?=some (.cells C t fr)->sf t=false)->W'.heap[k]?=W.heap[k]?
variable {sf:QE->Bool}
theorem KeepsS.trans{B:Nat}{X Y Z:QB}(h:KeepsS sf B X Y)(k:KeepsS sf B Y Z):KeepsS sf B X Z:=⟨Nat.le_trans h.size k.size,λi A hi J=>by
 have e:=h.same i A hi J;exact(k.same i A (Nat.lt_of_lt_of_le hi h.size) (by rw[e];exact J)).trans e⟩
theorem KeepsS.later{B B':Nat}{W W':QB}(h:KeepsS sf B W W')(A:B<=B'):KeepsS sf B' W W':=⟨h.size,λk hk hl=>h.same k (Nat.le_trans A hk) hl⟩
theorem KeepsS.put{B:Nat}(W:QB)(l:Nat)(o:Obj)(hl:l<B):KeepsS sf B W (W.putObj l o):=⟨by simp[World.putObj],λk hk _ _=>World.putObj_heap_other (by omega)⟩
theorem KeepsS.at{B:Nat}{W W':QB}(h:KeepsS sf B W W'){k:Nat}{o:Obj}(A:B<=k)(hk:W.heap[k]?=some o)(J:∀C t fr,o=.cells C t fr->sf t=false:=by intro C t fr h;cases h):W'.heap[k]?=some o:=
 (h.same k A (jG.1 hk).1 λC t fr e=>J C t fr (by rw[hk]at e;exact Q5 e)).trans hk
theorem KeepsS.of_ge{B:Nat}{v v':QB}(h:Ge v v'):KeepsS sf B v v':=⟨h.size,λk _ hk _=>h.block k hk⟩
abbrev Ubg(P:QD):=KeepsS (Udl P)
theorem Ubg.of_ge{B:Nat}{v v':QB}(h:Ge v v'):Ubg P B v v':=KeepsS.of_ge h
theorem KeepsS.weak{sf':QE->Bool}{B:Nat}{W W':QB}(h:KeepsS sf B W W')(A:∀t,sf t=true->sf' t=true):KeepsS sf' B W W':=⟨h.size,λk hk hl h'=>h.same k hk hl λC t fr e=>by
 cases J:sf t with
 |false=>rfl
 |true=>have:=h' C t fr e;rw[A t J]at this;cases this⟩
def ownPostX{α:Type}(sf:QE->Bool)(B:Nat)(Kp:QB->QB->Prop)(I:List α->QB->Prop)(Ix:QOq->List α->QB->Prop)(xs:List α)(W:QB):Exit->Act->QB->Prop
 |.normal,_,W'=>KeepsS sf B W W'/\Kp W W'/\I xs W'
 |.ret,_,W'=>KeepsS sf B W W'/\Ix .ret xs W'
 |.exit id,_,W'=>KeepsS sf B W W'/\Ix (.exit id) xs W'
 |.goto t,_,W'=>KeepsS sf B W W'/\Ix (.goto t) xs W'
 |.panic _,_,_=>False
 |.outgrown,_,_=>False
def YieldX(mn:Md)(P:QD)(l:Nat)(args:QA)(v:QB)(R:QC->QB->Prop):Prop:=
 ∀v₁,Ge v v₁->∃f tmps assign body,Tr P (Instr.yield l args) v₁ (.round l f tmps assign body) v₁/\Ud1 mn P l f tmps assign body v₁ R
def SeqS{α:Type}(sf:QE->Bool)(mn:Md)(P:QD)(g:Nat)(lb:QA)(encs:α->QA)(Kp:QB->QB->Prop)(xs:List α)(v0:QB):Prop:=
 ∀ (l:Nat) (J Jx:List α→QB→Prop) (V:QB),Ge v0 V→OwnFrom V.heap.size J→OwnFrom V.heap.size Jx →
  (∀ pre x V1,J pre V1→pre++[x] <+: xs→V.heap.size≤V1.heap.size→YieldX mn P l (encs x) V1 fun r V'=>
   (r=.bool true/\J (pre++[x]) V'/\Kp V1 V'/\KeepsS sf V.heap.size V1 V')\/(r=.bool false/\Jx (pre++[x]) V'/\KeepsS sf V.heap.size V1 V')) ->
  J [] V->Ua6 mn P g (#[.func (.yield l) #[] #[]]++lb) V λr V'=>J xs V'\/∃pre,pre <+: xs/\Jx pre V'
abbrev gB{α:Type}(mn:Md)(P:QD):=SeqS (α:=α) (Udl P) mn P
theorem YieldX.mono{mn:Md}{P:QD}{l:Nat}{args:QA}{v:QB}{R A:QC->QB->Prop}(h:YieldX mn P l args v R)(J:∀r v',R r v'->A r v'):YieldX mn P l args v A:=by intro v₁ h₁;obtain⟨f,tmps,assign,body,L,O⟩:=h v₁ h₁;exact⟨f,tmps,assign,body,L,O.mono J⟩
theorem SeqS.keep{α:Type}{mn:Md}{P:QD}{g:Nat}{lb:QA}{encs:α->QA}{Kp Kp':QB->QB->Prop}{xs:List α}{v:QB}(h:SeqS sf mn P g lb encs Kp xs v)(hk:∀{W W'},Kp' W W'->Kp W W'):SeqS sf mn P g lb encs Kp' xs v:=
 λl J Jx V L O U Z h0=>h l J Jx V L O U (λA x W1 a b c=>(Z A x W1 a b c).mono λe W' q=>q.imp (λq=>⟨q.1,q.2.1,hk q.2.2.1,q.2.2.2⟩) id) h0
theorem SeqS.weak{α:Type}{mn:Md}{P:QD}{sf':QE->Bool}{g:Nat}{lb:QA}{encs:α->QA}{Kp:QB->QB->Prop}{xs:List α}{v:QB}(h:SeqS sf mn P g lb encs Kp xs v)(L:∀t,sf' t=true->sf t=true):SeqS sf' mn P g lb encs Kp xs v:=
 λl J Jx V O U Z hY h0=>h l J Jx V O U Z (λA x W1 a b c=>(hY A x W1 a b c).mono λe W' q=>q.imp (λq=>⟨q.1,q.2.1,q.2.2.1,q.2.2.2.weak L⟩) (λq=>⟨q.1,q.2.1,q.2.2.weak L⟩)) h0
def sfOf(P:QD)(h:List VB)(t:QE):Bool:= !Uc7 h&&Udl P t
theorem SeqS.any{α:Type}{mn:Md}{P:QD}{g:Nat}{lb:QA}{encs:α->QA}{Kp:QB->QB->Prop}{xs:List α}{v:QB}(h:gB mn P g lb encs Kp xs v)(J:List VB):SeqS (sfOf P J) mn P g lb encs Kp xs v:=h.weak λt A=>by
 unfold sfOf at A;rw[Q7]at A;exact A.2
section steps
variable {b:Frame} {a:Act} {k:List Item} {cs:List Frame} {w w':QB} {es:Array Event}
theorem Jz{l:Nat}(J:b.roundOf=some l)(hk:b.kind=.normal)(L:(Instr.beginRound l).runT P w #[]=(.ok () w',es)):
  stepG P mn.main (gr (b.atR a (.beginRound::k)) cs) w=.go (gr (b.atR a k) cs) w' (seen P b.fn es):=by
 have A:(b.kind==CallKind.early)=false:=by rw[hk];rfl
 have h2 : (do (some l).elim (stuck "beginRound: no round") Instr.beginRound; pure .skip : QQ Next).runT P w #[] = (.ok .skip w', es) := by
  show ((Instr.beginRound l).bind λ_=>Sem.pure Next.skip).runT P w #[]=_
  rw[Sem.runT_bind',L];rfl
 simp only[gr,stepG,stepG.exec,Frame.atR,stepG.apply,if_true,J,h2,A,Bool.false_eq_true,if_false,GStep.after,Frame.finish,Array.append_empty]
theorem JA{l:Nat}{c:Frame}{jump:Option QOq}{v:QC}(A:b.roundOf=some l)(hk:b.kind=.normal)(J:(Instr.endRound l jump).runT P w #[]=(.ok v w',es))
  (O:(k=[]/\jump=none)\/(∃k₁,k=.code .ret::k₁/\jump=some .ret)\/(∃id k₁,k=.code (.exit id)::k₁/\exitTo id k₁=none/\jump=some (.exit id))\/(∃t k₁,k=.code (.goto t)::k₁/\gotoIn t k₁=none/\jump=some (.goto t))) :
  stepG P mn.main (gr (b.atR a k) (c::cs)) w=.go (gr (c.finish v) cs) w' (seen P b.fn es):=by
 rcases O with ⟨rfl,rfl⟩ | ⟨k₁,rfl,rfl⟩ | ⟨id,k₁,rfl,L,rfl⟩ | ⟨t,k₁,rfl,L,rfl⟩
 ·simp[gr,stepG,stepG.exec,Frame.atR,A,J,GStep.after,doReturn,hk,-Sem.runT_eq]
 ·simp[gr,stepG,stepG.exec,Frame.atR,A,J,GStep.after,doReturn,hk,-Sem.runT_eq]
 ·simp[gr,stepG,stepG.exec,Frame.atR,A,J,GStep.after,doReturn,hk,L,-Sem.runT_eq]
 ·simp[gr,stepG,stepG.exec,Frame.atR,A,J,GStep.after,doReturn,hk,L,-Sem.runT_eq]
theorem JB{g:QH}{ps:Array Tmp}{assign body:QOq}{l:Nat}{mark:List Deferred}{gf:QF}{args:QA}{w₂:QB}{es₂:Array Event}(O:b.roundOf=none)(hk:b.kind=.normal)
  (U:(Instr.enterLoop b.fn a.tmps ps assign body none).runT P w #[]=(.ok (l,mark) w',es))
  (V:(do let d <- resolve a.eval { callee:=.value g,args:=#[.const (.func (.yield l) #[] #[])],argTypes:=#[] } 0;invoke d.target d.args:QQ Next).runT P w' #[]=(.ok (.enter gf args) w₂,es₂)) :
  stepG P mn.main (gr (b.atR a (.code (.rangeFunc g ps assign body)::k)) cs) w =
   .go (gr (Frame.enter P gf args .normal) (b.atR { a with defers:=mark++a.defers } (.inRangeFunc l::k)::cs)) w₂ (seen P b.fn es++seen P b.fn es₂):=by
 have A:(b.kind==CallKind.early)=false:=by rw[hk];rfl
 have J:=Frame.eval_atR b { a with defers:=mark++a.defers } (.inRangeFunc l::k);have L:({ a with defers:=mark++a.defers }:Act).eval=a.eval:=rfl;rw[L]at J;simp only[Frame.atR,O]at J;simp only[gr,stepG,stepG.exec,Frame.atR,O,U,GStep.after];simp only[stepG.apply,if_true,J,V,A,Bool.false_eq_true,if_false,GStep.after,Array.append_empty]
theorem JC{l:Nat}{v:QC}:(b.atR a (.inRangeFunc l::k)).finish v=b.atR a (.endRangeFunc l::k):=rfl
theorem yC{l:Nat}{jump:Option QOq}(A:(Instr.endLoop l).runT P w #[]=(.ok jump w',es)):
  stepG P mn.main (gr (b.atR a (.endRangeFunc l::k)) cs) w=.go (gr (b.atR a ((jump.map Item.code).toList++k)) cs) w' (seen P b.fn es):=by
 simp[gr,stepG,stepG.exec,Frame.atR,A,GStep.after,-Sem.runT_eq]
end steps
end
end
section
variable {mn:Md}
section
variable {P:QD}
theorem JE{l:Nat}{f:QF}{tmps:QA}{assign body:QOq}{v:QB}{R:QC->QB->Prop}{a₁:Act}{V₁:QB}{rec:Loop}
  (hassign:WpX mn (some l) P assign (Exit.then (λa w=>a=a₁/\Ge v w) λ_ _ _=>False) { tmps,defers:=[] } v)
  (hbegin:∀w,Ge v w->∃r:Loop,w.heap[l]?=some (.loop r)/\r.state=.ready)
  (hbody:∀ w r,Ge v w→w.heap[l]? = some (.loop r)→WpX mn (some l) P body (fun e a' w'=>∃ jump,(e = .normal∧jump=none∨e = .ret∧jump=some .ret∨(∃ id,e = .exit id∧jump=some (.exit id))∨∃ t,e = .goto t∧jump=some (.goto t)) ∧
   ∀w'',Ge w' w''->∃r',w''.heap[l]?=some (.loop r')/\R (.bool jump.isNone) (w''.putObj l (.loop { r' with state:=if jump.isNone then .ready else .done,pending:=jump }))) a₁ (w.putObj l (.loop { r with state:=.busy }))) :
  Ud1 mn P l f tmps assign body v R:=λPr hC c cs G w hf hv hQ=>by
 let b:Frame:={ fn:=f,tmps,todo:=[],defers:=[],mode:=.run,kind:=.normal,roundOf:=some l }
 show Pr G w (gr (b.atR { tmps,defers:=[] } (.code assign::.beginRound::[.code body])) (c::cs))
 refine hassign Pr hC b rfl rfl _ _ G w hf hv λe a' v' hq G' w' hf' hv'=> ?_
 cases e with
 | normal=>
  obtain⟨rfl,hge⟩:=hq;refine hC.step G' w' _ hf' rfl λw₁ hr₁=> ?_
  have hf₁:=hf'.rely hr₁;have hg₁:=(hge.trans hv').trans (hr₁.view hf');obtain⟨r,hl,hst⟩:=hbegin _ hg₁;obtain⟨w₂,es,e1,e2,e3⟩:=Jv (P:=P) hl hst G' w₁ hf₁ rfl #[];refine⟨_,w₂,_,Jz (b:=b) rfl rfl e1,by simpa using e3.seen b.fn,?_⟩;refine hbody _ r hg₁ hl Pr hC b rfl rfl [] (c::cs) _ w₂ (hf₁.did e3) (e2 ▸ .refl _) λe a'' v'' hq' G'' w'' hf'' hv''=> ?_
  obtain⟨jump,hj,hend⟩:=hq';have leave:∀{k:List Item},(k=[]/\jump=none)\/(∃k₁,k=.code .ret::k₁/\jump=some .ret)\/(∃id k₁,k=.code (.exit id)::k₁/\exitTo id k₁=none/\jump=some (.exit id))\/(∃t k₁,k=.code (.goto t)::k₁/\gotoIn t k₁=none/\jump=some (.goto t)) ->
    Pr G'' w'' (gr (b.atR a'' k) (c::cs)):=λ{k} hk=>by
   refine hC.step G'' w'' _ hf'' rfl λw₃ hr₃=> ?_
   have hf₃:=hf''.rely hr₃;obtain⟨r',hl',hR⟩:=hend _ (hv''.trans (hr₃.view hf''));obtain⟨w₄,es₄,q1,q2,q3⟩:=Jw (P:=P) jump hl' G'' w₃ hf₃ rfl #[];refine⟨_,w₄,_,JA (b:=b) rfl rfl q1 hk,by simpa using q3.seen b.fn,?_⟩;exact hQ _ _ hR _ w₄ (hf₃.did q3) (q2 ▸ .refl _)
  rcases hj with ⟨rfl,rfl⟩ | ⟨rfl,rfl⟩ | ⟨id,rfl,rfl⟩ | ⟨t,rfl,rfl⟩
  ·exact leave (.inl ⟨rfl,rfl⟩)
  ·exact λk₁=>leave (.inr (.inl ⟨k₁,rfl,rfl⟩))
  ·exact⟨λk' hk=>by simp[exitTo]at hk,λ_ k₁ hk=>leave (.inr (.inr (.inl ⟨id,k₁,rfl,hk,rfl⟩)))⟩
  ·exact⟨λk' hk=>by simp[gotoIn]at hk,λ_ k₁ hk=>leave (.inr (.inr (.inr ⟨t,k₁,rfl,hk,rfl⟩)))⟩
 |_=>exact hq.elim
theorem Ge.grown{v v':QB}(h:Ge v v'):v.grownBy v' none:=⟨h.os,h.tape,h.output,h.size,λk hk _=>h.block k hk⟩
theorem OwnFrom.ge{β:Type}{B:Nat}{I:β->QB->Prop}(h:OwnFrom B I){s:β}{v v':QB}(A:I s v)(J:Ge v v'):I s v':=h s v v' none A J.grown (λr e=>by cases e)
theorem Ge.at{v v':QB}(h:Ge v v'){k:Nat}{o:Obj}(hk:v.heap[k]?=some o):v'.heap[k]?=some o:=(h.block k (jG.1 hk).1).trans hk
theorem pz{α:Type}{g:QH}{ps:Array Tmp}{assign body:QOq}{Q:Exit->Act->QB->Prop}{a:Act}{v:QB}{gf:Nat}{lb:QA}(hg:a.eval g=.func (.func gf) #[] lb)(eg:EntX P gf)
  {encs:α->QA} {Kp:QB->QB->Prop} {xs:List α} {v0:QB} {sf:QE->Bool} (hseq:SeqS sf mn P gf lb encs Kp xs v0)
  (hKt:∀{A B C:QB},Kp A B->Kp B C->Kp A C) (hKb:∀(W:QB) (l:Nat) (o o':Obj),v.heap.size<=l->W.heap[l]?=some o->o.isCells=false->o.isWalk=false->Kp W (W.putObj l o')) (hKg:∀{A B:QB},Ge A B->Kp A B) (hb0:Ge v0 v)
  (I:List α->QB->Prop) (Ix:QOq->List α->QB->Prop) (hps:∀L x W,I L W->L++[x] <+: xs->(encs x).size=ps.size) (hI:OwnFrom v.heap.size I) (hIx:∀c,OwnFrom v.heap.size (Ix c)) (h0:I [] v) (a₁:α->Act)
  (hassign:∀(l:Nat) (x:α) (W:QB),WpX mn (some l) P assign (Exit.then (λa w=>a=a₁ x/\Ge W w) λ_ _ _=>False) { tmps:=(ps.zip (encs x)).foldl (λt (p,v)=>t.setIfInBounds p v) a.tmps,defers:=[] } W)
  (hbody:∀(l:Nat) (L:List α) (x:α) (W:QB),v.heap.size<=l->(∃r,W.heap[l]?=some (.loop r))->I L W->L++[x] <+: xs->WpX mn (some l) P body (ownPostX sf v.heap.size Kp I Ix (L++[x]) W) (a₁ x) W)
  (hdone:∀(D:Nat) (W:QB),v.heap.size<=D->I xs W->W.heap[D]?=some (.deferred (some []))->Q .normal { a with defers:={ target:=.collected D,args:=#[] }::a.defers } W)
  (hstop:∀(D:Nat) (c:QOq) (L:List α) (W:QB),v.heap.size<=D->L <+: xs->Ix c L W->W.heap[D]?=some (.deferred (some []))->WpX mn none P c Q { a with defers:={ target:=.collected D,args:=#[] }::a.defers } W) :
  WpX mn none P (.rangeFunc g ps assign body) Q a v:=λPr hC b hb hkd k cs G w hf hv hQ=>by
 refine hC.step G w _ hf rfl λw₁ hr₁=> ?_
 have hf₁:=hf.rely hr₁;have hv₁:Ge v (view G w₁):=hv.trans (hr₁.view hf);generalize hvd:view G w₁=v₁ at hv₁;have hszv:v.heap.size<=v₁.heap.size:=hv₁.size
 -- the record of this loop, in whatever state
 let mk:LoopState->Option QOq->Obj:=λst pe=>.loop { state:=st,pending:=pe,fn:=b.fn,tmps:=a.tmps,params:=ps,assign,body,defers:=v₁.heap.size }
 let W1:QB:=(v₁.alloc (.deferred (some []))).alloc (mk .ready none)
 have hsz:W1.heap.size=v₁.heap.size+2:=by simp[W1]
 have hL1:W1.heap[v₁.heap.size+1]?=some (mk .ready none):=by
  have:=World.alloc_heap_new (v₁.alloc (.deferred (some []))) (mk .ready none)
  rwa [World.size_alloc]at this
 have hD1:W1.heap[v₁.heap.size]?=some (.deferred (some [])):=
  (Below.heap_alloc (v₁.alloc (.deferred (some []))) _ _ (by simp)).trans (World.alloc_heap_new v₁ _)
 have hgW:Ge v₁ W1:=((Below.refl _ v₁).alloc (jD _) _).alloc (by simp) _;obtain⟨w₂,es,e1,e2,e3⟩:=Jy (P:=P) b.fn a.tmps ps assign body G w₁ hf₁ hvd #[];have hcx:(do let d <- resolve a.eval { callee:=.value g,args:=#[.const (.func (.yield (v₁.heap.size+1)) #[] #[])],argTypes:=#[] } 0;invoke d.target d.args:QQ Next)=QS gf (#[.func (.yield (v₁.heap.size+1)) #[] #[]]++lb):=by
  simp only[resolve,hg,Deferred.ofValue]
  show QS gf _=_
  congr 1;rw[<- jF];simp[Act.eval]
 have hf₂:=hf₁.did e3;obtain⟨w₃,es₃,q1,q2,q3⟩:=(eg.2 (#[.func (.yield (v₁.heap.size+1)) #[] #[]]++lb)).tr (eg.1 _ W1) (G.grow w₁.heap.size w₂.heap.size) w₂ hf₂ e2.symm #[];refine⟨_,w₃,_,JB hb hkd e1 (by rw[hcx];exact q1),?_,?_⟩
 ·have:=vi (G:=G) (a:=w₁) (b:=w₂) (c:=w₃) (e3.seen (P:=P) b.fn) (q3.seen (P:=P) b.fn)
  simpa using this
 rw[<- Gh.grow_grow G e3.size q3.size]
 -- what lies in the two blocks abides the iterator's turns
 have Z:∀{A B:QB} {row:Option Nat} {k:Nat} {o:Obj},A.grownBy B row->(∀r,row=some r->W1.heap.size<=r/\∃o:Obj,A.heap[r]?=some o/\o.isCells=false)->k<W1.heap.size->A.heap[k]?=some o->B.heap[k]?=some o:=
  λb5 hr hk h=>(b5.block _ (jG.1 h).1 (λe=>by have:=(hr _ e.symm).1;omega)).trans h
 have hown:∀{J:List α->QB->Prop},OwnFrom v.heap.size J->OwnFrom W1.heap.size J:=λh=>Ke h (by omega)
 refine hseq (v₁.heap.size+1)
  (λL W=>I L W/\W.heap[v₁.heap.size+1]?=some (mk .ready none)/\W.heap[v₁.heap.size]?=some (.deferred (some [])))
  (λL W=>∃c,Ix c L W/\W.heap[v₁.heap.size+1]?=some (mk .done (some c))/\W.heap[v₁.heap.size]?=some (.deferred (some [])))
  W1 ((hb0.trans hv₁).trans hgW)
  (λs A B row hs b5 hr=>⟨hown hI s A B row hs.1 b5 hr,Z b5 hr (by omega) hs.2.1,Z b5 hr (by omega) hs.2.2⟩)
  (λs A B row ⟨c,hc,hl,hk⟩ b5 hr=>⟨c,hown (hIx c) s A B row hc b5 hr,Z b5 hr (by omega) hl,Z b5 hr (by omega) hk⟩)
  ?_ ⟨OwnFrom.ge hI h0 (hv₁.trans hgW),hL1,hD1⟩ Pr hC _ _ w₃ (hf₂.did q3) (q2 ▸ .refl _) ?_
 ·rintro L x V1 ⟨hi,hl,hk⟩ hpre hle v₂ hg₂;have hi₂:=OwnFrom.ge hI hi hg₂;have hl₂:=hg₂.at hl;refine⟨b.fn,_,assign,body,ee (P:=P) (args:=encs x) hl₂ (hps L x V1 hi hpre),?_⟩;refine JE (a₁:=a₁ x) (V₁:=v₂) (rec:=default) (hassign _ x v₂) (λW hW=>⟨_,hW.at hl₂,rfl⟩) λW r hW hr=> ?_
  have hlW:=hW.at hl₂;rw[hlW]at hr;cases hr;have hiW:=OwnFrom.ge hI hi₂ hW;have hkW:=hW.at (hg₂.at hk);have hlt:v₁.heap.size+1<W.heap.size:=(jG.1 hlW).1;have hl2:(W.putObj (v₁.heap.size+1) (mk .busy none)).heap[v₁.heap.size+1]?=some (mk .busy none):=World.putObj_heap_same hlt;have hk2:(W.putObj (v₁.heap.size+1) (mk .busy none)).heap[v₁.heap.size]?=some (.deferred (some [])):=(World.putObj_heap_other (by omega)).trans hkW;have hw2:Kp V1 (W.putObj (v₁.heap.size+1) (mk .busy none)):=hKt (hKg (hg₂.trans hW)) (hKb _ _ _ _ (by omega) hlW rfl rfl);have hgV:KeepsS sf W1.heap.size V1 W:=KeepsS.of_ge (hg₂.trans hW);refine WpX.mono (hbody _ L x _ (by omega) ⟨_,hl2⟩ (hI.putObj _ hiW (by omega) hlW rfl) hpre) ?_;have fin:∀(jump:Option QOq) (W3 W4:QB),KeepsS sf v.heap.size (W.putObj (v₁.heap.size+1) (mk .busy none)) W3->Ge W3 W4->∃W5,W5=W4.putObj (v₁.heap.size+1) (mk (if jump.isNone then .ready else .done) jump) /\
    W4.heap[v₁.heap.size+1]?=some (mk .busy none)/\W5.heap[v₁.heap.size+1]?=some (mk (if jump.isNone then .ready else .done) jump)/\W5.heap[v₁.heap.size]?=some (.deferred (some []))/\KeepsS sf W1.heap.size V1 W5:=λjump W3 W4 V O=>by
   have U:=O.at (V.at (by omega) hl2);exact⟨_,rfl,U,World.putObj_heap_same (jG.1 U).1,(World.putObj_heap_other (by omega)).trans (O.at (V.at (by omega) hk2)),
    ((hgV.trans (KeepsS.put W _ _ (by omega))).trans ((V.later (by omega)).trans (KeepsS.of_ge O))).trans (KeepsS.put W4 _ _ (by omega))⟩
  rintro e a3 W3 hp;cases e with
  |normal=>obtain⟨V,hkp3,b7⟩:=hp;refine⟨none,.inl ⟨rfl,rfl⟩,λW4 O=> ?_⟩;obtain⟨W5,rfl,U,b9,c7,hK⟩:=fin none W3 W4 V O;exact⟨_,U,.inl ⟨rfl,⟨hI.putObj _ (OwnFrom.ge hI b7 O) (by omega) U rfl,b9,c7⟩,hKt (hKt hw2 (hKt hkp3 (hKg O))) (hKb _ _ _ _ (by omega) U rfl rfl),hK⟩⟩
  |ret=>obtain⟨V,b7⟩:=hp;refine⟨some .ret,.inr (.inl ⟨rfl,rfl⟩),λW4 O=> ?_⟩;obtain⟨W5,rfl,U,b9,c7,hK⟩:=fin (some .ret) W3 W4 V O;exact⟨_,U,.inr ⟨rfl,⟨.ret,(hIx _).putObj _ (OwnFrom.ge (hIx _) b7 O) (by omega) U rfl,b9,c7⟩,hK⟩⟩
  |exit id=>obtain⟨V,b7⟩:=hp;refine⟨some (.exit id),.inr (.inr (.inl ⟨id,rfl,rfl⟩)),λW4 O=> ?_⟩;obtain⟨W5,rfl,U,b9,c7,hK⟩:=fin (some (.exit id)) W3 W4 V O;exact⟨_,U,.inr ⟨rfl,⟨.exit id,(hIx _).putObj _ (OwnFrom.ge (hIx _) b7 O) (by omega) U rfl,b9,c7⟩,hK⟩⟩
  |goto t=>obtain⟨V,b7⟩:=hp;refine⟨some (.goto t),.inr (.inr (.inr ⟨t,rfl,rfl⟩)),λW4 O=> ?_⟩;obtain⟨W5,rfl,U,b9,c7,hK⟩:=fin (some (.goto t)) W3 W4 V O;exact⟨_,U,.inr ⟨rfl,⟨.goto t,(hIx _).putObj _ (OwnFrom.ge (hIx _) b7 O) (by omega) U rfl,b9,c7⟩,hK⟩⟩
  |panic ch=>exact hp.elim
  |outgrown=>exact hp.elim
 ·intro V2' fr hfn hleave G' w' hf' hv'
  -- the iterator leaves
  refine hC.step G' w' _ hf' rfl λw₄ hr₄=> ?_
  obtain⟨hm,hdf,hkf,fn,hfun,hres⟩:=hleave;obtain⟨r,ht,hpost⟩:=hres (view G' w₄) (hv'.trans (hr₄.view hf'));obtain⟨w₅,es₅,s1,s2,s3⟩:=ht G' w₄ (hf'.rely hr₄) rfl #[];refine⟨_,w₅,_,vk hm hdf hkf hfun s1,by simpa using s3.seen fr.fn,?_⟩;rw[JC];have hf₅:=(hf'.rely hr₄).did s3;have hg₅:Ge (view G' w₄) (view (G'.grow w₄.heap.size w₅.heap.size) w₅):=by rw[<- s2];exact Ge.refl _
  generalize view G' w₄=V2 at hg₅ hpost;generalize G'.grow w₄.heap.size w₅.heap.size=G₅ at hf₅ hg₅;refine hC.step G₅ w₅ _ hf₅ rfl λw₆ hr₆=> ?_
  have hf₆:=hf₅.rely hr₆;have hg₆:=hg₅.trans (hr₆.view hf₅);rcases hpost with ⟨hi,hl,hk⟩ | ⟨L,hpre,c,hi,hl,hk⟩
  ·obtain⟨w₇,es₇,t1,t2,t3⟩:=yA (P:=P) (hg₆.at hl) (by simp) G₅ w₆ hf₆ rfl #[];refine⟨_,w₇,_,yC t1,by simpa using t3.seen b.fn,?_⟩;refine hQ .normal _ _ (hdone v₁.heap.size _ hszv (hI.putObj _ (OwnFrom.ge hI hi hg₆) (by omega) (hg₆.at hl) rfl) ((World.putObj_heap_other (by omega)).trans (hg₆.at hk))) _ w₇ (hf₆.did t3) (by rw[<- t2];exact Ge.refl _)
  ·obtain⟨w₇,es₇,t1,t2,t3⟩:=yA (P:=P) (hg₆.at hl) (by simp) G₅ w₆ hf₆ rfl #[];refine⟨_,w₇,_,yC t1,by simpa using t3.seen b.fn,?_⟩;exact hstop v₁.heap.size c L _ hszv hpre ((hIx c).putObj _ (OwnFrom.ge (hIx c) hi hg₆) (by omega) (hg₆.at hl) rfl) ((World.putObj_heap_other (by omega)).trans (hg₆.at hk)) Pr hC b hb hkd k cs _ w₇ (hf₆.did t3) (by rw[<- t2];exact Ge.refl _) hQ
end
end
end Go.Proofs.YtefjogahegolbaaGreatDoor.Vc
