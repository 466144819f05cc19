/- Operations of the symbolic run, in company. No program is named. -/
import Derived.Test.YtefjogahegolbaaDoorVcA
set_option linter.unusedVariables false
set_option linter.unusedSimpArgs false
open _root_.List renaming replicate->jF,mem_singleton->jI,getElem?_eq_some_iff->jJ
open _root_.Array renaming getElem?_eq_getElem->jB,getD_eq_getD_getElem?->jC,getElem?_eq_some_iff->jE,toList_inj->jG,getElem?_setIfInBounds_ne->jK
open _root_.Nat renaming zero_add->jA,le_refl->jD,le_trans->jH
namespace Go.Proofs.YtefjogahegolbaaDoor.Vc
open Go.RowKit Go.Conc Go.Proofs.YtefjogahegolbaaDoor.Ve
section
variable {mn:Md}
theorem Ge.kept{v v':World}(h:Ge v v')(E:Nat->Prop):Kept E v v':=.of_below h
theorem HIs.ge{P:Program}{ρ:Nat->Ad}{h:List VB}{v v':World}(hH:HIs P ρ h v)(hg:Ge v v'):HIs P ρ h v':=
 ⟨λn b hb=>BIs.kept hH hb (hg.kept λ_=>False) (λ_=>not_false) λ_ _=>not_false,hH.inj,hH.far⟩
theorem RS.ge{P:Program}{W0:World}{n0:Nat}{D E:List Nat}{ρ0 ρ:Nat->Ad}{st:St}{a:Act}{v v':World}(hR:RS E P W0 n0 D ρ0 ρ st a v)(hg:Ge v v'):RS E P W0 n0 D ρ0 ρ st a v':=hR.world (hg.kept _)
section
variable {P:Program}
def Uad(mn:Md)(P:Program)(f:FuncId)(F:Con):Prop:=
 ∀ρ h v args vals r ef,NoOwn h->F args h=some (r,ef,true)->Uav P ρ h args vals->HIs P ρ h v->Ua4 mn P f vals.toArray v λvv v'=>Ua5 P ρ h v r ef vv v'
def Ubh(mn:Md)(P:Program)(f:FuncId)(F:Con):Prop:=
 ∀ρ h v args vals r ef,F args h=some (r,ef,true)->Uav P ρ h args vals->HIs P ρ h v->Ua4 mn P f vals.toArray v λvv v'=>Ua5 P ρ h v r ef vv v'
def MConOkX(mn:Md)(P:Program)(nm:String)(F:Con):Prop:=
 ∀ρ h v z args vals r ef,F (.v z::args) h=some (r,ef,true)->Uav P ρ h args vals->HIs P ρ h v ->
  ∃f vals',Tr P (callMethod z nm vals.toArray) v (.enter f vals') v/\Ua4 mn P f vals' v λvv v'=>Ua5 P ρ h v r ef vv v'
def Ubp(mn:Md)(P:Program)(f:FuncId)(G:NCon):Prop:=
 ∀ρ h v args vals c,G args=some c->Uav P ρ h args vals->HIs P ρ h v->(∀y T,c.box=some (y,T)->Ueu h y=true) ->
  Ua4 mn P f vals.toArray v (Uc8 P ρ h v c)
def EntX(P:Program)(f:FuncId):Prop:=(∀args w,(callFunc f args).run P w=.ok (.enter f args) w)/\∀args,Simple P (callFunc f args)
theorem Zal {f : FuncId} {fn : Func} (hf : P.funcs[f]? = some fn := by kernel_rfl) (hn : (fn.name == "runtime.NumGoroutine") = false := by kernel_rfl) (hb : fn.body.isNone = false := by kernel_rfl) : EntX P f := by
 have hs:∀args,Simple P (callFunc f args):=λargs=>by
  unfold callFunc;refine Zev ?_;rw[hf];dsimp only;rw[hn,hb];exact .pure _
 refine⟨λargs w=> ?_,hs⟩;unfold callFunc
 show (match P.funcs[f]? with|none=>_|some fn=>_:Sem Next).run P w=_
 rw[hf];dsimp only;rw[hn,hb];rfl
theorem Ydr(v:Value):Simple P (Builtin.lenOf v):=by unfold Builtin.lenOf;split<;>first|exact .pure _|exact .halt _
theorem Zum(s n:Nat)(v:Value):Simple P (Builtin.firstCells s n v):=by unfold Builtin.firstCells;split<;>first|exact Zhf _ _ _ _|exact .pure _|exact .halt _
theorem Yar{α β:Type}{s:Sem α}{f:α->Sem β}(h:∀a,∀(v:World) (r:β) (v':World),(f a).run P v ≠ .ok r v'):∀(v:World) (r:β) (v':World),(s >>= f).run P v ≠ .ok r v':=λv r v' e=>by
 rw[Sem.run_bind]at e;cases hs:s.run P v with|ok a w=>rw[hs]at e;exact h a w r v' e|halt hh w=>rw[hs]at e;cases e
theorem Zl2{α:Type}(u:Unsupported):∀(v:World) (r:α) (v':World),(unsupported u:Sem α).run P v ≠ .ok r v':=λv r v' e=>by cases e
theorem Yip{α:Type}{c:Prop}[Decidable c]{s t:Sem α}(h1:c->Simple P s)(h2:¬c->Simple P t):Simple P (if c then s else t):=by
 by_cases h:c
 ·rw[if_pos h];exact h1 h
 ·rw[if_neg h];exact h2 h
theorem Yjv{α:Type}{c:Prop}[Decidable c]{s t:Sem α}(h1:∀(v:World) (r:α) (v':World),s.run P v ≠ .ok r v')(h2:∀(v:World) (r:α) (v':World),t.run P v ≠ .ok r v'):∀(v:World) (r:α) (v':World),(if c then s else t).run P v ≠ .ok r v':=by
 by_cases h:c
 ·rw[if_pos h];exact h1
 ·rw[if_neg h];exact h2
theorem Yb6(Ts:Array TypeId)(ty:TypeId)(args:Array Value):Simple P (Builtin.append_ Ts ty args):=by
 unfold Builtin.append_;dsimp only
 repeat' (first
  |with_reducible exact Simple.pure' _
  |with_reducible exact Zvv _
  |with_reducible exact Za6 _
  |with_reducible exact Zcp _
  |with_reducible exact Zdc _
  |with_reducible exact Zc4 _
  |with_reducible exact Zio _ _
  |with_reducible exact Zjq _
  |with_reducible exact Ydr _
  |with_reducible exact Zum _ _ _
  |with_reducible exact Zgv _ _ _
  |with_reducible exact Zjb _
  |with_reducible exact Zh9 _
  |with_reducible exact Za2 _
  |with_reducible exact Simple.never (Builtin.mayShare _ _ _ _ _ >>= _) (Yar λ_=>Yjv (Yar λ_=>Zl2 _) (Zl2 _))
  |with_reducible refine .bind ?_ λ_=> ?_
  |with_reducible refine Yip (λ_=> ?_) λ_=> ?_
  |split
  |dsimp only)
theorem res_v{s:Sem Value}{v v':World}{r:Next}(h:(s >>= λx=>(Pure.pure (Next.value x):Sem Next)).run P v=.ok r v'):∃vv,r=.value vv:=by
 rw[Sem.run_bind]at h;cases hs:s.run P v with
 |ok a w=>rw[hs]at h;cases h;exact⟨a,rfl⟩
 |halt hh w=>rw[hs]at h;cases h
theorem res_u{s:Sem Unit}{v v':World}{r:Next}(h:(s >>= λ_=>(Pure.pure Next.skip:Sem Next)).run P v=.ok r v'):r=.skip:=by
 rw[Sem.run_bind]at h;cases hs:s.run P v with
 |ok a w=>rw[hs]at h;cases h;rfl
 |halt hh w=>rw[hs]at h;cases h
theorem Ybc{o:Oper}{a:Act}{v:World}{K:Act->World->Prop}(hns:∀c,o.op ≠ .defer c)(hs:Simple P (execOp a.eval o))
  (hres:∀(v:World) (r:Next) (v':World),(execOp a.eval o).run P v=.ok r v'->(∃vv,r=.value vv)\/r=.skip) (h:∀v₁,Ge v v₁->o.wpIn Fence.wide 0 P a v₁ K λ_ _ _=>False):OpX mn P o a v K:=by
 refine⟨hns,λv₁ h₁=> ?_⟩;obtain⟨-,hw⟩:=h v₁ h₁;change o.uponIn Fence.wide 0 P a K (λ_ _ _=>False) ((execOp a.eval o).run P v₁) at hw;cases hr:(execOp a.eval o).run P v₁ with
 |ok r v'=>
  rw[hr]at hw;rcases hres v₁ r v' hr with ⟨vv,rfl⟩|rfl
  ·exact .inl ⟨vv,v',hs.tr hr,hw⟩
  ·exact .inr (.inl ⟨v',hs.tr hr,hw⟩)
 |halt hh v'=>rw[hr]at hw;cases hh<;>exact hw.elim
def bareΓ(Γ:Cons):Cons:={ c:=λ_=>none,n:=λ_=>none,i:=λ_=>none,e:=Γ.e,s:=λ_=>none,m:=λ_=>none }
theorem bareΓ_ok{Γ:Cons}(he:∀a b,Γ.e a b=true ↔ a=b):ConsOk P (bareΓ Γ):=⟨he,λ_ _ h=>(by cases h),λ_ _ h=>(by cases h),λ_ _ h=>(by cases h),λ_ _ h=>(by cases h),λ_ _ h=>(by cases h)⟩
theorem wideOk:FenceOk P Fence.wide:=⟨λ_=>trivial,rfl,λn f args w R h=>callsIn_wide.2 h⟩
section
variable {Γ:Cons} {o:Oper} {a:Act} {v:World} {ρ:Nat->Ad} {h:List VB} {ev:Operand->SV} {K:Act->World->Prop} {sv:SV} {e:Eff}
theorem Yia(hc:∀c y,o.op=.call c->c.callee ≠ .value y)(hi:∀c y nm,o.op=.call c->c.callee ≠ .invoke y nm):Uam P Γ ev h o=Uam P (bareΓ Γ) ev h o:=by
 unfold Uam;cases ho:o.op with
 |call c=>dsimp only;cases hy:c.callee with|value y=>exact absurd hy (hc c y ho)|invoke y nm=>exact absurd hy (hi c y nm ho)|_=>rfl
 |makeMap t r=>cases r<;>rfl
 |_=>rfl
theorem Zty(x:Value)(xT t:TypeId)(ok:Bool):Simple P (Instr.typeAssert x xT t ok):=by
 unfold Instr.typeAssert;refine .bind (Za6 t) λ_=> ?_
 repeat' (first|exact Zc4 _|exact Za2 _|exact Zcp _|exact .pure _|exact .halt _|split | (refine .bind ?_ λ_=> ?_))
theorem opX_res (he : ∀ a b, Γ.e a b = true ↔ a = b) (hcl : ∀ c y, o.op = .call c → c.callee ≠ .value y) (hin : ∀ c y nm, o.op = .call c → c.callee ≠ .invoke y nm) (hev : ∀ x, IsV P ρ h (ev x) (a.eval x)) (hH : HIs P ρ h v) (hr : Uam P Γ ev h o = some (sv, e, true))
    (hK:∀v₁,Ge v v₁->Post P ρ h v₁ a o K sv e):OpX mn P o a v K:=by
  rw[Yia hcl hin]at hr;have lone:∀v₁,Ge v v₁->o.wpIn Fence.wide 0 P a v₁ K λ_ _ _=>False:=λv₁ h₁=>Yft wideOk (bareΓ_ok he) hev (HIs.ge hH h₁) hr (hK v₁ h₁)
  have pv:∀{s:Sem Value},execOp a.eval o=(s >>= λx=>(Pure.pure (Next.value x):Sem Next))->Simple P s->(∀c,o.op ≠ .defer c)->OpX mn P o a v K:=λ{s} hx hs hns =>
    Ybc hns (by rw[hx]; exact .bind hs λ_ => .pure _) (λv r v' hv => .inl (by rw[hx]at hv; exact res_v hv)) lone
  cases ho:o.op with
  |move y=>exact Ybc (λc hc=>by rw[ho]at hc; cases hc) (by unfold execOp; rw[ho]; exact .pure _) (λv r v' hv=>by unfold execOp at hv; rw[ho]at hv; cases hv; exact .inl ⟨_,rfl⟩) lone
  |assign y=>exact Ybc (λc hc=>by rw[ho]at hc; cases hc) (by unfold execOp; rw[ho]; exact .pure _) (λv r v' hv=>by unfold execOp at hv; rw[ho]at hv; cases hv; exact .inl ⟨_,rfl⟩) lone
  | pick c y z =>
    have hx:execOp a.eval o=asBool (a.eval c) >>= λt=>Pure.pure (Next.value (if t=true then a.eval y else a.eval z)):=by unfold execOp; rw[ho]
    refine Ybc (λc hc=>by rw[ho]at hc; cases hc) (by rw[hx]; exact .bind (Ycx _) λ_ => .pure _) (λv r v' hv => ?_) lone;rw[hx,Sem.run_bind]at hv;cases hs:(asBool (a.eval c)).run P v with
    |ok t w=>rw[hs]at hv; cases hv; exact .inl ⟨_,rfl⟩
    |halt hh w=>rw[hs]at hv; cases hv
  |load T y=>exact pv (by unfold execOp; rw[ho]) (Zsp _ _) (λc hc=>by rw[ho]at hc; cases hc)
  |store T y z=>exact Ybc (λc hc=>by rw[ho]at hc; cases hc) (by unfold execOp; rw[ho]; exact .bind (Zz3 _ _ _) λ_ => .pure _) (λv r v' hv=>by unfold execOp at hv; rw[ho]at hv; exact .inr (res_u hv)) lone
  |alloc T=>exact pv (by unfold execOp; rw[ho]) (Yep _) (λc hc=>by rw[ho]at hc; cases hc)
  | makeMap T y =>
    cases y with
    |some y=>unfold Uam at hr; rw[ho]at hr; cases hr
    |none=>exact pv (by unfold execOp; rw[ho]; rfl) (Zz7 _) (λc hc=>by rw[ho]at hc; cases hc)
  |box T y=>exact pv (by unfold execOp; rw[ho]) (Zvb _ _) (λc hc=>by rw[ho]at hc; cases hc)
  |makeSlice T y z=>exact pv (by unfold execOp; rw[ho]) (Zw6 _ _ _) (λc hc=>by rw[ho]at hc; cases hc)
  |buildSlice T n parts=>exact pv (by unfold execOp; rw[ho]) (Zu8 _ _ _) (λc hc=>by rw[ho]at hc; cases hc)
  | fieldAddr T y f =>
    unfold Uam at hr;rw[ho]at hr;dsimp only at hr;split at hr
    · rename_i q e' hf;obtain⟨fs,fd,hu,hfd,rfl,rfl,hs,h0,hz⟩:=Zgy hf;have hzi:=Zbo hz;have hzl:=Zc5 (P:=P) fd.type;cases hq:P.info? fd.type with
      |none=>simp[hq]at hzi
      | some i =>
        have:i.size=(zc P fd.type).size:=by simpa [hq] using hzi
        exact pv (by unfold execOp; rw[ho]) (Zz4 _ hu hfd hq (by omega)) (λc hc=>by rw[ho]at hc; cases hc)
    . cases hr
  |field T y f=>exact pv (by unfold execOp; rw[ho]) (Ye2 _ _ _) (λc hc=>by rw[ho]at hc; cases hc)
  |indexAddr T y z=>exact pv (by unfold execOp; rw[ho]) (Yac _ _ _) (λc hc=>by rw[ho]at hc; cases hc)
  |index T y z=>exact pv (by unfold execOp; rw[ho]) (Ye6 _ _ _) (λc hc=>by rw[ho]at hc; cases hc)
  |extract y k=>exact pv (by unfold execOp; rw[ho]) (Zzz _ _) (λc hc=>by rw[ho]at hc; cases hc)
  | nilCheck y =>
    have hy:=Zby (hev y);have hptr:∃ad,a.eval y=.pointer (some ad):=by
      unfold Uam at hr;rw[ho]at hr;dsimp only at hr;split at hr
      . rename_i n hm; rw[hm]at hy; exact⟨_,hy.1⟩
      . rename_i n q T hm; rw[hm]at hy; exact⟨_,hy.1⟩
      · rename_i n q T hm;rw[hm]at hy;cases hb:Ua7 h n with
        |false=>rw[hb]at hr; cases hr
        |true=>obtain⟨_,_,_,_,_,_,_,_,_,_,h3,_⟩:=Is.q_of hy hb; exact⟨_,h3⟩
      . cases hr
    obtain⟨ad,hptr⟩:=hptr;have hx:execOp a.eval o=Pure.pure (Next.value (.pointer (some ad))):=by unfold execOp; rw[ho]; dsimp only; rw[hptr]
    exact Ybc (λc hc=>by rw[ho]at hc; cases hc) (by rw[hx]; exact .pure _) (λv r v' hv=>by rw[hx]at hv; cases hv; exact .inl ⟨_,rfl⟩) lone
  | binOp op T y z T2 =>
    have hy:=Zby (hev y);have hz:=Zby (hev z);refine pv (by unfold execOp; rw[ho]) ?_ (λc hc=>by rw[ho]at hc; cases hc);unfold Uam at hr;rw[ho]at hr;dsimp only at hr;split at hr
    · rename_i r hb;unfold binV at hb;split at hb
      · rename_i k p k' q h1 h2;rw[h1]at hy; rw[h2]at hz;rw[hy.1,hz.1];exact .bind (Zsg _ _ _ _ _ _ _ _) λ_=>Zv6 _ _ _ _ _ _
      · rename_i p q h1 h2;rw[h1]at hy; rw[h2]at hz;rw[show a.eval y=.string p from hy,show a.eval z=.string q from hz];exact .bind (Zr6 _ _ _ _ _ _) λ_=>Zwb _ _ _ _
      · rename_i p q h1 h2;rw[h1]at hy; rw[h2]at hz;rw[show a.eval y=.bool p from hy,show a.eval z=.bool q from hz];refine .bind (Zr1 _ _ _ _ _ _) λ_ => ?_
        cases hB:Ucr P T with
        |false=>rw[hB]at hb; split at hb<;>cases hb
        | true =>
          have hT:=Zv2 hB;split at hb
          . exact .bind (Zl6 hT _ _) λ_ => .pure _
          . exact .bind (Zl6 hT _ _) λ_ => .pure _
          . cases hb
      . cases hb
    · split at hr
      · rename_i r hb;unfold binG at hb;split at hb
        · rename_i C T1 D T2' h1 h2;rw[h1]at hy; rw[h2]at hz;obtain⟨hy,hC⟩:=hy;obtain⟨hz,hD⟩:=hz;rw[hy,hz];cases hok:isRow P T&&(eqT P 8 T&&(!P.eqGuardType P.depth T&&(leq (lay P T) (lay P T1)&&leq (lay P T) (lay P T2')))) with
          |false=>rw[hok]at hb; cases hb
          | true =>
            rw[hok]at hb;simp only[Q7,Bool.not_eq_true']at hok;obtain⟨hR,hq,hgt,hl1,hl2⟩:=hok;have hC':WT P T C:=⟨by rw[Zfv hl1]; exact hC.1,hC.2⟩;have hD':WT P T D:=⟨by rw[Zfv hl2]; exact hD.1,hD.2⟩;have hv:∀A,valP P T A=.agg A:=λA=>by unfold valP; rw[hR]; rfl
            have hsim:=Zlo 8 T hq 9992 C D hC' hD';rw[hv,hv]at hsim;have hsim:Simple P (Op.equal T (.agg C) (.agg D)):=hsim;have hg:Simple P (eqGuard op T y z (.agg C) (.agg D)):=by
              unfold eqGuard;cases op<;>first
                |exact .pure _
                | (dsimp only
                   refine Zev ?_;refine Zev ?_;rw[hgt];exact .pure _)
            simp only[Q1]at hb;refine .bind hg λ_ => ?_
            split at hb
            . exact .bind hsim λ_ => .pure _
            . exact .bind hsim λ_ => .pure _
            . cases hb
        . cases hb
      · split at hr
        · rename_i r hb;unfold binE at hb;cases hT:ifcT P T with
          |false=>rw[hT]at hb; cases hb
          | true =>
            obtain⟨ms,hu⟩:=Yfj hT;rw[hT]at hb;simp only[Q1]at hb;have heq:∀(x z:Value),(x=.nilIface \/ ∃t u,x=.iface t u)->(z=.nilIface \/ ∃t u,z=.iface t u)->(x=.nilIface\/z=.nilIface)->Simple P (Op.equal T x z):=by intro x z hx hz hn;unfold Op.equal Op.maxDepth Op.equalIn;refine Zci hu ?_;rcases hx with rfl | ⟨t,u,rfl⟩<;>rcases hz with rfl | ⟨t',u',rfl⟩<;>first|exact .pure _ | (rcases hn with hn|hn<;>cases hn)
            have both:∀(x z:Value) (X Y:Operand),(x=.nilIface \/ ∃t u,x=.iface t u)->(z=.nilIface \/ ∃t u,z=.iface t u)->(x=.nilIface\/z=.nilIface)->(Ua2 X||Ua2 Y)=true\/(∃t u,x=.iface t u)\/(∃t u,z=.iface t u) ->
                (op=.eql\/op=.neq)->Simple P (do eqGuard op T X Y x z; binOp op T x z:Sem Value):=by
              intro x z X Y hx hz hn hc hop;refine .bind ?_ λ_ => ?_
              · unfold eqGuard;rcases hop with rfl|rfl<;>rcases hx with rfl | ⟨t,u,rfl⟩<;>rcases hz with rfl | ⟨t',u',rfl⟩<;>first
                  |exact .pure _
                  | (dsimp only
                     rcases hc with hc | ⟨t,u,hc⟩ | ⟨t,u,hc⟩
                     . cases X<;>cases Y<;>first|exact .pure _ | (simp[Ua2]at hc)
                     . cases hc
                     . cases hc)
              . rcases hop with rfl|rfl<;>rcases hx with rfl | ⟨t,u,rfl⟩<;>rcases hz with rfl | ⟨t',u',rfl⟩<;>exact .bind (heq _ _ (by simp) (by simp) hn) λ_ => .pure _
            have hop:op=.eql\/op=.neq:=by
              split at hb
              · split at hb
                . exact .inl rfl
                . exact .inr rfl
                . cases hb
              . cases hb
            split at hb
            · rename_i b hE;unfold eqE at hE;split at hE
              · rename_i h1 h2;rw[h1]at hy; rw[h2]at hz;rw[show a.eval y=.nilIface from hy,show a.eval z=.nilIface from hz];cases hcc:Ua2 y||Ua2 z with
                |false=>rw[hcc]at hE; cases hE
                |true=>exact both _ _ _ _ (.inl rfl) (.inl rfl) (.inl rfl) (.inl hcc) hop
              · rename_i n h1 h2;rw[h1]at hy; rw[h2]at hz;obtain⟨g,t,ad,x,-,hy⟩:=hy;rw[hy,show a.eval z=.nilIface from hz];exact both _ _ _ _ (.inr ⟨_,_,rfl⟩) (.inl rfl) (.inr rfl) (.inr (.inl ⟨_,_,rfl⟩)) hop
              · rename_i n h1 h2;rw[h1]at hy; rw[h2]at hz;obtain⟨g,t,ad,x,-,hz⟩:=hz;rw[hz,show a.eval y=.nilIface from hy];exact both _ _ _ _ (.inl rfl) (.inr ⟨_,_,rfl⟩) (.inl rfl) (.inr (.inr ⟨_,_,rfl⟩)) hop
              · rename_i h1 h2;rw[h1]at hy; rw[h2]at hz;rw[show a.eval y=_ from hy,show a.eval z=.nilIface from hz];exact both _ _ _ _ (.inr ⟨_,_,rfl⟩) (.inl rfl) (.inr rfl) (.inr (.inl ⟨_,_,rfl⟩)) hop
              · rename_i h1 h2;rw[h1]at hy; rw[h2]at hz;rw[show a.eval z=_ from hz,show a.eval y=.nilIface from hy];exact both _ _ _ _ (.inl rfl) (.inr ⟨_,_,rfl⟩) (.inl rfl) (.inr (.inr ⟨_,_,rfl⟩)) hop
              . cases hE
            . cases hb
        . cases hr
  |unOp op T y=>exact pv (by unfold execOp; rw[ho]) (Ydq _ _) (λc hc=>by rw[ho]at hc; cases hc)
  | convert s d y =>
    have hy:=Zby (hev y);refine pv (by unfold execOp; rw[ho]) ?_ (λc hc=>by rw[ho]at hc; cases hc);unfold Uam at hr;rw[ho]at hr;dsimp only at hr;split at hr
    · rename_i k k' n hd hm;rw[hm]at hy;rw[hy.1];cases h1:has1 P s with
      |false=>rw[h1]at hr; cases hr
      |true=>exact Yan h1 hd
    . cases hr
  | makeInterface T y =>
    have hy:=Zby (hev y);refine pv (by unfold execOp; rw[ho]) ?_ (λc hc=>by rw[ho]at hc; cases hc);unfold Uam at hr;rw[ho]at hr;dsimp only at hr;split at hr
    · rename_i k' k n hd hm;unfold Instr.makeInterface;exact Zci hd (.pure _)
    · rename_i fs D T' hd hm;unfold Instr.makeInterface;exact Zci hd (.pure _)
    . cases hr
  |typeAssert y xT T ok=>exact pv (s:=Instr.typeAssert (a.eval y) xT T ok) (by unfold execOp; rw[ho]) (Zty _ _ _ _) (λc hc=>by rw[ho]at hc; cases hc)
  |build T parts=>exact pv (by unfold execOp; rw[ho]) (Ydp _ _) (λc hc=>by rw[ho]at hc; cases hc)
  |makeFunc fn first captured=>exact pv (s:=Instr.makeFunc fn (first.map a.eval) (captured.map a.eval)) (by unfold execOp; rw[ho]) (.pure _) (λc hc=>by rw[ho]at hc; cases hc)
  | call c =>
    have hA:=Zhj hev c.args.toList;have hargs:c.args.map a.eval=(c.args.toList.map a.eval).toArray:=by rw[<- jG]; simp
    cases hc:c.callee with
    |value y=>exact absurd hc (hcl c y ho)
    |invoke y nm=>exact absurd hc (hin c y nm ho)
    | builtin b =>
      have hx:execOp a.eval o=builtin b c.argTypes o.type (c.args.map λ | .const _=>true|_=>false) (c.args.map a.eval):=by unfold execOp;rw[ho];simp only[resolve,hc];rfl
      unfold Uam at hr;rw[ho]at hr;dsimp only at hr;rw[hc]at hr;dsimp only at hr;split at hr
      · rename_i r hb;unfold Uff at hb;split at hb
        · rename_i k p k' q hl;rw[hl]at hA;obtain⟨hlen,hA⟩:=hA;have:∃v1 v2,c.args.toList.map a.eval=[v1,v2]:=by
            match hm:c.args.toList.map a.eval with|[v1,v2]=>exact⟨v1,v2,rfl⟩|[]=>rw[hm]at hlen; simp at hlen|[_]=>rw[hm]at hlen; simp at hlen|_::_::_::_=>rw[hm]at hlen; simp at hlen
          obtain⟨v1,v2,hm⟩:=this;rw[hm]at hA;obtain⟨rfl,-⟩:=hA 0 _ v1 rfl rfl;obtain⟨rfl,-⟩:=hA 1 _ v2 rfl rfl;refine pv (s:=Builtin.min_ c.argTypes o.type (c.args.map a.eval)) (by rw[hx]; rfl) ?_ (λc hc=>by rw[ho]at hc; cases hc);rw[hargs,hm];exact .bind (Yfh _ _ _ _) λ_ => .pure _
        · rename_i k p k' q hl;rw[hl]at hA;obtain⟨hlen,hA⟩:=hA;have:∃v1 v2,c.args.toList.map a.eval=[v1,v2]:=by
            match hm:c.args.toList.map a.eval with|[v1,v2]=>exact⟨v1,v2,rfl⟩|[]=>rw[hm]at hlen; simp at hlen|[_]=>rw[hm]at hlen; simp at hlen|_::_::_::_=>rw[hm]at hlen; simp at hlen
          obtain⟨v1,v2,hm⟩:=this;rw[hm]at hA;obtain⟨rfl,-⟩:=hA 0 _ v1 rfl rfl;obtain⟨rfl,-⟩:=hA 1 _ v2 rfl rfl;refine pv (s:=Builtin.max_ c.argTypes o.type (c.args.map a.eval)) (by rw[hx]; rfl) ?_ (λc hc=>by rw[ho]at hc; cases hc);rw[hargs,hm];exact .bind (Yf9 _ _ _ _) λ_ => .pure _
        . cases hb
      · split at hr
        · rename_i r hb;unfold lenV at hb;split at hb
          · rename_i T n hT hl hnone;rw[hl]at hA;cases hs:(Ucm P T).isSome with
            |false=>rw[hs]at hb; cases hb
            | true =>
              rw[hs]at hb;simp only[Q1]at hb;obtain⟨q,hq⟩:=Option.isSome_iff_exists.1 hs;obtain⟨e',m⟩:=q;obtain⟨hu,-⟩:=Zgg hq;split at hb
              · rename_i k len C t hn;obtain⟨hlen,hA⟩:=hA;have:∃v1,c.args.toList.map a.eval=[v1]:=by
                  match hm:c.args.toList.map a.eval with|[v1]=>exact⟨v1,rfl⟩|[]=>rw[hm]at hlen; simp at hlen|_::_::_=>rw[hm]at hlen; simp at hlen
                obtain⟨v1,hm⟩:=this;rw[hm]at hA;obtain⟨ad,cap,rfl,-⟩:=Is.l_of (hA 0 _ v1 rfl rfl) hn;refine pv (s:=Builtin.len_ c.argTypes o.type (c.args.map a.eval)) (by rw[hx]; rfl) ?_ (λc hc=>by rw[ho]at hc; cases hc);have hTs:c.argTypes=#[T]:=by rw[<- jG,hT]
                rw[hargs,hm,hTs];unfold Builtin.len_;exact Zci hu (.pure _)
              . cases hb
          · rename_i T hT hl hnone;rw[hl]at hA;cases hs:(Ucm P T).isSome with
            |false=>rw[hs]at hb; cases hb
            | true =>
              rw[hs]at hb;simp only[Q1]at hb;obtain⟨q,hq⟩:=Option.isSome_iff_exists.1 hs;obtain⟨e',m⟩:=q;obtain⟨hu,-⟩:=Zgg hq;obtain⟨hlen,hA⟩:=hA;have:∃v1,c.args.toList.map a.eval=[v1]:=by match hm:c.args.toList.map a.eval with|[v1]=>exact⟨v1,rfl⟩|[]=>rw[hm]at hlen; simp at hlen|_::_::_=>rw[hm]at hlen; simp at hlen
              obtain⟨v1,hm⟩:=this;rw[hm]at hA;obtain rfl:v1=.slice none 0 0:=hA 0 _ v1 rfl rfl;refine pv (s:=Builtin.len_ c.argTypes o.type (c.args.map a.eval)) (by rw[hx]; rfl) ?_ (λc hc=>by rw[ho]at hc; cases hc);have hTs:c.argTypes=#[T]:=by rw[<- jG,hT]
              rw[hargs,hm,hTs];unfold Builtin.len_;exact Zci hu (.pure _)
          . cases hb
        · split at hr
          · rename_i r hb;unfold appV at hb;split at hb
            . exact pv (s:=Builtin.append_ c.argTypes o.type (c.args.map a.eval)) (by rw[hx]; rfl) (Yb6 _ _ _) (λc hc=>by rw[ho]at hc; cases hc)
            . cases hb
          . cases hr
  |_=>unfold Uam at hr; rw[ho]at hr; cases hr
end
end
end
section
variable {mn:Md}
structure ConsOkX (mn:Md) (P:Program) (IC:FuncId->ICon->Prop) (Γ:Cons):Prop where
 e:∀a b,Γ.e a b=true ↔ a=b
 c:∀f F,Γ.c f=some F->Ubh mn P f F/\EntX P f
 n:∀f F,Γ.n f=some F->Ubp mn P f F/\EntX P f
 i:∀f F,Γ.i f=some F->IC f F/\EntX P f
 s:∀f S,Γ.s f=some S->Ubh mn P f (λargs h=>Uaf (S args h))/\EntX P f
 m:∀nm F,Γ.m nm=some F->MConOkX mn P nm F
section
variable {P:Program} {IC:FuncId->ICon->Prop} {Γ:Cons} {W0:World} {n0:Nat} {D E:List Nat} {ρ0:Nat->Ad} {Q:Exit->Act->World->Prop}
theorem Zy6{o:Oper}{a:Act}{v:World}{ρ:Nat->Ad}{h:List VB}{ev:Operand->SV}{K:Act->World->Prop}{c:Call}(ho:o.op=.call c)(hev:∀x,IsV P ρ h (ev x) (a.eval x))(hH:HIs P ρ h v){y:Operand}(hc:c.callee=.value y){f:FuncId}{ns:List Nat}(hm:asA (ev y)=.c f ns)
  {G:Con} (hcon:Ubh mn P f G) (hent:EntX P f) {sv:SV} {e:Eff} (hcall:G (c.args.toList.map (λz=>asA (ev z))++ns.map SA.w) h=some (sv,e,true)) (hK:∀v₁,Ge v v₁->Post P ρ h v₁ a o K sv e):OpX mn P o a v K:=by
 have hns:∀c,o.op ≠ .defer c:=λc hc=>by rw[ho]at hc;cases hc
 have hy:=Zby (hev y);rw[hm]at hy;obtain⟨hfv,hpr⟩:=hy;have hA:Uav P ρ h (c.args.toList.map (λz=>asA (ev z))++ns.map SA.w) (c.args.toList.map a.eval++ns.map λn=>Value.pointer (some ⟨(ρ n).a,0,none⟩)):=by
  have h1:=Zhj hev c.args.toList;refine⟨by simp,λi y v hy hv=> ?_⟩
  by_cases hi:i<c.args.toList.length
  ·rw[List.getElem?_append_left (by simpa using hi)]at hy hv;exact h1.2 i y v hy hv
  ·rw[List.getElem?_append_right (by simp at hi |-;exact hi)]at hy hv;simp only[List.length_map]at hy hv;rw[List.getElem?_map]at hy hv;cases hn:ns[i - c.args.toList.length]? with
   |none=>rw[hn]at hy;cases hy
   |some m=>simp only[hn,Option.map_some,Q8]at hy hv;subst hy;subst hv;exact⟨rfl,hpr m (List.mem_of_getElem? hn)⟩
 have hx:execOp a.eval o=callFunc f (c.args.toList.map a.eval++ns.map λn=>Value.pointer (some ⟨(ρ n).a,0,none⟩)).toArray:=by
  unfold execOp;rw[ho];simp only[resolve,hc,hfv,Deferred.ofValue]
  show callFunc f _=_
  congr 1;rw[<- jG];simp
 refine⟨hns,λv₁ h₁=>.inr (.inr (.inl ⟨f,_,v₁,?_,(hcon ρ h v₁ _ _ _ _ hcall hA (HIs.ge hH h₁)).mono λr v' hE=>hK v₁ h₁ r v' hE⟩))⟩;rw[hx];exact(hent.2 _).tr (hent.1 _ v₁)
theorem Yap{ρ:Nat->Ad}{st:St}{a:Act}{w:World}(hR:RS E P W0 n0 D ρ0 ρ st a w){id:Nat}(hid:n0<=id){o:Oper}{α:Type}{K:St->Option α}{r:α}{v:SV}{e:Eff}(hok:Ub9 st.h id e=true)(hr:K (Uae st id o.dst v e)=some r)
  {b:Nat} (hb:b<=id) {K':Act->World->Prop} (hpost:(∀v₁,Ge w v₁->Post P ρ st.h v₁ a o K' v e)->OpX mn P o a w K')
  (hK:∀ρ' st' a' w',K st'=some r->RS E P W0 n0 D ρ0 ρ' st' a' w'->Ext (match o.dst with|some d=>[d]|none=>[]) b ρ ρ' st st'->K' a' w'):OpX mn P o a w K':=by
 have hW:∀d,o.dst=some d->d∈(match o.dst with|some d=>[d]|none=>[]:List Nat):=λd hd=>by rw[hd];exact jI.2 rfl
 refine hpost λw₁ hg=> ?_
 replace hR:=RS.ge hR hg;clear hg;intro vv w' hE
 by_cases hnew:∃bb,e=.new bb
 ·obtain⟨bb,rfl⟩:=hnew;have hno:st.h[id]?=some .no:=by
   simp only[Ub9]at hok;split at hok
   ·assumption
   ·cases hok
  obtain⟨ρ',hR',hren⟩:=hR.apply (HLe.refl _) hno hid (dst:=o.dst) (λ_ _ e=>by cases e) (λ_ _ _ _ e=>by cases e) hE;exact hK ρ' _ _ w' hr hR' (Zpc hW hok hb (λm b e=>by cases e) hren (λh=>absurd rfl (h bb)) (λ_ _ _ _ e=>by cases e))
 by_cases hnew2:∃j len C t,e=.newS j len C t
 ·obtain⟨j,len,C,t,rfl⟩:=hnew2;have hno:st.h[id]?=some .no:=by
   simp only[Ub9]at hok;split at hok
   ·assumption
   ·cases hok
  obtain⟨ρ',hR',hren⟩:=hR.apply (HLe.refl _) hno hid (dst:=o.dst) (λ_ _ e=>by cases e) (λ_ _ _ _ e=>by cases e) hE;exact hK ρ' _ _ w' hr hR' (Zpc hW hok hb (λm b e=>by cases e) hren (λ_ h=>absurd rfl (h j len C t)) (λ_ _ _ _ e=>by cases e))
 ·cases e with
  |new bb=>exact absurd ⟨bb,rfl⟩ hnew
  |newS j len C t=>exact absurd ⟨j,len,C,t,rfl⟩ hnew2
  | app j len C t=>
   have hno:st.h[id]?=some .no:=by
    simp only[Ub9]at hok;split at hok
    ·assumption
    ·cases hok
   have hown:∀k,j=some k->∃l0 C0,st.h[k]?=some (.sl .own l0 C0 t):=by obtain⟨_,_,_,_,_,_,_,_,_,h9⟩:=hE;exact h9
   obtain⟨ρ',hR',hren⟩:=hR.applyApp hno hid (dst:=o.dst) hE;exact hK ρ' _ _ w' hr hR' (Zpc hW hok hb (λm b e=>by cases e) hren (λ_ _ h=>absurd rfl (h j len C t)) (λk _ _ _ e=>by cases e;exact hown k rfl))
  | none=>
   have hR':RS E P W0 n0 D ρ0 ρ (Uae st id o.dst v .none) (a.put o.dst vv) w':=by obtain⟨hv,hk⟩:=hE;have:=hR.put o.dst hv;refine⟨this.len,this.slots,⟨λm bb hbb=>BIs.kept hR.heap hbb hk (λ_=>not_false) λ_ _=>not_false,hR.heap.inj,hR.heap.far⟩,this.base,this.fresh,hR.kept.trans (hk.mono λ_ _ hf=>hf.elim),hR.own0,by rw[Zc9];exact hR.defers.same hk,hR.bound⟩
   exact hK ρ _ _ w' hr hR' (Zpc hW hok hb (λm b e=>by cases e) (λ_ _=>rfl) (λ_ _ _=>rfl) (λ_ _ _ _ e=>by cases e))
  |set m bb=>have hkp:=hE.2.1;have hR':RS E P W0 n0 D ρ0 ρ (Uae st id o.dst v (.set m bb)) (a.put o.dst vv) w':=hR.applySet hE;exact hK ρ _ _ w' hr hR' (Zpc hW hok hb (λm b e=>by cases e;exact hkp) (λ_ _=>rfl) (λ_ _ _=>rfl) (λ_ _ _ _ e=>by cases e))
theorem pickX{o:Oper}{a:Act}{v:World}{K:Act->World->Prop}{vv:Value}(hns:∀c,o.op ≠ .defer c)(hx:execOp a.eval o=Pure.pure (Next.value vv))(h:∀v₁,Ge v v₁->K (a.put o.dst vv) v₁):OpX mn P o a v K:=
 ⟨hns,λv₁ h₁=>.inl ⟨vv,v₁,by rw[hx];exact(Simple.pure _).tr rfl,h v₁ h₁⟩⟩
theorem Ykh(hΓ:ConsOkX mn P IC Γ){o:Oper}{a:Act}{v:World}{ρ:Nat->Ad}{h:List VB}{ev:Operand->SV}{K:Act->World->Prop}{sv:SV}{e:Eff}(hev:∀x,IsV P ρ h (ev x) (a.eval x))(hH:HIs P ρ h v)(hr:Uam P Γ ev h o=some (sv,e,true))
  (hK:∀v₁,Ge v v₁->Post P ρ h v₁ a o K sv e):OpX mn P o a v K:=by
 by_cases hcl:∃c y,o.op=.call c/\c.callee=.value y
 ·obtain⟨c,y,ho,hc⟩:=hcl;unfold Uam at hr;rw[ho]at hr;dsimp only at hr;rw[hc]at hr;dsimp only at hr;split at hr
  ·rename_i f ns hm;split at hr
   ·rename_i r hcall;obtain⟨r,re,gb⟩:=r;simp only[Q8,Q0]at hr;obtain⟨rfl,rfl,rfl⟩:=hr;unfold callV at hcall;split at hcall
    ·rename_i Fc hFc;obtain⟨hcon,hent⟩:=hΓ.c f Fc hFc;exact Zy6 ho hev hH hc hm hcon hent hcall hK
    ·cases hcall
   ·cases hr
  ·cases hr
 ·by_cases hin:∃c y nm,o.op=.call c/\c.callee=.invoke y nm
  ·obtain⟨c,y,nm,ho,hc⟩:=hin;have hns:∀c,o.op ≠ .defer c:=λc hc=>by rw[ho]at hc;cases hc
   unfold Uam at hr;rw[ho]at hr;dsimp only at hr;rw[hc]at hr;dsimp only at hr;have hy:=Zby (hev y);split at hr
   case h_2=>cases hr
   rename_i z hm;rw[hm]at hy;replace hy:a.eval y=z:=hy;split at hr
   case h_2=>cases hr
   rename_i G hG;have hx:execOp a.eval o=callMethod z nm (c.args.toList.map a.eval).toArray:=by
    unfold execOp;rw[ho];simp only[resolve,hc,hy]
    show invoke (.fn (.method nm) #[]) (#[z]++c.args.map a.eval)=_
    rw[Zr7,show (c.args.map a.eval).toList=c.args.toList.map a.eval by simp]
   refine⟨hns,λv₁ h₁=> ?_⟩;obtain⟨f,vals',hrun,hcall⟩:=hΓ.m nm G hG ρ h v₁ z _ _ _ _ hr (Zhj hev c.args.toList) (HIs.ge hH h₁);exact .inr (.inr (.inl ⟨f,vals',v₁,by rw[hx];exact hrun,hcall.mono λr v' hE=>hK v₁ h₁ r v' hE⟩))
  ·exact opX_res hΓ.e (λc y ho hc=>hcl ⟨c,y,ho,hc⟩) (λc y nm ho hc=>hin ⟨c,y,nm,ho,hc⟩) hev hH hr hK
theorem Zgh (hΓ:ConsOkX mn P IC Γ) {ρ:Nat→Ad} {st:St} {a:Act} {w:World} (hR:RS E P W0 n0 D ρ0 ρ st a w) {m id:Nat} (hid:n0≤id) {o:Oper} {α:Type} {K:St→Option α} {r:α}
  (hr:Uey P Γ m id o st K=some r) {b:Nat} (hb:b<=id) {K':Act->World->Prop}
  (hK:∀ρ' st' a' w',K st'=some r->RS E P W0 n0 D ρ0 ρ' st' a' w'->Ext (match o.dst with|some d=>[d]|none=>[]) b ρ ρ' st st'->K' a' w'):OpX mn P o a w K':=by
 have hW:∀d,o.dst=some d->d∈(match o.dst with|some d=>[d]|none=>[]:List Nat):=λd hd=>by rw[hd];exact jI.2 rfl
 unfold Uey at hr;split at hr
 ·rename_i q hq;unfold newO at hq;split at hq
  ·rename_i c ho;have hns:∀c,o.op ≠ .defer c:=λc hc=>by rw[ho]at hc;cases hc
   unfold newOf at hq;split at hq
   ·rename_i y hc;have hy:=Zby (Ziv hR.slots y);split at hq
    ·rename_i f hm;rw[hm]at hy;obtain⟨hfv,-⟩:=hy;split at hq
     ·rename_i G hG;obtain⟨hcon,hent⟩:=hΓ.n f G hG;have hA:Uav P ρ st.h (c.args.toList.map λz=>asA (evO st.s z)) (c.args.toList.map a.eval):=Zhj (Ziv hR.slots) c.args.toList;have hx:execOp a.eval o=callFunc f (c.args.toList.map a.eval).toArray:=by
       unfold execOp;rw[ho];simp only[resolve,hc,hfv,Deferred.ofValue]
       show callFunc f _=_
       congr 1;rw[<- jG];simp
      unfold veNew at hr;cases hbx:q.box with
      |some yT=>
       obtain⟨y',T⟩:=yT;rw[hbx]at hr;dsimp only at hr;cases hok:Ufd st.h [id+m]&&Ueu st.h y' with
       |false=>rw[hok]at hr;cases hr
       |true=>
       rw[hok]at hr;simp only[Q1]at hr;simp only[Q7]at hok;refine⟨hns,λw₁ hg=>.inr (.inr (.inl ⟨f,_,w₁,by rw[hx];exact(hent.2 _).tr (hent.1 _ w₁),(hcon ρ st.h w₁ _ _ _ hq hA (HIs.ge hR.heap hg) λy T h=>by rw[hbx]at h;cases h;exact hok.2).mono ?_⟩))⟩;replace hR:=RS.ge hR hg;clear hg;intro vv w' hp;unfold Uc8 at hp;rw[hbx]at hp;obtain⟨g,x,rfl,hg,hy',hc',hk⟩:=hp;obtain⟨ρ',hR2,e1,e3⟩:=Yjb (hR.world hk) (dst:=o.dst) (f:=q.f) (Zy4 hok.1 _ (jI.2 rfl)) (jH hid (Nat.le_add_right id m)) hc' hy' hok.2 (jH hR.kept.size hg) (λn hp=>by have:=hR.heap.lt hp;omega) (λn b' z h1 h2=>by have:=hR.heap.farLt h1 h2;omega);exact hK ρ' _ _ w' hr hR2 ⟨(Zhq (b:=b) (ρ:=ρ) (st:=st) hW).slots,Zff _ _ _,λn hn _=>List.getElem?_set_ne (by omega),λ_ h=>h,by simp,e3,λn hn=>e1 n (by omega)⟩
      |none=>
      rw[hbx]at hr;dsimp only at hr;cases hok:Ufd st.h (Ucs id m 1 q.rows)&&Ua9 (Ucs id m 1 q.rows) with
      |false=>rw[hok]at hr;cases hr
      | true=>
       rw[hok]at hr;simp only[Q1]at hr;simp only[Q7]at hok;refine⟨hns,λw₁ hg=>.inr (.inr (.inl ⟨f,_,w₁,by rw[hx];exact(hent.2 _).tr (hent.1 _ w₁),(hcon ρ st.h w₁ _ _ _ hq hA (HIs.ge hR.heap hg) λy T h=>by rw[hbx]at h;cases h).mono ?_⟩))⟩;replace hR:=RS.ge hR hg;clear hg
       ·intro vv w' hp;unfold Uc8 at hp;rw[hbx]at hp;obtain⟨gs,rfl,hl,hnd,hgs,hk⟩:=hp;have hno:=Zy4 hok.1;have hle:=Yg6 id m 1 q.rows;obtain⟨ρ',hR',e1,e2,e3,e4,e5,e6⟩:=(hR.world hk).addMany (Ucs id m 1 q.rows) gs q.rows (Yd6 id m 1 q.rows) hl (Zel hok.2) hnd (λi hi=>⟨hno i hi,jH hid (hle i hi)⟩)
         (fun j g r hj hr=>by
          obtain⟨q1,q2,q3⟩:=hgs j g r hj hr;exact⟨jH hR.kept.size q1,q2,q3⟩)
         (fun g hg n hp=>by
          obtain⟨j,hj⟩:=List.mem_iff_getElem?.1 hg;have hjlt:j<q.rows.length:=by rw[<- hl];exact(jJ.1 hj).1
          have:=(hgs j g _ hj (List.getElem?_eq_getElem hjlt)).1;have:=hR.heap.lt hp;omega)
         (fun g hg n b' x h1 h2=>by
          obtain⟨j,hj⟩:=List.mem_iff_getElem?.1 hg;have hjlt:j<q.rows.length:=by rw[<- hl];exact(jJ.1 hj).1
          have:=(hgs j g _ hj (List.getElem?_eq_getElem hjlt)).1;have:=hR.heap.farLt h1 h2;omega)
        have hR2:=hR'.put o.dst (v:=.a (.c q.f (Ucs id m 1 q.rows))) (vv:=.func (.func q.f) #[] (gs.map λg=>Value.pointer (some ⟨g,0,none⟩)).toArray) ⟨by rw[<- e2,List.map_map];rfl,e6⟩;refine hK ρ' _ _ w' hr hR2 ⟨(Zhq (b:=b) (ρ:=ρ) (st:=st) hW).slots,Zff _ _ _,λn hn _=>e4 n λhmem=>by have:=hle n hmem;omega,λ_ h=>h,by show st.h.length<=_;rw[e5];exact jD _,e3,λn hn=>e1 n λhmem=>by have:=hle n hmem;omega⟩
     ·cases hq
    ·cases hq
   ·cases hq
  ·cases hq
 split at hr
 ·rename_i q hq;obtain⟨v,e,hres,hok,hr2⟩:=Zo0 hr;unfold splitO at hq;split at hq
  ·rename_i c ho;split at hq
   ·rename_i y hc;split at hq
    ·rename_i f ns hm;split at hq
     ·rename_i S hS;cases hq;obtain⟨hcon,hent⟩:=hΓ.s f S hS;exact Yap hR hid hok hr2 hb (λhK=>Zy6 ho (Ziv hR.slots) hR.heap hc hm hcon hent hres hK) hK
     ·cases hq
    ·cases hq
   ·cases hq
  ·cases hq
 split at hr
 ·rename_i c y z ho;have hns:∀c,o.op ≠ .defer c:=λc hc=>by rw[ho]at hc;cases hc
  have hc:=Zby (Ziv hR.slots c);split at hr
  ·rename_i t ht;rw[ht]at hc;have hc:a.eval c=.bool t:=hc;cases t with
   |true=>simp only[Q1]at hr;exact pickX hns (by unfold execOp;rw[ho];simp only[hc,asBool];rfl) λw₁ hg=>hK ρ _ _ w₁ hr ((RS.ge hR hg).put o.dst (Ziv hR.slots y)) (Zhq hW)
   |false=>simp only[Q2]at hr;exact pickX hns (by unfold execOp;rw[ho];simp only[hc,asBool];rfl) λw₁ hg=>hK ρ _ _ w₁ hr ((RS.ge hR hg).put o.dst (Ziv hR.slots z)) (Zhq hW)
  ·cases hr
 ·split at hr
  ·rename_i v e g hop;cases g with
   |false=>simp only[Q2]at hr;cases hr
   | true=>
    simp only[Q1]at hr;cases hok:Ub9 st.h id e with
    |false=>rw[hok]at hr;cases hr
    |true=>rw[hok]at hr;simp only[Q1]at hr;exact Yap hR hid hok hr hb (λhK=>Ykh hΓ (Ziv hR.slots) hR.heap hop hK) hK
  ·cases hr
theorem Zlp{o:Oper}{ops:Array Oper}{i:Nat}(ho:ops[i]?=some o){a:Act}{w:World}{K:Act->World->Prop}(hg:Region.wanted o (yielded ops a.tmps)=true)(h:OpX mn P o a w K):OpIX mn P ops i K a w:=by unfold OpIX;simp only[ho,hg,if_true];exact h
theorem Zru{o:Oper}{ops:Array Oper}{i:Nat}(ho:ops[i]?=some o){a:Act}{w:World}{K:Act->World->Prop}(hg:Region.wanted o (yielded ops a.tmps)=false)(h:K (a.put o.dst undef) w):OpIX mn P ops i K a w:=by unfold OpIX;simp only[ho,hg,Bool.false_eq_true,if_false];exact h
theorem Zlf(hΓ:ConsOkX mn P IC Γ){ops:Array Oper}{base:Nat}(hbase:n0<=base){α:Type}{K:St->Option α}{r:α}:
  ∀(l:List Oper) (i:Nat),ops.toList.drop i=l->∀{ρ:Nat->Ad} {st:St} {a:Act} {w:World},RS E P W0 n0 D ρ0 ρ st a w->Ubf P Γ ops base l i st K=some r ->
   (∀ρ' st' a' w',K st'=some r->RS E P W0 n0 D ρ0 ρ' st' a' w'->Ext (wrL l) base ρ ρ' st st'->Q .normal a' w')->OpsX mn P ops (Q .normal) (List.range' i l.length) a w
 |[],i,_,ρ,st,a,w,hR,hr,hQ=>hQ ρ st a w hr hR (.refl _ _ _ _)
 | o::l,i,hl,ρ,st,a,w,hR,hr,hQ=>by
  have ho:ops[i]?=some o:=by
   have:=congrArg (λx=>x[0]?) hl
   simpa using this
  have hl':ops.toList.drop (i+1)=l:=by
   have:=congrArg List.tail hl
   simpa [List.tail_drop] using this
  rw[List.length_cons,List.range'_succ,OpsX];have next:∀{ρ1:Nat->Ad} {st1:St} {a1:Act} {w1:World},Ubf P Γ ops base l (i+1) st1 K=some r->RS E P W0 n0 D ρ0 ρ1 st1 a1 w1->Ext (wrL (o::l)) base ρ ρ1 st st1->OpsX mn P ops (Q .normal) (List.range' (i+1) l.length) a1 w1:=
   λh1 hR1 he=>Zlf hΓ hbase l (i+1) hl' hR1 h1 λρ' st' a' w' hk hR' he'=>hQ ρ' st' a' w' hk hR' (he.trans (he'.mono Zpj (jD _)))
  have hWd:∀d,o.dst=some d->d∈wrL (o::l):=λd hd=>Zer d (by rw[hd];exact jI.2 rfl)
  unfold Ubf at hr;split at hr
  ·rename_i hg;refine Zlp ho (by simp[Region.wanted,hg]) (Zgh hΓ hR (by omega) hr (Nat.le_add_right base i) λρ' st' a' w' hk hR' he=>next hk hR' (he.mono Zer (jD _)))
  ·rename_i j want hg;split at hr
   ·cases hr
   ·rename_i d hd;split at hr
    ·rename_i t hslot;have hs:=getD_some hslot (by intro h;cases h);have hy:=Zki hd hR hs;have hwant:Region.wanted o (yielded ops a.tmps)=(t==want):=by simp[Region.wanted,hg,hy]
     cases t with
     | true=>have hR2:=hR.known hs (t':=true) rfl;have he2:Ext (wrL (o::l)) base ρ ρ st { st with s:=st.s.set d (.a (.b true)) }:=Zt4 hs rfl;simp only[Q1]at hr;cases want with|true=>simp only[Q1]at hr;exact Zlp ho (by rw[hwant];rfl) (Zgh hΓ hR2 (by omega) hr (Nat.le_add_right base i) λρ' st' a' w' hk hR' he=>next hk hR' (he2.trans (he.mono Zer (jD _))))|false=>simp only[Q2]at hr;exact Zru ho (by rw[hwant];rfl) (next hr (hR2.skip o.dst) (he2.trans (Zhq hWd)))
     | false=>have hR2:=hR.known hs (t':=false) rfl;have he2:Ext (wrL (o::l)) base ρ ρ st { st with s:=st.s.set d (.a (.b false)) }:=Zt4 hs rfl;simp only[Q2]at hr;cases want with|true=>simp only[Q1]at hr;exact Zru ho (by rw[hwant];rfl) (next hr (hR2.skip o.dst) (he2.trans (Zhq hWd)))|false=>simp only[Q2]at hr;exact Zlp ho (by rw[hwant];rfl) (Zgh hΓ hR2 (by omega) hr (Nat.le_add_right base i) λρ' st' a' w' hk hR' he=>next hk hR' (he2.trans (he.mono Zer (jD _))))
    ·rename_i hslot;have hs:=getD_some hslot (by intro h;cases h);have hy:=Zmj hd hR hs;exact Zru ho (by simp[Region.wanted,hg,hy]) (next hr (hR.skip o.dst) (Zhq hWd))
    ·cases hr
theorem Zxz(hΓ:ConsOkX mn P IC Γ){ops:Array Oper}{base:Nat}(hbase:n0<=base){st0:St}(hno:∀i,i<ops.size->st0.h[base+i]?=some .no)
  (hE:Ub2 ops.toList 0=true) {tr:List Entry} (hlen:tr.length=ops.size) (hX:Uds P Γ ops base st0 tr) (hT:okTr st0 (befs ops.toList []) base ops.toList tr tr 0=true)
  {ρs:Nat->Ad} (hQ:∀ρ' a' w',RS E P W0 n0 D ρ0 ρ' (Uag base (λ_=>true) tr 0 st0) a' w'->HLe st0.h (Uag base (λ_=>true) tr 0 st0).h->(∀m,m<base->ρ' m=ρs m)->Q .normal a' w') :
  ∀(f:Nat) (listed:Array Bool) (ρ:Nat->Ad) (a:Act) (w:World),listed.size=ops.size->unl listed.toList=f ->
   (∀i k,lst listed i=true->bef (befs ops.toList []) i k=true->lst listed k=true)->RS E P W0 n0 D ρ0 ρ (Uag base (lst listed) tr 0 st0) a w->HLe st0.h (Uag base (lst listed) tr 0 st0).h->(∀m,m<base->ρ m=ρs m) ->
   AnyX mn P ops (Q .normal) f listed a w:=by
 have hT':=λi x h=>Ykn st0 _ base ops.toList tr tr 0 hT i x h
 have pair:∀{i k:Nat} {x y:Entry},tr[i]?=some x->tr[k]?=some y->Ubq (befs ops.toList []) i k=true->Ucy x.2.2 y.2.2=true/\(Aside ops.size base (Ubq (befs ops.toList []) i) y.2.2\/hidE (hidL st0 ops.toList base (befs ops.toList []) i ops.toList 0) y.2.2=true):=λ{i k x y} hx hy hi=>by
  have:=(hT' i x hx).1;have h:=(Yb7 _ _ _ _ _ _ 0 this k y hy).2 (by rw[jA,jA];exact hi);rw[jA]at h;refine⟨h.1,h.2.imp (λh=> ?_) id⟩;have hl:(befs ops.toList []).length=ops.size:=by obtain⟨m,hm,hlen⟩:=Yc4 ops.toList [];rw[hm];simpa using hlen
  rw[<- hl];exact Yih h
 have apart:∀{i k:Nat} {x y:Entry},tr[i]?=some x->tr[k]?=some y->i≠k->Udn x.1 y.1=true:=λ{i k x y} hx hy hi=>by
  have:=(hT' i x hx).1;exact(Yb7 _ _ _ _ _ _ 0 this k y hy).1 (by omega)
 have lstlt:∀{listed:Array Bool} {k:Nat},listed.size=ops.size->lst listed k=true->k<ops.size:=λ{listed k} hs h=>by
  unfold lst at h;rw[jC]at h;cases hk:listed[k]? with
  |none=>rw[hk]at h;cases h
  |some b=>have:=(jE.1 hk).1;omega
 have step:∀ {listed:Array Bool} {ρ:Nat→Ad} {a:Act} {w:World} {i:Nat} {K:Act→World→Prop},listed.size=ops.size →
   (∀i k,lst listed i=true->bef (befs ops.toList []) i k=true->lst listed k=true)->RS E P W0 n0 D ρ0 ρ (Uag base (lst listed) tr 0 st0) a w->HLe st0.h (Uag base (lst listed) tr 0 st0).h->(∀m,m<base->ρ m=ρs m)->i∈Region.ready .any ops listed ->
   (∀ρ' a' w',RS E P W0 n0 D ρ0 ρ' (Uag base (lst (listed.setIfInBounds i true)) tr 0 st0) a' w'->HLe st0.h (Uag base (lst (listed.setIfInBounds i true)) tr 0 st0).h->(∀m,m<base->ρ' m=ρs m)->K a' w')->OpIX mn P ops i K a w:=by
  intro listed ρ a w i K hs hcl hR hhl hren hi hK;obtain⟨hlt,hli,hed⟩:=Zo3 hi;have ho:ops[i]?=some ops[i]:=jB hlt;have hx:tr[i]?=some tr[i]:=List.getElem?_eq_getElem (by omega);obtain⟨hd,hgd⟩:=hX i _ _ ho hx;have hedge:=Zl3 _ _ hE i ops[i] (by simp[hlt]);rw[jA]at hedge;have hLi:lst listed i=false:=by
   unfold lst;rw[jC]at hli|-
   cases hk:listed[i]? with|none=>rfl|some b=>rw[hk]at hli;exact hli
  have hBL:∀k,bef (befs ops.toList []) i k=true->lst listed k=true:=λk hk=>by
   obtain⟨e,he,hb,h⟩:=Ycu ho hedge hk;have:=hed _ ho e he hb;rcases h with rfl|h
   ·exact this
   ·exact hcl _ _ this h
  have hcommon:∀k,lst listed k=true->bef (befs ops.toList []) i k=false->Ubq (befs ops.toList []) i k=true:=λk hk hb=>by
   unfold Ubq;rw[hb];have h1:bef (befs ops.toList []) k i=false:=by cases h:bef (befs ops.toList []) k i with|false=>rfl|true=>have:=hcl k i hk h;rw[hLi]at this;cases this
   have h2:Nat.beq i k=false:=by cases h:Nat.beq i k with|false=>rfl|true=>have:=Nat.eq_of_beq_eq_true h;subst this;rw[hLi]at hk;cases hk
   rw[h1,h2];rfl
  -- less is known at the mask
  have hag:Agree (hidL st0 ops.toList base (befs ops.toList []) i ops.toList 0) ops.size base (λk=>((ops[k]?).bind (·.dst))) (Ubq (befs ops.toList []) i) (Uag base (bef (befs ops.toList []) i) tr 0 st0) (Uag base (lst listed) tr 0 st0):=by
   refine Ybn hBL tr 0 st0 st0 (by omega) (λj x hj=> ?_) ⟨rfl,rfl,λ_ _=>rfl,λ_ _ _=>rfl⟩;rw[jA];have hjlt:j<ops.size:=by have:=(jJ.1 hj).1;omega
   refine⟨?_,λh1 h2=> ?_⟩
   ·have:=(hX j ops[j] x (jB hjlt) hj).1;rw[this,jB hjlt];rfl
   ·have hc:=hcommon j h1 h2;exact⟨hc,(pair hx hj hc).2⟩
  have htake:Uag base (bef (befs ops.toList []) i) (tr.take i) 0 st0=Uag base (bef (befs ops.toList []) i) tr 0 st0:=by
   have:=Zyi base (B:=bef (befs ops.toList []) i) (i:=i) (λk hk=>Ykd hE i k hlt hk) tr 0 st0
   rwa [Nat.sub_zero]at this
  have hless:Less (hide st0.h (hidL st0 ops.toList base (befs ops.toList []) i ops.toList 0) (Uez (befs ops.toList []) base i ops.toList 0 (Uag base (bef (befs ops.toList []) i) (tr.take i) 0 st0))) (Uag base (lst listed) tr 0 st0):=by
   rw[htake];constructor
   ·intro t v hv;have hv:(Uez (befs ops.toList []) base i ops.toList 0 (Uag base (bef (befs ops.toList []) i) tr 0 st0)).s[t]?=some v:=by
     revert hv;unfold hide;cases hidL st0 ops.toList base (befs ops.toList []) i ops.toList 0<;>exact id
    rcases Zy0 _ _ _ _ _ _ _ hv with h | ⟨h,hall⟩
    ·exact .inl h
    ·refine .inr ?_;rw[<- h];refine(hag.slots t λk hk hi'=> ?_).symm;have:=hall k ops[k] (by simp[hk]) (by rw[jA];exact hi');rw[jB hk];exact this
   ·intro m b hb;cases hh:hidL st0 ops.toList base (befs ops.toList []) i ops.toList 0 with
    | none=>
     rw[hh]at hb;simp only[hide,List.getElem?_map]at hb;rcases hg:st0.h[m]? with _|z
     ·rw[hg]at hb;cases hb
     ·rw[hg]at hb;simp only[Option.map_some,Q8]at hb;subst hb;cases z with|gl g t a x=>exact .inr ((hhl m).gl _ _ _ _ hg)|_=>exact .inl rfl
    |some hidden=>
    rw[hh]at hb;simp only[hide]at hb;rcases Ydv _ hb with h | ⟨hb,hn⟩
    ·exact .inl h
    rcases Yba _ _ _ _ _ _ _ hb with h | ⟨h,hall⟩
    ·exact .inl h
    ·refine .inr ?_;rw[<- h];refine(hag.heap m (by rw[hh];exact hn) λk hk hi'=> ?_).symm;have:=hall k (by simpa using hk) (by rw[jA];exact hi');rw[jA]at this;exact this
  obtain⟨hslots,hheap,hhle⟩:=less_run hless hR;have hfresh:(Uag base (lst listed) tr 0 st0).h[base+i]?=some .no:=by
   rw[Yat hLi tr 0 st0 λj x hj hq=>⟨λm b he=>by
    have h:=(hT' j x hj).2;rw[he]at h;simp only[Uc7,Bool.or_eq_true,jA]at h hq;rcases h with h|h
    ·exact .inl (by simp[Nat.blt]at h;omega)
    ·exact .inr (hcl j _ hq h),λm len C t he=>by
    have h:=(hT' j x hj).2;rw[he]at h;simp only[Uc7,Bool.or_eq_true,jA]at h hq;rcases h with h|h
    ·exact .inl (by simp[Nat.blt]at h;omega)
    ·exact .inr (hcl j _ hq h)⟩]
   exact hno i hlt
  have hins:Uag base (lst (listed.setIfInBounds i true)) tr 0 st0=Uae (Uag base (lst listed) tr 0 st0) (base+i) tr[i].1 tr[i].2.1 tr[i].2.2:=by
   rw[<- Yg1 hLi tr 0 st0 (Nat.zero_le _) (by rw[Nat.sub_zero];exact hx) λj y hj hlt' hL=>by
    rw[jA]at hL hlt';refine⟨apart hx hj (by omega),(pair hx hj (hcommon j hL ?_)).1⟩;cases h:bef (befs ops.toList []) i j with
    |false=>rfl
    |true=>have:=Ykd hE i j hlt h;omega]
   refine Zlb base tr 0 st0 λk _ hk=> ?_
   have hk':k<listed.size:=by omega
   unfold lst;simp only[jC]
   by_cases hki:k=i
   ·subst hki;rw[Nat.beq_refl,Array.getElem?_setIfInBounds_self_of_lt hk'];simp
   ·have:Nat.beq k i=false:=by
     cases hb:Nat.beq k i with|false=>rfl|true=>exact absurd (Nat.eq_of_beq_eq_true hb) hki
    rw[this,jK (by omega)];simp
  have run:Ran P Γ ops base st0 tr i ops[i] tr[i]->Region.wanted ops[i] (yielded ops a.tmps)=true->OpIX mn P ops i K a w:=by
   rintro⟨hop,hnew⟩ hw;refine Zlp ho hw (Ykh hΓ (Ziv (st:=mkSt ops base st0 (tr.take i) i) hslots) hheap hop λw₁ hg=> ?_);replace hR:=RS.ge hR hg;clear hg;intro vv w' hEp;obtain⟨ρ',hR',hne⟩:∃ρ',RS E P W0 n0 D ρ0 ρ' (Uae (Uag base (lst listed) tr 0 st0) (base+i) tr[i].1 tr[i].2.1 tr[i].2.2) (a.put tr[i].1 vv) w'/\(∀n,n≠base+i->ρ' n=ρ n):=by
    by_cases happ:∃k len C t,tr[i].2.2=.app k len C t
    ·obtain⟨k,len,C,t,he⟩:=happ;rw[he]at hEp|-
     exact hR.applyApp hfresh (by omega) (hEp.app_less hless hhle)
    ·exact hR.apply hhle hfresh (by omega) (dst:=tr[i].1) (λm b e=>by rw[e]at hEp;exact hEp.2.1.less hless) (λk len C t e=>happ ⟨k,len,C,t,e⟩) hEp
   have hl2:HLe (Uag base (lst listed) tr 0 st0).h (Uae (Uag base (lst listed) tr 0 st0) (base+i) tr[i].1 tr[i].2.1 tr[i].2.2).h:=by
    revert hEp;cases tr[i].2.2 with
    |none=>exact λ_=>HLe.refl _
    |new b=>exact λ_=>Zdi b hfresh
    |newS _ _ _ _=>exact λ_=>Zdi _ hfresh
    |set m b=>rintro⟨_,hkp,_⟩;exact(hkp.less hless).hle
    | app k len C t=>intro hEp;obtain⟨_,_,_,_,_,_,_,_,_,hown⟩:=Ua5.app_less hless hhle hEp;cases k with|none=>exact Zdi _ hfresh|some k=>obtain⟨_,_,e2⟩:=hown k rfl;refine(Zzl e2).trans (Zdi _ ?_);rw[List.getElem?_set_ne (by rintro rfl;rw[hfresh]at e2;cases e2)];exact hfresh
   rw[<- hins]at hl2;rw[<- hins,hd]at hR';refine hK ρ' _ w' hR' (hhl.trans hl2) λm hm=>(hne m (by omega)).trans (hren m hm)
  have skip:tr[i].2=(.a .u,.none)->Region.wanted ops[i] (yielded ops a.tmps)=false->OpIX mn P ops i K a w:=by
   intro hx2 hw;refine Zru ho hw ?_;have hR':=hR.skip tr[i].1;have he:({ Uag base (lst listed) tr 0 st0 with s:=putS (Uag base (lst listed) tr 0 st0).s tr[i].1 (.a .u) }:St)=Uae (Uag base (lst listed) tr 0 st0) (base+i) tr[i].1 tr[i].2.1 tr[i].2.2:=by rw[hx2];rfl
   rw[he,<- hins,hd]at hR';refine hK ρ _ w hR' ?_ hren;rw[hins,hx2];exact hhl
  revert hgd;cases hgu:ops[i].guard with
  |none=>exact λhgd=>run hgd (by simp[Region.wanted,hgu])
  | some q=>
   obtain⟨j,want⟩:=q;rintro⟨hb,hgd⟩;have hLj:=hBL j hb;have hji:=Ykd hE i j hlt hb;have slot:∀{d:Nat} {v:SV},tr[j]?=some (some d,v,.none)->d<st0.s.length->(Uag base (lst listed) tr 0 st0).s[d]?=some v/\Ueg ops j=some d:=by
    intro d v hj hdl;refine⟨Yec hLj tr 0 st0 (Nat.zero_le _) (by rw[Nat.sub_zero];exact hj) (λk x hk hne=> ?_) hdl,?_⟩
    ·have:=apart hj hk (by omega);intro e;rw[e]at this;simp[Udn,Nat.beq_refl]at this
    ·have:=(hX j ops[j] _ (jB (by omega)) hj).1;unfold Ueg;rw[jB (show j<ops.size by omega)];exact this.symm
   rcases hgd with ⟨d,t,hj,hdl,h⟩ | ⟨d,hj,hdl,h⟩
   ·obtain⟨hs,hds⟩:=slot hj hdl;have hy:=Zki hds hR hs;rcases h with ⟨rfl,h⟩ | ⟨hne,h⟩
    ·exact run h (by simp[Region.wanted,hgu,hy])
    ·exact skip h (by simp[Region.wanted,hgu,hy,hne])
   ·obtain⟨hs,hds⟩:=slot hj hdl;have hy:=Zmj hds hR hs;exact skip h (by simp[Region.wanted,hgu,hy])
 have noReady:∀{listed:Array Bool},listed.size=ops.size->Region.ready .any ops listed=[]->∀i,i<ops.size->listed.getD i true=true:=by
  intro listed hs hr i
  induction i using Nat.strongRecOn with
  | _ i ih=>
   intro hi;cases h:listed.getD i true with
   |true=>rfl
   | false=>
    exfalso;have:i∈Region.ready .any ops listed:=Ve.mem_ready hi h λo ho e he hb=>by
     have hedge:=Zl3 _ _ hE i o (by simpa using ho);rw[jA]at hedge;have hlt:=hedge e he hb;have:=ih e.on hlt (by omega);unfold lst;rw[jC]at this|-
     rw[jB (show e.on<listed.size by omega)]at this|-
     exact this
    rw[hr]at this;cases this
 have fin:∀{listed:Array Bool} {ρ:Nat->Ad} {a:Act} {w:World},listed.size=ops.size->(∀i,i<ops.size->listed.getD i true=true)->RS E P W0 n0 D ρ0 ρ (Uag base (lst listed) tr 0 st0) a w->HLe st0.h (Uag base (lst listed) tr 0 st0).h->(∀m,m<base->ρ m=ρs m)->Q .normal a w:=by
  intro listed ρ a w hs hall hR hhl hren;have hQ':=hQ ρ a w;rw[Zlb base (B':=lst listed) tr 0 st0 λk _ hk=>by
   have:=hall k (by omega);unfold lst;rw[jC]at this|-
   rw[jB (show k<listed.size by omega)]at this|-
   exact this.symm]at hQ'
  exact hQ' hR hhl hren
 intro f
 induction f with
 | zero=>
  intro listed ρ a w hs hu hcl hR hhl hren;have hall:∀i,i<ops.size->listed.getD i true=true:=λi hi=>by
   rw[jC,jB (show i<listed.size by omega)];exact Yc0 listed.toList hu i _ (by simp[show i<listed.size by omega])
  refine⟨?_,fin hs hall hR hhl hren⟩;cases hr:Region.ready .any ops listed with
  |nil=>rfl
  |cons i l=>
   have hi:i∈Region.ready .any ops listed:=by rw[hr];exact List.mem_cons_self ..
   obtain⟨h1,h2,_⟩:=Zo3 hi;rw[hall i h1]at h2;cases h2
 | succ f ih=>
  intro listed ρ a w hs hu hcl hR hhl hren;refine⟨λhr=>fin hs (noReady hs hr) hR hhl hren,λi hi=>step hs hcl hR hhl hren hi λρ' a' w' hR' hhl' hren'=> ?_⟩;obtain⟨hlt,hli,hed⟩:=Zo3 hi;have hli':listed[i]?=some false:=by rw[jC,jB (show i<listed.size by omega)]at hli;rw[jB (show i<listed.size by omega)];exact congrArg some hli
  refine ih _ ρ' a' w' (by simp[hs]) ?_ (λj k hj hjk=> ?_) hR' hhl' hren'
  ·have:=Yf3 listed.toList i (by simpa using hli');rw[Array.toList_setIfInBounds];omega
  ·have up:∀k,lst listed k=true->lst (listed.setIfInBounds i true) k=true:=λk hk=>by
    unfold lst at hk|-
    rw[jC]at hk|-
    by_cases hki:i=k
    ·subst hki;rw[Array.getElem?_setIfInBounds_self_of_lt (by omega)];rfl
    ·rw[jK hki];exact hk
   by_cases hji:i=j
   ·subst hji;have ho:ops[i]?=some ops[i]:=jB hlt;have hedge:=Zl3 _ _ hE i ops[i] (by simp[hlt]);rw[jA]at hedge;obtain⟨e,he,hb,h⟩:=Ycu ho hedge hjk;have:=hed _ ho e he hb;rcases h with rfl|h
    ·exact up _ this
    ·exact up _ (hcl _ _ this h)
   ·refine up k (hcl j k ?_ hjk);unfold lst at hj|-
    rw[jC]at hj|-
    rw[jK hji]at hj;exact hj
variable {ro:Option Nat}
theorem Zvs(hm:P.follows .mixedOrders=true)(hΓ:ConsOkX mn P IC Γ){id:Nat}{ops:Array Oper}{draw:Bool}{α:Type}{K:St->Option α}{r:α}{ρ:Nat->Ad}{st:St}{a:Act}{w:World}
  (hR:RS E P W0 n0 D ρ0 ρ st a w) (hr:Uc3 P Γ ops draw st K=some r)
  (hQ:∀ρ' st' a' w',K st'=some r->RS E P W0 n0 D ρ0 ρ' st' a' w'->Ext (wrL ops.toList) st.h.length ρ ρ' st st'->Q .normal a' w'):WpX mn ro P (.region id ops draw) Q a w:=by
 have roomExt:∀(k:Nat) (W:List Nat) (ρ:Nat->Ad),Ext W st.h.length ρ ρ st { st with h:=st.h++jF k .no }:=λk W ρ=>
  ⟨λ_ _=>rfl,rfl,λm hm _=>by rw[List.getElem?_append_left hm],λ_ h=>h,by simp,(hR.room k).2,λ_ _=>rfl⟩
 unfold Uc3 at hr;cases draw with
 | false=>
  simp only[Q2]at hr;refine Zar ?_;rw[List.range_eq_range',<- Array.length_toList];cases hcl:anyCl Γ ops.toList with
  |true=>rw[hcl]at hr;simp only[Q1]at hr;exact Zlf hΓ hR.bound ops.toList 0 rfl (hR.room (4*ops.size)).1 hr λρ' st' a' w' hk hR' he=>hQ ρ' st' a' w' hk hR' ((roomExt _ _ _).trans he)
  |false=>
  rw[hcl]at hr;simp only[Q2]at hr;cases hnew:Uge P ops.toList with
  |true=>rw[hnew]at hr;simp only[Q1]at hr;exact Zlf hΓ hR.bound ops.toList 0 rfl (hR.room ops.size).1 hr λρ' st' a' w' hk hR' he=>hQ ρ' st' a' w' hk hR' ((roomExt _ _ _).trans he)
  |false=>rw[hnew]at hr;simp only[Q2]at hr;exact Zlf hΓ hR.bound ops.toList 0 rfl hR hr λρ' st' a' w' hk hR' he=>hQ ρ' st' a' w' hk hR' he
 | true=>
  simp only[Q1]at hr;cases hE:Ub2 ops.toList 0 with
  |false=>rw[hE]at hr;cases hr
  | true=>
   rw[hE]at hr;simp only[Q1]at hr;obtain⟨tr,hlen,hX,hT,hk⟩:=Zsj ops.toList 0 [] rfl (Nat.zero_le _) rfl (λi o x _ hx=>by simp at hx) hr;refine Zq1 hm ?_;have hR1:=(hR.room ops.size).1;have hno:∀i,i<ops.size->(st.h++jF ops.size VB.no)[st.h.length+i]?=some .no:=λi hi=>by
    rw[List.getElem?_append_right (by omega),List.getElem?_replicate,if_pos (by omega)]
   have hl0:∀k,lst (Array.replicate ops.size false) k=false:=λk=>by
    unfold lst;rw[jC,Array.getElem?_replicate];split<;>rfl
   have hst:Uag st.h.length (lst (Array.replicate ops.size false)) tr 0 { st with h:=st.h++jF ops.size .no }={ st with h:=st.h++jF ops.size .no }:=
    Zmo _ tr 0 _ λk _=>hl0 k
   refine Zxz hΓ hR.bound (st0:={ st with h:=st.h++jF ops.size .no }) hno hE hlen hX hT (ρs:=ρ) (λρ' a' w' hR' hhl hren=> ?_) ops.size _ ρ a _ (by simp) (by simp[unl]) (λi k h=>by rw[hl0]at h;cases h) (by rw[hst];exact hR1) (by rw[hst];exact HLe.refl _) (λ_ _=>rfl);refine hQ ρ' _ a' w' hk hR' ?_;obtain⟨h1,h2,h3⟩:=Ygd (base:=st.h.length) (B:=λ_=>true) (wrL ops.toList) (jD st.h.length) tr 0 { st with h:=st.h++jF ops.size .no } λj x hj d hd=>by
    have hjlt:j<ops.size:=by have:=(jJ.1 hj).1;omega
    have:=(hX j ops[j] x (jB hjlt) hj).1;exact mem_wrL (l:=ops.toList) (j:=j) (o:=ops[j]) (by simp[hjlt]) (by rw[<- this];exact hd)
   have hlens:=Ybq st.h.length (λ_=>true) tr 0 { st with h:=st.h++jF ops.size .no };exact(roomExt _ (wrL ops.toList) ρ).trans ⟨h1,hlens.1,h2,h3,by rw[hlens.2];exact jD _,hhl,hren⟩
end
end
section
variable {mn:Md}
section
variable {P:Program}
theorem Tr.pure{α:Type}(a:α)(v:World):Tr P (Pure.pure a:Sem α) v a v:=(Simple.pure a).tr rfl
theorem Tr.bind{α β:Type}{s:Sem α}{f:α->Sem β}{v v₁ v₂:World}{a:α}{b:β}(h:Tr P s v a v₁)(k:Tr P (f a) v₁ b v₂):Tr P (s >>= f) v b v₂:=λG w hf hv es=>by
 obtain⟨w₁,es₁,e1,e2,e3⟩:=h G w hf hv es;obtain⟨w₂,es₂,q1,q2,q3⟩:=k _ w₁ (hf.did e3) e2.symm (es++es₁);refine⟨w₂,es₁++es₂,?_,?_,Zzc e3 q3⟩
 ·show (s.bind f).runT P w es=_
  rw[Sem.runT_bind',e1];dsimp only;rw[q1,Array.append_assoc]
 ·rw[q2,Gh.grow_grow G e3.size q3.size]
theorem Ygi{G:Gh}{w:World}{r:Nat}{o:Obj}(h:(view G w).heap[r]?=some o)(h1:o.isCells=false)(h2:o.isChan=false):G.M r/\w.heap[r]?=some o:=by
 rw[Zec]at h;obtain⟨o',ho',he⟩:=Option.map_eq_some_iff.1 h
 by_cases hm:G.M r
 ·rw[Uc1 hm]at he;refine⟨hm,?_⟩;rcases Zxi o' with ⟨c',e',fr',rfl,h' | h'⟩ | ⟨a,u,rfl,h'⟩ | ⟨-,h'⟩
  ·rw[h']at he;unfold dead at he;subst he;cases h1
  ·rw[h']at he;subst he;cases h1
  ·rw[h']at he;unfold dead at he;subst he;cases h1
  ·rw[h']at he;rw[ho',he]
 ·exfalso
  by_cases hs:G.S r
  ·rw[Uc2 hm hs]at he;cases o'<;>simp only[frz,dead]at he<;>subst he<;>cases h1
  ·rw[Ude hm hs]at he;cases hF:G.F r with
   |none=>rw[hF]at he;unfold dead at he;subst he;cases h1
   |some x=>rw[hF]at he;unfold prom at he;subst he;cases h2
theorem Ydn{v:World}{r:Nat}{o:Obj}(h:v.heap[r]?=some o)(h1:o.isCells=false)(h2:o.isChan=false):Tr P (getObj r) v o v:=λG w hf hv es=>by
 subst hv;obtain⟨hm,hw⟩:=Ygi h h1 h2;refine⟨w,#[⟨.obj r,false,false⟩],?_,by rw[Gh.grow_self],rfl,rfl,rfl,jD _,λ_ _ _=>rfl,λe he=> ?_⟩
 ·unfold getObj;simp only[Sem.runT,hw];cases o<;>first | (cases h1;done) | (cases h2;done)|simp[Obj.isChan]
 ·simp at he;subst he;exact .inr (.inr (.inr ⟨r,false,rfl,.inl hm⟩))
theorem Yfw{G:Gh}{w:World}{r:Nat}{o:Obj}(hm:G.M r)(ho:own o=o):view G (w.putObj r o)=(view G w).putObj r o:=by
 unfold view World.putObj;simp only[World.mk.injEq,true_and,and_true];refine Array.ext_getElem? λi=> ?_
 rw[Array.getElem?_mapIdx,Array.getElem?_setIfInBounds,Array.getElem?_setIfInBounds,Array.getElem?_mapIdx,Array.size_mapIdx]
 by_cases hi:r=i
 ·subst hi;rw[if_pos rfl,if_pos rfl]
  by_cases hlt:r<w.heap.size
  ·rw[if_pos hlt];exact congrArg some ((Uc1 hm).trans ho)
  ·rw[if_neg hlt];rfl
 ·rw[if_neg hi,if_neg hi]
theorem Zs1{v:World}{r:Nat}{o o':Obj}(h:v.heap[r]?=some o)(h1:o.isCells=false)(h2:o.isChan=false)(h3:own o'=o')(h4:o'.isChan=false):Tr P (setObj r o') v () (v.putObj r o'):=λG w hf hv es=>by
 subst hv;obtain⟨hm,hw⟩:=Ygi h h1 h2;have hsz:(w.putObj r o').heap.size=w.heap.size:=by simp[World.putObj]
 refine⟨w.putObj r o',#[⟨.obj r,true,false⟩],?_,?_,rfl,rfl,rfl,Nat.le_of_eq hsz.symm,λk hk hnk=> ?_,λe he=> ?_⟩
 ·unfold setObj;simp only[Sem.runT,hw];cases o<;>first | (cases h1;done) | (simp only[h4];simp[World.putObj])
 ·rw[hsz,Gh.grow_self];exact(Yfw hm h3).symm
 ·exact World.putObj_heap_other (λe=>hnk (by first | (rw[e];exact hm) | (rw[<- e];exact hm)))
 ·simp at he;subst he;exact .inr (.inr (.inr ⟨r,true,rfl,.inl hm⟩))
theorem Zpw{v:World}{l:Nat}{r:Loop}(h:v.heap[l]?=some (.loop r)):Tr P (Instr.getLoop l) v r v:=(Ydn h rfl rfl).bind (Tr.pure r v)
theorem tr_yield{v:World}{l:Nat}{r:Loop}{args:Array Value}(h:v.heap[l]?=some (.loop r))(hs:args.size=r.params.size):
  Tr P (Instr.yield l args) v (.round l r.fn ((r.params.zip args).foldl (λtmps (t,a)=>tmps.setIfInBounds t a) r.tmps) r.assign r.body) v:=by
 unfold Instr.yield;refine(Zpw h).bind ?_;dsimp only;rw[if_neg (by simpa using hs)];exact Tr.pure _ _
theorem Yb2{v:World}{l:Nat}{r:Loop}(h:v.heap[l]?=some (.loop r))(hr:r.state=.ready):Tr P (Instr.beginRound l) v () (v.putObj l (.loop { r with state:=.busy })):=by unfold Instr.beginRound;refine(Zpw h).bind ((Zs1 h rfl rfl rfl rfl).bind ?_);rw[hr];exact Tr.pure _ _
theorem Yfo{v:World}{l:Nat}{r:Loop}(jump:Option Code)(h:v.heap[l]?=some (.loop r)):
  Tr P (Instr.endRound l jump) v (.bool jump.isNone) (v.putObj l (.loop { r with state:=if jump.isNone then .ready else .done,pending:=jump })):=by
 unfold Instr.endRound;exact(Zpw h).bind ((Zs1 h rfl rfl rfl rfl).bind (Tr.pure _ _))
theorem Yas{v:World}{l:Nat}{r:Loop}(h:v.heap[l]?=some (.loop r))(hr:r.state ≠ .busy):Tr P (Instr.endLoop l) v r.pending (v.putObj l (.loop { r with state:=.exhausted })):=by unfold Instr.endLoop;refine(Zpw h).bind ?_;rw[if_neg (by simpa using hr)];exact(Zs1 h rfl rfl rfl rfl).bind (Tr.pure _ _)
theorem tr_new{v:World}{o:Obj}(ho:own o=o):Tr P (newObj o) v v.heap.size (v.alloc o):=(Simple.new o _ ho λ_=>.pure _).tr rfl
theorem Yet{v:World}(fn:FuncId)(tmps:Array Value)(params:Array Tmp)(assign body:Code):
  Tr P (Instr.enterLoop fn tmps params assign body none) v (v.heap.size+1,[{ target:=.collected v.heap.size,args:=#[] }])
   ((v.alloc (.deferred (some []))).alloc (.loop { state:=.ready,pending:=none,fn,tmps,params,assign,body,defers:=v.heap.size })):=by
 unfold Instr.enterLoop;refine((tr_new rfl).bind (Tr.pure _ _)).bind ?_;have:=tr_new (P:=P) (v:=v.alloc (.deferred (some []))) (o:=.loop { state:=.ready,pending:=none,fn,tmps,params,assign,body,defers:=v.heap.size }) rfl;rw[World.size_alloc]at this;exact this.bind (Tr.pure _ _)
theorem Zo4{v:World}{m:Nat}(h:v.heap[m]?=some (.deferred (some []))):Tr P (Instr.takeDeferred m) v [] (v.putObj m (.deferred none)):=by unfold Instr.takeDeferred;exact(Ydn h rfl rfl).bind ((Zs1 h rfl rfl rfl rfl).bind (Tr.pure _ _))
structure KeepsS (sf:TypeId->Bool) (B:Nat) (W W':World):Prop where
 size:W.heap.size<=W'.heap.size
 same:∀k,B<=k->k<W.heap.size->(∀C t fr,W.heap[k]?=some (.cells C t fr)->sf t=false)->W'.heap[k]?=W.heap[k]?
variable {sf:TypeId->Bool}
theorem KeepsS.trans{B:Nat}{X Y Z:World}(h:KeepsS sf B X Y)(k:KeepsS sf B Y Z):KeepsS sf B X Z:=⟨jH h.size k.size,λi hB hi hs=>by
 have e:=h.same i hB hi hs;exact(k.same i hB (Nat.lt_of_lt_of_le hi h.size) (by rw[e];exact hs)).trans e⟩
theorem KeepsS.later{B B':Nat}{W W':World}(h:KeepsS sf B W W')(hB:B<=B'):KeepsS sf B' W W':=⟨h.size,λk hk hl=>h.same k (jH hB hk) hl⟩
theorem KeepsS.put{B:Nat}(W:World)(l:Nat)(o:Obj)(hl:l<B):KeepsS sf B W (W.putObj l o):=⟨by simp[World.putObj],λk hk _ _=>World.putObj_heap_other (by omega)⟩
theorem KeepsS.at{B:Nat}{W W':World}(h:KeepsS sf B W W'){k:Nat}{o:Obj}(hB:B<=k)(hk:W.heap[k]?=some o)(hs:∀C t fr,o=.cells C t fr->sf t=false:=by intro C t fr h;cases h):W'.heap[k]?=some o:=
 (h.same k hB (jE.1 hk).1 λC t fr e=>hs C t fr (by rw[hk]at e;exact Q5 e)).trans hk
theorem KeepsS.of_ge{B:Nat}{v v':World}(h:Ge v v'):KeepsS sf B v v':=⟨h.size,λk _ hk _=>h.block k hk⟩
abbrev Ubd(P:Program):=KeepsS (Udi P)
theorem Ubd.of_ge{B:Nat}{v v':World}(h:Ge v v'):Ubd P B v v':=KeepsS.of_ge h
theorem KeepsS.weak{sf':TypeId->Bool}{B:Nat}{W W':World}(h:KeepsS sf B W W')(hs:∀t,sf t=true->sf' t=true):KeepsS sf' B W W':=⟨h.size,λk hk hl h'=>h.same k hk hl λC t fr e=>by
 cases hq:sf t with
 |false=>rfl
 |true=>have:=h' C t fr e;rw[hs t hq]at this;cases this⟩
def Ufl{α:Type}(sf:TypeId->Bool)(B:Nat)(Kp:World->World->Prop)(I:List α->World->Prop)(Ix:Code->List α->World->Prop)(xs:List α)(W:World):Exit->Act->World->Prop
 |.normal,_,W'=>KeepsS sf B W W'/\Kp W W'/\I xs W'
 |.ret,_,W'=>KeepsS sf B W W'/\Ix .ret xs W'
 |.exit id,_,W'=>KeepsS sf B W W'/\Ix (.exit id) xs W'
 |.goto t,_,W'=>KeepsS sf B W W'/\Ix (.goto t) xs W'
 |.panic _,_,_=>False
 |.outgrown,_,_=>False
def YieldX(mn:Md)(P:Program)(l:Nat)(args:Array Value)(v:World)(R:Value->World->Prop):Prop:=
 ∀v₁,Ge v v₁->∃f tmps assign body,Tr P (Instr.yield l args) v₁ (.round l f tmps assign body) v₁/\Udt mn P l f tmps assign body v₁ R
def SeqS{α:Type}(sf:TypeId->Bool)(mn:Md)(P:Program)(g:Nat)(lb:Array Value)(encs:α->Array Value)(Kp:World->World->Prop)(xs:List α)(v0:World):Prop:=
 ∀ (l:Nat) (J Jx:List α→World→Prop) (V:World),Ge v0 V→OwnFrom V.heap.size J→OwnFrom V.heap.size Jx →
  (∀ pre x V1,J pre V1→pre++[x] <+: xs→V.heap.size≤V1.heap.size→YieldX mn P l (encs x) V1 fun r V'=>
   (r=.bool true/\J (pre++[x]) V'/\Kp V1 V'/\KeepsS sf V.heap.size V1 V')\/(r=.bool false/\Jx (pre++[x]) V'/\KeepsS sf V.heap.size V1 V')) ->
  J [] V->Ua4 mn P g (#[.func (.yield l) #[] #[]]++lb) V λr V'=>J xs V'\/∃pre,pre <+: xs/\Jx pre V'
abbrev SeqX{α:Type}(mn:Md)(P:Program):=SeqS (α:=α) (Udi P) mn P
theorem YieldX.mono{mn:Md}{P:Program}{l:Nat}{args:Array Value}{v:World}{R R':Value->World->Prop}(h:YieldX mn P l args v R)(hr:∀r v',R r v'->R' r v'):YieldX mn P l args v R':=by intro v₁ h₁;obtain⟨f,tmps,assign,body,q1,q2⟩:=h v₁ h₁;exact⟨f,tmps,assign,body,q1,q2.mono hr⟩
theorem SeqS.keep{α:Type}{mn:Md}{P:Program}{g:Nat}{lb:Array Value}{encs:α->Array Value}{Kp Kp':World->World->Prop}{xs:List α}{v:World}(h:SeqS sf mn P g lb encs Kp xs v)(hk:∀{W W'},Kp' W W'->Kp W W'):SeqS sf mn P g lb encs Kp' xs v:=
 λl J Jx V hv o1 o2 hY h0=>h l J Jx V hv o1 o2 (λpre x W1 a b c=>(hY pre x W1 a b c).mono λe W' q=>q.imp (λq=>⟨q.1,q.2.1,hk q.2.2.1,q.2.2.2⟩) id) h0
theorem SeqS.weak{α:Type}{mn:Md}{P:Program}{sf':TypeId->Bool}{g:Nat}{lb:Array Value}{encs:α->Array Value}{Kp:World->World->Prop}{xs:List α}{v:World}(h:SeqS sf mn P g lb encs Kp xs v)(hs:∀t,sf' t=true->sf t=true):SeqS sf' mn P g lb encs Kp xs v:=
 λl J Jx V hv o1 o2 hY h0=>h l J Jx V hv o1 o2 (λpre x W1 a b c=>(hY pre x W1 a b c).mono λe W' q=>q.imp (λq=>⟨q.1,q.2.1,q.2.2.1,q.2.2.2.weak hs⟩) (λq=>⟨q.1,q.2.1,q.2.2.weak hs⟩)) h0
def sfOf(P:Program)(h:List VB)(t:TypeId):Bool:= !Ub1 h&&Udi P t
theorem SeqS.any{α:Type}{mn:Md}{P:Program}{g:Nat}{lb:Array Value}{encs:α->Array Value}{Kp:World->World->Prop}{xs:List α}{v:World}(h:SeqX mn P g lb encs Kp xs v)(hp:List VB):SeqS (sfOf P hp) mn P g lb encs Kp xs v:=h.weak λt ht=>by
 unfold sfOf at ht;rw[Q7]at ht;exact ht.2
section steps
variable {b:Frame} {a:Act} {k:List Item} {cs:List Frame} {w w':World} {es:Array Event}
theorem Yb5{l:Nat}(hb:b.roundOf=some l)(hk:b.kind=.normal)(hr:(Instr.beginRound l).runT P w #[]=(.ok () w',es)):
  stepG P mn.main (gr (b.atR a (.beginRound::k)) cs) w=.go (gr (b.atR a k) cs) w' (seen P b.fn es):=by
 have hke:(b.kind==CallKind.early)=false:=by rw[hk];rfl
 have h2 : (do (some l).elim (stuck "beginRound: no round") Instr.beginRound; pure .skip : Sem Next).runT P w #[] = (.ok .skip w', es) := by
  show ((Instr.beginRound l).bind λ_=>Sem.pure Next.skip).runT P w #[]=_
  rw[Sem.runT_bind',hr];rfl
 simp only[gr,stepG,stepG.exec,Frame.atR,stepG.apply,if_true,hb,h2,hke,Bool.false_eq_true,if_false,GStep.after,Frame.finish,Array.append_empty]
theorem Yci{l:Nat}{c:Frame}{jump:Option Code}{v:Value}(hb:b.roundOf=some l)(hk:b.kind=.normal)(hr:(Instr.endRound l jump).runT P w #[]=(.ok v w',es))
  (hj:(k=[]/\jump=none)\/(∃k₁,k=.code .ret::k₁/\jump=some .ret)\/(∃id k₁,k=.code (.exit id)::k₁/\exitTo id k₁=none/\jump=some (.exit id))\/(∃t k₁,k=.code (.goto t)::k₁/\gotoIn t k₁=none/\jump=some (.goto t))) :
  stepG P mn.main (gr (b.atR a k) (c::cs)) w=.go (gr (c.finish v) cs) w' (seen P b.fn es):=by
 rcases hj with ⟨rfl,rfl⟩ | ⟨k₁,rfl,rfl⟩ | ⟨id,k₁,rfl,he,rfl⟩ | ⟨t,k₁,rfl,he,rfl⟩
 ·simp[gr,stepG,stepG.exec,Frame.atR,hb,hr,GStep.after,doReturn,hk,-Sem.runT_eq]
 ·simp[gr,stepG,stepG.exec,Frame.atR,hb,hr,GStep.after,doReturn,hk,-Sem.runT_eq]
 ·simp[gr,stepG,stepG.exec,Frame.atR,hb,hr,GStep.after,doReturn,hk,he,-Sem.runT_eq]
 ·simp[gr,stepG,stepG.exec,Frame.atR,hb,hr,GStep.after,doReturn,hk,he,-Sem.runT_eq]
theorem Yds{g:Operand}{ps:Array Tmp}{assign body:Code}{l:Nat}{mark:List Deferred}{gf:FuncId}{args:Array Value}{w₂:World}{es₂:Array Event}(hb:b.roundOf=none)(hk:b.kind=.normal)
  (hr:(Instr.enterLoop b.fn a.tmps ps assign body none).runT P w #[]=(.ok (l,mark) w',es))
  (hc:(do let d <- resolve a.eval { callee:=.value g,args:=#[.const (.func (.yield l) #[] #[])],argTypes:=#[] } 0;invoke d.target d.args:Sem Next).runT P w' #[]=(.ok (.enter gf args) w₂,es₂)) :
  stepG P mn.main (gr (b.atR a (.code (.rangeFunc g ps assign body)::k)) cs) w =
   .go (gr (Frame.enter P gf args .normal) (b.atR { a with defers:=mark++a.defers } (.inRangeFunc l::k)::cs)) w₂ (seen P b.fn es++seen P b.fn es₂):=by
 have hke:(b.kind==CallKind.early)=false:=by rw[hk];rfl
 have he:=Frame.eval_atR b { a with defers:=mark++a.defers } (.inRangeFunc l::k);have he':({ a with defers:=mark++a.defers }:Act).eval=a.eval:=rfl;rw[he']at he;simp only[Frame.atR,hb]at he;simp only[gr,stepG,stepG.exec,Frame.atR,hb,hr,GStep.after];simp only[stepG.apply,if_true,he,hc,hke,Bool.false_eq_true,if_false,GStep.after,Array.append_empty]
theorem Zr4{l:Nat}{v:Value}:(b.atR a (.inRangeFunc l::k)).finish v=b.atR a (.endRangeFunc l::k):=rfl
theorem Zon{l:Nat}{jump:Option Code}(hr:(Instr.endLoop l).runT P w #[]=(.ok jump w',es)):
  stepG P mn.main (gr (b.atR a (.endRangeFunc l::k)) cs) w=.go (gr (b.atR a ((jump.map Item.code).toList++k)) cs) w' (seen P b.fn es):=by
 simp[gr,stepG,stepG.exec,Frame.atR,hr,GStep.after,-Sem.runT_eq]
end steps
end
end
section
variable {mn:Md}
section
variable {P:Program}
theorem Yke{l:Nat}{f:FuncId}{tmps:Array Value}{assign body:Code}{v:World}{R:Value->World->Prop}{A₁:Act->World->Prop}(hA₁:∀{a:Act} {w w':World},A₁ a w->Ge w w'->A₁ a w')
  (hassign:WpX mn (some l) P assign (Exit.then A₁ λ_ _ _=>False) { tmps,defers:=[] } v)
  (hbegin:∀a w,A₁ a w->∃r:Loop,w.heap[l]?=some (.loop r)/\r.state=.ready)
  (hbody:∀ a₁ w r,A₁ a₁ w→w.heap[l]? = some (.loop r)→WpX mn (some l) P body (fun e a' w'=>∃ jump,(e = .normal∧jump=none∨e = .ret∧jump=some .ret∨(∃ id,e = .exit id∧jump=some (.exit id))∨∃ t,e = .goto t∧jump=some (.goto t)) ∧
   ∀w'',Ge w' w''->∃r',w''.heap[l]?=some (.loop r')/\R (.bool jump.isNone) (w''.putObj l (.loop { r' with state:=if jump.isNone then .ready else .done,pending:=jump }))) a₁ (w.putObj l (.loop { r with state:=.busy }))) :
  Udt mn P l f tmps assign body v R:=λPr hC c cs G w hf hv hQ=>by
 let b:Frame:={ fn:=f,tmps,todo:=[],defers:=[],mode:=.run,kind:=.normal,roundOf:=some l }
 show Pr G w (gr (b.atR { tmps,defers:=[] } (.code assign::.beginRound::[.code body])) (c::cs))
 refine hassign Pr hC b rfl rfl _ _ G w hf hv λe a' v' hq G' w' hf' hv'=> ?_
 cases e with
 | normal=>
  refine hC.step G' w' _ hf' rfl λw₁ hr₁=> ?_
  have hf₁:=hf'.rely hr₁;have hg₁:=hA₁ (hA₁ hq hv') (hr₁.view hf');obtain⟨r,hl,hst⟩:=hbegin _ _ hg₁;obtain⟨w₂,es,e1,e2,e3⟩:=Yb2 (P:=P) hl hst G' w₁ hf₁ rfl #[];refine⟨_,w₂,_,Yb5 (b:=b) rfl rfl e1,by simpa using e3.seen b.fn,?_⟩;refine hbody _ _ r hg₁ hl Pr hC b rfl rfl [] (c::cs) _ w₂ (hf₁.did e3) (e2 ▸ .refl _) λe a'' v'' hq' G'' w'' hf'' hv''=> ?_
  obtain⟨jump,hj,hend⟩:=hq';have leave:∀{k:List Item},(k=[]/\jump=none)\/(∃k₁,k=.code .ret::k₁/\jump=some .ret)\/(∃id k₁,k=.code (.exit id)::k₁/\exitTo id k₁=none/\jump=some (.exit id))\/(∃t k₁,k=.code (.goto t)::k₁/\gotoIn t k₁=none/\jump=some (.goto t)) ->
    Pr G'' w'' (gr (b.atR a'' k) (c::cs)):=λ{k} hk=>by
   refine hC.step G'' w'' _ hf'' rfl λw₃ hr₃=> ?_
   have hf₃:=hf''.rely hr₃;obtain⟨r',hl',hR⟩:=hend _ (hv''.trans (hr₃.view hf''));obtain⟨w₄,es₄,q1,q2,q3⟩:=Yfo (P:=P) jump hl' G'' w₃ hf₃ rfl #[];refine⟨_,w₄,_,Yci (b:=b) rfl rfl q1 hk,by simpa using q3.seen b.fn,?_⟩;exact hQ _ _ hR _ w₄ (hf₃.did q3) (q2 ▸ .refl _)
  rcases hj with ⟨rfl,rfl⟩ | ⟨rfl,rfl⟩ | ⟨id,rfl,rfl⟩ | ⟨t,rfl,rfl⟩
  ·exact leave (.inl ⟨rfl,rfl⟩)
  ·exact λk₁=>leave (.inr (.inl ⟨k₁,rfl,rfl⟩))
  ·exact⟨λk' hk=>by simp[exitTo]at hk,λ_ k₁ hk=>leave (.inr (.inr (.inl ⟨id,k₁,rfl,hk,rfl⟩)))⟩
  ·exact⟨λk' hk=>by simp[gotoIn]at hk,λ_ k₁ hk=>leave (.inr (.inr (.inr ⟨t,k₁,rfl,hk,rfl⟩)))⟩
 |_=>exact hq.elim
theorem Ge.grown{v v':World}(h:Ge v v'):v.grownBy v' none:=⟨h.os,h.tape,h.output,h.size,λk hk _=>h.block k hk⟩
theorem OwnFrom.ge{β:Type}{B:Nat}{I:β->World->Prop}(h:OwnFrom B I){s:β}{v v':World}(hs:I s v)(hg:Ge v v'):I s v':=h s v v' none hs hg.grown (λr e=>by cases e)
theorem Ge.at{v v':World}(h:Ge v v'){k:Nat}{o:Obj}(hk:v.heap[k]?=some o):v'.heap[k]?=some o:=(h.block k (jE.1 hk).1).trans hk
theorem ge_put{A B:World}(h:Ge A B){l:Nat}(hl:l<A.heap.size){o:Obj}:Ge (A.putObj l o) (B.putObj l o):=by
 have hs:∀W:World,(W.putObj l o).heap.size=W.heap.size:=λW=>by simp[World.putObj]
 refine⟨h.os,h.tape,h.output,by rw[hs,hs];exact h.size,λk hk=> ?_⟩;rw[hs]at hk
 by_cases e:k=l
 ·subst e;rw[World.putObj_heap_same hl,World.putObj_heap_same (Nat.lt_of_lt_of_le hl h.size)]
 ·rw[World.putObj_heap_other e,World.putObj_heap_other e];exact h.block k hk
theorem Zn4{α:Type}{g:Operand}{ps:Array Tmp}{assign body:Code}{Q:Exit->Act->World->Prop}{a:Act}{v:World}{gf:Nat}{lb:Array Value}(hg:a.eval g=.func (.func gf) #[] lb)(eg:EntX P gf)
  {encs:α->Array Value} {Kp:World->World->Prop} {xs:List α} {v0:World} {sf:TypeId->Bool} (hseq:SeqS sf mn P gf lb encs Kp xs v0)
  (hKt:∀{A B C:World},Kp A B->Kp B C->Kp A C) (hKb:∀(W:World) (l:Nat) (o o':Obj),v.heap.size<=l->W.heap[l]?=some o->o.isCells=false->o.isWalk=false->Kp W (W.putObj l o')) (hKg:∀{A B:World},Ge A B->Kp A B) (hb0:Ge v0 v)
  (I:List α->World->Prop) (Ix:Code->List α->World->Prop) (hps:∀pre x W,I pre W->pre++[x] <+: xs->(encs x).size=ps.size) (hI:OwnFrom v.heap.size I) (hIx:∀c,OwnFrom v.heap.size (Ix c)) (h0:I [] v) (A₁:List α->α->World->Act->World->Prop) (hA₁:∀{pre:List α} {x:α} {W0:World} {a:Act} {w w':World},A₁ pre x W0 a w->Ge w w'->A₁ pre x W0 a w') (hA₂:∀{pre:List α} {x:α} {W0:World} {a:Act} {w:World},A₁ pre x W0 a w->Ge W0 w)
  (hassign:∀(l:Nat) (pre:List α) (x:α) (W:World),I pre W->pre++[x] <+: xs->WpX mn (some l) P assign (Exit.then (A₁ pre x W) λ_ _ _=>False) { tmps:=(ps.zip (encs x)).foldl (λt (p,v)=>t.setIfInBounds p v) a.tmps,defers:=[] } W)
  (hbody:∀(l:Nat) (pre:List α) (x:α) (W0 W:World) (a1:Act) (r0 r1:Loop),v.heap.size<=l->W0.heap[l]?=some (.loop r0)->I pre W0->pre++[x] <+: xs->A₁ pre x W0 a1 W->WpX mn (some l) P body (Ufl sf v.heap.size Kp I Ix (pre++[x]) (W0.putObj l (.loop r1))) a1 (W.putObj l (.loop r1)))
  (hdone:∀(D:Nat) (W:World),v.heap.size<=D->I xs W->W.heap[D]?=some (.deferred (some []))->Q .normal { a with defers:={ target:=.collected D,args:=#[] }::a.defers } W)
  (hstop:∀(D:Nat) (c:Code) (pre:List α) (W:World),v.heap.size<=D->pre <+: xs->Ix c pre W->W.heap[D]?=some (.deferred (some []))->WpX mn none P c Q { a with defers:={ target:=.collected D,args:=#[] }::a.defers } W) :
  WpX mn none P (.rangeFunc g ps assign body) Q a v:=λPr hC b hb hkd k cs G w hf hv hQ=>by
 refine hC.step G w _ hf rfl λw₁ hr₁=> ?_
 have hf₁:=hf.rely hr₁;have hv₁:Ge v (view G w₁):=hv.trans (hr₁.view hf);generalize hvd:view G w₁=v₁ at hv₁;have hszv:v.heap.size<=v₁.heap.size:=hv₁.size
 -- the record of this loop, in whatever state
 let mk:LoopState->Option Code->Obj:=λst pe=>.loop { state:=st,pending:=pe,fn:=b.fn,tmps:=a.tmps,params:=ps,assign,body,defers:=v₁.heap.size }
 let W1:World:=(v₁.alloc (.deferred (some []))).alloc (mk .ready none)
 have hsz:W1.heap.size=v₁.heap.size+2:=by simp[W1]
 have hL1:W1.heap[v₁.heap.size+1]?=some (mk .ready none):=by
  have:=World.alloc_heap_new (v₁.alloc (.deferred (some []))) (mk .ready none)
  rwa [World.size_alloc]at this
 have hD1:W1.heap[v₁.heap.size]?=some (.deferred (some [])):=
  (Below.heap_alloc (v₁.alloc (.deferred (some []))) _ _ (by simp)).trans (World.alloc_heap_new v₁ _)
 have hgW:Ge v₁ W1:=((Below.refl _ v₁).alloc (jD _) _).alloc (by simp) _;obtain⟨w₂,es,e1,e2,e3⟩:=Yet (P:=P) b.fn a.tmps ps assign body G w₁ hf₁ hvd #[];have hcx:(do let d <- resolve a.eval { callee:=.value g,args:=#[.const (.func (.yield (v₁.heap.size+1)) #[] #[])],argTypes:=#[] } 0;invoke d.target d.args:Sem Next)=callFunc gf (#[.func (.yield (v₁.heap.size+1)) #[] #[]]++lb):=by
  simp only[resolve,hg,Deferred.ofValue]
  show callFunc gf _=_
  congr 1;rw[<- jG];simp[Act.eval]
 have hf₂:=hf₁.did e3;obtain⟨w₃,es₃,q1,q2,q3⟩:=(eg.2 (#[.func (.yield (v₁.heap.size+1)) #[] #[]]++lb)).tr (eg.1 _ W1) (G.grow w₁.heap.size w₂.heap.size) w₂ hf₂ e2.symm #[];refine⟨_,w₃,_,Yds hb hkd e1 (by rw[hcx];exact q1),?_,?_⟩
 ·have:=Zzc (G:=G) (a:=w₁) (b:=w₂) (c:=w₃) (e3.seen (P:=P) b.fn) (q3.seen (P:=P) b.fn)
  simpa using this
 rw[<- Gh.grow_grow G e3.size q3.size]
 -- what lies in the two blocks abides the iterator's turns
 have hkeep:∀{A B:World} {row:Option Nat} {k:Nat} {o:Obj},A.grownBy B row->(∀r,row=some r->W1.heap.size<=r/\∃o:Obj,A.heap[r]?=some o/\o.isCells=false)->k<W1.heap.size->A.heap[k]?=some o->B.heap[k]?=some o:=
  λhg' hr hk h=>(hg'.block _ (jE.1 h).1 (λe=>by have:=(hr _ e.symm).1;omega)).trans h
 have hown:∀{J:List α->World->Prop},OwnFrom v.heap.size J->OwnFrom W1.heap.size J:=λh=>Yc3 h (by omega)
 refine hseq (v₁.heap.size+1)
  (λpre W=>I pre W/\W.heap[v₁.heap.size+1]?=some (mk .ready none)/\W.heap[v₁.heap.size]?=some (.deferred (some [])))
  (λpre W=>∃c,Ix c pre W/\W.heap[v₁.heap.size+1]?=some (mk .done (some c))/\W.heap[v₁.heap.size]?=some (.deferred (some [])))
  W1 ((hb0.trans hv₁).trans hgW)
  (λs A B row hs hg' hr=>⟨hown hI s A B row hs.1 hg' hr,hkeep hg' hr (by omega) hs.2.1,hkeep hg' hr (by omega) hs.2.2⟩)
  (λs A B row ⟨c,hc,hl,hk⟩ hg' hr=>⟨c,hown (hIx c) s A B row hc hg' hr,hkeep hg' hr (by omega) hl,hkeep hg' hr (by omega) hk⟩)
  ?_ ⟨OwnFrom.ge hI h0 (hv₁.trans hgW),hL1,hD1⟩ Pr hC _ _ w₃ (hf₂.did q3) (q2 ▸ .refl _) ?_
 ·rintro pre x V1 ⟨hi,hl,hk⟩ hpre hle v₂ hg₂;have hi₂:=OwnFrom.ge hI hi hg₂;have hl₂:=hg₂.at hl;refine⟨b.fn,_,assign,body,tr_yield (P:=P) (args:=encs x) hl₂ (hps pre x V1 hi hpre),?_⟩;refine Yke (A₁:=A₁ pre x v₂) hA₁ (hassign _ pre x v₂ hi₂ hpre) (λa W hW=>⟨_,(hA₂ hW).at hl₂,rfl⟩) λa₁ W r hWa hr=> ?_
  have hW:=hA₂ hWa;have hlW:=hW.at hl₂;rw[hlW]at hr;cases hr;have hk₂:=hg₂.at hk;have hlt:v₁.heap.size+1<v₂.heap.size:=(jE.1 hl₂).1;have hl2:(v₂.putObj (v₁.heap.size+1) (mk .busy none)).heap[v₁.heap.size+1]?=some (mk .busy none):=World.putObj_heap_same hlt;have hk2:(v₂.putObj (v₁.heap.size+1) (mk .busy none)).heap[v₁.heap.size]?=some (.deferred (some [])):=(World.putObj_heap_other (by omega)).trans hk₂;have hw2:Kp V1 (v₂.putObj (v₁.heap.size+1) (mk .busy none)):=hKt (hKg hg₂) (hKb _ _ _ _ (by omega) hl₂ rfl rfl);have hgV:KeepsS sf W1.heap.size V1 v₂:=KeepsS.of_ge hg₂;refine WpX.mono (hbody _ pre x v₂ W a₁ _ _ (by omega) hl₂ hi₂ hpre hWa) ?_;have fin:∀(jump:Option Code) (W3 W4:World),KeepsS sf v.heap.size (v₂.putObj (v₁.heap.size+1) (mk .busy none)) W3->Ge W3 W4->∃W5,W5=W4.putObj (v₁.heap.size+1) (mk (if jump.isNone then .ready else .done) jump) /\
    W4.heap[v₁.heap.size+1]?=some (mk .busy none)/\W5.heap[v₁.heap.size+1]?=some (mk (if jump.isNone then .ready else .done) jump)/\W5.heap[v₁.heap.size]?=some (.deferred (some []))/\KeepsS sf W1.heap.size V1 W5:=λjump W3 W4 hk3 hg4=>by
   have hl3:=hg4.at (hk3.at (by omega) hl2);exact⟨_,rfl,hl3,World.putObj_heap_same (jE.1 hl3).1,(World.putObj_heap_other (by omega)).trans (hg4.at (hk3.at (by omega) hk2)),
    ((hgV.trans (KeepsS.put v₂ _ _ (by omega))).trans ((hk3.later (by omega)).trans (KeepsS.of_ge hg4))).trans (KeepsS.put W4 _ _ (by omega))⟩
  rintro e a3 W3 hp;cases e with
  |normal=>obtain⟨hk3,hkp3,hi3⟩:=hp;refine⟨none,.inl ⟨rfl,rfl⟩,λW4 hg4=> ?_⟩;obtain⟨W5,rfl,hl3,hl4,hk4,hK⟩:=fin none W3 W4 hk3 hg4;exact⟨_,hl3,.inl ⟨rfl,⟨hI.putObj _ (OwnFrom.ge hI hi3 hg4) (by omega) hl3 rfl,hl4,hk4⟩,hKt (hKt hw2 (hKt hkp3 (hKg hg4))) (hKb _ _ _ _ (by omega) hl3 rfl rfl),hK⟩⟩
  |ret=>obtain⟨hk3,hi3⟩:=hp;refine⟨some .ret,.inr (.inl ⟨rfl,rfl⟩),λW4 hg4=> ?_⟩;obtain⟨W5,rfl,hl3,hl4,hk4,hK⟩:=fin (some .ret) W3 W4 hk3 hg4;exact⟨_,hl3,.inr ⟨rfl,⟨.ret,(hIx _).putObj _ (OwnFrom.ge (hIx _) hi3 hg4) (by omega) hl3 rfl,hl4,hk4⟩,hK⟩⟩
  |exit id=>obtain⟨hk3,hi3⟩:=hp;refine⟨some (.exit id),.inr (.inr (.inl ⟨id,rfl,rfl⟩)),λW4 hg4=> ?_⟩;obtain⟨W5,rfl,hl3,hl4,hk4,hK⟩:=fin (some (.exit id)) W3 W4 hk3 hg4;exact⟨_,hl3,.inr ⟨rfl,⟨.exit id,(hIx _).putObj _ (OwnFrom.ge (hIx _) hi3 hg4) (by omega) hl3 rfl,hl4,hk4⟩,hK⟩⟩
  |goto t=>obtain⟨hk3,hi3⟩:=hp;refine⟨some (.goto t),.inr (.inr (.inr ⟨t,rfl,rfl⟩)),λW4 hg4=> ?_⟩;obtain⟨W5,rfl,hl3,hl4,hk4,hK⟩:=fin (some (.goto t)) W3 W4 hk3 hg4;exact⟨_,hl3,.inr ⟨rfl,⟨.goto t,(hIx _).putObj _ (OwnFrom.ge (hIx _) hi3 hg4) (by omega) hl3 rfl,hl4,hk4⟩,hK⟩⟩
  |panic ch=>exact hp.elim
  |outgrown=>exact hp.elim
 ·intro V2' fr hfn hleave G' w' hf' hv'
  -- the iterator leaves
  refine hC.step G' w' _ hf' rfl λw₄ hr₄=> ?_
  obtain⟨hm,hdf,hkf,fn,hfun,hres⟩:=hleave;obtain⟨r,ht,hpost⟩:=hres (view G' w₄) (hv'.trans (hr₄.view hf'));obtain⟨w₅,es₅,s1,s2,s3⟩:=ht G' w₄ (hf'.rely hr₄) rfl #[];refine⟨_,w₅,_,Yby hm hdf hkf hfun s1,by simpa using s3.seen fr.fn,?_⟩;rw[Zr4];have hf₅:=(hf'.rely hr₄).did s3;have hg₅:Ge (view G' w₄) (view (G'.grow w₄.heap.size w₅.heap.size) w₅):=by rw[<- s2];exact Ge.refl _
  generalize view G' w₄=V2 at hg₅ hpost;generalize G'.grow w₄.heap.size w₅.heap.size=G₅ at hf₅ hg₅;refine hC.step G₅ w₅ _ hf₅ rfl λw₆ hr₆=> ?_
  have hf₆:=hf₅.rely hr₆;have hg₆:=hg₅.trans (hr₆.view hf₅);rcases hpost with ⟨hi,hl,hk⟩ | ⟨pre,hpre,c,hi,hl,hk⟩
  ·obtain⟨w₇,es₇,t1,t2,t3⟩:=Yas (P:=P) (hg₆.at hl) (by simp) G₅ w₆ hf₆ rfl #[];refine⟨_,w₇,_,Zon t1,by simpa using t3.seen b.fn,?_⟩;refine hQ .normal _ _ (hdone v₁.heap.size _ hszv (hI.putObj _ (OwnFrom.ge hI hi hg₆) (by omega) (hg₆.at hl) rfl) ((World.putObj_heap_other (by omega)).trans (hg₆.at hk))) _ w₇ (hf₆.did t3) (by rw[<- t2];exact Ge.refl _)
  ·obtain⟨w₇,es₇,t1,t2,t3⟩:=Yas (P:=P) (hg₆.at hl) (by simp) G₅ w₆ hf₆ rfl #[];refine⟨_,w₇,_,Zon t1,by simpa using t3.seen b.fn,?_⟩;exact hstop v₁.heap.size c pre _ hszv hpre ((hIx c).putObj _ (OwnFrom.ge (hIx c) hi hg₆) (by omega) (hg₆.at hl) rfl) ((World.putObj_heap_other (by omega)).trans (hg₆.at hk)) Pr hC b hb hkd k cs _ w₇ (hf₆.did t3) (by rw[<- t2];exact Ge.refl _) hQ
theorem Zil{α:Type}{g:Operand}{ps:Array Tmp}{assign body:Code}{Q:Exit->Act->World->Prop}{a:Act}{v:World}{gf:Nat}{lb:Array Value}(hg:a.eval g=.func (.func gf) #[] lb)(eg:EntX P gf)
  {encs:α->Array Value} {Kp:World->World->Prop} {xs:List α} {v0:World} {sf:TypeId->Bool} (hseq:SeqS sf mn P gf lb encs Kp xs v0)
  (hKt:∀{A B C:World},Kp A B->Kp B C->Kp A C) (hKb:∀(W:World) (l:Nat) (o o':Obj),v.heap.size<=l->W.heap[l]?=some o->o.isCells=false->o.isWalk=false->Kp W (W.putObj l o')) (hKg:∀{A B:World},Ge A B->Kp A B) (hb0:Ge v0 v)
  (I:List α->World->Prop) (Ix:Code->List α->World->Prop) (hps:∀pre x W,I pre W->pre++[x] <+: xs->(encs x).size=ps.size) (hI:OwnFrom v.heap.size I) (hIx:∀c,OwnFrom v.heap.size (Ix c)) (h0:I [] v) (a₁:α->Act)
  (hassign:∀(l:Nat) (x:α) (W:World),WpX mn (some l) P assign (Exit.then (λa w=>a=a₁ x/\Ge W w) λ_ _ _=>False) { tmps:=(ps.zip (encs x)).foldl (λt (p,v)=>t.setIfInBounds p v) a.tmps,defers:=[] } W)
  (hbody:∀(l:Nat) (pre:List α) (x:α) (W:World),v.heap.size<=l->(∃r,W.heap[l]?=some (.loop r))->I pre W->pre++[x] <+: xs->WpX mn (some l) P body (Ufl sf v.heap.size Kp I Ix (pre++[x]) W) (a₁ x) W)
  (hdone:∀(D:Nat) (W:World),v.heap.size<=D->I xs W->W.heap[D]?=some (.deferred (some []))->Q .normal { a with defers:={ target:=.collected D,args:=#[] }::a.defers } W)
  (hstop:∀(D:Nat) (c:Code) (pre:List α) (W:World),v.heap.size<=D->pre <+: xs->Ix c pre W->W.heap[D]?=some (.deferred (some []))->WpX mn none P c Q { a with defers:={ target:=.collected D,args:=#[] }::a.defers } W) :
  WpX mn none P (.rangeFunc g ps assign body) Q a v:=
 Zn4 hg eg hseq hKt hKb hKg hb0 I Ix hps hI hIx h0 (λ_ x W0 a w=>a=a₁ x/\Ge W0 w) (λh hg=>⟨h.1,h.2.trans hg⟩) (λh=>h.2) (λl _ x W _ _=>hassign l x W)
  (fun l pre x W0 W a1 r0 r1 hl h0 hi hpre ⟨e,hg⟩=>by
   subst e;have hlW:=hg.at h0;have hlt:=(jE.1 hlW).1;have hgp:Ge (W0.putObj l (.loop r1)) (W.putObj l (.loop r1)):=ge_put hg (jE.1 h0).1;refine(hbody l pre x _ hl ⟨_,World.putObj_heap_same hlt⟩ (hI.putObj _ (OwnFrom.ge hI hi hg) hl hlW rfl) hpre).mono ?_;intro e a' w' hp;cases e with
   |normal=>exact⟨(KeepsS.of_ge hgp).trans hp.1,hKt (hKg hgp) hp.2.1,hp.2.2⟩
   |ret=>exact⟨(KeepsS.of_ge hgp).trans hp.1,hp.2⟩
   |exit id=>exact⟨(KeepsS.of_ge hgp).trans hp.1,hp.2⟩
   |goto t=>exact⟨(KeepsS.of_ge hgp).trans hp.1,hp.2⟩
   |panic ch=>exact hp.elim
   |outgrown=>exact hp.elim) hdone hstop
end
end
end Go.Proofs.YtefjogahegolbaaDoor.Vc
