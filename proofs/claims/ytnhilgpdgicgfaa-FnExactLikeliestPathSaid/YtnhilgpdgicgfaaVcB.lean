/- Operations of the symbolic run, in company. No program is named. -/
import Derived.Test.YtnhilgpdgicgfaaVcA
namespace Go.Proofs.Ytnhilgpdgicgfaa.Vc
open Go.RowKit Go.Conc Go.Proofs.Ytnhilgpdgicgfaa.Ve
section
set_option linter.unusedVariables false
set_option linter.unusedSimpArgs false
variable {mn:Md}
theorem Ge.kept{v v':World}(h:Ge v v')(E:Nat->Prop):Kept E v v':=.of_below h
theorem HIs.ge{P:Program}{ρ:Nat->Ad}{h:List VB}{v v':World}(hH:HIs P ρ h v)(hg:Ge v v'):HIs P ρ h v':=
 ⟨λn b hb=>BIs.kept hH hb (hg.kept λ_=>False) (λ_=>not_false) λ_ _=>not_false,hH.inj,hH.far⟩
theorem RS.ge{P:Program}{W0:World}{n0:Nat}{D E:List Nat}{ρ0 ρ:Nat->Ad}{st:St}{a:Act}{v v':World}(hR:RS E P W0 n0 D ρ0 ρ st a v)(hg:Ge v v'):RS E P W0 n0 D ρ0 ρ st a v':=hR.world (hg.kept _)
section
variable {P:Program}
def ConOkX(mn:Md)(P:Program)(f:FuncId)(F:Con):Prop:=
 ∀ρ h v args vals r ef,NoOwn h->F args h=some (r,ef,true)->AllIs P ρ h args vals->HIs P ρ h v->CallsX mn P f vals.toArray v λvv v'=>EffPost P ρ h v r ef vv v'
def ConOkCX(mn:Md)(P:Program)(f:FuncId)(F:Con):Prop:=
 ∀ρ h v args vals r ef,F args h=some (r,ef,true)->AllIs P ρ h args vals->HIs P ρ h v->CallsX mn P f vals.toArray v λvv v'=>EffPost P ρ h v r ef vv v'
def MConOkX(mn:Md)(P:Program)(nm:String)(F:Con):Prop:=
 ∀ρ h v z args vals r ef,F (.v z::args) h=some (r,ef,true)->AllIs P ρ h args vals->HIs P ρ h v ->
  ∃f vals',Tr P (callMethod z nm vals.toArray) v (.enter f vals') v/\CallsX mn P f vals' v λvv v'=>EffPost P ρ h v r ef vv v'
def NConOkX(mn:Md)(P:Program)(f:FuncId)(G:NCon):Prop:=
 ∀ρ h v args vals c,G args=some c->AllIs P ρ h args vals->HIs P ρ h v->(∀y T,c.box=some (y,T)->boxOkA h y=true) ->
  CallsX mn P f vals.toArray v (NewPost P ρ h v c)
/-- Memory behind a call that is run where it stands. -/
structure InlPost (P:Program) (ρ:Nat->Ad) (h:List VB) (v:World) (ρ':Nat->Ad) (h':List VB) (d':List Nat) (v':World):Prop where
 heap:HIs P ρ' h' v'
 hle:HLe h h'
 len:h.length<=h'.length
 ren:∀n,present h n->ρ' n=ρ n
 same:∀n,n<h.length->n ∉ d'->h'[n]?=h[n]?
 back:∀n,n<h.length->present h' n->present h n
 fresh:∀n,h.length<=n->present h' n->v.heap.size<=(ρ' n).a\/∃m len C e,h[m]?=some (.sl .own len C e)/\len≠0/\(ρ m).a=(ρ' n).a
 own:∀n len C e,n<h.length->h'[n]?=some (.sl .own len C e)->∃C',h[n]?=some (.sl .own len C' e)
 kept:Kept (λk=>∃n,present h n/\solidB h n=true/\(n∈d'\/∃len C e,h[n]?=some (.sl .own len C e))/\(ρ n).a=k) v v'
def InlOkX(mn:Md)(P:Program)(f:FuncId)(F:Inl):Prop:=
 ∀(α:Type) (ρ:Nat->Ad) (h:List VB) (v:World) (args:List SA) (vals:List Value) (K:SV->List VB->List Nat->Option α) (r:α),F α args h K=some r->AllIs P ρ h args vals->HIs P ρ h v ->
  CallsX mn P f vals.toArray v λvv v'=>∃ρ' sv h' d',K sv h' d'=some r/\IsV P ρ' h' sv vv/\InlPost P ρ h v ρ' h' d' v'
theorem HIs.present_notDf{ρ:Nat->Ad}{h:List VB}{w:World}(hH:HIs P ρ h w){n:Nat}(hp:present h n)(hs:solidB h n=true):∃o,w.heap[(ρ n).a]?=some o/\isDf o=false:=by
 cases hp with
 |row e=>exact⟨_,(hH.is n _ e).1,rfl⟩
 |one e=>obtain⟨v,_,hc⟩:=hH.is n _ e;exact⟨_,hc,rfl⟩
 |mp e=>exact⟨_,hH.is n _ e,rfl⟩
 |own e hk h0=>unfold solidB at hs;rw[e]at hs;obtain⟨_,C',t',hc,_⟩:=(hH.is n _ e).2 hs h0;exact⟨_,hc,rfl⟩
theorem HIs.names{ρ ρ':Nat->Ad}{h:List VB}{w:World}(hH:HIs P ρ h w)(hr:∀n,present h n->ρ' n=ρ n):HIs P ρ' h w:=by
 refine⟨λn b hb=> ?_,λn m hn hm e=>hH.inj n m hn hm (by rw[<- hr n hn,<- hr m hm];exact e),λn b k hn hf m hm=>by rw[hr m hm];exact hH.far n b k hn hf m hm⟩;have hi:=(hH.is n b hb).mono (HLe.refl h) hr;cases b with
 |no=>trivial
 |sp=>trivial
 |gl g t a x=>exact hi
 |row C T=>rw[hr n (.row hb)];exact hi
 |one y T=>rw[hr n (.one hb)];exact hi
 |mp E c=>rw[hr n (.mp hb)];exact hi
 | sl k len C e=>
  by_cases h0:len=0
  ·subst h0;obtain⟨h1,h2⟩:=hi;exact⟨⟨h1.1,h1.2.1,h1.2.2.1,.inl rfl⟩,λ_ h=>absurd rfl h⟩
  by_cases hk:k.here=true
  ·rw[hr n (.own hb hk h0)];exact hi
  ·cases k with
   |came a=>cases a with|some a=>exact⟨hi.1,λh _=>nomatch h⟩|none=>exact absurd rfl hk
   |own=>exact absurd rfl hk
   |lent=>exact absurd rfl hk
def EntX(P:Program)(f:FuncId):Prop:=(∀args w,(callFunc f args).run P w=.ok (.enter f args) w)/\∀args,Simple P (callFunc f args)
theorem entX_ok {f : FuncId} {fn : Func} (hf : P.funcs[f]? = some fn) (hn : (fn.name == "runtime.NumGoroutine") = false) (hb : fn.body.isNone = false) : EntX P f := by
 have hs:∀args,Simple P (callFunc f args):=λargs=>by
  unfold callFunc;refine simple_program ?_;rw[hf];dsimp only;rw[hn,hb];exact .pure _
 refine⟨λargs w=> ?_,hs⟩;unfold callFunc
 show (match P.funcs[f]? with|none=>_|some fn=>_:Sem Next).run P w=_
 rw[hf];dsimp only;rw[hn,hb];rfl
theorem simple_lenOf(v:Value):Simple P (Builtin.lenOf v):=by unfold Builtin.lenOf;split<;>first|exact .pure _|exact .halt _
theorem simple_firstCells(s n:Nat)(v:Value):Simple P (Builtin.firstCells s n v):=by unfold Builtin.firstCells;split<;>first|exact simple_loadCellsFrom _ _ _ _|exact .pure _|exact .halt _
theorem never_bind{α β:Type}{s:Sem α}{f:α->Sem β}(h:∀a,∀(v:World) (r:β) (v':World),(f a).run P v ≠ .ok r v'):∀(v:World) (r:β) (v':World),(s >>= f).run P v ≠ .ok r v':=λv r v' e=>by
 rw[Sem.run_bind]at e;cases hs:s.run P v with|ok a w=>rw[hs]at e;exact h a w r v' e|halt hh w=>rw[hs]at e;cases e
theorem never_unsupported{α:Type}(u:Unsupported):∀(v:World) (r:α) (v':World),(unsupported u:Sem α).run P v ≠ .ok r v':=λv r v' e=>by cases e
theorem simple_ite{α:Type}{c:Prop}[Decidable c]{s t:Sem α}(h1:c->Simple P s)(h2:¬c->Simple P t):Simple P (if c then s else t):=by
 by_cases h:c
 ·rw[if_pos h];exact h1 h
 ·rw[if_neg h];exact h2 h
theorem never_ite{α:Type}{c:Prop}[Decidable c]{s t:Sem α}(h1:∀(v:World) (r:α) (v':World),s.run P v ≠ .ok r v')(h2:∀(v:World) (r:α) (v':World),t.run P v ≠ .ok r v'):∀(v:World) (r:α) (v':World),(if c then s else t).run P v ≠ .ok r v':=by
 by_cases h:c
 ·rw[if_pos h];exact h1
 ·rw[if_neg h];exact h2
theorem simple_append(Ts:Array TypeId)(ty:TypeId)(args:Array Value):Simple P (Builtin.append_ Ts ty args):=by
 unfold Builtin.append_;dsimp only
 repeat' (first
  |with_reducible exact Simple.pure' _
  |with_reducible exact simple_stuck _
  |with_reducible exact simple_underlying _
  |with_reducible exact simple_typeInfo _
  |with_reducible exact simple_sizeOf _
  |with_reducible exact simple_zeroValue _
  |with_reducible exact simple_newRow _ _
  |with_reducible exact simple_asInt _
  |with_reducible exact simple_lenOf _
  |with_reducible exact simple_firstCells _ _ _
  |with_reducible exact simple_storeCells _ _ _
  |with_reducible exact simple_askRoom _
  |with_reducible exact simple_choose _
  |with_reducible exact simple_runtimePanic _
  |with_reducible exact Simple.never (Builtin.mayShare _ _ _ _ _ >>= _) (never_bind λ_=>never_ite (never_bind λ_=>never_unsupported _) (never_unsupported _))
  |with_reducible refine .bind ?_ λ_=> ?_
  |with_reducible refine simple_ite (λ_=> ?_) λ_=> ?_
  |split
  |dsimp only)
theorem res_v{s:Sem Value}{v v':World}{r:Next}(h:(s >>= λx=>(Pure.pure (Next.value x):Sem Next)).run P v=.ok r v'):∃vv,r=.value vv:=by
 rw[Sem.run_bind]at h;cases hs:s.run P v with
 |ok a w=>rw[hs]at h;cases h;exact⟨a,rfl⟩
 |halt hh w=>rw[hs]at h;cases h
theorem res_u{s:Sem Unit}{v v':World}{r:Next}(h:(s >>= λ_=>(Pure.pure Next.skip:Sem Next)).run P v=.ok r v'):r=.skip:=by
 rw[Sem.run_bind]at h;cases hs:s.run P v with
 |ok a w=>rw[hs]at h;cases h;rfl
 |halt hh w=>rw[hs]at h;cases h
theorem opX_of{o:Oper}{a:Act}{v:World}{K:Act->World->Prop}(hns:∀c,o.op ≠ .defer c)(hs:Simple P (execOp a.eval o))
  (hres:∀(v:World) (r:Next) (v':World),(execOp a.eval o).run P v=.ok r v'->(∃vv,r=.value vv)\/r=.skip) (h:∀v₁,Ge v v₁->o.wpIn Fence.wide 0 P a v₁ K λ_ _ _=>False):OpX mn P o a v K:=by
 refine⟨hns,λv₁ h₁=> ?_⟩;obtain⟨-,hw⟩:=h v₁ h₁;change o.uponIn Fence.wide 0 P a K (λ_ _ _=>False) ((execOp a.eval o).run P v₁) at hw;cases hr:(execOp a.eval o).run P v₁ with
 |ok r v'=>
  rw[hr]at hw;rcases hres v₁ r v' hr with ⟨vv,rfl⟩|rfl
  ·exact .inl ⟨vv,v',hs.tr hr,hw⟩
  ·exact .inr (.inl ⟨v',hs.tr hr,hw⟩)
 |halt hh v'=>rw[hr]at hw;cases hh<;>exact hw.elim
def bareΓ(Γ:Cons):Cons:={ c:=λ_=>none,n:=λ_=>none,i:=λ_=>none,e:=Γ.e,s:=λ_=>none,m:=λ_=>none }
theorem bareΓ_ok{Γ:Cons}(he:∀a b,Γ.e a b=true ↔ a=b):ConsOk P (bareΓ Γ):=⟨he,λ_ _ h=>(by cases h),λ_ _ h=>(by cases h),λ_ _ h=>(by cases h),λ_ _ h=>(by cases h),λ_ _ h=>(by cases h),λ_=>rfl⟩
theorem wideOk:FenceOk P Fence.wide:=⟨λ_=>trivial,rfl,λn f args w R h=>callsIn_wide.2 h⟩
section
variable {Γ:Cons} {o:Oper} {a:Act} {v:World} {ρ:Nat->Ad} {h:List VB} {ev:Operand->SV} {K:Act->World->Prop} {sv:SV} {e:Eff}
theorem opRes_bare(hc:∀c y,o.op=.call c->c.callee ≠ .value y)(hi:∀c y nm,o.op=.call c->c.callee ≠ .invoke y nm):opRes P Γ ev h o=opRes P (bareΓ Γ) ev h o:=by
 unfold opRes;cases ho:o.op with
 |call c=>dsimp only;cases hy:c.callee with|value y=>exact absurd hy (hc c y ho)|invoke y nm=>exact absurd hy (hi c y nm ho)|_=>rfl
 |makeMap t r=>cases r<;>rfl
 |slice T y lo hi mx=>cases lo<;>rfl
 |_=>rfl
theorem simple_typeAssertV(x:Value)(xT t:TypeId)(ok:Bool):Simple P (Instr.typeAssert x xT t ok):=by
 unfold Instr.typeAssert;refine .bind (simple_underlying t) λ_=> ?_
 repeat' (first|exact simple_zeroValue _|exact simple_runtimePanic _|exact simple_typeInfo _|exact .pure _|exact .halt _|split | (refine .bind ?_ λ_=> ?_))
theorem opX_res (he : ∀ a b, Γ.e a b = true ↔ a = b) (hcl : ∀ c y, o.op = .call c → c.callee ≠ .value y) (hin : ∀ c y nm, o.op = .call c → c.callee ≠ .invoke y nm) (hev : ∀ x, IsV P ρ h (ev x) (a.eval x)) (hH : HIs P ρ h v) (hr : opRes P Γ ev h o = some (sv, e, true))
    (hK:∀v₁,Ge v v₁->Post P ρ h v₁ a o K sv e):OpX mn P o a v K:=by
  rw[opRes_bare hcl hin]at hr;have lone:∀v₁,Ge v v₁->o.wpIn Fence.wide 0 P a v₁ K λ_ _ _=>False:=λv₁ h₁=>opRes_sound wideOk (bareΓ_ok he) hev (HIs.ge hH h₁) hr (hK v₁ h₁)
  have pv:∀{s:Sem Value},execOp a.eval o=(s >>= λx=>(Pure.pure (Next.value x):Sem Next))->Simple P s->(∀c,o.op ≠ .defer c)->OpX mn P o a v K:=λ{s} hx hs hns =>
    opX_of hns (by rw[hx]; exact .bind hs λ_ => .pure _) (λv r v' hv => .inl (by rw[hx]at hv; exact res_v hv)) lone
  cases ho:o.op with
  |move y=>exact opX_of (λc hc=>by rw[ho]at hc; cases hc) (by unfold execOp; rw[ho]; exact .pure _) (λv r v' hv=>by unfold execOp at hv; rw[ho]at hv; cases hv; exact .inl ⟨_,rfl⟩) lone
  |assign y=>exact opX_of (λc hc=>by rw[ho]at hc; cases hc) (by unfold execOp; rw[ho]; exact .pure _) (λv r v' hv=>by unfold execOp at hv; rw[ho]at hv; cases hv; exact .inl ⟨_,rfl⟩) lone
  | pick c y z =>
    have hx:execOp a.eval o=asBool (a.eval c) >>= λt=>Pure.pure (Next.value (if t=true then a.eval y else a.eval z)):=by unfold execOp; rw[ho]
    refine opX_of (λc hc=>by rw[ho]at hc; cases hc) (by rw[hx]; exact .bind (simple_asBool _) λ_ => .pure _) (λv r v' hv => ?_) lone;rw[hx,Sem.run_bind]at hv;cases hs:(asBool (a.eval c)).run P v with
    |ok t w=>rw[hs]at hv; cases hv; exact .inl ⟨_,rfl⟩
    |halt hh w=>rw[hs]at hv; cases hv
  |load T y=>exact pv (by unfold execOp; rw[ho]) (simple_loadAt _ _) (λc hc=>by rw[ho]at hc; cases hc)
  |store T y z=>exact opX_of (λc hc=>by rw[ho]at hc; cases hc) (by unfold execOp; rw[ho]; exact .bind (simple_storeAt _ _ _) λ_ => .pure _) (λv r v' hv=>by unfold execOp at hv; rw[ho]at hv; exact .inr (res_u hv)) lone
  |alloc T=>exact pv (by unfold execOp; rw[ho]) (simple_alloc _) (λc hc=>by rw[ho]at hc; cases hc)
  | makeMap T y =>
    cases y with
    |some y=>unfold opRes at hr; rw[ho]at hr; cases hr
    |none=>exact pv (by unfold execOp; rw[ho]; rfl) (simple_makeMap _) (λc hc=>by rw[ho]at hc; cases hc)
  |box T y=>exact pv (by unfold execOp; rw[ho]) (simple_box _ _) (λc hc=>by rw[ho]at hc; cases hc)
  |makeSlice T y z=>exact pv (by unfold execOp; rw[ho]) (simple_makeSlice _ _ _) (λc hc=>by rw[ho]at hc; cases hc)
  |buildSlice T n parts=>exact pv (by unfold execOp; rw[ho]) (simple_buildSlice _ _ _) (λc hc=>by rw[ho]at hc; cases hc)
  | fieldAddr T y f =>
    unfold opRes at hr;rw[ho]at hr;dsimp only at hr;split at hr
    · rename_i q e' hf;obtain⟨fs,fd,hu,hfd,rfl,rfl,hs,h0,hz⟩:=fieldOf_sound hf;have hzi:=szEq_info hz;have hzl:=lay_len (P:=P) fd.type;cases hq:P.info? fd.type with
      |none=>simp[hq]at hzi
      | some i =>
        have:i.size=(zc P fd.type).size:=by simpa [hq] using hzi
        exact pv (by unfold execOp; rw[ho]) (simple_fieldAt _ hu hfd hq (by omega)) (λc hc=>by rw[ho]at hc; cases hc)
    . cases hr
  |field T y f=>exact pv (by unfold execOp; rw[ho]) (simple_field _ _ _) (λc hc=>by rw[ho]at hc; cases hc)
  |indexAddr T y z=>exact pv (by unfold execOp; rw[ho]) (simple_indexAt _ _ _) (λc hc=>by rw[ho]at hc; cases hc)
  |index T y z=>exact pv (by unfold execOp; rw[ho]) (simple_index _ _ _) (λc hc=>by rw[ho]at hc; cases hc)
  |extract y k=>exact pv (by unfold execOp; rw[ho]) (simple_extract _ _) (λc hc=>by rw[ho]at hc; cases hc)
  | nilCheck y =>
    have hy:=asA_is (hev y);have hptr:∃ad,a.eval y=.pointer (some ad):=by
      unfold opRes at hr;rw[ho]at hr;dsimp only at hr;split at hr
      . rename_i n hm; rw[hm]at hy; exact⟨_,hy.1⟩
      . rename_i n q T hm; rw[hm]at hy; exact⟨_,hy.1⟩
      · rename_i n q T hm;rw[hm]at hy;cases hb:isSlB h n with
        |false=>rw[hb]at hr; cases hr
        |true=>obtain⟨_,_,_,_,_,_,_,_,_,_,h3,_⟩:=Is.q_of hy hb; exact⟨_,h3⟩
      . cases hr
    obtain⟨ad,hptr⟩:=hptr;have hx:execOp a.eval o=Pure.pure (Next.value (.pointer (some ad))):=by unfold execOp; rw[ho]; dsimp only; rw[hptr]
    exact opX_of (λc hc=>by rw[ho]at hc; cases hc) (by rw[hx]; exact .pure _) (λv r v' hv=>by rw[hx]at hv; cases hv; exact .inl ⟨_,rfl⟩) lone
  | binOp op T y z T2 =>
    have hy:=asA_is (hev y);have hz:=asA_is (hev z);refine pv (by unfold execOp; rw[ho]) ?_ (λc hc=>by rw[ho]at hc; cases hc);unfold opRes at hr;rw[ho]at hr;dsimp only at hr;split at hr
    · rename_i r hb;unfold binV at hb;split at hb
      · rename_i k p k' q h1 h2;rw[h1]at hy; rw[h2]at hz;rw[hy.1,hz.1];exact .bind (simple_eqGuard_int _ _ _ _ _ _ _ _) λ_=>simple_binOp_int _ _ _ _ _ _
      · rename_i p q h1 h2;rw[h1]at hy; rw[h2]at hz;rw[show a.eval y=.string p from hy,show a.eval z=.string q from hz];exact .bind (simple_eqGuard_str _ _ _ _ _ _) λ_=>simple_binOp_str _ _ _ _
      · rename_i p q h1 h2;rw[h1]at hy; rw[h2]at hz;rw[show a.eval y=.bool p from hy,show a.eval z=.bool q from hz];refine .bind (simple_eqGuard_bool _ _ _ _ _ _) λ_ => ?_
        cases hB:isBoolT P T with
        |false=>rw[hB]at hb; split at hb<;>cases hb
        | true =>
          have hT:=isBoolT_true hB;split at hb
          . exact .bind (simple_equal_bool hT _ _) λ_ => .pure _
          . exact .bind (simple_equal_bool hT _ _) λ_ => .pure _
          . cases hb
      . cases hb
    · split at hr
      · rename_i r hb;unfold binG at hb;split at hb
        · rename_i C T1 D T2' h1 h2;rw[h1]at hy; rw[h2]at hz;obtain⟨hy,hC⟩:=hy;obtain⟨hz,hD⟩:=hz;rw[hy,hz];cases hok:isRow P T&&(eqT P 8 T&&(!P.eqGuardType P.depth T&&(leq (lay P T) (lay P T1)&&leq (lay P T) (lay P T2')))) with
          |false=>rw[hok]at hb; cases hb
          | true =>
            rw[hok]at hb;simp only[Bool.and_eq_true,Bool.not_eq_true']at hok;obtain⟨hR,hq,hgt,hl1,hl2⟩:=hok;have hC':WT P T C:=⟨by rw[leq_eq hl1]; exact hC.1,hC.2⟩;have hD':WT P T D:=⟨by rw[leq_eq hl2]; exact hD.1,hD.2⟩;have hv:∀A,valP P T A=.agg A:=λA=>by unfold valP; rw[hR]; rfl
            have hsim:=simple_equalIn 8 T hq 9992 C D hC' hD';rw[hv,hv]at hsim;have hsim:Simple P (Op.equal T (.agg C) (.agg D)):=hsim;have hg:Simple P (eqGuard op T y z (.agg C) (.agg D)):=by
              unfold eqGuard;cases op<;>first
                |exact .pure _
                | (dsimp only
                   refine simple_program ?_;refine simple_program ?_;rw[hgt];exact .pure _)
            simp only[cond_true]at hb;refine .bind hg λ_ => ?_
            split at hb
            . exact .bind hsim λ_ => .pure _
            . exact .bind hsim λ_ => .pure _
            . cases hb
        . cases hb
      · split at hr
        · rename_i r hb;unfold binE at hb;cases hT:ifcT P T with
          |false=>rw[hT]at hb; cases hb
          | true =>
            obtain⟨ms,hu⟩:=ifcT_is hT;rw[hT]at hb;simp only[cond_true]at hb;have heq:∀(x z:Value),(x=.nilIface \/ ∃t u,x=.iface t u)->(z=.nilIface \/ ∃t u,z=.iface t u)->(x=.nilIface\/z=.nilIface)->Simple P (Op.equal T x z):=by intro x z hx hz hn;unfold Op.equal Op.maxDepth Op.equalIn;refine simple_under hu ?_;rcases hx with rfl | ⟨t,u,rfl⟩<;>rcases hz with rfl | ⟨t',u',rfl⟩<;>first|exact .pure _ | (rcases hn with hn|hn<;>cases hn)
            have both:∀(x z:Value) (X Y:Operand),(x=.nilIface \/ ∃t u,x=.iface t u)->(z=.nilIface \/ ∃t u,z=.iface t u)->(x=.nilIface\/z=.nilIface)->(isConstO X||isConstO Y)=true\/(∃t u,x=.iface t u)\/(∃t u,z=.iface t u) ->
                (op=.eql\/op=.neq)->Simple P (do eqGuard op T X Y x z; binOp op T x z:Sem Value):=by
              intro x z X Y hx hz hn hc hop;refine .bind ?_ λ_ => ?_
              · unfold eqGuard;rcases hop with rfl|rfl<;>rcases hx with rfl | ⟨t,u,rfl⟩<;>rcases hz with rfl | ⟨t',u',rfl⟩<;>first
                  |exact .pure _
                  | (dsimp only
                     rcases hc with hc | ⟨t,u,hc⟩ | ⟨t,u,hc⟩
                     . cases X<;>cases Y<;>first|exact .pure _ | (simp[isConstO]at hc)
                     . cases hc
                     . cases hc)
              . rcases hop with rfl|rfl<;>rcases hx with rfl | ⟨t,u,rfl⟩<;>rcases hz with rfl | ⟨t',u',rfl⟩<;>exact .bind (heq _ _ (by simp) (by simp) hn) λ_ => .pure _
            have hop:op=.eql\/op=.neq:=by
              split at hb
              · split at hb
                . exact .inl rfl
                . exact .inr rfl
                . cases hb
              . cases hb
            split at hb
            · rename_i b hE;unfold eqE at hE;split at hE
              · rename_i h1 h2;rw[h1]at hy; rw[h2]at hz;rw[show a.eval y=.nilIface from hy,show a.eval z=.nilIface from hz];cases hcc:isConstO y||isConstO z with
                |false=>rw[hcc]at hE; cases hE
                |true=>exact both _ _ _ _ (.inl rfl) (.inl rfl) (.inl rfl) (.inl hcc) hop
              · rename_i n h1 h2;rw[h1]at hy; rw[h2]at hz;obtain⟨g,t,ad,x,-,hy⟩:=hy;rw[hy,show a.eval z=.nilIface from hz];exact both _ _ _ _ (.inr ⟨_,_,rfl⟩) (.inl rfl) (.inr rfl) (.inr (.inl ⟨_,_,rfl⟩)) hop
              · rename_i n h1 h2;rw[h1]at hy; rw[h2]at hz;obtain⟨g,t,ad,x,-,hz⟩:=hz;rw[hz,show a.eval y=.nilIface from hy];exact both _ _ _ _ (.inl rfl) (.inr ⟨_,_,rfl⟩) (.inl rfl) (.inr (.inr ⟨_,_,rfl⟩)) hop
              · rename_i h1 h2;rw[h1]at hy; rw[h2]at hz;rw[show a.eval y=_ from hy,show a.eval z=.nilIface from hz];exact both _ _ _ _ (.inr ⟨_,_,rfl⟩) (.inl rfl) (.inr rfl) (.inr (.inl ⟨_,_,rfl⟩)) hop
              · rename_i h1 h2;rw[h1]at hy; rw[h2]at hz;rw[show a.eval z=_ from hz,show a.eval y=.nilIface from hy];exact both _ _ _ _ (.inl rfl) (.inr ⟨_,_,rfl⟩) (.inl rfl) (.inr (.inr ⟨_,_,rfl⟩)) hop
              . cases hE
            . cases hb
        . cases hr
  |unOp op T y=>exact pv (by unfold execOp; rw[ho]) (simple_unary _ _) (λc hc=>by rw[ho]at hc; cases hc)
  | slice T y lo hi mx =>
    refine pv (by unfold execOp; rw[ho]) ?_ (λc hc=>by rw[ho]at hc; cases hc);unfold opRes at hr;rw[ho]at hr;cases lo with
    |some z=>cases hr
    | none =>
      dsimp only at hr;split at hr
      · rename_i c e m hA;exact simple_sliceAt (arrOf_sound hA).1 _ _ _ _
      . cases hr
  | convert s d y =>
    have hy:=asA_is (hev y);refine pv (by unfold execOp; rw[ho]) ?_ (λc hc=>by rw[ho]at hc; cases hc);unfold opRes at hr;rw[ho]at hr;dsimp only at hr;split at hr
    · rename_i k k' n hd hm;rw[hm]at hy;rw[hy.1];cases h1:has1 P s with
      |false=>rw[h1]at hr; cases hr
      |true=>exact simple_convert h1 hd
    · rename_i m hd hm;rw[hm]at hy;split at hr
      · rename_i k len C e hb;cases hc:isByteSl P s&&leq (lay P e) [4] with
        |false=>rw[hc]at hr; cases hr
        | true =>
          simp only[Bool.and_eq_true]at hc;obtain⟨e',hs,he⟩:=isByteSl_true hc.1;rcases hy with hy | ⟨_,_,_,_,ad,cap,_,h2,_⟩
          . rw[hb]at hy; cases hy
          · rw [h2];exact simple_convert_bytes hs he hd
      . cases hr
    . cases hr
  | makeInterface T y =>
    have hy:=asA_is (hev y);refine pv (by unfold execOp; rw[ho]) ?_ (λc hc=>by rw[ho]at hc; cases hc);unfold opRes at hr;rw[ho]at hr;dsimp only at hr;split at hr
    · rename_i k' k n hd hm;unfold Instr.makeInterface;exact simple_under hd (.pure _)
    · rename_i fs D T' hd hm;unfold Instr.makeInterface;exact simple_under hd (.pure _)
    . cases hr
  |typeAssert y xT T ok=>exact pv (s:=Instr.typeAssert (a.eval y) xT T ok) (by unfold execOp; rw[ho]) (simple_typeAssertV _ _ _ _) (λc hc=>by rw[ho]at hc; cases hc)
  |build T parts=>exact pv (by unfold execOp; rw[ho]) (simple_build _ _) (λc hc=>by rw[ho]at hc; cases hc)
  |makeFunc fn first captured=>exact pv (s:=Instr.makeFunc fn (first.map a.eval) (captured.map a.eval)) (by unfold execOp; rw[ho]) (.pure _) (λc hc=>by rw[ho]at hc; cases hc)
  | call c =>
    have hA:=allIs_map hev c.args.toList;have hargs:c.args.map a.eval=(c.args.toList.map a.eval).toArray:=by rw[<- Array.toList_inj]; simp
    cases hc:c.callee with
    |value y=>exact absurd hc (hcl c y ho)
    |invoke y nm=>exact absurd hc (hin c y nm ho)
    | builtin b =>
      have hx:execOp a.eval o=builtin b c.argTypes o.type (c.args.map λ | .const _=>true|_=>false) (c.args.map a.eval):=by unfold execOp;rw[ho];simp only[resolve,hc];rfl
      unfold opRes at hr;rw[ho]at hr;dsimp only at hr;rw[hc]at hr;dsimp only at hr;split at hr
      · rename_i r hb;unfold builtV at hb;split at hb
        · rename_i k p k' q hl;rw[hl]at hA;obtain⟨hlen,hA⟩:=hA;have:∃v1 v2,c.args.toList.map a.eval=[v1,v2]:=by
            match hm:c.args.toList.map a.eval with|[v1,v2]=>exact⟨v1,v2,rfl⟩|[]=>rw[hm]at hlen; simp at hlen|[_]=>rw[hm]at hlen; simp at hlen|_::_::_::_=>rw[hm]at hlen; simp at hlen
          obtain⟨v1,v2,hm⟩:=this;rw[hm]at hA;obtain⟨rfl,-⟩:=hA 0 _ v1 rfl rfl;obtain⟨rfl,-⟩:=hA 1 _ v2 rfl rfl;refine pv (s:=Builtin.min_ c.argTypes o.type (c.args.map a.eval)) (by rw[hx]; rfl) ?_ (λc hc=>by rw[ho]at hc; cases hc);rw[hargs,hm];exact .bind (simple_min2 _ _ _ _) λ_ => .pure _
        · rename_i k p k' q hl;rw[hl]at hA;obtain⟨hlen,hA⟩:=hA;have:∃v1 v2,c.args.toList.map a.eval=[v1,v2]:=by
            match hm:c.args.toList.map a.eval with|[v1,v2]=>exact⟨v1,v2,rfl⟩|[]=>rw[hm]at hlen; simp at hlen|[_]=>rw[hm]at hlen; simp at hlen|_::_::_::_=>rw[hm]at hlen; simp at hlen
          obtain⟨v1,v2,hm⟩:=this;rw[hm]at hA;obtain⟨rfl,-⟩:=hA 0 _ v1 rfl rfl;obtain⟨rfl,-⟩:=hA 1 _ v2 rfl rfl;refine pv (s:=Builtin.max_ c.argTypes o.type (c.args.map a.eval)) (by rw[hx]; rfl) ?_ (λc hc=>by rw[ho]at hc; cases hc);rw[hargs,hm];exact .bind (simple_max2 _ _ _ _) λ_ => .pure _
        . cases hb
      · split at hr
        · rename_i r hb;unfold lenV at hb;split at hb
          · rename_i T n hT hl hnone;rw[hl]at hA;cases hs:(sliOf P T).isSome with
            |false=>rw[hs]at hb; cases hb
            | true =>
              rw[hs]at hb;simp only[cond_true]at hb;obtain⟨q,hq⟩:=Option.isSome_iff_exists.1 hs;obtain⟨e',m⟩:=q;obtain⟨hu,-⟩:=sliOf_sound hq;split at hb
              · rename_i k len C t hn;obtain⟨hlen,hA⟩:=hA;have:∃v1,c.args.toList.map a.eval=[v1]:=by
                  match hm:c.args.toList.map a.eval with|[v1]=>exact⟨v1,rfl⟩|[]=>rw[hm]at hlen; simp at hlen|_::_::_=>rw[hm]at hlen; simp at hlen
                obtain⟨v1,hm⟩:=this;rw[hm]at hA;obtain⟨ad,cap,rfl,-⟩:=Is.l_of (hA 0 _ v1 rfl rfl) hn;refine pv (s:=Builtin.len_ c.argTypes o.type (c.args.map a.eval)) (by rw[hx]; rfl) ?_ (λc hc=>by rw[ho]at hc; cases hc);have hTs:c.argTypes=#[T]:=by rw[<- Array.toList_inj,hT]
                rw[hargs,hm,hTs];unfold Builtin.len_;exact simple_under hu (.pure _)
              . cases hb
          · rename_i T hT hl hnone;rw[hl]at hA;cases hs:(sliOf P T).isSome with
            |false=>rw[hs]at hb; cases hb
            | true =>
              rw[hs]at hb;simp only[cond_true]at hb;obtain⟨q,hq⟩:=Option.isSome_iff_exists.1 hs;obtain⟨e',m⟩:=q;obtain⟨hu,-⟩:=sliOf_sound hq;obtain⟨hlen,hA⟩:=hA;have:∃v1,c.args.toList.map a.eval=[v1]:=by match hm:c.args.toList.map a.eval with|[v1]=>exact⟨v1,rfl⟩|[]=>rw[hm]at hlen; simp at hlen|_::_::_=>rw[hm]at hlen; simp at hlen
              obtain⟨v1,hm⟩:=this;rw[hm]at hA;obtain rfl:v1=.slice none 0 0:=hA 0 _ v1 rfl rfl;refine pv (s:=Builtin.len_ c.argTypes o.type (c.args.map a.eval)) (by rw[hx]; rfl) ?_ (λc hc=>by rw[ho]at hc; cases hc);have hTs:c.argTypes=#[T]:=by rw[<- Array.toList_inj,hT]
              rw[hargs,hm,hTs];unfold Builtin.len_;exact simple_under hu (.pure _)
          . cases hb
        · split at hr
          · rename_i r hb;unfold appV at hb;split at hb
            . exact pv (s:=Builtin.append_ c.argTypes o.type (c.args.map a.eval)) (by rw[hx]; rfl) (simple_append _ _ _) (λc hc=>by rw[ho]at hc; cases hc)
            . cases hb
          . cases hr
  |_=>unfold opRes at hr; rw[ho]at hr; cases hr
end
end
end
section
set_option linter.unusedVariables false
set_option linter.unusedSimpArgs false
variable {mn:Md}
structure ConsOkX (mn:Md) (P:Program) (IC:FuncId->ICon->Prop) (Γ:Cons):Prop where
 e:∀a b,Γ.e a b=true ↔ a=b
 c:∀f F,Γ.c f=some F->ConOkCX mn P f F/\EntX P f
 n:∀f F,Γ.n f=some F->NConOkX mn P f F/\EntX P f
 i:∀f F,Γ.i f=some F->IC f F/\EntX P f
 s:∀f S,Γ.s f=some S->ConOkCX mn P f (λargs h=>wayRes (S args h))/\EntX P f
 m:∀nm F,Γ.m nm=some F->MConOkX mn P nm F
 x:∀f F,Γ.x f=some F->InlOkX mn P f F/\EntX P f
section
variable {P:Program} {IC:FuncId->ICon->Prop} {Γ:Cons} {W0:World} {n0:Nat} {D E:List Nat} {ρ0:Nat->Ad} {Q:Exit->Act->World->Prop}
theorem callX_enter{o:Oper}{a:Act}{v:World}{ρ:Nat->Ad}{h:List VB}{ev:Operand->SV}{K:Act->World->Prop}{c:Call}(ho:o.op=.call c)(hev:∀x,IsV P ρ h (ev x) (a.eval x))(hH:HIs P ρ h v){y:Operand}(hc:c.callee=.value y){f:FuncId}{ns:List Nat}(hm:asA (ev y)=.c f ns)
  (hent:EntX P f) (hK:∀ v₁,Ge v v₁→AllIs P ρ h (c.args.toList.map (fun z=>asA (ev z))++ns.map SA.w) (c.args.toList.map a.eval++ns.map fun n=>Value.pointer (some ⟨(ρ n).a,0,none⟩))→HIs P ρ h v₁ →
   CallsX mn P f (c.args.toList.map a.eval++ns.map λn=>Value.pointer (some ⟨(ρ n).a,0,none⟩)).toArray v₁ λr v'=>K (a.put o.dst r) v'):OpX mn P o a v K:=by
 have hns:∀c,o.op ≠ .defer c:=λc hc=>by rw[ho]at hc;cases hc
 have hy:=asA_is (hev y);rw[hm]at hy;obtain⟨hfv,hpr⟩:=hy;have hA:AllIs P ρ h (c.args.toList.map (λz=>asA (ev z))++ns.map SA.w) (c.args.toList.map a.eval++ns.map λn=>Value.pointer (some ⟨(ρ n).a,0,none⟩)):=by
  have h1:=allIs_map hev c.args.toList;refine⟨by simp,λi y v hy hv=> ?_⟩
  by_cases hi:i<c.args.toList.length
  ·rw[List.getElem?_append_left (by simpa using hi)]at hy hv;exact h1.2 i y v hy hv
  ·rw[List.getElem?_append_right (by simp at hi |-;exact hi)]at hy hv;simp only[List.length_map]at hy hv;rw[List.getElem?_map]at hy hv;cases hn:ns[i - c.args.toList.length]? with
   |none=>rw[hn]at hy;cases hy
   |some m=>simp only[hn,Option.map_some,Option.some.injEq]at hy hv;subst hy;subst hv;exact⟨rfl,hpr m (List.mem_of_getElem? hn)⟩
 have hx:execOp a.eval o=callFunc f (c.args.toList.map a.eval++ns.map λn=>Value.pointer (some ⟨(ρ n).a,0,none⟩)).toArray:=by
  unfold execOp;rw[ho];simp only[resolve,hc,hfv,Deferred.ofValue]
  show callFunc f _=_
  congr 1;rw[<- Array.toList_inj];simp
 refine⟨hns,λv₁ h₁=>.inr (.inr (.inl ⟨f,_,v₁,?_,hK v₁ h₁ hA (HIs.ge hH h₁)⟩))⟩;rw[hx];exact(hent.2 _).tr (hent.1 _ v₁)
theorem callX_sound{o:Oper}{a:Act}{v:World}{ρ:Nat->Ad}{h:List VB}{ev:Operand->SV}{K:Act->World->Prop}{c:Call}(ho:o.op=.call c)(hev:∀x,IsV P ρ h (ev x) (a.eval x))(hH:HIs P ρ h v){y:Operand}(hc:c.callee=.value y){f:FuncId}{ns:List Nat}(hm:asA (ev y)=.c f ns)
  {G:Con} (hcon:ConOkCX mn P f G) (hent:EntX P f) {sv:SV} {e:Eff} (hcall:G (c.args.toList.map (λz=>asA (ev z))++ns.map SA.w) h=some (sv,e,true)) (hK:∀v₁,Ge v v₁->Post P ρ h v₁ a o K sv e):OpX mn P o a v K:=
 callX_enter ho hev hH hc hm hent λv₁ h₁ hA hH1=>(hcon ρ h v₁ _ _ _ _ hcall hA hH1).mono λr v' hE=>hK v₁ h₁ r v' hE
theorem finX_sound{ρ:Nat->Ad}{st:St}{a:Act}{w:World}(hR:RS E P W0 n0 D ρ0 ρ st a w){id:Nat}(hid:n0<=id){o:Oper}{α:Type}{K:St->Option α}{r:α}{v:SV}{e:Eff}(hok:newOk st.h id e=true)(hr:K (applyE st id o.dst v e)=some r)
  {b:Nat} (hb:b<=id) {K':Act->World->Prop} (hpost:(∀v₁,Ge w v₁->Post P ρ st.h v₁ a o K' v e)->OpX mn P o a w K')
  (hK:∀ρ' st' a' w',K st'=some r->RS E P W0 n0 D ρ0 ρ' st' a' w'->Ext (match o.dst with|some d=>[d]|none=>[]) b ρ ρ' st st'->K' a' w'):OpX mn P o a w K':=by
 have hW:∀d,o.dst=some d->d∈(match o.dst with|some d=>[d]|none=>[]:List Nat):=λd hd=>by rw[hd];exact List.mem_singleton.2 rfl
 refine hpost λw₁ hg=> ?_
 replace hR:=RS.ge hR hg;clear hg;intro vv w' hE
 by_cases hnew:∃bb,e=.new bb
 ·obtain⟨bb,rfl⟩:=hnew;have hno:st.h[id]?=some .no:=by
   simp only[newOk]at hok;split at hok
   ·assumption
   ·cases hok
  obtain⟨ρ',hR',hren⟩:=hR.apply (HLe.refl _) hno hid (dst:=o.dst) (λ_ _ e=>by cases e) (λ_ _ _ _ e=>by cases e) hE;exact hK ρ' _ _ w' hr hR' (ext_apply hW hok hb (λm b e=>by cases e) hren (λh=>absurd rfl (h bb)) (λ_ _ _ _ e=>by cases e))
 by_cases hnew2:∃j len C t,e=.newS j len C t
 ·obtain⟨j,len,C,t,rfl⟩:=hnew2;have hno:st.h[id]?=some .no:=by
   simp only[newOk]at hok;split at hok
   ·assumption
   ·cases hok
  obtain⟨ρ',hR',hren⟩:=hR.apply (HLe.refl _) hno hid (dst:=o.dst) (λ_ _ e=>by cases e) (λ_ _ _ _ e=>by cases e) hE;exact hK ρ' _ _ w' hr hR' (ext_apply hW hok hb (λm b e=>by cases e) hren (λ_ h=>absurd rfl (h j len C t)) (λ_ _ _ _ e=>by cases e))
 ·cases e with
  |new bb=>exact absurd ⟨bb,rfl⟩ hnew
  |newS j len C t=>exact absurd ⟨j,len,C,t,rfl⟩ hnew2
  | app j len C t=>
   have hno:st.h[id]?=some .no:=by
    simp only[newOk]at hok;split at hok
    ·assumption
    ·cases hok
   have hown:∀k,j=some k->∃l0 C0,st.h[k]?=some (.sl .own l0 C0 t):=by obtain⟨_,_,_,_,_,_,_,_,_,h9⟩:=hE;exact h9
   obtain⟨ρ',hR',hren⟩:=hR.applyApp hno hid (dst:=o.dst) hE;exact hK ρ' _ _ w' hr hR' (ext_apply hW hok hb (λm b e=>by cases e) hren (λ_ _ h=>absurd rfl (h j len C t)) (λk _ _ _ e=>by cases e;exact hown k rfl))
  | none=>
   have hR':RS E P W0 n0 D ρ0 ρ (applyE st id o.dst v .none) (a.put o.dst vv) w':=by obtain⟨hv,hk⟩:=hE;have:=hR.put o.dst hv;refine⟨this.len,this.slots,⟨λm bb hbb=>BIs.kept hR.heap hbb hk (λ_=>not_false) λ_ _=>not_false,hR.heap.inj,hR.heap.far⟩,this.base,this.fresh,hR.kept.trans (hk.mono λ_ _ hf=>hf.elim),hR.own0,by rw[put_defers];exact hR.defers.same hk,hR.bound⟩
   exact hK ρ _ _ w' hr hR' (ext_apply hW hok hb (λm b e=>by cases e) (λ_ _=>rfl) (λ_ _ _=>rfl) (λ_ _ _ _ e=>by cases e))
  |set m bb=>have hkp:=hE.2.1;have hR':RS E P W0 n0 D ρ0 ρ (applyE st id o.dst v (.set m bb)) (a.put o.dst vv) w':=hR.applySet hE;exact hK ρ _ _ w' hr hR' (ext_apply hW hok hb (λm b e=>by cases e;exact hkp) (λ_ _=>rfl) (λ_ _ _=>rfl) (λ_ _ _ _ e=>by cases e))
theorem pickX{o:Oper}{a:Act}{v:World}{K:Act->World->Prop}{vv:Value}(hns:∀c,o.op ≠ .defer c)(hx:execOp a.eval o=Pure.pure (Next.value vv))(h:∀v₁,Ge v v₁->K (a.put o.dst vv) v₁):OpX mn P o a v K:=
 ⟨hns,λv₁ h₁=>.inl ⟨vv,v₁,by rw[hx];exact(Simple.pure _).tr rfl,h v₁ h₁⟩⟩
theorem opX_all(hΓ:ConsOkX mn P IC Γ){o:Oper}{a:Act}{v:World}{ρ:Nat->Ad}{h:List VB}{ev:Operand->SV}{K:Act->World->Prop}{sv:SV}{e:Eff}(hev:∀x,IsV P ρ h (ev x) (a.eval x))(hH:HIs P ρ h v)(hr:opRes P Γ ev h o=some (sv,e,true))
  (hK:∀v₁,Ge v v₁->Post P ρ h v₁ a o K sv e):OpX mn P o a v K:=by
 by_cases hcl:∃c y,o.op=.call c/\c.callee=.value y
 ·obtain⟨c,y,ho,hc⟩:=hcl;unfold opRes at hr;rw[ho]at hr;dsimp only at hr;rw[hc]at hr;dsimp only at hr;split at hr
  ·rename_i f ns hm;split at hr
   ·rename_i r hcall;obtain⟨r,re,gb⟩:=r;simp only[Option.some.injEq,Prod.mk.injEq]at hr;obtain⟨rfl,rfl,rfl⟩:=hr;unfold callV at hcall;split at hcall
    ·rename_i Fc hFc;obtain⟨hcon,hent⟩:=hΓ.c f Fc hFc;exact callX_sound ho hev hH hc hm hcon hent hcall hK
    ·cases hcall
   ·cases hr
  ·cases hr
 ·by_cases hin:∃c y nm,o.op=.call c/\c.callee=.invoke y nm
  ·obtain⟨c,y,nm,ho,hc⟩:=hin;have hns:∀c,o.op ≠ .defer c:=λc hc=>by rw[ho]at hc;cases hc
   unfold opRes at hr;rw[ho]at hr;dsimp only at hr;rw[hc]at hr;dsimp only at hr;have hy:=asA_is (hev y);split at hr
   case h_2=>cases hr
   rename_i z hm;rw[hm]at hy;replace hy:a.eval y=z:=hy;split at hr
   case h_2=>cases hr
   rename_i G hG;have hx:execOp a.eval o=callMethod z nm (c.args.toList.map a.eval).toArray:=by
    unfold execOp;rw[ho];simp only[resolve,hc,hy]
    show invoke (.fn (.method nm) #[]) (#[z]++c.args.map a.eval)=_
    rw[invoke_method,show (c.args.map a.eval).toList=c.args.toList.map a.eval by simp]
   refine⟨hns,λv₁ h₁=> ?_⟩;obtain⟨f,vals',hrun,hcall⟩:=hΓ.m nm G hG ρ h v₁ z _ _ _ _ hr (allIs_map hev c.args.toList) (HIs.ge hH h₁);exact .inr (.inr (.inl ⟨f,vals',v₁,by rw[hx];exact hrun,hcall.mono λr v' hE=>hK v₁ h₁ r v' hE⟩))
  ·exact opX_res hΓ.e (λc y ho hc=>hcl ⟨c,y,ho,hc⟩) (λc y nm ho hc=>hin ⟨c,y,nm,ho,hc⟩) hev hH hr hK
theorem not_present_own0{h:List VB}{n:Nat}{k:SlK}{C:Array Value}{e:TypeId}(hn:h[n]?=some (.sl k 0 C e)):¬present h n:=λhp=>by
 cases hp with
 |row h=>rw[hn]at h;cases h
 |one h=>rw[hn]at h;cases h
 |mp h=>rw[hn]at h;cases h
 |own h _ h0=>rw[hn]at h;cases h;exact h0 rfl
open Classical in
theorem RS.inl{ρ:Nat->Ad}{st:St}{a:Act}{w:World}(hR:RS E P W0 n0 D ρ0 ρ st a w){ρ':Nat->Ad}{h':List VB}{d':List Nat}{v':World}(hp:InlPost P ρ st.h w ρ' h' d' v'){sv:SV}{vv:Value}(hi:IsV P ρ' h' sv vv)(dst:Option Tmp){b:Nat}(hb:b<=st.h.length)
  : ∃ρ2,RS E P W0 n0 D ρ0 ρ2 (behindI st dst sv h' d') (a.put dst vv) v'/\Ext (match dst with|some d=>[d]|none=>[]) b ρ ρ2 st (behindI st dst sv h' d'):=by
 let ρ2:Nat->Ad:=λn=>if n<st.h.length/\¬present st.h n then ρ n else ρ' n
 have e1:∀n,present h' n->ρ2 n=ρ' n:=λn hn=>if_neg λhc=>hc.2 (hp.back n hc.1 hn)
 have e2:∀n,present st.h n->ρ2 n=ρ n:=λn hn=>(if_neg λhc=>hc.2 hn).trans (hp.ren n hn)
 have e3:∀n,n<st.h.length->ρ2 n=ρ n:=λn hn=>by
  by_cases h:present st.h n
  ·exact e2 n h
  ·exact if_pos ⟨hn,h⟩
 have hslots:∀(i:Nat) (v:SV),st.s[i]?=some v->IsV P ρ2 h' v (a.tmps.getD i undef):=λi u hu=>(hR.slots i u hu).mono hp.hle e2
 refine⟨ρ2,⟨by rw[put_len];exact(putS_len _ _ _).trans hR.len,slots_put hR.len hslots (hi.mono (HLe.refl _) e1),HIs.names hp.heap e1,λn hn=>(e3 n (Nat.lt_of_lt_of_le hn hR.bound)).trans (hR.base n hn),λn hn hpn=> ?_,⟨hp.kept.os.trans hR.kept.os,hp.kept.tape.trans hR.kept.tape,hp.kept.output.trans hR.kept.output,Nat.le_trans hR.kept.size hp.kept.size,λk hk hne=> ?_⟩,λn len C e hn hs=> ?_,by rw[put_defers];exact hR.defers.kept' hp.kept λk ⟨n,h1,h2,_,h4⟩=>by rw[<- h4];exact HIs.present_notDf hR.heap h1 h2,Nat.le_trans hR.bound hp.len⟩,?_⟩
 ·rw [e1 n hpn]
  by_cases hl:n<st.h.length
  ·have h1:=hp.back n hl hpn;rw[hp.ren n h1];exact hR.fresh n hn h1
  ·rcases hp.fresh n (by omega) hpn with h1 | ⟨m,len,C,e,h1,h2,h3⟩
   ·exact .inl (Nat.le_trans hR.kept.size h1)
   ·have hm:present st.h m:=.own h1 rfl h2
    by_cases hm0:m<n0
    ·rcases hR.own0 m _ _ _ hm0 h1 with h4|h4
     ·exact absurd h4 h2
     ·exact .inr ⟨m,h4,hm0,by rw[<- hR.base m hm0];exact h3⟩
    ·rw[<- h3];exact hR.fresh m (by omega) hm
 ·refine(hp.kept.block k (Nat.lt_of_lt_of_le hk hR.kept.size) λ⟨n,h1,h2,h3,h4⟩=>hne ?_).trans (hR.kept.block k hk λ⟨n,h1,h2,h3⟩=>hne ⟨n,h1,h2.imp_left λh=>List.mem_append_right _ h,h3⟩)
  by_cases hn:n<n0
  ·refine⟨n,hn,?_,by rw[<- hR.base n hn];exact h4⟩;rcases h3 with h3 | ⟨len,C,e,h3⟩
   ·exact .inl (List.mem_append_left _ h3)
   ·rcases hR.own0 n _ _ _ hn h3 with h5|h5
    ·subst h5;exact absurd h1 (not_present_own0 h3)
    ·exact .inr (.inr h5)
  ·rcases hR.fresh n (by omega) h1 with h5 | ⟨m,h5,h6,h7⟩
   ·omega
   ·exact⟨m,h6,.inr (.inr h5),h7.trans h4⟩
 ·obtain⟨C',hC⟩:=hp.own n len C e (Nat.lt_of_lt_of_le hn hR.bound) hs;exact hR.own0 n len C' e hn hC
 ·refine⟨(ext_put (b:=b) (ρ:=ρ) (st:=st) (v:=sv) λd hd=>by rw[hd];exact List.mem_singleton.2 rfl).slots,putS_len _ _ _,λn hn hd=>hp.same n (by omega) λh=>hd (List.mem_append_left _ h),λn h=>List.mem_append_right _ h,hp.len,hp.hle,λn hn=>e3 n (by omega)⟩
theorem veOneX_sound (hΓ:ConsOkX mn P IC Γ) {ρ:Nat→Ad} {st:St} {a:Act} {w:World} (hR:RS E P W0 n0 D ρ0 ρ st a w) {m id:Nat} (hid:n0≤id) {o:Oper} {α:Type} {K:St→Option α} {r:α}
  (hr:veOne P Γ m id o st K=some r) {b:Nat} (hb:b<=id) {K':Act->World->Prop}
  (hK:∀ρ' st' a' w',K st'=some r->RS E P W0 n0 D ρ0 ρ' st' a' w'->Ext (match o.dst with|some d=>[d]|none=>[]) b ρ ρ' st st'->K' a' w'):OpX mn P o a w K':=by
 have hW:∀d,o.dst=some d->d∈(match o.dst with|some d=>[d]|none=>[]:List Nat):=λd hd=>by rw[hd];exact List.mem_singleton.2 rfl
 unfold veOne at hr;split at hr
 ·rename_i q hq;unfold inlO at hq;split at hq
  ·rename_i c ho;split at hq
   ·rename_i y hc;split at hq
    ·rename_i f ns hm;split at hq
     ·rename_i F hF;cases hq;obtain⟨hcon,hent⟩:=hΓ.x f F hF;cases hle:Nat.ble id st.h.length with
      |false=>rw[hle]at hr;cases hr
      |true=>
       rw[hle]at hr;simp only[cond_true]at hr;refine callX_enter ho (evO_is hR.slots) hR.heap hc hm hent λv₁ hg hA hH=> ?_
       have hR1:=RS.ge hR hg;refine(hcon α ρ st.h v₁ _ _ _ r hr hA hH).mono λvv v' hp=> ?_
       obtain⟨ρ',sv,h',d',hk,hi,hp⟩:=hp;obtain⟨ρ2,hR2,hE2⟩:=RS.inl hR1 hp hi o.dst (Nat.le_trans hb (Nat.le_of_ble_eq_true hle));exact hK ρ2 _ _ v' hk hR2 hE2
     ·cases hq
    ·cases hq
   ·cases hq
  ·cases hq
 split at hr
 ·rename_i q hq;unfold newO at hq;split at hq
  ·rename_i c ho;have hns:∀c,o.op ≠ .defer c:=λc hc=>by rw[ho]at hc;cases hc
   unfold newOf at hq;split at hq
   ·rename_i y hc;have hy:=asA_is (evO_is hR.slots y);split at hq
    ·rename_i f hm;rw[hm]at hy;obtain⟨hfv,-⟩:=hy;split at hq
     ·rename_i G hG;obtain⟨hcon,hent⟩:=hΓ.n f G hG;have hA:AllIs P ρ st.h (c.args.toList.map λz=>asA (evO st.s z)) (c.args.toList.map a.eval):=allIs_map (evO_is hR.slots) c.args.toList;have hx:execOp a.eval o=callFunc f (c.args.toList.map a.eval).toArray:=by
       unfold execOp;rw[ho];simp only[resolve,hc,hfv,Deferred.ofValue]
       show callFunc f _=_
       congr 1;rw[<- Array.toList_inj];simp
      unfold veNew at hr;cases hbx:q.box with
      |some yT=>
       obtain⟨y',T⟩:=yT;rw[hbx]at hr;dsimp only at hr;cases hok:allNo st.h [id+m]&&boxOkA st.h y' with
       |false=>rw[hok]at hr;cases hr
       |true=>
       rw[hok]at hr;simp only[cond_true]at hr;simp only[Bool.and_eq_true]at hok;refine⟨hns,λw₁ hg=>.inr (.inr (.inl ⟨f,_,w₁,by rw[hx];exact(hent.2 _).tr (hent.1 _ w₁),(hcon ρ st.h w₁ _ _ _ hq hA (HIs.ge hR.heap hg) λy T h=>by rw[hbx]at h;cases h;exact hok.2).mono ?_⟩))⟩;replace hR:=RS.ge hR hg;clear hg;intro vv w' hp;unfold NewPost at hp;rw[hbx]at hp;obtain⟨g,x,rfl,hg,hy',hc',hk⟩:=hp;obtain⟨ρ',hR2,e1,e3⟩:=boxed_new (hR.world hk) (dst:=o.dst) (f:=q.f) (allNo_mem hok.1 _ (List.mem_singleton.2 rfl)) (Nat.le_trans hid (Nat.le_add_right id m)) hc' hy' hok.2 (Nat.le_trans hR.kept.size hg) (λn hp=>by have:=hR.heap.lt hp;omega) (λn b' z h1 h2=>by have:=hR.heap.farLt h1 h2;omega);exact hK ρ' _ _ w' hr hR2 ⟨(ext_put (b:=b) (ρ:=ρ) (st:=st) hW).slots,putS_len _ _ _,λn hn _=>List.getElem?_set_ne (by omega),λ_ h=>h,by simp,e3,λn hn=>e1 n (by omega)⟩
      |none=>
      rw[hbx]at hr;dsimp only at hr;cases hok:allNo st.h (idsOf id m 1 q.rows)&&nodupN (idsOf id m 1 q.rows) with
      |false=>rw[hok]at hr;cases hr
      | true=>
       rw[hok]at hr;simp only[cond_true]at hr;simp only[Bool.and_eq_true]at hok;refine⟨hns,λw₁ hg=>.inr (.inr (.inl ⟨f,_,w₁,by rw[hx];exact(hent.2 _).tr (hent.1 _ w₁),(hcon ρ st.h w₁ _ _ _ hq hA (HIs.ge hR.heap hg) λy T h=>by rw[hbx]at h;cases h).mono ?_⟩))⟩;replace hR:=RS.ge hR hg;clear hg
       ·intro vv w' hp;unfold NewPost at hp;rw[hbx]at hp;obtain⟨gs,rfl,hl,hnd,hgs,hk⟩:=hp;have hno:=allNo_mem hok.1;have hle:=idsOf_ge id m 1 q.rows;obtain⟨ρ',hR',e1,e2,e3,e4,e5,e6⟩:=(hR.world hk).addMany (idsOf id m 1 q.rows) gs q.rows (idsOf_len id m 1 q.rows) hl (nodupN_nodup hok.2) hnd (λi hi=>⟨hno i hi,Nat.le_trans hid (hle i hi)⟩)
         (fun j g r hj hr=>by
          obtain⟨q1,q2,q3⟩:=hgs j g r hj hr;exact⟨Nat.le_trans hR.kept.size q1,q2,q3⟩)
         (fun g hg n hp=>by
          obtain⟨j,hj⟩:=List.mem_iff_getElem?.1 hg;have hjlt:j<q.rows.length:=by rw[<- hl];exact(List.getElem?_eq_some_iff.1 hj).1
          have:=(hgs j g _ hj (List.getElem?_eq_getElem hjlt)).1;have:=hR.heap.lt hp;omega)
         (fun g hg n b' x h1 h2=>by
          obtain⟨j,hj⟩:=List.mem_iff_getElem?.1 hg;have hjlt:j<q.rows.length:=by rw[<- hl];exact(List.getElem?_eq_some_iff.1 hj).1
          have:=(hgs j g _ hj (List.getElem?_eq_getElem hjlt)).1;have:=hR.heap.farLt h1 h2;omega)
        have hR2:=hR'.put o.dst (v:=.a (.c q.f (idsOf id m 1 q.rows))) (vv:=.func (.func q.f) #[] (gs.map λg=>Value.pointer (some ⟨g,0,none⟩)).toArray) ⟨by rw[<- e2,List.map_map];rfl,e6⟩;refine hK ρ' _ _ w' hr hR2 ⟨(ext_put (b:=b) (ρ:=ρ) (st:=st) hW).slots,putS_len _ _ _,λn hn _=>e4 n λhmem=>by have:=hle n hmem;omega,λ_ h=>h,by show st.h.length<=_;rw[e5];exact Nat.le_refl _,e3,λn hn=>e1 n λhmem=>by have:=hle n hmem;omega⟩
     ·cases hq
    ·cases hq
   ·cases hq
  ·cases hq
 split at hr
 ·rename_i q hq;obtain⟨v,e,hres,hok,hr2⟩:=runWay_sound hr;unfold splitO at hq;split at hq
  ·rename_i c ho;split at hq
   ·rename_i y hc;split at hq
    ·rename_i f ns hm;split at hq
     ·rename_i S hS;cases hq;obtain⟨hcon,hent⟩:=hΓ.s f S hS;exact finX_sound hR hid hok hr2 hb (λhK=>callX_sound ho (evO_is hR.slots) hR.heap hc hm hcon hent hres hK) hK
     ·cases hq
    ·cases hq
   ·cases hq
  ·cases hq
 split at hr
 ·rename_i c y z ho;have hns:∀c,o.op ≠ .defer c:=λc hc=>by rw[ho]at hc;cases hc
  have hc:=asA_is (evO_is hR.slots c);split at hr
  ·rename_i t ht;rw[ht]at hc;have hc:a.eval c=.bool t:=hc;cases t with
   |true=>simp only[cond_true]at hr;exact pickX hns (by unfold execOp;rw[ho];simp only[hc,asBool];rfl) λw₁ hg=>hK ρ _ _ w₁ hr ((RS.ge hR hg).put o.dst (evO_is hR.slots y)) (ext_put hW)
   |false=>simp only[cond_false]at hr;exact pickX hns (by unfold execOp;rw[ho];simp only[hc,asBool];rfl) λw₁ hg=>hK ρ _ _ w₁ hr ((RS.ge hR hg).put o.dst (evO_is hR.slots z)) (ext_put hW)
  ·cases hr
 ·split at hr
  ·rename_i v e g hop;cases g with
   |false=>simp only[cond_false]at hr;cases hr
   | true=>
    simp only[cond_true]at hr;cases hok:newOk st.h id e with
    |false=>rw[hok]at hr;cases hr
    |true=>rw[hok]at hr;simp only[cond_true]at hr;exact finX_sound hR hid hok hr hb (λhK=>opX_all hΓ (evO_is hR.slots) hR.heap hop hK) hK
  ·cases hr
theorem opIX_of{o:Oper}{ops:Array Oper}{i:Nat}(ho:ops[i]?=some o){a:Act}{w:World}{K:Act->World->Prop}(hg:Region.wanted o (yielded ops a.tmps)=true)(h:OpX mn P o a w K):OpIX mn P ops i K a w:=by unfold OpIX;simp only[ho,hg,if_true];exact h
theorem opIX_no{o:Oper}{ops:Array Oper}{i:Nat}(ho:ops[i]?=some o){a:Act}{w:World}{K:Act->World->Prop}(hg:Region.wanted o (yielded ops a.tmps)=false)(h:K (a.put o.dst undef) w):OpIX mn P ops i K a w:=by unfold OpIX;simp only[ho,hg,Bool.false_eq_true,if_false];exact h
theorem veOpsX_sound(hΓ:ConsOkX mn P IC Γ){ops:Array Oper}{base:Nat}(hbase:n0<=base){α:Type}{K:St->Option α}{r:α}:
  ∀(l:List Oper) (i:Nat),ops.toList.drop i=l->∀{ρ:Nat->Ad} {st:St} {a:Act} {w:World},RS E P W0 n0 D ρ0 ρ st a w->veOps P Γ ops base l i st K=some r ->
   (∀ρ' st' a' w',K st'=some r->RS E P W0 n0 D ρ0 ρ' st' a' w'->Ext (wrL l) base ρ ρ' st st'->Q .normal a' w')->OpsX mn P ops (Q .normal) (List.range' i l.length) a w
 |[],i,_,ρ,st,a,w,hR,hr,hQ=>hQ ρ st a w hr hR (.refl _ _ _ _)
 | o::l,i,hl,ρ,st,a,w,hR,hr,hQ=>by
  have ho:ops[i]?=some o:=by
   have:=congrArg (λx=>x[0]?) hl
   simpa using this
  have hl':ops.toList.drop (i+1)=l:=by
   have:=congrArg List.tail hl
   simpa [List.tail_drop] using this
  rw[List.length_cons,List.range'_succ,OpsX];have next:∀{ρ1:Nat->Ad} {st1:St} {a1:Act} {w1:World},veOps P Γ ops base l (i+1) st1 K=some r->RS E P W0 n0 D ρ0 ρ1 st1 a1 w1->Ext (wrL (o::l)) base ρ ρ1 st st1->OpsX mn P ops (Q .normal) (List.range' (i+1) l.length) a1 w1:=
   λh1 hR1 he=>veOpsX_sound hΓ hbase l (i+1) hl' hR1 h1 λρ' st' a' w' hk hR' he'=>hQ ρ' st' a' w' hk hR' (he.trans (he'.mono mem_wrL_tail (Nat.le_refl _)))
  have hWd:∀d,o.dst=some d->d∈wrL (o::l):=λd hd=>mem_wrL_head d (by rw[hd];exact List.mem_singleton.2 rfl)
  unfold veOps at hr;split at hr
  ·rename_i hg;refine opIX_of ho (by simp[Region.wanted,hg]) (veOneX_sound hΓ hR (by omega) hr (Nat.le_add_right base i) λρ' st' a' w' hk hR' he=>next hk hR' (he.mono mem_wrL_head (Nat.le_refl _)))
  ·rename_i j want hg;split at hr
   ·cases hr
   ·rename_i d hd;split at hr
    ·rename_i t hslot;have hs:=getD_some hslot (by intro h;cases h);have hy:=yielded_of hd hR hs;have hwant:Region.wanted o (yielded ops a.tmps)=(t==want):=by simp[Region.wanted,hg,hy]
     cases t with
     | true=>have hR2:=hR.known hs (t':=true) rfl;have he2:Ext (wrL (o::l)) base ρ ρ st { st with s:=st.s.set d (.a (.b true)) }:=ext_known hs rfl;simp only[cond_true]at hr;cases want with|true=>simp only[cond_true]at hr;exact opIX_of ho (by rw[hwant];rfl) (veOneX_sound hΓ hR2 (by omega) hr (Nat.le_add_right base i) λρ' st' a' w' hk hR' he=>next hk hR' (he2.trans (he.mono mem_wrL_head (Nat.le_refl _))))|false=>simp only[cond_false]at hr;exact opIX_no ho (by rw[hwant];rfl) (next hr (hR2.skip o.dst) (he2.trans (ext_put hWd)))
     | false=>have hR2:=hR.known hs (t':=false) rfl;have he2:Ext (wrL (o::l)) base ρ ρ st { st with s:=st.s.set d (.a (.b false)) }:=ext_known hs rfl;simp only[cond_false]at hr;cases want with|true=>simp only[cond_true]at hr;exact opIX_no ho (by rw[hwant];rfl) (next hr (hR2.skip o.dst) (he2.trans (ext_put hWd)))|false=>simp only[cond_false]at hr;exact opIX_of ho (by rw[hwant];rfl) (veOneX_sound hΓ hR2 (by omega) hr (Nat.le_add_right base i) λρ' st' a' w' hk hR' he=>next hk hR' (he2.trans (he.mono mem_wrL_head (Nat.le_refl _))))
    ·rename_i hslot;have hs:=getD_some hslot (by intro h;cases h);have hy:=yielded_undef hd hR hs;exact opIX_no ho (by simp[Region.wanted,hg,hy]) (next hr (hR.skip o.dst) (ext_put hWd))
    ·cases hr
theorem drawX_sound(hΓ:ConsOkX mn P IC Γ){ops:Array Oper}{base:Nat}(hbase:n0<=base){st0:St}(hno:∀i,i<ops.size->st0.h[base+i]?=some .no)
  (hE:edgesOk ops.toList 0=true) {tr:List Entry} (hlen:tr.length=ops.size) (hX:EachOk P Γ ops base st0 tr) (hT:okTr st0 (befs ops.toList []) base ops.toList tr tr 0=true)
  {ρs:Nat->Ad} (hQ:∀ρ' a' w',RS E P W0 n0 D ρ0 ρ' (foldTr base (λ_=>true) tr 0 st0) a' w'->HLe st0.h (foldTr base (λ_=>true) tr 0 st0).h->(∀m,m<base->ρ' m=ρs m)->Q .normal a' w') :
  ∀(f:Nat) (listed:Array Bool) (ρ:Nat->Ad) (a:Act) (w:World),listed.size=ops.size->unl listed.toList=f ->
   (∀i k,lst listed i=true->bef (befs ops.toList []) i k=true->lst listed k=true)->RS E P W0 n0 D ρ0 ρ (foldTr base (lst listed) tr 0 st0) a w->HLe st0.h (foldTr base (lst listed) tr 0 st0).h->(∀m,m<base->ρ m=ρs m) ->
   AnyX mn P ops (Q .normal) f listed a w:=by
 have hT':=λi x h=>okTr_at st0 _ base ops.toList tr tr 0 hT i x h
 have pair:∀{i k:Nat} {x y:Entry},tr[i]?=some x->tr[k]?=some y->incomp (befs ops.toList []) i k=true->okPair x.2.2 y.2.2=true/\(Aside ops.size base (incomp (befs ops.toList []) i) y.2.2\/hidE (hidL st0 ops.toList base (befs ops.toList []) i ops.toList 0) y.2.2=true):=λ{i k x y} hx hy hi=>by
  have:=(hT' i x hx).1;have h:=(okRow_at _ _ _ _ _ _ 0 this k y hy).2 (by rw[Nat.zero_add,Nat.zero_add];exact hi);rw[Nat.zero_add]at h;refine⟨h.1,h.2.imp (λh=> ?_) id⟩;have hl:(befs ops.toList []).length=ops.size:=by obtain⟨m,hm,hlen⟩:=befs_acc ops.toList [];rw[hm];simpa using hlen
  rw[<- hl];exact seen_aside h
 have apart:∀{i k:Nat} {x y:Entry},tr[i]?=some x->tr[k]?=some y->i≠k->dstNe x.1 y.1=true:=λ{i k x y} hx hy hi=>by
  have:=(hT' i x hx).1;exact(okRow_at _ _ _ _ _ _ 0 this k y hy).1 (by omega)
 have lstlt:∀{listed:Array Bool} {k:Nat},listed.size=ops.size->lst listed k=true->k<ops.size:=λ{listed k} hs h=>by
  unfold lst at h;rw[Array.getD_eq_getD_getElem?]at h;cases hk:listed[k]? with
  |none=>rw[hk]at h;cases h
  |some b=>have:=(Array.getElem?_eq_some_iff.1 hk).1;omega
 have step:∀ {listed:Array Bool} {ρ:Nat→Ad} {a:Act} {w:World} {i:Nat} {K:Act→World→Prop},listed.size=ops.size →
   (∀i k,lst listed i=true->bef (befs ops.toList []) i k=true->lst listed k=true)->RS E P W0 n0 D ρ0 ρ (foldTr base (lst listed) tr 0 st0) a w->HLe st0.h (foldTr base (lst listed) tr 0 st0).h->(∀m,m<base->ρ m=ρs m)->i∈Region.ready .any ops listed ->
   (∀ρ' a' w',RS E P W0 n0 D ρ0 ρ' (foldTr base (lst (listed.setIfInBounds i true)) tr 0 st0) a' w'->HLe st0.h (foldTr base (lst (listed.setIfInBounds i true)) tr 0 st0).h->(∀m,m<base->ρ' m=ρs m)->K a' w')->OpIX mn P ops i K a w:=by
  intro listed ρ a w i K hs hcl hR hhl hren hi hK;obtain⟨hlt,hli,hed⟩:=ready_mem hi;have ho:ops[i]?=some ops[i]:=Array.getElem?_eq_getElem hlt;have hx:tr[i]?=some tr[i]:=List.getElem?_eq_getElem (by omega);obtain⟨hd,hgd⟩:=hX i _ _ ho hx;have hedge:=edgesOk_at _ _ hE i ops[i] (by simp[hlt]);rw[Nat.zero_add]at hedge;have hLi:lst listed i=false:=by
   unfold lst;rw[Array.getD_eq_getD_getElem?]at hli|-
   cases hk:listed[i]? with|none=>rfl|some b=>rw[hk]at hli;exact hli
  have hBL:∀k,bef (befs ops.toList []) i k=true->lst listed k=true:=λk hk=>by
   obtain⟨e,he,hb,h⟩:=bef_edge ho hedge hk;have:=hed _ ho e he hb;rcases h with rfl|h
   ·exact this
   ·exact hcl _ _ this h
  have hcommon:∀k,lst listed k=true->bef (befs ops.toList []) i k=false->incomp (befs ops.toList []) i k=true:=λk hk hb=>by
   unfold incomp;rw[hb];have h1:bef (befs ops.toList []) k i=false:=by cases h:bef (befs ops.toList []) k i with|false=>rfl|true=>have:=hcl k i hk h;rw[hLi]at this;cases this
   have h2:Nat.beq i k=false:=by cases h:Nat.beq i k with|false=>rfl|true=>have:=Nat.eq_of_beq_eq_true h;subst this;rw[hLi]at hk;cases hk
   rw[h1,h2];rfl
  -- less is known at the mask
  have hag:Agree (hidL st0 ops.toList base (befs ops.toList []) i ops.toList 0) ops.size base (λk=>((ops[k]?).bind (·.dst))) (incomp (befs ops.toList []) i) (foldTr base (bef (befs ops.toList []) i) tr 0 st0) (foldTr base (lst listed) tr 0 st0):=by
   refine fold_agree hBL tr 0 st0 st0 (by omega) (λj x hj=> ?_) ⟨rfl,rfl,λ_ _=>rfl,λ_ _ _=>rfl⟩;rw[Nat.zero_add];have hjlt:j<ops.size:=by have:=(List.getElem?_eq_some_iff.1 hj).1;omega
   refine⟨?_,λh1 h2=> ?_⟩
   ·have:=(hX j ops[j] x (Array.getElem?_eq_getElem hjlt) hj).1;rw[this,Array.getElem?_eq_getElem hjlt];rfl
   ·have hc:=hcommon j h1 h2;exact⟨hc,(pair hx hj hc).2⟩
  have htake:foldTr base (bef (befs ops.toList []) i) (tr.take i) 0 st0=foldTr base (bef (befs ops.toList []) i) tr 0 st0:=by
   have:=foldTr_take base (B:=bef (befs ops.toList []) i) (i:=i) (λk hk=>bef_lt hE i k hlt hk) tr 0 st0
   rwa [Nat.sub_zero]at this
  have hless:Less (hide st0.h (hidL st0 ops.toList base (befs ops.toList []) i ops.toList 0) (maskF (befs ops.toList []) base i ops.toList 0 (foldTr base (bef (befs ops.toList []) i) (tr.take i) 0 st0))) (foldTr base (lst listed) tr 0 st0):=by
   rw[htake];constructor
   ·intro t v hv;have hv:(maskF (befs ops.toList []) base i ops.toList 0 (foldTr base (bef (befs ops.toList []) i) tr 0 st0)).s[t]?=some v:=by
     revert hv;unfold hide;cases hidL st0 ops.toList base (befs ops.toList []) i ops.toList 0<;>exact id
    rcases maskF_slots _ _ _ _ _ _ _ hv with h | ⟨h,hall⟩
    ·exact .inl h
    ·refine .inr ?_;rw[<- h];refine(hag.slots t λk hk hi'=> ?_).symm;have:=hall k ops[k] (by simp[hk]) (by rw[Nat.zero_add];exact hi');rw[Array.getElem?_eq_getElem hk];exact this
   ·intro m b hb;cases hh:hidL st0 ops.toList base (befs ops.toList []) i ops.toList 0 with
    | none=>
     rw[hh]at hb;simp only[hide,List.getElem?_map]at hb;rcases hg:st0.h[m]? with _|z
     ·rw[hg]at hb;cases hb
     ·rw[hg]at hb;simp only[Option.map_some,Option.some.injEq]at hb;subst hb;cases z with|gl g t a x=>exact .inr ((hhl m).gl _ _ _ _ hg)|_=>exact .inl rfl
    |some hidden=>
    rw[hh]at hb;simp only[hide]at hb;rcases hideL_get _ hb with h | ⟨hb,hn⟩
    ·exact .inl h
    rcases maskF_heap _ _ _ _ _ _ _ hb with h | ⟨h,hall⟩
    ·exact .inl h
    ·refine .inr ?_;rw[<- h];refine(hag.heap m (by rw[hh];exact hn) λk hk hi'=> ?_).symm;have:=hall k (by simpa using hk) (by rw[Nat.zero_add];exact hi');rw[Nat.zero_add]at this;exact this
  obtain⟨hslots,hheap,hhle⟩:=less_run hless hR;have hfresh:(foldTr base (lst listed) tr 0 st0).h[base+i]?=some .no:=by
   rw[fold_fresh hLi tr 0 st0 λj x hj hq=>⟨λm b he=>by
    have h:=(hT' j x hj).2;rw[he]at h;simp only[setBelow,Bool.or_eq_true,Nat.zero_add]at h hq;rcases h with h|h
    ·exact .inl (by simp[Nat.blt]at h;omega)
    ·exact .inr (hcl j _ hq h),λm len C t he=>by
    have h:=(hT' j x hj).2;rw[he]at h;simp only[setBelow,Bool.or_eq_true,Nat.zero_add]at h hq;rcases h with h|h
    ·exact .inl (by simp[Nat.blt]at h;omega)
    ·exact .inr (hcl j _ hq h)⟩]
   exact hno i hlt
  have hins:foldTr base (lst (listed.setIfInBounds i true)) tr 0 st0=applyE (foldTr base (lst listed) tr 0 st0) (base+i) tr[i].1 tr[i].2.1 tr[i].2.2:=by
   rw[<- fold_ins hLi tr 0 st0 (Nat.zero_le _) (by rw[Nat.sub_zero];exact hx) λj y hj hlt' hL=>by
    rw[Nat.zero_add]at hL hlt';refine⟨apart hx hj (by omega),(pair hx hj (hcommon j hL ?_)).1⟩;cases h:bef (befs ops.toList []) i j with
    |false=>rfl
    |true=>have:=bef_lt hE i j hlt h;omega]
   refine foldTr_congr base tr 0 st0 λk _ hk=> ?_
   have hk':k<listed.size:=by omega
   unfold lst;simp only[Array.getD_eq_getD_getElem?]
   by_cases hki:k=i
   ·subst hki;rw[Nat.beq_refl,Array.getElem?_setIfInBounds_self_of_lt hk'];simp
   ·have:Nat.beq k i=false:=by
     cases hb:Nat.beq k i with|false=>rfl|true=>exact absurd (Nat.eq_of_beq_eq_true hb) hki
    rw[this,Array.getElem?_setIfInBounds_ne (by omega)];simp
  have run:Ran P Γ ops base st0 tr i ops[i] tr[i]->Region.wanted ops[i] (yielded ops a.tmps)=true->OpIX mn P ops i K a w:=by
   rintro⟨hop,hnew⟩ hw;refine opIX_of ho hw (opX_all hΓ (evO_is (st:=mkSt ops base st0 (tr.take i) i) hslots) hheap hop λw₁ hg=> ?_);replace hR:=RS.ge hR hg;clear hg;intro vv w' hEp;obtain⟨ρ',hR',hne⟩:∃ρ',RS E P W0 n0 D ρ0 ρ' (applyE (foldTr base (lst listed) tr 0 st0) (base+i) tr[i].1 tr[i].2.1 tr[i].2.2) (a.put tr[i].1 vv) w'/\(∀n,n≠base+i->ρ' n=ρ n):=by
    by_cases happ:∃k len C t,tr[i].2.2=.app k len C t
    ·obtain⟨k,len,C,t,he⟩:=happ;rw[he]at hEp|-
     exact hR.applyApp hfresh (by omega) (hEp.app_less hless hhle)
    ·exact hR.apply hhle hfresh (by omega) (dst:=tr[i].1) (λm b e=>by rw[e]at hEp;exact hEp.2.1.less hless) (λk len C t e=>happ ⟨k,len,C,t,e⟩) hEp
   have hl2:HLe (foldTr base (lst listed) tr 0 st0).h (applyE (foldTr base (lst listed) tr 0 st0) (base+i) tr[i].1 tr[i].2.1 tr[i].2.2).h:=by
    revert hEp;cases tr[i].2.2 with
    |none=>exact λ_=>HLe.refl _
    |new b=>exact λ_=>hle_set_no b hfresh
    |newS _ _ _ _=>exact λ_=>hle_set_no _ hfresh
    |set m b=>rintro⟨_,hkp,_⟩;exact(hkp.less hless).hle
    | app k len C t=>intro hEp;obtain⟨_,_,_,_,_,_,_,_,_,hown⟩:=EffPost.app_less hless hhle hEp;cases k with|none=>exact hle_set_no _ hfresh|some k=>obtain⟨_,_,e2⟩:=hown k rfl;refine(hle_spend e2).trans (hle_set_no _ ?_);rw[List.getElem?_set_ne (by rintro rfl;rw[hfresh]at e2;cases e2)];exact hfresh
   rw[<- hins]at hl2;rw[<- hins,hd]at hR';refine hK ρ' _ w' hR' (hhl.trans hl2) λm hm=>(hne m (by omega)).trans (hren m hm)
  have skip:tr[i].2=(.a .u,.none)->Region.wanted ops[i] (yielded ops a.tmps)=false->OpIX mn P ops i K a w:=by
   intro hx2 hw;refine opIX_no ho hw ?_;have hR':=hR.skip tr[i].1;have he:({ foldTr base (lst listed) tr 0 st0 with s:=putS (foldTr base (lst listed) tr 0 st0).s tr[i].1 (.a .u) }:St)=applyE (foldTr base (lst listed) tr 0 st0) (base+i) tr[i].1 tr[i].2.1 tr[i].2.2:=by rw[hx2];rfl
   rw[he,<- hins,hd]at hR';refine hK ρ _ w hR' ?_ hren;rw[hins,hx2];exact hhl
  revert hgd;cases hgu:ops[i].guard with
  |none=>exact λhgd=>run hgd (by simp[Region.wanted,hgu])
  | some q=>
   obtain⟨j,want⟩:=q;rintro⟨hb,hgd⟩;have hLj:=hBL j hb;have hji:=bef_lt hE i j hlt hb;have slot:∀{d:Nat} {v:SV},tr[j]?=some (some d,v,.none)->d<st0.s.length->(foldTr base (lst listed) tr 0 st0).s[d]?=some v/\dstOf ops j=some d:=by
    intro d v hj hdl;refine⟨fold_slot hLj tr 0 st0 (Nat.zero_le _) (by rw[Nat.sub_zero];exact hj) (λk x hk hne=> ?_) hdl,?_⟩
    ·have:=apart hj hk (by omega);intro e;rw[e]at this;simp[dstNe,Nat.beq_refl]at this
    ·have:=(hX j ops[j] _ (Array.getElem?_eq_getElem (by omega)) hj).1;unfold dstOf;rw[Array.getElem?_eq_getElem (show j<ops.size by omega)];exact this.symm
   rcases hgd with ⟨d,t,hj,hdl,h⟩ | ⟨d,hj,hdl,h⟩
   ·obtain⟨hs,hds⟩:=slot hj hdl;have hy:=yielded_of hds hR hs;rcases h with ⟨rfl,h⟩ | ⟨hne,h⟩
    ·exact run h (by simp[Region.wanted,hgu,hy])
    ·exact skip h (by simp[Region.wanted,hgu,hy,hne])
   ·obtain⟨hs,hds⟩:=slot hj hdl;have hy:=yielded_undef hds hR hs;exact skip h (by simp[Region.wanted,hgu,hy])
 have noReady:∀{listed:Array Bool},listed.size=ops.size->Region.ready .any ops listed=[]->∀i,i<ops.size->listed.getD i true=true:=by
  intro listed hs hr i
  induction i using Nat.strongRecOn with
  | _ i ih=>
   intro hi;cases h:listed.getD i true with
   |true=>rfl
   | false=>
    exfalso;have:i∈Region.ready .any ops listed:=Ve.mem_ready hi h λo ho e he hb=>by
     have hedge:=edgesOk_at _ _ hE i o (by simpa using ho);rw[Nat.zero_add]at hedge;have hlt:=hedge e he hb;have:=ih e.on hlt (by omega);unfold lst;rw[Array.getD_eq_getD_getElem?]at this|-
     rw[Array.getElem?_eq_getElem (show e.on<listed.size by omega)]at this|-
     exact this
    rw[hr]at this;cases this
 have fin:∀{listed:Array Bool} {ρ:Nat->Ad} {a:Act} {w:World},listed.size=ops.size->(∀i,i<ops.size->listed.getD i true=true)->RS E P W0 n0 D ρ0 ρ (foldTr base (lst listed) tr 0 st0) a w->HLe st0.h (foldTr base (lst listed) tr 0 st0).h->(∀m,m<base->ρ m=ρs m)->Q .normal a w:=by
  intro listed ρ a w hs hall hR hhl hren;have hQ':=hQ ρ a w;rw[foldTr_congr base (B':=lst listed) tr 0 st0 λk _ hk=>by
   have:=hall k (by omega);unfold lst;rw[Array.getD_eq_getD_getElem?]at this|-
   rw[Array.getElem?_eq_getElem (show k<listed.size by omega)]at this|-
   exact this.symm]at hQ'
  exact hQ' hR hhl hren
 intro f
 induction f with
 | zero=>
  intro listed ρ a w hs hu hcl hR hhl hren;have hall:∀i,i<ops.size->listed.getD i true=true:=λi hi=>by
   rw[Array.getD_eq_getD_getElem?,Array.getElem?_eq_getElem (show i<listed.size by omega)];exact unl_zero listed.toList hu i _ (by simp[show i<listed.size by omega])
  refine⟨?_,fin hs hall hR hhl hren⟩;cases hr:Region.ready .any ops listed with
  |nil=>rfl
  |cons i l=>
   have hi:i∈Region.ready .any ops listed:=by rw[hr];exact List.mem_cons_self ..
   obtain⟨h1,h2,_⟩:=ready_mem hi;rw[hall i h1]at h2;cases h2
 | succ f ih=>
  intro listed ρ a w hs hu hcl hR hhl hren;refine⟨λhr=>fin hs (noReady hs hr) hR hhl hren,λi hi=>step hs hcl hR hhl hren hi λρ' a' w' hR' hhl' hren'=> ?_⟩;obtain⟨hlt,hli,hed⟩:=ready_mem hi;have hli':listed[i]?=some false:=by rw[Array.getD_eq_getD_getElem?,Array.getElem?_eq_getElem (show i<listed.size by omega)]at hli;rw[Array.getElem?_eq_getElem (show i<listed.size by omega)];exact congrArg some hli
  refine ih _ ρ' a' w' (by simp[hs]) ?_ (λj k hj hjk=> ?_) hR' hhl' hren'
  ·have:=unl_set listed.toList i (by simpa using hli');rw[Array.toList_setIfInBounds];omega
  ·have up:∀k,lst listed k=true->lst (listed.setIfInBounds i true) k=true:=λk hk=>by
    unfold lst at hk|-
    rw[Array.getD_eq_getD_getElem?]at hk|-
    by_cases hki:i=k
    ·subst hki;rw[Array.getElem?_setIfInBounds_self_of_lt (by omega)];rfl
    ·rw[Array.getElem?_setIfInBounds_ne hki];exact hk
   by_cases hji:i=j
   ·subst hji;have ho:ops[i]?=some ops[i]:=Array.getElem?_eq_getElem hlt;have hedge:=edgesOk_at _ _ hE i ops[i] (by simp[hlt]);rw[Nat.zero_add]at hedge;obtain⟨e,he,hb,h⟩:=bef_edge ho hedge hjk;have:=hed _ ho e he hb;rcases h with rfl|h
    ·exact up _ this
    ·exact up _ (hcl _ _ this h)
   ·refine up k (hcl j k ?_ hjk);unfold lst at hj|-
    rw[Array.getD_eq_getD_getElem?]at hj|-
    rw[Array.getElem?_setIfInBounds_ne hji]at hj;exact hj
variable {ro:Option Nat}
def firstN(k n:Nat):Array Bool:=Array.replicate k true++Array.replicate (n - k) false
theorem cutB_at{bl:List Nat}{k:Nat}:∀{n j:Nat},cutB bl k n=true->k<=j->j<n->∀i,i<j->bef bl j i=true
 |0,j,_,_,hj,_,_=>by omega
 | n+1,j,h,hk,hj,i,hi=>by
  simp only[cutB]at h;have hkn:Nat.ble k n=true:=Nat.ble_eq_true_of_le (by omega);rw[hkn]at h;simp only[cond_true,Bool.and_eq_true]at h
  by_cases e:j=n
  ·subst e;have h1:bl.getD j 0+1=2^j:=Nat.eq_of_beq_eq_true h.1;unfold bef;rw[show bl.getD j 0=2^j - 1 by omega,Nat.testBit_two_pow_sub_one];exact decide_eq_true hi
  ·exact cutB_at h.2 hk (by omega) i hi
theorem ready_of{ops:Array Oper}{listed:Array Bool}{i:Nat}(hi:i<ops.size)(hl:listed.getD i true=false)(h:∀o,ops[i]?=some o->∀e∈o.after.toList,Region.binds .any e=true->lst listed e.on=true):i∈Region.ready .any ops listed:=by
 unfold Region.ready;simp only[List.mem_filter,List.mem_range,Bool.and_eq_true,Bool.not_eq_true'];refine⟨hi,hl,?_⟩;rw[Array.getElem?_eq_getElem hi];simp only[Option.map_some,Option.getD_some,Array.all_eq_true];intro q hq;have:=h ops[i] (Array.getElem?_eq_getElem hi) (ops[i].after[q]) (by simp);cases hb:Region.binds .any ops[i].after[q] with
 |false=>rfl
 |true=>
  have h2:=this hb;unfold lst at h2;rw[Array.getD_eq_getD_getElem?]at h2
  simpa using h2
theorem ready_bef{ops:Array Oper}(hE:edgesOk ops.toList 0=true){listed:Array Bool}(hcl:∀i k,lst listed i=true->bef (befs ops.toList []) i k=true->lst listed k=true){i:Nat}(hi:i∈Region.ready .any ops listed){k:Nat}(hk:bef (befs ops.toList []) i k=true):lst listed k=true:=by
 obtain⟨hlt,hli,hed⟩:=ready_mem hi;have ho:ops[i]?=some ops[i]:=Array.getElem?_eq_getElem hlt;have hedge:=edgesOk_at _ _ hE i ops[i] (by simp[hlt]);rw[Nat.zero_add]at hedge;obtain⟨e,he,hb,h⟩:=bef_edge ho hedge hk;have:=hed _ ho e he hb;rcases h with rfl|h
 ·exact this
 ·exact hcl _ _ this h
theorem lst_firstN{k n i:Nat}(hk:k<=n):lst (firstN k n) i=decide (i<k):=by
 unfold lst firstN;rw[Array.getD_eq_getD_getElem?,Array.getElem?_append];simp only[Array.size_replicate,Array.getElem?_replicate]
 by_cases h:i<k
 ·simp[h]
 ·simp only[h,if_false,decide_false];split<;>rfl
theorem getD_firstN{k n i:Nat}(hk:k<=n)(hi:i<n):(firstN k n).getD i true=decide (i<k):=by
 unfold firstN;rw[Array.getD_eq_getD_getElem?,Array.getElem?_append];simp only[Array.size_replicate,Array.getElem?_replicate]
 by_cases h:i<k
 ·simp[h]
 ·simp[h,show i - k<n - k by omega]
theorem firstN_set{k n:Nat}(hk:k<n):(firstN k n).setIfInBounds k true=firstN (k+1) n:=by
 unfold firstN;refine Array.ext_getElem? λi=> ?_
 rw[Array.getElem?_setIfInBounds];simp only[Array.getElem?_append,Array.size_append,Array.size_replicate,Array.getElem?_replicate]
 by_cases h:k=i
 ·subst h;simp[show k<k+(n - k) by omega]
 ·simp only[h,if_false]
  by_cases h2:i<k
  ·simp[h2,show i<k+1 by omega]
  ·simp only[h2,if_false,show ¬i<k+1 by omega]
   by_cases h3:i - k<n - k
   ·rw[if_pos h3,if_pos (by omega)]
   ·rw[if_neg h3,if_neg (by omega)]
theorem anyX_tail{ops:Array Oper}(hE:edgesOk ops.toList 0=true){k:Nat}(hcut:∀j,k<=j->j<ops.size->∀i,i<j->bef (befs ops.toList []) j i=true){K:Act->World->Prop}:
  ∀(m p:Nat) (a:Act) (v:World),k<=p->p+m=ops.size->OpsX mn P ops K (List.range' p m) a v->AnyX mn P ops K m (firstN p ops.size) a v
 | 0,p,a,v,hp,hm,h=>by
  refine⟨?_,h⟩;cases hr:Region.ready .any ops (firstN p ops.size) with|nil=>rfl|cons i r=>obtain⟨h1,h2,-⟩:=ready_mem (show i∈Region.ready .any ops (firstN p ops.size) by rw[hr];exact List.mem_cons_self ..);rw[getD_firstN (by omega) h1]at h2;simp only[decide_eq_false_iff_not]at h2;omega
 | m+1,p,a,v,hp,hm,h=>by
  have hpl:p<ops.size:=by omega
  have hedge:∀(i:Nat) o,ops[i]?=some o->∀e∈o.after.toList,Region.binds .any e=true->e.on<i:=λi o ho e he hb=>by
   have h1:i<ops.size:=(Array.getElem?_eq_some_iff.1 ho).1;have:=edgesOk_at _ _ hE i o (by simpa using ho);have:=this e he hb;omega
  have hrdy:p∈Region.ready .any ops (firstN p ops.size):=ready_of hpl (by rw[getD_firstN (by omega) hpl];simp) λo ho e he hb=>by
   rw[lst_firstN (by omega)];exact decide_eq_true (hedge p o ho e he hb)
  have hcl:∀i k,lst (firstN p ops.size) i=true->bef (befs ops.toList []) i k=true->lst (firstN p ops.size) k=true:=λi q hi hb=>by
   rw[lst_firstN (by omega)]at hi|-
   have hip:i<p:=of_decide_eq_true hi;have:=bef_lt hE i q (by omega) hb;exact decide_eq_true (by omega)
  refine⟨λh0=>(by rw[h0]at hrdy;cases hrdy),λi hi=> ?_⟩;obtain⟨h1,h2,-⟩:=ready_mem hi;rw[getD_firstN (by omega) h1]at h2;have h2:¬i<p:=of_decide_eq_false h2;have hip:i=p:=by
   by_cases e:i=p
   ·exact e
   ·have:=ready_bef hE hcl hi (hcut i (by omega) h1 p (by omega));rw[lst_firstN (by omega)]at this;have:=of_decide_eq_true this;omega
  subst hip;rw[firstN_set hpl];rw[List.range'_succ,OpsX]at h;exact h.mono λa v h=>anyX_tail hE hcut m (i+1) a v (by omega) (by omega) h
theorem lst_mono{l:Array Bool}{i j:Nat}(h:lst l j=true):lst (l.setIfInBounds i true) j=true:=by
 unfold lst at h|-
 rw[Array.getD_eq_getD_getElem?]at h|-
 rw[Array.getElem?_setIfInBounds];split
 ·split
  ·rfl
  ·rename_i h1 h2;subst h1;rw[Array.getElem?_eq_none (by omega)]at h;cases h
 ·exact h
theorem anyX_cut{ops ops':Array Oper}(hE:edgesOk ops.toList 0=true){k:Nat}(hk:k<=ops.size)(hops:ops'.toList=ops.toList.take k)(hgd:∀(i:Nat) o j want,i<k->ops[i]?=some o->o.guard=some (j,want)->j<k)
  (hcut:∀j,k<=j->j<ops.size->∀i,i<j->bef (befs ops.toList []) j i=true) {K K':Act->World->Prop} (htail:∀a v,K' a v->OpsX mn P ops K (List.range' k (ops.size - k)) a v) :
  ∀(f:Nat) (l:Array Bool) (a:Act) (v:World),l.size=k->unl l.toList=f->(∀i k,lst l i=true->bef (befs ops.toList []) i k=true->lst l k=true)->AnyX mn P ops' K' f l a v ->
   AnyX mn P ops K (f+(ops.size - k)) (l++Array.replicate (ops.size - k) false) a v:=by
 have hsz:ops'.size=k:=by rw[<- Array.length_toList,hops,List.length_take,Array.length_toList];omega
 have hat:∀i,i<k->ops'[i]?=ops[i]?:=λi hi=>by
  rw[<- Array.getElem?_toList,hops,List.getElem?_take,if_pos hi,Array.getElem?_toList]
 have hlst:∀{l:Array Bool} {i:Nat},l.size=k->lst (l++Array.replicate (ops.size - k) false) i=lst l i:=λ{l i} hl=>by
  unfold lst;rw[Array.getD_eq_getD_getElem?,Array.getD_eq_getD_getElem?,Array.getElem?_append]
  by_cases h:i<l.size
  ·rw[if_pos h]
  ·rw[if_neg h,Array.getElem?_replicate,Array.getElem?_eq_none (by omega)];split<;>rfl
 have hedge:∀(i:Nat) o,ops[i]?=some o->∀e∈o.after.toList,Region.binds .any e=true->e.on<i:=λi o ho e he hb=>by
  have:=edgesOk_at _ _ hE i o (by simpa using ho);have:=this e he hb;omega
 intro f
 induction f with
 | zero=>
  intro l a v hl hu hcl h;have hall:l++Array.replicate (ops.size - k) false=firstN k ops.size:=by
   unfold firstN;congr 1;refine Array.ext_getElem? λi=> ?_
   rw[Array.getElem?_replicate]
   by_cases hi:i<k
   ·rw[if_pos hi,Array.getElem?_eq_getElem (by omega)];congr 1;exact unl_zero _ hu i _ (by simp[show i<l.size by omega])
   ·rw[if_neg hi,Array.getElem?_eq_none (by omega)]
  rw[hall,Nat.zero_add];exact anyX_tail hE hcut (ops.size - k) k a v (Nat.le_refl _) (by omega) (htail _ _ h.2)
 | succ f ih=>
  intro l a v hl hu hcl h;obtain⟨h0,h1⟩:=h
  -- the least that is not listed
  have hex:∃ p,p<k∧lst l p=false∧∀ q,q<p→lst l q=true:=by
   have hsome:∃p,p<k/\lst l p=false:=by
    by_cases hh:∃p,p<k/\lst l p=false
    ·exact hh
    ·exfalso;have:unl l.toList=0:=by
      unfold unl;rw[List.length_eq_zero_iff,List.filter_eq_nil_iff];intro b hb;obtain⟨i,hi,rfl⟩:=List.mem_iff_getElem.1 hb;have hi':i<l.size:=by simpa using hi
      have:lst l i=true:=by cases hc:lst l i with|true=>rfl|false=>exact absurd ⟨i,by omega,hc⟩ hh
      unfold lst at this;rw[Array.getD_eq_getD_getElem?,Array.getElem?_eq_getElem hi']at this
      simpa using this
     omega
   obtain⟨p,hp⟩:=hsome
   induction p using Nat.strongRecOn with
   | _ p ihp=>
    by_cases hh:∃q,q<p/\lst l q=false
    ·obtain⟨q,h1,h2⟩:=hh;exact ihp q h1 ⟨by omega,h2⟩
    ·exact⟨p,hp.1,hp.2,λq hq=>by
      cases hc:lst l q with
      |true=>rfl
      |false=>exact absurd ⟨q,hq,hc⟩ hh⟩
  obtain⟨p,hp,hpl,hpq⟩:=hex;have hgD:∀i,i<k->(l++Array.replicate (ops.size - k) false).getD i true=l.getD i true:=λi hi=>by
   rw[Array.getD_eq_getD_getElem?,Array.getD_eq_getD_getElem?,Array.getElem?_append,if_pos (by omega)]
  have hgl:∀i,i<k->l.getD i true=lst l i:=λi hi=>by
   unfold lst;rw[Array.getD_eq_getD_getElem?,Array.getD_eq_getD_getElem?,Array.getElem?_eq_getElem (by omega)];rfl
  have hrdy:p∈Region.ready .any ops (l++Array.replicate (ops.size - k) false):=ready_of (by omega) (by rw[hgD p hp,hgl p hp];exact hpl) λo ho e he hb=>by
   rw[hlst hl];exact hpq _ (hedge p o ho e he hb)
  rw[show f+1+(ops.size - k)=(f+(ops.size - k))+1 by omega];refine⟨λh0=>(by rw[h0]at hrdy;cases hrdy),λi hi=> ?_⟩;obtain⟨h2,h3,h4⟩:=ready_mem hi;have hik:i<k:=by
   by_cases e:i<k
   ·exact e
   ·have:=ready_bef hE (λi q hi hb=>by rw[hlst hl]at hi |-;exact hcl i q hi hb) hi (hcut i (by omega) h2 p (by omega));rw[hlst hl,hpl]at this;cases this
  have hi':i∈Region.ready .any ops' l:=ready_of (by omega) (by rw[<- hgD i hik];exact h3) λo ho e he hb=>by
   rw[hat i hik]at ho;have:=h4 o ho e he hb
   rwa [hlst hl]at this
  have h5:=h1 i hi';have hset:(l++Array.replicate (ops.size - k) false).setIfInBounds i true=l.setIfInBounds i true++Array.replicate (ops.size - k) false:=by rw[Array.setIfInBounds_append_left (by omega)]
  rw[hset];have ho:ops[i]?=some ops[i]:=Array.getElem?_eq_getElem h2;have hnext:∀a v,AnyX mn P ops' K' f (l.setIfInBounds i true) a v->AnyX mn P ops K (f+(ops.size - k)) (l.setIfInBounds i true++Array.replicate (ops.size - k) false) a v:=λa v h=>by
   refine ih (l.setIfInBounds i true) a v (by simpa using hl) ?_ ?_ h
   ·have:=unl_set l.toList i (by
     rw[hgD i hik,hgl i hik]at h3;unfold lst at h3;rw[Array.getD_eq_getD_getElem?,Array.getElem?_eq_getElem (by omega)]at h3;simp only[Option.getD_some]at h3;simp[show i<l.size by omega,h3])
    simp only[Array.toList_setIfInBounds];omega
   ·intro q j hq hb
    by_cases e:q=i
    ·subst e;have h6:lst l j=true:=by
      have:=ready_bef hE (λi q hi hb=>by rw[hlst hl]at hi |-;exact hcl i q hi hb) hi hb
      rwa [hlst hl]at this
     exact lst_mono h6
    ·have h6:lst l q=true:=by
      unfold lst at hq|-
      rw[Array.getD_eq_getD_getElem?,Array.getElem?_setIfInBounds_ne (Ne.symm e)]at hq;rw[Array.getD_eq_getD_getElem?];exact hq
     exact lst_mono (hcl q j h6 hb)
  unfold OpIX at h5|-
  rw[hat i hik,ho]at h5;rw[ho];dsimp only at h5|-
  have hwant:Region.wanted ops[i] (yielded ops a.tmps)=Region.wanted ops[i] (yielded ops' a.tmps):=by unfold Region.wanted;cases hg:ops[i].guard with|none=>rfl|some jw=>obtain⟨j,want⟩:=jw;have hj:=hgd i _ j want hik ho hg;dsimp only;unfold yielded;rw[hat j hj]
  rw[hwant];split
  ·rename_i hw;rw[if_pos hw]at h5;exact h5.mono hnext
  ·rename_i hw;rw[if_neg hw]at h5;exact hnext _ _ h5
theorem mem_wrL_drop{l:List Oper}{k i:Nat}(h:i∈wrL (l.drop k)):i∈wrL l:=by induction l generalizing k with|nil=>simpa using h|cons o r ih=>cases k with|zero=>exact h|succ k=>exact List.mem_append_right _ (ih (by simpa using h))
theorem veCutX_any(hΓ:ConsOkX mn P IC Γ){k:Nat}{ops:Array Oper}{α:Type}{K:St->Option α}{r:α}{ρ:Nat->Ad}{st:St}{a:Act}{w:World}
  (hR:RS E P W0 n0 D ρ0 ρ st a w) (hE:edgesOk ops.toList 0=true) (hr:veCut P Γ ops st K k=some r)
  (hQ:∀ρ' st' a' w',K st'=some r->RS E P W0 n0 D ρ0 ρ' st' a' w'->Ext (wrL ops.toList) st.h.length ρ ρ' st st'->Q .normal a' w'):AnyX mn P ops (Q .normal) ops.size (Array.replicate ops.size false) a w:=by
 have roomExt:∀(k:Nat) (W:List Nat) (ρ:Nat->Ad),Ext W st.h.length ρ ρ st { st with h:=st.h++List.replicate k .no }:=λk W ρ=>
  ⟨λ_ _=>rfl,rfl,λm hm _=>by rw[List.getElem?_append_left hm],λ_ h=>h,by simp,(hR.room k).2,λ_ _=>rfl⟩
 unfold veCut at hr;cases hc:(cutB (befs ops.toList []) k ops.size&&Nat.ble k ops.size)&&(edgesOk (ops.toList.take k) 0&&guardsIn k (ops.toList.take k)) with
 |false=>rw[hc]at hr;cases hr
 | true=>
  rw[hc]at hr;simp only[cond_true]at hr;simp only[Bool.and_eq_true]at hc;obtain⟨⟨hcb,hkb⟩,hE',hgd⟩:=hc;have hk:=Nat.le_of_ble_eq_true hkb;generalize hops:(ops.toList.take k).toArray=ops';have hops1:ops'.toList=ops.toList.take k:=by rw[<- hops]
  have hsz:ops'.size=k:=by rw[<- Array.length_toList,hops1,List.length_take,Array.length_toList];omega
  rw[<- hops1]at hr hE' hgd;obtain⟨tr,hlen,hX,hT,hk2⟩:=veDraw_tr ops'.toList 0 [] rfl (Nat.zero_le _) rfl (λi o x _ hx=>by simp at hx) hr;have hR1:=(hR.room ops.size).1;have hno:∀i,i<ops'.size->(st.h++List.replicate ops.size VB.no)[st.h.length+i]?=some .no:=λi hi=>by
   rw[List.getElem?_append_right (by omega),List.getElem?_replicate,if_pos (by omega)]
  have hl0:∀j,lst (Array.replicate ops'.size false) j=false:=λj=>by
   unfold lst;rw[Array.getD_eq_getD_getElem?,Array.getElem?_replicate];split<;>rfl
  have hst:foldTr st.h.length (lst (Array.replicate ops'.size false)) tr 0 { st with h:=st.h++List.replicate ops.size .no }={ st with h:=st.h++List.replicate ops.size .no }:=
   foldTr_none _ tr 0 _ λj _=>hl0 j
  have hdraw:=drawX_sound (Q:=λ_ a v=>OpsX mn P ops (Q .normal) (List.range' k (ops.size - k)) a v) hΓ hR.bound (st0:={ st with h:=st.h++List.replicate ops.size .no }) hno hE' hlen hX hT (ρs:=ρ) (λρ' a' w' hR' hhl hren=> ?_) ops'.size (Array.replicate ops'.size false) ρ a w (by simp) (by simp[unl]) (λi j h=>by rw[hl0]at h;cases h) (by rw[hst];exact hR1) (by rw[hst];exact HLe.refl _) (λ_ _=>rfl)
  ·have hcutx:=anyX_cut (K:=Q .normal) hE hk hops1 (λi o j want hi ho hg=> ?_) (λj h1 h2 i hi=>cutB_at hcb h1 h2 i hi) (λa v h=>h) k (Array.replicate ops'.size false) a w (by simp[hsz]) (by simp[unl,hsz]) (λi j h=>by rw[hl0]at h;cases h) (by have h9:=hdraw;generalize Array.replicate ops'.size false=l9 at h9 |-;rw[hsz]at h9;exact h9)
   ·have e1:k+(ops.size - k)=ops.size:=by omega
    have e2:Array.replicate ops'.size false++Array.replicate (ops.size - k) false=Array.replicate ops.size false:=by rw[hsz,Array.replicate_append_replicate,e1]
    rwa [e1,e2]at hcutx
   ·have:∀(l:List Oper),guardsIn k l=true->∀(i:Nat) o,l[i]?=some o->o.guard=some (j,want)->j<k:=by
     intro l
     induction l with
     |nil=>intro _ i o h;simp at h
     | cons x l ih=>intro h i o ho hg;simp only[guardsIn,Bool.and_eq_true]at h;cases i with|zero=>simp only[List.getElem?_cons_zero,Option.some.injEq]at ho;subst ho;rw[hg]at h;exact Nat.le_of_ble_eq_true h.1|succ i=>exact ih h.2 i o (by simpa using ho) hg
    refine this _ hgd i o ?_ hg;rw[hops1,List.getElem?_take,if_pos hi]
    simpa using ho
  ·obtain⟨h1,h2,h3⟩:=fold_ext (base:=st.h.length) (B:=λ_=>true) (wrL ops.toList) (Nat.le_refl st.h.length) tr 0 { st with h:=st.h++List.replicate ops.size .no } λj x hj d hd=>by
    have hjlt:j<ops'.size:=by have:=(List.getElem?_eq_some_iff.1 hj).1;omega
    have:=(hX j ops'[j] x (Array.getElem?_eq_getElem hjlt) hj).1;refine mem_wrL (l:=ops.toList) (j:=j) (o:=ops'[j]) ?_ (by rw[<- this];exact hd);have h4:ops'.toList[j]?=some ops'[j]:=by simp[hjlt]
    rw[hops1,List.getElem?_take,if_pos (by omega)]at h4;exact h4
   have hlens:=foldTr_len st.h.length (λ_=>true) tr 0 { st with h:=st.h++List.replicate ops.size .no };have hlen2:ops.size - k=(ops.toList.drop k).length:=by simp
   rw[hlen2];exact veOpsX_sound hΓ hR.bound (ops.toList.drop k) k rfl hR' hk2 λρ2 st2 a2 w2 hk3 hR3 he=>hQ ρ2 st2 a2 w2 hk3 hR3
    (((roomExt _ (wrL ops.toList) ρ).trans ⟨h1,hlens.1,h2,h3,by rw[hlens.2];exact Nat.le_refl _,hhl,hren⟩).trans (he.mono (λi hi=>mem_wrL_drop hi) (Nat.le_refl _)))
theorem veCutX_sound(hm:P.follows .mixedOrders=true)(hΓ:ConsOkX mn P IC Γ){id k:Nat}{ops:Array Oper}{α:Type}{K:St->Option α}{r:α}{ρ:Nat->Ad}{st:St}{a:Act}{w:World}
  (hR:RS E P W0 n0 D ρ0 ρ st a w) (hE:edgesOk ops.toList 0=true) (hr:veCut P Γ ops st K k=some r)
  (hQ:∀ρ' st' a' w',K st'=some r->RS E P W0 n0 D ρ0 ρ' st' a' w'->Ext (wrL ops.toList) st.h.length ρ ρ' st st'->Q .normal a' w'):WpX mn ro P (.region id ops true) Q a w:=
 wpX_region_any hm (veCutX_any hΓ hR hE hr hQ)
theorem veRegX_sound(hm:P.follows .mixedOrders=true)(hΓ:ConsOkX mn P IC Γ){id:Nat}{ops:Array Oper}{draw:Bool}{α:Type}{K:St->Option α}{r:α}{ρ:Nat->Ad}{st:St}{a:Act}{w:World}
  (hR:RS E P W0 n0 D ρ0 ρ st a w) (hr:veReg P Γ ops draw st K=some r)
  (hQ:∀ρ' st' a' w',K st'=some r->RS E P W0 n0 D ρ0 ρ' st' a' w'->Ext (wrL ops.toList) st.h.length ρ ρ' st st'->Q .normal a' w'):WpX mn ro P (.region id ops draw) Q a w:=by
 have roomExt:∀(k:Nat) (W:List Nat) (ρ:Nat->Ad),Ext W st.h.length ρ ρ st { st with h:=st.h++List.replicate k .no }:=λk W ρ=>
  ⟨λ_ _=>rfl,rfl,λm hm _=>by rw[List.getElem?_append_left hm],λ_ h=>h,by simp,(hR.room k).2,λ_ _=>rfl⟩
 unfold veReg at hr;cases draw with
 | false=>
  simp only[cond_false]at hr;refine wpX_region ?_;rw[List.range_eq_range',<- Array.length_toList];cases hxb:Γ.xb&&anyVal Γ ops.toList with
  |true=>rw[hxb]at hr;simp only[cond_true]at hr;exact veOpsX_sound hΓ hR.bound ops.toList 0 rfl (hR.room ops.size).1 hr λρ' st' a' w' hk hR' he=>hQ ρ' st' a' w' hk hR' ((roomExt _ _ _).trans he)
  |false=>
  rw[hxb]at hr;simp only[cond_false]at hr;cases hcl:anyCl Γ ops.toList with
  |true=>rw[hcl]at hr;simp only[cond_true]at hr;exact veOpsX_sound hΓ hR.bound ops.toList 0 rfl (hR.room (4*ops.size)).1 hr λρ' st' a' w' hk hR' he=>hQ ρ' st' a' w' hk hR' ((roomExt _ _ _).trans he)
  |false=>
  rw[hcl]at hr;simp only[cond_false]at hr;cases hnew:anyNew P ops.toList with
  |true=>rw[hnew]at hr;simp only[cond_true]at hr;exact veOpsX_sound hΓ hR.bound ops.toList 0 rfl (hR.room ops.size).1 hr λρ' st' a' w' hk hR' he=>hQ ρ' st' a' w' hk hR' ((roomExt _ _ _).trans he)
  |false=>rw[hnew]at hr;simp only[cond_false]at hr;exact veOpsX_sound hΓ hR.bound ops.toList 0 rfl hR hr λρ' st' a' w' hk hR' he=>hQ ρ' st' a' w' hk hR' he
 | true=>
  simp only[cond_true]at hr;cases hE:edgesOk ops.toList 0 with
  |false=>rw[hE]at hr;cases hr
  | true=>
   rw[hE]at hr;simp only[cond_true]at hr;cases hin:anyInl Γ ops.toList with
   |true=>rw[hin]at hr;simp only[cond_true]at hr;exact veCutX_sound hm hΓ hR hE hr hQ
   |false=>
   rw[hin]at hr;simp only[cond_false]at hr;obtain⟨tr,hlen,hX,hT,hk⟩:=veDraw_tr ops.toList 0 [] rfl (Nat.zero_le _) rfl (λi o x _ hx=>by simp at hx) hr;refine wpX_region_any hm ?_;have hR1:=(hR.room ops.size).1;have hno:∀i,i<ops.size->(st.h++List.replicate ops.size VB.no)[st.h.length+i]?=some .no:=λi hi=>by
    rw[List.getElem?_append_right (by omega),List.getElem?_replicate,if_pos (by omega)]
   have hl0:∀k,lst (Array.replicate ops.size false) k=false:=λk=>by
    unfold lst;rw[Array.getD_eq_getD_getElem?,Array.getElem?_replicate];split<;>rfl
   have hst:foldTr st.h.length (lst (Array.replicate ops.size false)) tr 0 { st with h:=st.h++List.replicate ops.size .no }={ st with h:=st.h++List.replicate ops.size .no }:=
    foldTr_none _ tr 0 _ λk _=>hl0 k
   refine drawX_sound hΓ hR.bound (st0:={ st with h:=st.h++List.replicate ops.size .no }) hno hE hlen hX hT (ρs:=ρ) (λρ' a' w' hR' hhl hren=> ?_) ops.size _ ρ a _ (by simp) (by simp[unl]) (λi k h=>by rw[hl0]at h;cases h) (by rw[hst];exact hR1) (by rw[hst];exact HLe.refl _) (λ_ _=>rfl);refine hQ ρ' _ a' w' hk hR' ?_;obtain⟨h1,h2,h3⟩:=fold_ext (base:=st.h.length) (B:=λ_=>true) (wrL ops.toList) (Nat.le_refl st.h.length) tr 0 { st with h:=st.h++List.replicate ops.size .no } λj x hj d hd=>by
    have hjlt:j<ops.size:=by have:=(List.getElem?_eq_some_iff.1 hj).1;omega
    have:=(hX j ops[j] x (Array.getElem?_eq_getElem hjlt) hj).1;exact mem_wrL (l:=ops.toList) (j:=j) (o:=ops[j]) (by simp[hjlt]) (by rw[<- this];exact hd)
   have hlens:=foldTr_len st.h.length (λ_=>true) tr 0 { st with h:=st.h++List.replicate ops.size .no };exact(roomExt _ (wrL ops.toList) ρ).trans ⟨h1,hlens.1,h2,h3,by rw[hlens.2];exact Nat.le_refl _,hhl,hren⟩
end
end
section
set_option linter.unusedVariables false
set_option linter.unusedSimpArgs false
variable {mn:Md}
section
variable {P:Program}
theorem Tr.pure{α:Type}(a:α)(v:World):Tr P (Pure.pure a:Sem α) v a v:=(Simple.pure a).tr rfl
theorem Tr.bind{α β:Type}{s:Sem α}{f:α->Sem β}{v v₁ v₂:World}{a:α}{b:β}(h:Tr P s v a v₁)(k:Tr P (f a) v₁ b v₂):Tr P (s >>= f) v b v₂:=λG w hf hv es=>by
 obtain⟨w₁,es₁,e1,e2,e3⟩:=h G w hf hv es;obtain⟨w₂,es₂,q1,q2,q3⟩:=k _ w₁ (hf.did e3) e2.symm (es++es₁);refine⟨w₂,es₁++es₂,?_,?_,did_trans e3 q3⟩
 ·show (s.bind f).runT P w es=_
  rw[Sem.runT_bind',e1];dsimp only;rw[q1,Array.append_assoc]
 ·rw[q2,Gh.grow_grow G e3.size q3.size]
theorem seen_own{G:Gh}{w:World}{r:Nat}{o:Obj}(h:(view G w).heap[r]?=some o)(h1:o.isCells=false)(h2:o.isChan=false):G.M r/\w.heap[r]?=some o:=by
 rw[view_get]at h;obtain⟨o',ho',he⟩:=Option.map_eq_some_iff.1 h
 by_cases hm:G.M r
 ·rw[see_m hm]at he;refine⟨hm,?_⟩;rcases own_form o' with ⟨c',e',fr',rfl,h' | h'⟩ | ⟨a,u,rfl,h'⟩ | ⟨-,h'⟩
  ·rw[h']at he;unfold dead at he;subst he;cases h1
  ·rw[h']at he;subst he;cases h1
  ·rw[h']at he;unfold dead at he;subst he;cases h1
  ·rw[h']at he;rw[ho',he]
 ·exfalso
  by_cases hs:G.S r
  ·rw[see_s hm hs]at he;cases o'<;>simp only[frz,dead]at he<;>subst he<;>cases h1
  ·rw[see_f hm hs]at he;cases hF:G.F r with
   |none=>rw[hF]at he;unfold dead at he;subst he;cases h1
   |some x=>rw[hF]at he;unfold prom at he;subst he;cases h2
theorem tr_getObj{v:World}{r:Nat}{o:Obj}(h:v.heap[r]?=some o)(h1:o.isCells=false)(h2:o.isChan=false):Tr P (getObj r) v o v:=λG w hf hv es=>by
 subst hv;obtain⟨hm,hw⟩:=seen_own h h1 h2;refine⟨w,#[⟨.obj r,false,false⟩],?_,by rw[Gh.grow_self],rfl,rfl,rfl,Nat.le_refl _,λ_ _ _=>rfl,λe he=> ?_⟩
 ·unfold getObj;simp only[Sem.runT,hw];cases o<;>first | (cases h1;done) | (cases h2;done)|simp[Obj.isChan]
 ·simp at he;subst he;exact .inr (.inr (.inr ⟨r,false,rfl,.inl hm⟩))
theorem view_putObj{G:Gh}{w:World}{r:Nat}{o:Obj}(hm:G.M r)(ho:own o=o):view G (w.putObj r o)=(view G w).putObj r o:=by
 unfold view World.putObj;simp only[World.mk.injEq,true_and,and_true];refine Array.ext_getElem? λi=> ?_
 rw[Array.getElem?_mapIdx,Array.getElem?_setIfInBounds,Array.getElem?_setIfInBounds,Array.getElem?_mapIdx,Array.size_mapIdx]
 by_cases hi:r=i
 ·subst hi;rw[if_pos rfl,if_pos rfl]
  by_cases hlt:r<w.heap.size
  ·rw[if_pos hlt];exact congrArg some ((see_m hm).trans ho)
  ·rw[if_neg hlt];rfl
 ·rw[if_neg hi,if_neg hi]
theorem tr_setObj{v:World}{r:Nat}{o o':Obj}(h:v.heap[r]?=some o)(h1:o.isCells=false)(h2:o.isChan=false)(h3:own o'=o')(h4:o'.isChan=false):Tr P (setObj r o') v () (v.putObj r o'):=λG w hf hv es=>by
 subst hv;obtain⟨hm,hw⟩:=seen_own h h1 h2;have hsz:(w.putObj r o').heap.size=w.heap.size:=by simp[World.putObj]
 refine⟨w.putObj r o',#[⟨.obj r,true,false⟩],?_,?_,rfl,rfl,rfl,Nat.le_of_eq hsz.symm,λk hk hnk=> ?_,λe he=> ?_⟩
 ·unfold setObj;simp only[Sem.runT,hw];cases o<;>first | (cases h1;done) | (simp only[h4];simp[World.putObj])
 ·rw[hsz,Gh.grow_self];exact(view_putObj hm h3).symm
 ·exact World.putObj_heap_other (λe=>hnk (by first | (rw[e];exact hm) | (rw[<- e];exact hm)))
 ·simp at he;subst he;exact .inr (.inr (.inr ⟨r,true,rfl,.inl hm⟩))
theorem tr_getLoop{v:World}{l:Nat}{r:Loop}(h:v.heap[l]?=some (.loop r)):Tr P (Instr.getLoop l) v r v:=(tr_getObj h rfl rfl).bind (Tr.pure r v)
theorem tr_yield{v:World}{l:Nat}{r:Loop}{args:Array Value}(h:v.heap[l]?=some (.loop r))(hs:args.size=r.params.size):
  Tr P (Instr.yield l args) v (.round l r.fn ((r.params.zip args).foldl (λtmps (t,a)=>tmps.setIfInBounds t a) r.tmps) r.assign r.body) v:=by
 unfold Instr.yield;refine(tr_getLoop h).bind ?_;dsimp only;rw[if_neg (by simpa using hs)];exact Tr.pure _ _
theorem tr_beginRound{v:World}{l:Nat}{r:Loop}(h:v.heap[l]?=some (.loop r))(hr:r.state=.ready):Tr P (Instr.beginRound l) v () (v.putObj l (.loop { r with state:=.busy })):=by unfold Instr.beginRound;refine(tr_getLoop h).bind ((tr_setObj h rfl rfl rfl rfl).bind ?_);rw[hr];exact Tr.pure _ _
theorem tr_endRound{v:World}{l:Nat}{r:Loop}(jump:Option Code)(h:v.heap[l]?=some (.loop r)):
  Tr P (Instr.endRound l jump) v (.bool jump.isNone) (v.putObj l (.loop { r with state:=if jump.isNone then .ready else .done,pending:=jump })):=by
 unfold Instr.endRound;exact(tr_getLoop h).bind ((tr_setObj h rfl rfl rfl rfl).bind (Tr.pure _ _))
theorem tr_endLoop{v:World}{l:Nat}{r:Loop}(h:v.heap[l]?=some (.loop r))(hr:r.state ≠ .busy):Tr P (Instr.endLoop l) v r.pending (v.putObj l (.loop { r with state:=.exhausted })):=by unfold Instr.endLoop;refine(tr_getLoop h).bind ?_;rw[if_neg (by simpa using hr)];exact(tr_setObj h rfl rfl rfl rfl).bind (Tr.pure _ _)
theorem tr_new{v:World}{o:Obj}(ho:own o=o):Tr P (newObj o) v v.heap.size (v.alloc o):=(Simple.new o _ ho λ_=>.pure _).tr rfl
theorem tr_enterLoop{v:World}(fn:FuncId)(tmps:Array Value)(params:Array Tmp)(assign body:Code):
  Tr P (Instr.enterLoop fn tmps params assign body none) v (v.heap.size+1,[{ target:=.collected v.heap.size,args:=#[] }])
   ((v.alloc (.deferred (some []))).alloc (.loop { state:=.ready,pending:=none,fn,tmps,params,assign,body,defers:=v.heap.size })):=by
 unfold Instr.enterLoop;refine((tr_new rfl).bind (Tr.pure _ _)).bind ?_;have:=tr_new (P:=P) (v:=v.alloc (.deferred (some []))) (o:=.loop { state:=.ready,pending:=none,fn,tmps,params,assign,body,defers:=v.heap.size }) rfl;rw[World.size_alloc]at this;exact this.bind (Tr.pure _ _)
theorem tr_takeDeferred{v:World}{m:Nat}(h:v.heap[m]?=some (.deferred (some []))):Tr P (Instr.takeDeferred m) v [] (v.putObj m (.deferred none)):=by unfold Instr.takeDeferred;exact(tr_getObj h rfl rfl).bind ((tr_setObj h rfl rfl rfl rfl).bind (Tr.pure _ _))
/-- All that lies at or beyond B lies as it lay, but for what slices of rounds are made of. -/
structure KeepsS (sf:TypeId->Bool) (B:Nat) (W W':World):Prop where
 size:W.heap.size<=W'.heap.size
 same:∀k,B<=k->k<W.heap.size->(∀C t fr,W.heap[k]?=some (.cells C t fr)->sf t=false)->W'.heap[k]?=W.heap[k]?
variable {sf:TypeId->Bool}
theorem KeepsS.trans{B:Nat}{X Y Z:World}(h:KeepsS sf B X Y)(k:KeepsS sf B Y Z):KeepsS sf B X Z:=⟨Nat.le_trans h.size k.size,λi hB hi hs=>by
 have e:=h.same i hB hi hs;exact(k.same i hB (Nat.lt_of_lt_of_le hi h.size) (by rw[e];exact hs)).trans e⟩
theorem KeepsS.later{B B':Nat}{W W':World}(h:KeepsS sf B W W')(hB:B<=B'):KeepsS sf B' W W':=⟨h.size,λk hk hl=>h.same k (Nat.le_trans hB hk) hl⟩
theorem KeepsS.put{B:Nat}(W:World)(l:Nat)(o:Obj)(hl:l<B):KeepsS sf B W (W.putObj l o):=⟨by simp[World.putObj],λk hk _ _=>World.putObj_heap_other (by omega)⟩
theorem KeepsS.at{B:Nat}{W W':World}(h:KeepsS sf B W W'){k:Nat}{o:Obj}(hB:B<=k)(hk:W.heap[k]?=some o)(hs:∀C t fr,o=.cells C t fr->sf t=false:=by intro C t fr h;cases h):W'.heap[k]?=some o:=
 (h.same k hB (Array.getElem?_eq_some_iff.1 hk).1 λC t fr e=>hs C t fr (by rw[hk]at e;exact Option.some.inj e)).trans hk
theorem KeepsS.of_ge{B:Nat}{v v':World}(h:Ge v v'):KeepsS sf B v v':=⟨h.size,λk _ hk _=>h.block k hk⟩
abbrev KeepsX(P:Program):=KeepsS (softT P)
theorem KeepsS.weak{sf':TypeId->Bool}{B:Nat}{W W':World}(h:KeepsS sf B W W')(hs:∀t,sf t=true->sf' t=true):KeepsS sf' B W W':=⟨h.size,λk hk hl h'=>h.same k hk hl λC t fr e=>by
 cases hq:sf t with
 |false=>rfl
 |true=>have:=h' C t fr e;rw[hs t hq]at this;cases this⟩
def ownPostX{α:Type}(sf:TypeId->Bool)(B:Nat)(Kp:World->World->Prop)(I:List α->World->Prop)(Ix:Code->List α->World->Prop)(xs:List α)(W:World):Exit->Act->World->Prop
 |.normal,_,W'=>KeepsS sf B W W'/\Kp W W'/\I xs W'
 |.ret,_,W'=>KeepsS sf B W W'/\Ix .ret xs W'
 |.exit id,_,W'=>KeepsS sf B W W'/\Ix (.exit id) xs W'
 |.goto t,_,W'=>KeepsS sf B W W'/\Ix (.goto t) xs W'
 |.panic _,_,_=>False
 |.outgrown,_,_=>False
def YieldX(mn:Md)(P:Program)(l:Nat)(args:Array Value)(v:World)(R:Value->World->Prop):Prop:=
 ∀v₁,Ge v v₁->∃f tmps assign body,Tr P (Instr.yield l args) v₁ (.round l f tmps assign body) v₁/\RoundX mn P l f tmps assign body v₁ R
def SeqS{α:Type}(sf:TypeId->Bool)(mn:Md)(P:Program)(g:Nat)(lb:Array Value)(encs:α->Array Value)(Kp:World->World->Prop)(xs:List α)(v0:World):Prop:=
 ∀ (l:Nat) (J Jx:List α→World→Prop) (V:World),Ge v0 V→OwnFrom V.heap.size J→OwnFrom V.heap.size Jx →
  (∀ pre x V1,J pre V1→pre++[x] <+: xs→V.heap.size≤V1.heap.size→YieldX mn P l (encs x) V1 fun r V'=>
   (r=.bool true/\J (pre++[x]) V'/\Kp V1 V'/\KeepsS sf V.heap.size V1 V')\/(r=.bool false/\Jx (pre++[x]) V'/\KeepsS sf V.heap.size V1 V')) ->
  J [] V->CallsX mn P g (#[.func (.yield l) #[] #[]]++lb) V λr V'=>J xs V'\/∃pre,pre <+: xs/\Jx pre V'
abbrev SeqX{α:Type}(mn:Md)(P:Program):=SeqS (α:=α) (softT P) mn P
theorem YieldX.mono{mn:Md}{P:Program}{l:Nat}{args:Array Value}{v:World}{R R':Value->World->Prop}(h:YieldX mn P l args v R)(hr:∀r v',R r v'->R' r v'):YieldX mn P l args v R':=by intro v₁ h₁;obtain⟨f,tmps,assign,body,q1,q2⟩:=h v₁ h₁;exact⟨f,tmps,assign,body,q1,q2.mono hr⟩
theorem SeqS.keep{α:Type}{mn:Md}{P:Program}{g:Nat}{lb:Array Value}{encs:α->Array Value}{Kp Kp':World->World->Prop}{xs:List α}{v:World}(h:SeqS sf mn P g lb encs Kp xs v)(hk:∀{W W'},Kp' W W'->Kp W W'):SeqS sf mn P g lb encs Kp' xs v:=
 λl J Jx V hv o1 o2 hY h0=>h l J Jx V hv o1 o2 (λpre x W1 a b c=>(hY pre x W1 a b c).mono λe W' q=>q.imp (λq=>⟨q.1,q.2.1,hk q.2.2.1,q.2.2.2⟩) id) h0
theorem SeqS.weak{α:Type}{mn:Md}{P:Program}{sf':TypeId->Bool}{g:Nat}{lb:Array Value}{encs:α->Array Value}{Kp:World->World->Prop}{xs:List α}{v:World}(h:SeqS sf mn P g lb encs Kp xs v)(hs:∀t,sf' t=true->sf t=true):SeqS sf' mn P g lb encs Kp xs v:=
 λl J Jx V hv o1 o2 hY h0=>h l J Jx V hv o1 o2 (λpre x W1 a b c=>(hY pre x W1 a b c).mono λe W' q=>q.imp (λq=>⟨q.1,q.2.1,q.2.2.1,q.2.2.2.weak hs⟩) (λq=>⟨q.1,q.2.1,q.2.2.weak hs⟩)) h0
def sfOf(P:Program)(h:List VB)(t:TypeId):Bool:= !noOwn h&&softT P t
theorem SeqS.any{α:Type}{mn:Md}{P:Program}{g:Nat}{lb:Array Value}{encs:α->Array Value}{Kp:World->World->Prop}{xs:List α}{v:World}(h:SeqX mn P g lb encs Kp xs v)(hp:List VB):SeqS (sfOf P hp) mn P g lb encs Kp xs v:=h.weak λt ht=>by
 unfold sfOf at ht;rw[Bool.and_eq_true]at ht;exact ht.2
section steps
variable {b:Frame} {a:Act} {k:List Item} {cs:List Frame} {w w':World} {es:Array Event}
theorem sg_beginRound{l:Nat}(hb:b.roundOf=some l)(hk:b.kind=.normal)(hr:(Instr.beginRound l).runT P w #[]=(.ok () w',es)):
  stepG P mn.main (gr (b.atR a (.beginRound::k)) cs) w=.go (gr (b.atR a k) cs) w' (seen P b.fn es):=by
 have hke:(b.kind==CallKind.early)=false:=by rw[hk];rfl
 have h2 : (do (some l).elim (stuck "beginRound: no round") Instr.beginRound; pure .skip : Sem Next).runT P w #[] = (.ok .skip w', es) := by
  show ((Instr.beginRound l).bind λ_=>Sem.pure Next.skip).runT P w #[]=_
  rw[Sem.runT_bind',hr];rfl
 simp only[gr,stepG,stepG.exec,Frame.atR,stepG.apply,if_true,hb,h2,hke,Bool.false_eq_true,if_false,GStep.after,Frame.finish,Array.append_empty]
theorem sg_leaveRound{l:Nat}{c:Frame}{jump:Option Code}{v:Value}(hb:b.roundOf=some l)(hk:b.kind=.normal)(hr:(Instr.endRound l jump).runT P w #[]=(.ok v w',es))
  (hj:(k=[]/\jump=none)\/(∃k₁,k=.code .ret::k₁/\jump=some .ret)\/(∃id k₁,k=.code (.exit id)::k₁/\exitTo id k₁=none/\jump=some (.exit id))\/(∃t k₁,k=.code (.goto t)::k₁/\gotoIn t k₁=none/\jump=some (.goto t))) :
  stepG P mn.main (gr (b.atR a k) (c::cs)) w=.go (gr (c.finish v) cs) w' (seen P b.fn es):=by
 rcases hj with ⟨rfl,rfl⟩ | ⟨k₁,rfl,rfl⟩ | ⟨id,k₁,rfl,he,rfl⟩ | ⟨t,k₁,rfl,he,rfl⟩
 ·simp[gr,stepG,stepG.exec,Frame.atR,hb,hr,GStep.after,doReturn,hk,-Sem.runT_eq]
 ·simp[gr,stepG,stepG.exec,Frame.atR,hb,hr,GStep.after,doReturn,hk,-Sem.runT_eq]
 ·simp[gr,stepG,stepG.exec,Frame.atR,hb,hr,GStep.after,doReturn,hk,he,-Sem.runT_eq]
 ·simp[gr,stepG,stepG.exec,Frame.atR,hb,hr,GStep.after,doReturn,hk,he,-Sem.runT_eq]
theorem sg_rangeFunc{g:Operand}{ps:Array Tmp}{assign body:Code}{l:Nat}{mark:List Deferred}{gf:FuncId}{args:Array Value}{w₂:World}{es₂:Array Event}(hb:b.roundOf=none)(hk:b.kind=.normal)
  (hr:(Instr.enterLoop b.fn a.tmps ps assign body none).runT P w #[]=(.ok (l,mark) w',es))
  (hc:(do let d <- resolve a.eval { callee:=.value g,args:=#[.const (.func (.yield l) #[] #[])],argTypes:=#[] } 0;invoke d.target d.args:Sem Next).runT P w' #[]=(.ok (.enter gf args) w₂,es₂)) :
  stepG P mn.main (gr (b.atR a (.code (.rangeFunc g ps assign body)::k)) cs) w =
   .go (gr (Frame.enter P gf args .normal) (b.atR { a with defers:=mark++a.defers } (.inRangeFunc l::k)::cs)) w₂ (seen P b.fn es++seen P b.fn es₂):=by
 have hke:(b.kind==CallKind.early)=false:=by rw[hk];rfl
 have he:=Frame.eval_atR b { a with defers:=mark++a.defers } (.inRangeFunc l::k);have he':({ a with defers:=mark++a.defers }:Act).eval=a.eval:=rfl;rw[he']at he;simp only[Frame.atR,hb]at he;simp only[gr,stepG,stepG.exec,Frame.atR,hb,hr,GStep.after];simp only[stepG.apply,if_true,he,hc,hke,Bool.false_eq_true,if_false,GStep.after,Array.append_empty]
theorem finish_inRangeFunc{l:Nat}{v:Value}:(b.atR a (.inRangeFunc l::k)).finish v=b.atR a (.endRangeFunc l::k):=rfl
theorem sg_endRangeFunc{l:Nat}{jump:Option Code}(hr:(Instr.endLoop l).runT P w #[]=(.ok jump w',es)):
  stepG P mn.main (gr (b.atR a (.endRangeFunc l::k)) cs) w=.go (gr (b.atR a ((jump.map Item.code).toList++k)) cs) w' (seen P b.fn es):=by
 simp[gr,stepG,stepG.exec,Frame.atR,hr,GStep.after,-Sem.runT_eq]
end steps
end
end
section
set_option linter.unusedVariables false
set_option linter.unusedSimpArgs false
variable {mn:Md}
section
variable {P:Program}
theorem roundX_of{l:Nat}{f:FuncId}{tmps:Array Value}{assign body:Code}{v:World}{R:Value->World->Prop}{A₁:Act->World->Prop}(hA₁:∀{a:Act} {w w':World},A₁ a w->Ge w w'->A₁ a w')
  (hassign:WpX mn (some l) P assign (Exit.then A₁ λ_ _ _=>False) { tmps,defers:=[] } v)
  (hbegin:∀a w,A₁ a w->∃r:Loop,w.heap[l]?=some (.loop r)/\r.state=.ready)
  (hbody:∀ a₁ w r,A₁ a₁ w→w.heap[l]? = some (.loop r)→WpX mn (some l) P body (fun e a' w'=>∃ jump,(e = .normal∧jump=none∨e = .ret∧jump=some .ret∨(∃ id,e = .exit id∧jump=some (.exit id))∨∃ t,e = .goto t∧jump=some (.goto t)) ∧
   ∀w'',Ge w' w''->∃r',w''.heap[l]?=some (.loop r')/\R (.bool jump.isNone) (w''.putObj l (.loop { r' with state:=if jump.isNone then .ready else .done,pending:=jump }))) a₁ (w.putObj l (.loop { r with state:=.busy }))) :
  RoundX mn P l f tmps assign body v R:=λPr hC c cs G w hf hv hQ=>by
 let b:Frame:={ fn:=f,tmps,todo:=[],defers:=[],mode:=.run,kind:=.normal,roundOf:=some l }
 show Pr G w (gr (b.atR { tmps,defers:=[] } (.code assign::.beginRound::[.code body])) (c::cs))
 refine hassign Pr hC b rfl rfl _ _ G w hf hv λe a' v' hq G' w' hf' hv'=> ?_
 cases e with
 | normal=>
  refine hC.step G' w' _ hf' rfl λw₁ hr₁=> ?_
  have hf₁:=hf'.rely hr₁;have hg₁:=hA₁ (hA₁ hq hv') (hr₁.view hf');obtain⟨r,hl,hst⟩:=hbegin _ _ hg₁;obtain⟨w₂,es,e1,e2,e3⟩:=tr_beginRound (P:=P) hl hst G' w₁ hf₁ rfl #[];refine⟨_,w₂,_,sg_beginRound (b:=b) rfl rfl e1,by simpa using e3.seen b.fn,?_⟩;refine hbody _ _ r hg₁ hl Pr hC b rfl rfl [] (c::cs) _ w₂ (hf₁.did e3) (e2 ▸ .refl _) λe a'' v'' hq' G'' w'' hf'' hv''=> ?_
  obtain⟨jump,hj,hend⟩:=hq';have leave:∀{k:List Item},(k=[]/\jump=none)\/(∃k₁,k=.code .ret::k₁/\jump=some .ret)\/(∃id k₁,k=.code (.exit id)::k₁/\exitTo id k₁=none/\jump=some (.exit id))\/(∃t k₁,k=.code (.goto t)::k₁/\gotoIn t k₁=none/\jump=some (.goto t)) ->
    Pr G'' w'' (gr (b.atR a'' k) (c::cs)):=λ{k} hk=>by
   refine hC.step G'' w'' _ hf'' rfl λw₃ hr₃=> ?_
   have hf₃:=hf''.rely hr₃;obtain⟨r',hl',hR⟩:=hend _ (hv''.trans (hr₃.view hf''));obtain⟨w₄,es₄,q1,q2,q3⟩:=tr_endRound (P:=P) jump hl' G'' w₃ hf₃ rfl #[];refine⟨_,w₄,_,sg_leaveRound (b:=b) rfl rfl q1 hk,by simpa using q3.seen b.fn,?_⟩;exact hQ _ _ hR _ w₄ (hf₃.did q3) (q2 ▸ .refl _)
  rcases hj with ⟨rfl,rfl⟩ | ⟨rfl,rfl⟩ | ⟨id,rfl,rfl⟩ | ⟨t,rfl,rfl⟩
  ·exact leave (.inl ⟨rfl,rfl⟩)
  ·exact λk₁=>leave (.inr (.inl ⟨k₁,rfl,rfl⟩))
  ·exact⟨λk' hk=>by simp[exitTo]at hk,λ_ k₁ hk=>leave (.inr (.inr (.inl ⟨id,k₁,rfl,hk,rfl⟩)))⟩
  ·exact⟨λk' hk=>by simp[gotoIn]at hk,λ_ k₁ hk=>leave (.inr (.inr (.inr ⟨t,k₁,rfl,hk,rfl⟩)))⟩
 |_=>exact hq.elim
theorem Ge.grown{v v':World}(h:Ge v v'):v.grownBy v' none:=⟨h.os,h.tape,h.output,h.size,λk hk _=>h.block k hk⟩
theorem OwnFrom.ge{β:Type}{B:Nat}{I:β->World->Prop}(h:OwnFrom B I){s:β}{v v':World}(hs:I s v)(hg:Ge v v'):I s v':=h s v v' none hs hg.grown (λr e=>by cases e)
theorem Ge.at{v v':World}(h:Ge v v'){k:Nat}{o:Obj}(hk:v.heap[k]?=some o):v'.heap[k]?=some o:=(h.block k (Array.getElem?_eq_some_iff.1 hk).1).trans hk
theorem ge_put{A B:World}(h:Ge A B){l:Nat}(hl:l<A.heap.size){o:Obj}:Ge (A.putObj l o) (B.putObj l o):=by
 have hs:∀W:World,(W.putObj l o).heap.size=W.heap.size:=λW=>by simp[World.putObj]
 refine⟨h.os,h.tape,h.output,by rw[hs,hs];exact h.size,λk hk=> ?_⟩;rw[hs]at hk
 by_cases e:k=l
 ·subst e;rw[World.putObj_heap_same hl,World.putObj_heap_same (Nat.lt_of_lt_of_le hl h.size)]
 ·rw[World.putObj_heap_other e,World.putObj_heap_other e];exact h.block k hk
theorem wpX_rangeFunc_A{α:Type}{g:Operand}{ps:Array Tmp}{assign body:Code}{Q:Exit->Act->World->Prop}{a:Act}{v:World}{gf:Nat}{lb:Array Value}(hg:a.eval g=.func (.func gf) #[] lb)(eg:EntX P gf)
  {encs:α->Array Value} {Kp:World->World->Prop} {xs:List α} {v0:World} {sf:TypeId->Bool} (hseq:SeqS sf mn P gf lb encs Kp xs v0)
  (hKt:∀{A B C:World},Kp A B->Kp B C->Kp A C) (hKb:∀(W:World) (l:Nat) (o o':Obj),v.heap.size<=l->W.heap[l]?=some o->o.isCells=false->o.isWalk=false->Kp W (W.putObj l o')) (hKg:∀{A B:World},Ge A B->Kp A B) (hb0:Ge v0 v)
  (I:List α->World->Prop) (Ix:Code->List α->World->Prop) (hps:∀pre x W,I pre W->pre++[x] <+: xs->(encs x).size=ps.size) (hI:OwnFrom v.heap.size I) (hIx:∀c,OwnFrom v.heap.size (Ix c)) (h0:I [] v) (A₁:List α->α->World->Act->World->Prop) (hA₁:∀{pre:List α} {x:α} {W0:World} {a:Act} {w w':World},A₁ pre x W0 a w->Ge w w'->A₁ pre x W0 a w') (hA₂:∀{pre:List α} {x:α} {W0:World} {a:Act} {w:World},A₁ pre x W0 a w->Ge W0 w)
  (hassign:∀(l:Nat) (pre:List α) (x:α) (W:World),I pre W->pre++[x] <+: xs->WpX mn (some l) P assign (Exit.then (A₁ pre x W) λ_ _ _=>False) { tmps:=(ps.zip (encs x)).foldl (λt (p,v)=>t.setIfInBounds p v) a.tmps,defers:=[] } W)
  (hbody:∀(l:Nat) (pre:List α) (x:α) (W0 W:World) (a1:Act) (r0 r1:Loop),v.heap.size<=l->W0.heap[l]?=some (.loop r0)->I pre W0->pre++[x] <+: xs->A₁ pre x W0 a1 W->WpX mn (some l) P body (ownPostX sf v.heap.size Kp I Ix (pre++[x]) (W0.putObj l (.loop r1))) a1 (W.putObj l (.loop r1)))
  (hdone:∀(D:Nat) (W:World),v.heap.size<=D->I xs W->W.heap[D]?=some (.deferred (some []))->Q .normal { a with defers:={ target:=.collected D,args:=#[] }::a.defers } W)
  (hstop:∀(D:Nat) (c:Code) (pre:List α) (W:World),v.heap.size<=D->pre <+: xs->Ix c pre W->W.heap[D]?=some (.deferred (some []))->WpX mn none P c Q { a with defers:={ target:=.collected D,args:=#[] }::a.defers } W) :
  WpX mn none P (.rangeFunc g ps assign body) Q a v:=λPr hC b hb hkd k cs G w hf hv hQ=>by
 refine hC.step G w _ hf rfl λw₁ hr₁=> ?_
 have hf₁:=hf.rely hr₁;have hv₁:Ge v (view G w₁):=hv.trans (hr₁.view hf);generalize hvd:view G w₁=v₁ at hv₁;have hszv:v.heap.size<=v₁.heap.size:=hv₁.size
 -- the record of this loop, in whatever state
 let mk:LoopState->Option Code->Obj:=λst pe=>.loop { state:=st,pending:=pe,fn:=b.fn,tmps:=a.tmps,params:=ps,assign,body,defers:=v₁.heap.size }
 let W1:World:=(v₁.alloc (.deferred (some []))).alloc (mk .ready none)
 have hsz:W1.heap.size=v₁.heap.size+2:=by simp[W1]
 have hL1:W1.heap[v₁.heap.size+1]?=some (mk .ready none):=by
  have:=World.alloc_heap_new (v₁.alloc (.deferred (some []))) (mk .ready none)
  rwa [World.size_alloc]at this
 have hD1:W1.heap[v₁.heap.size]?=some (.deferred (some [])):=
  (Below.heap_alloc (v₁.alloc (.deferred (some []))) _ _ (by simp)).trans (World.alloc_heap_new v₁ _)
 have hgW:Ge v₁ W1:=((Below.refl _ v₁).alloc (Nat.le_refl _) _).alloc (by simp) _;obtain⟨w₂,es,e1,e2,e3⟩:=tr_enterLoop (P:=P) b.fn a.tmps ps assign body G w₁ hf₁ hvd #[];have hcx:(do let d <- resolve a.eval { callee:=.value g,args:=#[.const (.func (.yield (v₁.heap.size+1)) #[] #[])],argTypes:=#[] } 0;invoke d.target d.args:Sem Next)=callFunc gf (#[.func (.yield (v₁.heap.size+1)) #[] #[]]++lb):=by
  simp only[resolve,hg,Deferred.ofValue]
  show callFunc gf _=_
  congr 1;rw[<- Array.toList_inj];simp[Act.eval]
 have hf₂:=hf₁.did e3;obtain⟨w₃,es₃,q1,q2,q3⟩:=(eg.2 (#[.func (.yield (v₁.heap.size+1)) #[] #[]]++lb)).tr (eg.1 _ W1) (G.grow w₁.heap.size w₂.heap.size) w₂ hf₂ e2.symm #[];refine⟨_,w₃,_,sg_rangeFunc hb hkd e1 (by rw[hcx];exact q1),?_,?_⟩
 ·have:=did_trans (G:=G) (a:=w₁) (b:=w₂) (c:=w₃) (e3.seen (P:=P) b.fn) (q3.seen (P:=P) b.fn)
  simpa using this
 rw[<- Gh.grow_grow G e3.size q3.size]
 -- what lies in the two blocks abides the iterator's turns
 have hkeep:∀{A B:World} {row:Option Nat} {k:Nat} {o:Obj},A.grownBy B row->(∀r,row=some r->W1.heap.size<=r/\∃o:Obj,A.heap[r]?=some o/\o.isCells=false)->k<W1.heap.size->A.heap[k]?=some o->B.heap[k]?=some o:=
  λhg' hr hk h=>(hg'.block _ (Array.getElem?_eq_some_iff.1 h).1 (λe=>by have:=(hr _ e.symm).1;omega)).trans h
 have hown:∀{J:List α->World->Prop},OwnFrom v.heap.size J->OwnFrom W1.heap.size J:=λh=>ownFrom_later h (by omega)
 refine hseq (v₁.heap.size+1)
  (λpre W=>I pre W/\W.heap[v₁.heap.size+1]?=some (mk .ready none)/\W.heap[v₁.heap.size]?=some (.deferred (some [])))
  (λpre W=>∃c,Ix c pre W/\W.heap[v₁.heap.size+1]?=some (mk .done (some c))/\W.heap[v₁.heap.size]?=some (.deferred (some [])))
  W1 ((hb0.trans hv₁).trans hgW)
  (λs A B row hs hg' hr=>⟨hown hI s A B row hs.1 hg' hr,hkeep hg' hr (by omega) hs.2.1,hkeep hg' hr (by omega) hs.2.2⟩)
  (λs A B row ⟨c,hc,hl,hk⟩ hg' hr=>⟨c,hown (hIx c) s A B row hc hg' hr,hkeep hg' hr (by omega) hl,hkeep hg' hr (by omega) hk⟩)
  ?_ ⟨OwnFrom.ge hI h0 (hv₁.trans hgW),hL1,hD1⟩ Pr hC _ _ w₃ (hf₂.did q3) (q2 ▸ .refl _) ?_
 ·rintro pre x V1 ⟨hi,hl,hk⟩ hpre hle v₂ hg₂;have hi₂:=OwnFrom.ge hI hi hg₂;have hl₂:=hg₂.at hl;refine⟨b.fn,_,assign,body,tr_yield (P:=P) (args:=encs x) hl₂ (hps pre x V1 hi hpre),?_⟩;refine roundX_of (A₁:=A₁ pre x v₂) hA₁ (hassign _ pre x v₂ hi₂ hpre) (λa W hW=>⟨_,(hA₂ hW).at hl₂,rfl⟩) λa₁ W r hWa hr=> ?_
  have hW:=hA₂ hWa;have hlW:=hW.at hl₂;rw[hlW]at hr;cases hr;have hk₂:=hg₂.at hk;have hlt:v₁.heap.size+1<v₂.heap.size:=(Array.getElem?_eq_some_iff.1 hl₂).1;have hl2:(v₂.putObj (v₁.heap.size+1) (mk .busy none)).heap[v₁.heap.size+1]?=some (mk .busy none):=World.putObj_heap_same hlt;have hk2:(v₂.putObj (v₁.heap.size+1) (mk .busy none)).heap[v₁.heap.size]?=some (.deferred (some [])):=(World.putObj_heap_other (by omega)).trans hk₂;have hw2:Kp V1 (v₂.putObj (v₁.heap.size+1) (mk .busy none)):=hKt (hKg hg₂) (hKb _ _ _ _ (by omega) hl₂ rfl rfl);have hgV:KeepsS sf W1.heap.size V1 v₂:=KeepsS.of_ge hg₂;refine WpX.mono (hbody _ pre x v₂ W a₁ _ _ (by omega) hl₂ hi₂ hpre hWa) ?_;have fin:∀(jump:Option Code) (W3 W4:World),KeepsS sf v.heap.size (v₂.putObj (v₁.heap.size+1) (mk .busy none)) W3->Ge W3 W4->∃W5,W5=W4.putObj (v₁.heap.size+1) (mk (if jump.isNone then .ready else .done) jump) /\
    W4.heap[v₁.heap.size+1]?=some (mk .busy none)/\W5.heap[v₁.heap.size+1]?=some (mk (if jump.isNone then .ready else .done) jump)/\W5.heap[v₁.heap.size]?=some (.deferred (some []))/\KeepsS sf W1.heap.size V1 W5:=λjump W3 W4 hk3 hg4=>by
   have hl3:=hg4.at (hk3.at (by omega) hl2);exact⟨_,rfl,hl3,World.putObj_heap_same (Array.getElem?_eq_some_iff.1 hl3).1,(World.putObj_heap_other (by omega)).trans (hg4.at (hk3.at (by omega) hk2)),
    ((hgV.trans (KeepsS.put v₂ _ _ (by omega))).trans ((hk3.later (by omega)).trans (KeepsS.of_ge hg4))).trans (KeepsS.put W4 _ _ (by omega))⟩
  rintro e a3 W3 hp;cases e with
  |normal=>obtain⟨hk3,hkp3,hi3⟩:=hp;refine⟨none,.inl ⟨rfl,rfl⟩,λW4 hg4=> ?_⟩;obtain⟨W5,rfl,hl3,hl4,hk4,hK⟩:=fin none W3 W4 hk3 hg4;exact⟨_,hl3,.inl ⟨rfl,⟨hI.putObj _ (OwnFrom.ge hI hi3 hg4) (by omega) hl3 rfl,hl4,hk4⟩,hKt (hKt hw2 (hKt hkp3 (hKg hg4))) (hKb _ _ _ _ (by omega) hl3 rfl rfl),hK⟩⟩
  |ret=>obtain⟨hk3,hi3⟩:=hp;refine⟨some .ret,.inr (.inl ⟨rfl,rfl⟩),λW4 hg4=> ?_⟩;obtain⟨W5,rfl,hl3,hl4,hk4,hK⟩:=fin (some .ret) W3 W4 hk3 hg4;exact⟨_,hl3,.inr ⟨rfl,⟨.ret,(hIx _).putObj _ (OwnFrom.ge (hIx _) hi3 hg4) (by omega) hl3 rfl,hl4,hk4⟩,hK⟩⟩
  |exit id=>obtain⟨hk3,hi3⟩:=hp;refine⟨some (.exit id),.inr (.inr (.inl ⟨id,rfl,rfl⟩)),λW4 hg4=> ?_⟩;obtain⟨W5,rfl,hl3,hl4,hk4,hK⟩:=fin (some (.exit id)) W3 W4 hk3 hg4;exact⟨_,hl3,.inr ⟨rfl,⟨.exit id,(hIx _).putObj _ (OwnFrom.ge (hIx _) hi3 hg4) (by omega) hl3 rfl,hl4,hk4⟩,hK⟩⟩
  |goto t=>obtain⟨hk3,hi3⟩:=hp;refine⟨some (.goto t),.inr (.inr (.inr ⟨t,rfl,rfl⟩)),λW4 hg4=> ?_⟩;obtain⟨W5,rfl,hl3,hl4,hk4,hK⟩:=fin (some (.goto t)) W3 W4 hk3 hg4;exact⟨_,hl3,.inr ⟨rfl,⟨.goto t,(hIx _).putObj _ (OwnFrom.ge (hIx _) hi3 hg4) (by omega) hl3 rfl,hl4,hk4⟩,hK⟩⟩
  |panic ch=>exact hp.elim
  |outgrown=>exact hp.elim
 ·intro V2' fr hfn hleave G' w' hf' hv'
  -- the iterator leaves
  refine hC.step G' w' _ hf' rfl λw₄ hr₄=> ?_
  obtain⟨hm,hdf,hkf,fn,hfun,hres⟩:=hleave;obtain⟨r,ht,hpost⟩:=hres (view G' w₄) (hv'.trans (hr₄.view hf'));obtain⟨w₅,es₅,s1,s2,s3⟩:=ht G' w₄ (hf'.rely hr₄) rfl #[];refine⟨_,w₅,_,sg_leave hm hdf hkf hfun s1,by simpa using s3.seen fr.fn,?_⟩;rw[finish_inRangeFunc];have hf₅:=(hf'.rely hr₄).did s3;have hg₅:Ge (view G' w₄) (view (G'.grow w₄.heap.size w₅.heap.size) w₅):=by rw[<- s2];exact Ge.refl _
  generalize view G' w₄=V2 at hg₅ hpost;generalize G'.grow w₄.heap.size w₅.heap.size=G₅ at hf₅ hg₅;refine hC.step G₅ w₅ _ hf₅ rfl λw₆ hr₆=> ?_
  have hf₆:=hf₅.rely hr₆;have hg₆:=hg₅.trans (hr₆.view hf₅);rcases hpost with ⟨hi,hl,hk⟩ | ⟨pre,hpre,c,hi,hl,hk⟩
  ·obtain⟨w₇,es₇,t1,t2,t3⟩:=tr_endLoop (P:=P) (hg₆.at hl) (by simp) G₅ w₆ hf₆ rfl #[];refine⟨_,w₇,_,sg_endRangeFunc t1,by simpa using t3.seen b.fn,?_⟩;refine hQ .normal _ _ (hdone v₁.heap.size _ hszv (hI.putObj _ (OwnFrom.ge hI hi hg₆) (by omega) (hg₆.at hl) rfl) ((World.putObj_heap_other (by omega)).trans (hg₆.at hk))) _ w₇ (hf₆.did t3) (by rw[<- t2];exact Ge.refl _)
  ·obtain⟨w₇,es₇,t1,t2,t3⟩:=tr_endLoop (P:=P) (hg₆.at hl) (by simp) G₅ w₆ hf₆ rfl #[];refine⟨_,w₇,_,sg_endRangeFunc t1,by simpa using t3.seen b.fn,?_⟩;exact hstop v₁.heap.size c pre _ hszv hpre ((hIx c).putObj _ (OwnFrom.ge (hIx c) hi hg₆) (by omega) (hg₆.at hl) rfl) ((World.putObj_heap_other (by omega)).trans (hg₆.at hk)) Pr hC b hb hkd k cs _ w₇ (hf₆.did t3) (by rw[<- t2];exact Ge.refl _) hQ
theorem wpX_rangeFunc_V{α:Type}{g:Operand}{ps:Array Tmp}{assign body:Code}{Q:Exit->Act->World->Prop}{a:Act}{v:World}{gf:Nat}{lb:Array Value}(hg:a.eval g=.func (.func gf) #[] lb)(eg:EntX P gf)
  {encs:α->Array Value} {Kp:World->World->Prop} {xs:List α} {v0:World} {sf:TypeId->Bool} (hseq:SeqS sf mn P gf lb encs Kp xs v0)
  (hKt:∀{A B C:World},Kp A B->Kp B C->Kp A C) (hKb:∀(W:World) (l:Nat) (o o':Obj),v.heap.size<=l->W.heap[l]?=some o->o.isCells=false->o.isWalk=false->Kp W (W.putObj l o')) (hKg:∀{A B:World},Ge A B->Kp A B) (hb0:Ge v0 v)
  (I:List α->World->Prop) (Ix:Code->List α->World->Prop) (hps:∀pre x W,I pre W->pre++[x] <+: xs->(encs x).size=ps.size) (hI:OwnFrom v.heap.size I) (hIx:∀c,OwnFrom v.heap.size (Ix c)) (h0:I [] v) (a₁:α->Act)
  (hassign:∀(l:Nat) (x:α) (W:World),WpX mn (some l) P assign (Exit.then (λa w=>a=a₁ x/\Ge W w) λ_ _ _=>False) { tmps:=(ps.zip (encs x)).foldl (λt (p,v)=>t.setIfInBounds p v) a.tmps,defers:=[] } W)
  (hbody:∀(l:Nat) (pre:List α) (x:α) (W:World),v.heap.size<=l->(∃r,W.heap[l]?=some (.loop r))->I pre W->pre++[x] <+: xs->WpX mn (some l) P body (ownPostX sf v.heap.size Kp I Ix (pre++[x]) W) (a₁ x) W)
  (hdone:∀(D:Nat) (W:World),v.heap.size<=D->I xs W->W.heap[D]?=some (.deferred (some []))->Q .normal { a with defers:={ target:=.collected D,args:=#[] }::a.defers } W)
  (hstop:∀(D:Nat) (c:Code) (pre:List α) (W:World),v.heap.size<=D->pre <+: xs->Ix c pre W->W.heap[D]?=some (.deferred (some []))->WpX mn none P c Q { a with defers:={ target:=.collected D,args:=#[] }::a.defers } W) :
  WpX mn none P (.rangeFunc g ps assign body) Q a v:=
 wpX_rangeFunc_A hg eg hseq hKt hKb hKg hb0 I Ix hps hI hIx h0 (λ_ x W0 a w=>a=a₁ x/\Ge W0 w) (λh hg=>⟨h.1,h.2.trans hg⟩) (λh=>h.2) (λl _ x W _ _=>hassign l x W)
  (fun l pre x W0 W a1 r0 r1 hl h0 hi hpre ⟨e,hg⟩=>by
   subst e;have hlW:=hg.at h0;have hlt:=(Array.getElem?_eq_some_iff.1 hlW).1;have hgp:Ge (W0.putObj l (.loop r1)) (W.putObj l (.loop r1)):=ge_put hg (Array.getElem?_eq_some_iff.1 h0).1;refine(hbody l pre x _ hl ⟨_,World.putObj_heap_same hlt⟩ (hI.putObj _ (OwnFrom.ge hI hi hg) hl hlW rfl) hpre).mono ?_;intro e a' w' hp;cases e with
   |normal=>exact⟨(KeepsS.of_ge hgp).trans hp.1,hKt (hKg hgp) hp.2.1,hp.2.2⟩
   |ret=>exact⟨(KeepsS.of_ge hgp).trans hp.1,hp.2⟩
   |exit id=>exact⟨(KeepsS.of_ge hgp).trans hp.1,hp.2⟩
   |goto t=>exact⟨(KeepsS.of_ge hgp).trans hp.1,hp.2⟩
   |panic ch=>exact hp.elim
   |outgrown=>exact hp.elim) hdone hstop
end
end
end Go.Proofs.Ytnhilgpdgicgfaa.Vc
