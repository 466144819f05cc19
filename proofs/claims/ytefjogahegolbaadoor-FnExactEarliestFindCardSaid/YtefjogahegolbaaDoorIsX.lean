/- errors.Is of two errors that are variables of the program's, in company: Go's text walked. -/
import Derived.Test.YtefjogahegolbaaDoorChecked
import Derived.Test.YtefjogahegolbaaDoorVcG
import Derived.LaidEql
import Derived.Stop.Asserts
set_option linter.unusedVariables false
set_option linter.unusedSimpArgs false
open _root_.List renaming replicate->jA
open _root_.Nat renaming le_of_ble_eq_true->jB
namespace Go.Proofs.YtefjogahegolbaaDoor
open Tryd (f36 f57)
open Go.RowKit Go.Conc Ve Vc
open Tryd renaming prog -> PZ
set_option maxRecDepth 100000
set_option maxHeartbeats 1000000
variable {mn:Md}
abbrev pV(a:Addr):Value:=.iface 140 (.pointer (some a))
def act(l:List Value):Act:={ tmps:=l.toArray,defers:=[] }
def lput(l:List Value):Option Nat->Value->List Value
 |some d,v=>l.set d v
 |none,_=>l
theorem Yf5(l:List Value)(d:Option Nat)(v:Value):(act l).put d v=act (lput l d v):=by cases d with|none=>rfl|some d=>unfold act lput Act.put;simp
theorem geC{v v':World}(hg:Ge v v'){k:Nat}{c:Array Value}{t:TypeId}{fr:Nat×Nat}(h:v.heap[k]?=some (.cells c t fr)):v'.heap[k]?=some (.cells c t fr):=(hg.block k (Array.getElem?_eq_some_iff.1 h).1).trans h
def notD(o:Oper):Bool:=match o.op with | .defer _=>false|_=>true
theorem notD_ne{o:Oper}(h:notD o=true):∀c,o.op ≠ .defer c:=λc e=>by unfold notD at h;rw[e]at h;cases h
section
variable {P:Program} {ops:Array Oper} {K:Act->World->Prop} {i:Nat} {rest:List Nat} {l l':List Value} {v:World} {o:Oper} {vv:Value} {I:World->Prop}
theorem Yi9{α:Type}{s:Sem α}{v:World}{r:α}(h:∀w es,s.runT P w es=(.ok r w,es)):Tr P s v r v:=λG w hf hv es=>
 ⟨w,#[],by rw[h];simp,by rw[Gh.grow_self];exact hv.symm,.refl _ _⟩
theorem rP{α:Type}{s:Sem α}{r:α}(h:∀w es,s.runT P w es=(.ok r w,es))(v:World)(_:I v):Tr P s v r v:=Yi9 h
theorem Ycq{α:Type}{s:Sem α}{v:World}{r:α}(f:FuncId)(h:∀w es,s.runT P w es=(.ok r w,es.push ⟨.mark (.extern f),false,true⟩)):Tr P s v r v:=λG w hf hv es=>
 ⟨w,#[⟨.mark (.extern f),false,true⟩],by rw [h];simp,by rw [Gh.grow_self];exact hv.symm,rfl,rfl,rfl,Nat.le_refl _,fun _ _ _=>rfl,fun e he=>by
  simp at he;subst he;exact .inr (.inr (.inl ⟨_,rfl,.inr ⟨f,rfl⟩⟩))⟩
theorem Zaq(d:Nat)(hI:∀v v₁,I v->Ge v v₁->I v₁)(ho:ops[i]?=some o)(hw:Region.wanted o (yielded ops (act l).tmps)=true)(hd:notD o=true)(hdst:o.dst=some d)(hr:∀v,I v->Tr P (execOp (act l).eval o) v (.value vv) v)(hv:I v)
  (h:∀v,I v->OpsX mn P ops K rest (act (l.set d vv)) v):OpsX mn P ops K (i::rest) (act l) v:=by
 unfold OpsX OpIX;rw[ho];dsimp only;rw[if_pos hw];exact⟨notD_ne hd,λv₁ h₁=>.inl ⟨vv,v₁,hr v₁ (hI _ _ hv h₁),by rw[Yf5,hdst];exact h v₁ (hI _ _ hv h₁)⟩⟩
theorem Ygo(d:Nat)(hI:∀v v₁,I v->Ge v v₁->I v₁)(ho:ops[i]?=some o){c:Call}{y:Operand}(hc:o.op=.call c)(hy:c.callee=.value y){f:FuncId}{args:Array Value}(hf:(act l).eval y=.func (.func f) #[] #[])(he:EntX P f)(ha:c.args.map (act l).eval=args)
  (hr:∀v,I v->Ua4 mn P f args v λr v'=>r=vv/\Ge v v') (hv:I v) (hg:o.guard=none) (hdst:o.dst=some d)
  (h:∀v,I v->OpsX mn P ops K rest (act (l.set d vv)) v):OpsX mn P ops K (i::rest) (act l) v:=
 Zjr ho hg (Zyc (R:=λr v'=>r=vv/\Ge v v') hc hy hf he ha (λv₁ h₁=>(hr v₁ (hI _ _ hv h₁)).mono λr v' q=>⟨q.1,h₁.trans q.2⟩) λr v' q=>by
  obtain⟨rfl,q⟩:=q;rw[Yf5,hdst];exact h v' (hI _ _ hv q))
theorem Zdz{ro:Option Nat}{c:Code}{Q:Exit->Act->World->Prop}(e:act l=act l')(h:WpX mn ro P c Q (act l') v):WpX mn ro P c Q (act l) v:=e ▸ h
theorem Yct(d:Nat)(ho:ops[i]?=some o)(hw:Region.wanted o (yielded ops (act l).tmps)=false)(hdst:o.dst=some d)(h:OpsX mn P ops K rest (act (l.set d undef)) v):OpsX mn P ops K (i::rest) (act l) v:=by unfold OpsX OpIX;rw[ho];dsimp only;rw[if_neg (by rw[hw];decide),Yf5,hdst];exact h
end
theorem runT_b{α β:Type}(P:Program)(x:Sem α)(f:α->Sem β)(w:World)(es:Array Event):(x >>= f).runT P w es=match x.runT P w es with|(.ok a w',es')=>(f a).runT P w' es'|(.halt h w',es')=>(.halt h w',es'):=Sem.runT_bind' P x f w es
theorem Yjc{α:Type}(P:Program)(x:α)(w:World)(es:Array Event):(pure x:Sem α).runT P w es=(.ok x w,es):=rfl
theorem runT_m{α β:Type}(P:Program)(x:Sem α)(f:α->β)(w:World)(es:Array Event):(f <$> x).runT P w es=match x.runT P w es with|(.ok a w',es')=>(.ok (f a) w',es')|(.halt h w',es')=>(.halt h w',es'):=(Sem.runT_bind' P x (λa=>pure (f a)) w es).trans (by cases x.runT P w es with|mk r es'=>cases r<;>rfl)
theorem Yik(P:Program)(a:Addr)(w:World)(es:Array Event):(sameAddr a a).runT P w es=(.ok true w,es):=by simp[sameAddr,Yjc,-Sem.runT_eq]
theorem Yfl(P:Program){a b:Addr}{ca cb:Array Value}{ta tb:TypeId}(w:World)(es:Array Event)(hne:a≠b)(ha:w.heap[a.block]?=some (.cells ca ta (0,0)))(hb:w.heap[b.block]?=some (.cells cb tb (0,0))):
  (sameAddr a b).runT P w es=(.ok false w,es):=by
 by_cases hbl:a.block=b.block
 ·simp[sameAddr,hbl,hne,Yjc,-Sem.runT_eq]
 ·simp[sameAddr,hbl,World.frozen?,ha,hb,noView,viewAt,World.shape?,mayBeOne,stringish,Sem.runT,runT_b,Yjc,runT_m,frozen,shape,-Sem.runT_eq]
theorem eql_T{b:Bool}{x y:Addr}{ρ:Operand->Value}{o:Oper}{X Y:Operand}{t2:TypeId}(ho:o.op=.binOp .eql 49 X Y t2)(hx:ρ X=.iface 140 (.pointer (some x)))(hy:ρ Y=.iface 140 (.pointer (some y)))(w:World)(es:Array Event)
  (h:(sameAddr x y).runT PZ w es=(.ok b w,es)):(execOp ρ o).runT PZ w es=(.ok (.value (.bool b)) w,es):=by
 have h1:(Op.equal 49 (.iface 140 (.pointer (some x))) (.iface 140 (.pointer (some y)))).runT PZ w es=(.ok b w,es):=Eq.trans (b:=(sameAddr x y).runT PZ w es) (by kernel_rfl) h;have h2:(binOp .eql 49 (.iface 140 (.pointer (some x))) (.iface 140 (.pointer (some y)))).runT PZ w es=(.ok (.bool b) w,es):=by
  show (Sem.bind (Op.equal 49 (.iface 140 (.pointer (some x))) (.iface 140 (.pointer (some y)))) λb=>Sem.pure (Value.bool b)).runT PZ w es=_
  rw[Sem.runT_bind',h1];rfl
 have h3:execOp ρ o=Sem.bind (Sem.bind (eqGuard .eql 49 X Y (.iface 140 (.pointer (some x))) (.iface 140 (.pointer (some y)))) λ_=>binOp .eql 49 (.iface 140 (.pointer (some x))) (.iface 140 (.pointer (some y)))) λr=>Sem.pure (Next.value r):=by unfold execOp;rw[ho];dsimp only;rw[hx,hy];rfl
 have h4:(eqGuard .eql 49 X Y (.iface 140 (.pointer (some x))) (.iface 140 (.pointer (some y)))).runT PZ w es=(.ok () w,es):=rfl;rw[h3,Sem.runT_bind',Sem.runT_bind',h4];dsimp only;rw[h2];rfl
theorem Zuf{P:Program}(x:Value)(xT t:TypeId):Simple P (Instr.typeAssert x xT t true):=by
 unfold Instr.typeAssert;refine .bind (Za6 t) λd=> ?_
 repeat' first|exact .pure _|exact Zvv _|refine .bind (Zc4 _) λ_=> ?_|refine .bind (Zcp _) λ_=> ?_|split
theorem Yc9{P:Program}{ρ:Operand->Value}{o:Oper}{X:Operand}{xT t tp:TypeId}{vv z:Value}{want:Array (String×TypeId)}(ho:o.op=.typeAssert X xT t true)(hx:ρ X=.iface tp vv)(hu:P.underlying t=some (.interface want))(h:(P.info? tp).map (λi=>(lacking want i.methods).isEmpty)=some false)
  (hz:(P.info? t).map (·.zero)=some (some z)) (v:World):Tr P (execOp ρ o) v (.value (.tuple #[z,.bool false])) v:=by
 have e:execOp ρ o=Instr.typeAssert (.iface tp vv) xT t true >>= λr=>pure (Next.value r):=by unfold execOp;rw[ho];dsimp only;rw[hx]
 rw[e];exact((Zuf _ _ _).bind λ_=>.pure _).tr (by rw[Sem.run_bind,run_typeAssert_lacksB hu h hz];rfl)
section
variable {x y:Addr} {ρ:Operand->Value} {o:Oper} {X Y:Operand} {t2:TypeId}
theorem eql_same(ho:o.op=.binOp .eql 49 X Y t2)(hx:ρ X=.iface 140 (.pointer (some x)))(hy:ρ Y=.iface 140 (.pointer (some x)))(v:World):Tr PZ (execOp ρ o) v (.value (.bool true)) v:=
 Yi9 λw es=>eql_T ho hx hy w es (Yik _ x w es)
theorem Yeb{G:Gh}{w:World}{k:Nat}{c:Array Value}{t:TypeId}(h:(view G w).heap[k]?=some (.cells c t (0,c.size+1))):w.heap[k]?=some (.cells c t (0,0)):=by
 rw[Zec]at h;obtain⟨o',h2,h3⟩:=Option.map_eq_some_iff.1 h
 by_cases hm:G.M k
 ·rw[Uc1 hm]at h3;have:=Yee h3;unfold marked at this;simp at this
 ·by_cases hs:G.S k
  ·rw[Uc2 hm hs]at h3;rw[h2,frz_open h3]
  ·rw[Ude hm hs]at h3;cases hF:G.F k with
   |none=>rw[hF]at h3;unfold dead at h3;injection h3 with q1 q2 q3;subst q1;injection q3 with _ q4;simp at q4
   |some x=>rw[hF]at h3;unfold prom at h3;cases h3
theorem Yjr{ca cb:Array Value}{ta tb:TypeId}{v:World}(ho:o.op=.binOp .eql 49 X Y t2)(hx:ρ X=.iface 140 (.pointer (some x)))(hy:ρ Y=.iface 140 (.pointer (some y)))(hne:x≠y)(ha:v.heap[x.block]?=some (.cells ca ta (0,ca.size+1)))(hb:v.heap[y.block]?=some (.cells cb tb (0,cb.size+1))):
  Tr PZ (execOp ρ o) v (.value (.bool false)) v:=λG w hf hv es=>by
 subst hv;exact⟨w,#[],by rw[eql_T ho hx hy w es (Yfl _ w es hne (Yeb ha) (Yeb hb))];simp,by rw[Gh.grow_self],.refl _ _⟩
end
theorem is_sameX(a:Addr)(v:World):Ua4 mn PZ 57 #[(pV a),(pV a),(.bool true)] v λr v'=>r=.bool true/\Ge v v':=by
 refine Zfy (c:=codeOf f57) Tryd.func57 rfl ?_;rw[show ({ tmps:=#[(pV a),(pV a),(.bool true)]++Array.replicate (f57.ntmps - (#[(pV a),(pV a),(.bool true)]:Array Value).size) undef,defers:=[] }:Act)=act ([(pV a),(pV a),(.bool true)]++jA 51 undef) from by kernel_rfl];obtain⟨I,hI,h,hG⟩:∃I:World->Prop,(∀v v₁,I v->Ge v v₁->I v₁)/\I v/\∀v₁,I v₁->Ge v v₁:=⟨λw=>Ge v w,λ_ _ h k=>h.trans k,.refl v,λ_ h=>h⟩;refine Zan ?_;refine Zar ?_
 show OpsX mn _ _ _ [0] _ _
 refine Zaq 6 hI rfl (by kernel_rfl) rfl rfl (vv:=(.bool false)) (rP λw es=>by kernel_rfl) h λv h=> ?_
 show WpX mn none _ _ _ _ _
 refine Zdz (l':=([(pV a),(pV a),(.bool true)]++(jA 3 undef++([(.bool false)]++(jA 47 undef))):List Value)) (by kernel_rfl) ?_;refine Zdn ?_;refine Zbp 1 ?_
 show WpX mn none _ _ _ _ _
 refine Zdn ?_;refine Zan ?_;refine Zan ?_;refine Zar ?_
 show OpsX mn _ _ _ [0,1,2,3,4,5] _ _
 refine Zaq 14 hI rfl (by kernel_rfl) rfl rfl (vv:=(.bool true)) (rP λw es=>by kernel_rfl) h λv h=> ?_
 refine Zaq 15 hI rfl (by kernel_rfl) rfl rfl (vv:=(.bool true)) (rP λw es=>by kernel_rfl) h λv h=> ?_
 refine Zaq 16 hI rfl (by kernel_rfl) rfl rfl (vv:=(pV a)) (rP λw es=>by kernel_rfl) h λv h=> ?_
 refine Zaq 17 hI rfl (by kernel_rfl) rfl rfl (vv:=(pV a)) (rP λw es=>by kernel_rfl) h λv h=> ?_
 refine Zaq 18 hI rfl (by kernel_rfl) rfl rfl (vv:=(.bool true)) (λv _=>eql_same (x:=a) rfl (by kernel_rfl) (by kernel_rfl) v) h λv h=> ?_
 refine Zaq 19 hI rfl (by kernel_rfl) rfl rfl (vv:=(.bool true)) (rP λw es=>by kernel_rfl) h λv h=> ?_
 show WpX mn none _ _ _ _ _
 refine Zdz (l':=([(pV a),(pV a),(.bool true)]++(jA 3 undef++([(.bool false)]++(jA 7 undef++([(.bool true),(.bool true),(pV a),(pV a),(.bool true),(.bool true)]++(jA 34 undef))))):List Value)) (by kernel_rfl) ?_;refine Zdr (by kernel_rfl) ?_;refine Zan ?_;refine Zar ?_
 show OpsX mn _ _ _ [0] _ _
 refine Zaq 6 hI rfl (by kernel_rfl) rfl rfl (vv:=(.bool true)) (rP λw es=>by kernel_rfl) h λv h=> ?_
 show WpX mn none _ _ _ _ _
 refine Zdz (l':=([(pV a),(pV a),(.bool true)]++(jA 3 undef++([(.bool true)]++(jA 7 undef++([(.bool true),(.bool true),(pV a),(pV a),(.bool true),(.bool true)]++(jA 34 undef))))):List Value)) (by kernel_rfl) ?_;refine Zgo ?_;exact⟨.inr rfl,.inl ⟨rfl,λv₁ k=>⟨.bool true,by kernel_rfl,rfl,hG _ (hI _ _ h k)⟩⟩⟩
theorem Yk2{a b:Addr}{ca cb:Array Value}{ta tb:TypeId}(v:World)(hne:a≠b)(ha:v.heap[a.block]?=some (.cells ca ta (0,ca.size+1)))(hb:v.heap[b.block]?=some (.cells cb tb (0,cb.size+1))):Ua4 mn PZ 57 #[(pV a),(pV b),(.bool true)] v λr v'=>r=.bool false/\Ge v v':=by
 refine Zfy (c:=codeOf f57) Tryd.func57 rfl ?_;rw[show ({ tmps:=#[(pV a),(pV b),(.bool true)]++Array.replicate (f57.ntmps - (#[(pV a),(pV b),(.bool true)]:Array Value).size) undef,defers:=[] }:Act)=act ([(pV a),(pV b),(.bool true)]++jA 51 undef) from by kernel_rfl];have hI:∀w w₁,(Ge v w/\w.heap[a.block]?=some (.cells ca ta (0,ca.size+1))/\w.heap[b.block]?=some (.cells cb tb (0,cb.size+1)))->Ge w w₁->(Ge v w₁/\w₁.heap[a.block]?=some (.cells ca ta (0,ca.size+1))/\w₁.heap[b.block]?=some (.cells cb tb (0,cb.size+1))):=λw w₁ h k=>⟨h.1.trans k,geC k h.2.1,geC k h.2.2⟩
 have h:Ge v v/\v.heap[a.block]?=some (.cells ca ta (0,ca.size+1))/\v.heap[b.block]?=some (.cells cb tb (0,cb.size+1)):=⟨.refl v,ha,hb⟩;have hG:∀v₁,(Ge v v₁/\v₁.heap[a.block]?=some (.cells ca ta (0,ca.size+1))/\v₁.heap[b.block]?=some (.cells cb tb (0,cb.size+1)))->Ge v v₁:=λ_ h=>h.1
 refine Zan ?_;refine Zar ?_
 show OpsX mn _ _ _ [0] _ _
 refine Zaq 6 hI rfl (by kernel_rfl) rfl rfl (vv:=(.bool false)) (rP λw es=>by kernel_rfl) h λv h=> ?_
 show WpX mn none _ _ _ _ _
 refine Zdz (l':=([(pV a),(pV b),(.bool true)]++(jA 3 undef++([(.bool false)]++(jA 47 undef))):List Value)) (by kernel_rfl) ?_;refine Zdn ?_;refine Zbp 1 ?_
 show WpX mn none _ _ _ _ _
 refine Zdn ?_;refine Zan ?_;refine Zan ?_;refine Zar ?_
 show OpsX mn _ _ _ [0,1,2,3,4,5] _ _
 refine Zaq 14 hI rfl (by kernel_rfl) rfl rfl (vv:=(.bool true)) (rP λw es=>by kernel_rfl) h λv h=> ?_
 refine Zaq 15 hI rfl (by kernel_rfl) rfl rfl (vv:=(.bool true)) (rP λw es=>by kernel_rfl) h λv h=> ?_
 refine Zaq 16 hI rfl (by kernel_rfl) rfl rfl (vv:=(pV a)) (rP λw es=>by kernel_rfl) h λv h=> ?_
 refine Zaq 17 hI rfl (by kernel_rfl) rfl rfl (vv:=(pV b)) (rP λw es=>by kernel_rfl) h λv h=> ?_
 refine Zaq 18 hI rfl (by kernel_rfl) rfl rfl (vv:=(.bool false)) (λv h=>Yjr (x:=a) (y:=b) rfl (by kernel_rfl) (by kernel_rfl) hne h.2.1 h.2.2) h λv h=> ?_
 refine Zaq 19 hI rfl (by kernel_rfl) rfl rfl (vv:=(.bool false)) (rP λw es=>by kernel_rfl) h λv h=> ?_
 show WpX mn none _ _ _ _ _
 refine Zdz (l':=([(pV a),(pV b),(.bool true)]++(jA 3 undef++([(.bool false)]++(jA 7 undef++([(.bool true),(.bool true),(pV a),(pV b),(.bool false),(.bool false)]++(jA 34 undef))))):List Value)) (by kernel_rfl) ?_;refine Zay (by kernel_rfl) ?_;refine Zeb ?_
 show WpX mn none _ _ _ _ _
 refine Zdz (l':=([(pV a),(pV b),(.bool true)]++(jA 3 undef++([(.bool false)]++(jA 7 undef++([(.bool true),(.bool true),(pV a),(pV b),(.bool false),(.bool false)]++(jA 34 undef))))):List Value)) (by kernel_rfl) ?_;refine Zan ?_;refine Zan ?_;refine Zar ?_
 show OpsX mn _ _ _ [0,1,2,3,4,5,6] _ _
 refine Zaq 21 hI rfl (by kernel_rfl) rfl rfl (vv:=(pV a)) (rP λw es=>by kernel_rfl) h λv h=> ?_
 refine Zaq 22 hI rfl (by kernel_rfl) rfl rfl (vv:=(.tuple #[.nilIface,.bool false])) (λv _=>Yc9 (tp:=140) (vv:=.pointer (some a)) (z:=.nilIface) rfl (by kernel_rfl) Tryd.underlying120 (by kernel_rfl) (by kernel_rfl) v) h λv h=> ?_
 refine Zaq 20 hI rfl (by kernel_rfl) rfl rfl (vv:=(.tuple #[.nilIface,.bool false])) (rP λw es=>by kernel_rfl) h λv h=> ?_
 refine Zaq 23 hI rfl (by kernel_rfl) rfl rfl (vv:=.nilIface) (rP λw es=>by kernel_rfl) h λv h=> ?_
 refine Zaq 24 hI rfl (by kernel_rfl) rfl rfl (vv:=(.bool false)) (rP λw es=>by kernel_rfl) h λv h=> ?_
 refine Zaq 7 hI rfl (by kernel_rfl) rfl rfl (vv:=.nilIface) (rP λw es=>by kernel_rfl) h λv h=> ?_
 refine Zaq 8 hI rfl (by kernel_rfl) rfl rfl (vv:=(.bool false)) (rP λw es=>by kernel_rfl) h λv h=> ?_
 show WpX mn none _ _ _ _ _
 refine Zdz (l':=([(pV a),(pV b),(.bool true)]++(jA 3 undef++([(.bool false),.nilIface,(.bool false)]++(jA 5 undef++([(.bool true),(.bool true),(pV a),(pV b),(.bool false),(.bool false),(.tuple #[.nilIface,.bool false]),(pV a),(.tuple #[.nilIface,.bool false]),.nilIface,(.bool false)]++(jA 29 undef))))):List Value)) (by kernel_rfl) ?_;refine Zan ?_;refine Zar ?_
 show OpsX mn _ _ _ [0,1,2,3,4,5] _ _
 refine Zaq 25 hI rfl (by kernel_rfl) rfl rfl (vv:=(.bool false)) (rP λw es=>by kernel_rfl) h λv h=> ?_
 refine Zaq 26 hI rfl (by kernel_rfl) rfl rfl (vv:=(.bool false)) (rP λw es=>by kernel_rfl) h λv h=> ?_
 refine Yct 27 rfl (by kernel_rfl) rfl ?_;refine Yct 28 rfl (by kernel_rfl) rfl ?_;refine Yct 29 rfl (by kernel_rfl) rfl ?_;refine Zaq 30 hI rfl (by kernel_rfl) rfl rfl (vv:=(.bool false)) (rP λw es=>by kernel_rfl) h λv h=> ?_
 show WpX mn none _ _ _ _ _
 refine Zdz (l':=([(pV a),(pV b),(.bool true)]++(jA 3 undef++([(.bool false),.nilIface,(.bool false)]++(jA 5 undef++([(.bool true),(.bool true),(pV a),(pV b),(.bool false),(.bool false),(.tuple #[.nilIface,.bool false]),(pV a),(.tuple #[.nilIface,.bool false]),.nilIface,(.bool false),(.bool false),(.bool false)]++(jA 3 undef++([(.bool false)]++(jA 23 undef))))))):List Value)) (by kernel_rfl) ?_;refine Zay (by kernel_rfl) ?_;refine Zeb ?_
 show WpX mn none _ _ _ _ _
 refine Zdz (l':=([(pV a),(pV b),(.bool true)]++(jA 3 undef++([(.bool false),.nilIface,(.bool false)]++(jA 5 undef++([(.bool true),(.bool true),(pV a),(pV b),(.bool false),(.bool false),(.tuple #[.nilIface,.bool false]),(pV a),(.tuple #[.nilIface,.bool false]),.nilIface,(.bool false),(.bool false),(.bool false)]++(jA 3 undef++([(.bool false)]++(jA 23 undef))))))):List Value)) (by kernel_rfl) ?_;refine Zan ?_;refine Zar ?_
 show OpsX mn _ _ _ [0] _ _
 refine Zaq 31 hI rfl (by kernel_rfl) rfl rfl (vv:=(pV a)) (rP λw es=>by kernel_rfl) h λv h=> ?_
 show WpX mn none _ _ _ _ _
 refine Zdz (l':=([(pV a),(pV b),(.bool true)]++(jA 3 undef++([(.bool false),.nilIface,(.bool false)]++(jA 5 undef++([(.bool true),(.bool true),(pV a),(pV b),(.bool false),(.bool false),(.tuple #[.nilIface,.bool false]),(pV a),(.tuple #[.nilIface,.bool false]),.nilIface,(.bool false),(.bool false),(.bool false)]++(jA 3 undef++([(.bool false),(pV a)]++(jA 22 undef))))))):List Value)) (by kernel_rfl) ?_;refine Zdn ?_;refine Zan ?_;refine Zar ?_
 show OpsX mn _ _ _ [0,1,2] _ _
 refine Zaq 32 hI rfl (by kernel_rfl) rfl rfl (vv:=(.tuple #[.nilIface,.bool false])) (λv _=>Yc9 (tp:=140) (vv:=.pointer (some a)) (z:=.nilIface) rfl (by kernel_rfl) Tryd.underlying123 (by kernel_rfl) (by kernel_rfl) v) h λv h=> ?_
 refine Zaq 33 hI rfl (by kernel_rfl) rfl rfl (vv:=(.bool false)) (rP λw es=>by kernel_rfl) h λv h=> ?_
 refine Zaq 34 hI rfl (by kernel_rfl) rfl rfl (vv:=.nilIface) (rP λw es=>by kernel_rfl) h λv h=> ?_
 show WpX mn none _ _ _ _ _
 refine Zdz (l':=([(pV a),(pV b),(.bool true)]++(jA 3 undef++([(.bool false),.nilIface,(.bool false)]++(jA 5 undef++([(.bool true),(.bool true),(pV a),(pV b),(.bool false),(.bool false),(.tuple #[.nilIface,.bool false]),(pV a),(.tuple #[.nilIface,.bool false]),.nilIface,(.bool false),(.bool false),(.bool false)]++(jA 3 undef++([(.bool false),(pV a),(.tuple #[.nilIface,.bool false]),(.bool false),.nilIface]++(jA 19 undef))))))):List Value)) (by kernel_rfl) ?_;refine Zay (by kernel_rfl) ?_;refine Zan ?_;refine Zar ?_
 show OpsX mn _ _ _ [0,1,2] _ _
 refine Zaq 39 hI rfl (by kernel_rfl) rfl rfl (vv:=(.tuple #[.nilIface,.bool false])) (λv _=>Yc9 (tp:=140) (vv:=.pointer (some a)) (z:=.nilIface) rfl (by kernel_rfl) Tryd.underlying125 (by kernel_rfl) (by kernel_rfl) v) h λv h=> ?_
 refine Zaq 40 hI rfl (by kernel_rfl) rfl rfl (vv:=(.bool false)) (rP λw es=>by kernel_rfl) h λv h=> ?_
 refine Zaq 41 hI rfl (by kernel_rfl) rfl rfl (vv:=.nilIface) (rP λw es=>by kernel_rfl) h λv h=> ?_
 show WpX mn none _ _ _ _ _
 refine Zdz (l':=([(pV a),(pV b),(.bool true)]++(jA 3 undef++([(.bool false),.nilIface,(.bool false)]++(jA 5 undef++([(.bool true),(.bool true),(pV a),(pV b),(.bool false),(.bool false),(.tuple #[.nilIface,.bool false]),(pV a),(.tuple #[.nilIface,.bool false]),.nilIface,(.bool false),(.bool false),(.bool false)]++(jA 3 undef++([(.bool false),(pV a),(.tuple #[.nilIface,.bool false]),(.bool false),.nilIface]++(jA 4 undef++([(.tuple #[.nilIface,.bool false]),(.bool false),.nilIface]++(jA 12 undef))))))))):List Value)) (by kernel_rfl) ?_;refine Zay (by kernel_rfl) ?_;refine Zan ?_;refine Zar ?_
 show OpsX mn _ _ _ [0] _ _
 refine Zaq 13 hI rfl (by kernel_rfl) rfl rfl (vv:=(pV a)) (rP λw es=>by kernel_rfl) h λv h=> ?_
 show WpX mn none _ _ _ _ _
 refine Zdz (l':=([(pV a),(pV b),(.bool true)]++(jA 3 undef++([(.bool false),.nilIface,(.bool false)]++(jA 4 undef++([(pV a),(.bool true),(.bool true),(pV a),(pV b),(.bool false),(.bool false),(.tuple #[.nilIface,.bool false]),(pV a),(.tuple #[.nilIface,.bool false]),.nilIface,(.bool false),(.bool false),(.bool false)]++(jA 3 undef++([(.bool false),(pV a),(.tuple #[.nilIface,.bool false]),(.bool false),.nilIface]++(jA 4 undef++([(.tuple #[.nilIface,.bool false]),(.bool false),.nilIface]++(jA 12 undef))))))))):List Value)) (by kernel_rfl) ?_;refine Zan ?_;refine Zar ?_
 show OpsX mn _ _ _ [0] _ _
 refine Zaq 6 hI rfl (by kernel_rfl) rfl rfl (vv:=(.bool false)) (rP λw es=>by kernel_rfl) h λv h=> ?_
 show WpX mn none _ _ _ _ _
 refine Zdz (l':=([(pV a),(pV b),(.bool true)]++(jA 3 undef++([(.bool false),.nilIface,(.bool false)]++(jA 4 undef++([(pV a),(.bool true),(.bool true),(pV a),(pV b),(.bool false),(.bool false),(.tuple #[.nilIface,.bool false]),(pV a),(.tuple #[.nilIface,.bool false]),.nilIface,(.bool false),(.bool false),(.bool false)]++(jA 3 undef++([(.bool false),(pV a),(.tuple #[.nilIface,.bool false]),(.bool false),.nilIface]++(jA 4 undef++([(.tuple #[.nilIface,.bool false]),(.bool false),.nilIface]++(jA 12 undef))))))))):List Value)) (by kernel_rfl) ?_;refine Zgo ?_;exact⟨.inr rfl,.inl ⟨rfl,λv₁ k=>⟨.bool false,by kernel_rfl,rfl,hG _ (hI _ _ h k)⟩⟩⟩
theorem Is_sameX(a:Addr)(v:World):Ua4 mn PZ 36 #[(pV a),(pV a)] v λr v'=>r=.bool true/\Ge v v':=by
 refine Zfy (c:=codeOf f36) Tryd.func36 rfl ?_;rw[show ({ tmps:=#[(pV a),(pV a)]++Array.replicate (f36.ntmps - (#[(pV a),(pV a)]:Array Value).size) undef,defers:=[] }:Act)=act ([(pV a),(pV a)]++jA 20 undef) from by kernel_rfl];obtain⟨I,hI,h,hG⟩:∃I:World->Prop,(∀v v₁,I v->Ge v v₁->I v₁)/\I v/\∀v₁,I v₁->Ge v v₁:=⟨λw=>Ge v w,λ_ _ h k=>h.trans k,.refl v,λ_ h=>h⟩;refine Zan ?_;refine Zar ?_
 show OpsX mn _ _ _ [0] _ _
 refine Zaq 4 hI rfl (by kernel_rfl) rfl rfl (vv:=(.bool false)) (rP λw es=>by kernel_rfl) h λv h=> ?_
 show WpX mn none _ _ _ _ _
 refine Zdz (l':=([(pV a),(pV a)]++(jA 2 undef++([(.bool false)]++(jA 17 undef))):List Value)) (by kernel_rfl) ?_;refine Zan ?_;refine Zan ?_;refine Zar ?_
 show OpsX mn _ _ _ [0,1,2,3,4,5] _ _
 refine Zaq 6 hI rfl (by kernel_rfl) rfl rfl (vv:=(pV a)) (rP λw es=>by kernel_rfl) h λv h=> ?_
 refine Zaq 7 hI rfl (by kernel_rfl) rfl rfl (vv:=(.bool false)) (rP λw es=>by kernel_rfl) h λv h=> ?_
 refine Zaq 8 hI rfl (by kernel_rfl) rfl rfl (vv:=(.bool false)) (rP λw es=>by kernel_rfl) h λv h=> ?_
 refine Zaq 9 hI rfl (by kernel_rfl) rfl rfl (vv:=(pV a)) (rP λw es=>by kernel_rfl) h λv h=> ?_
 refine Zaq 10 hI rfl (by kernel_rfl) rfl rfl (vv:=(.bool false)) (rP λw es=>by kernel_rfl) h λv h=> ?_
 refine Zaq 11 hI rfl (by kernel_rfl) rfl rfl (vv:=(.bool false)) (rP λw es=>by kernel_rfl) h λv h=> ?_
 show WpX mn none _ _ _ _ _
 refine Zdz (l':=([(pV a),(pV a)]++(jA 2 undef++([(.bool false)]++(jA 1 undef++([(pV a),(.bool false),(.bool false),(pV a),(.bool false),(.bool false)]++(jA 10 undef))))):List Value)) (by kernel_rfl) ?_;refine Zay (by kernel_rfl) ?_;refine Zeb ?_
 show WpX mn none _ _ _ _ _
 refine Zdz (l':=([(pV a),(pV a)]++(jA 2 undef++([(.bool false)]++(jA 1 undef++([(pV a),(.bool false),(.bool false),(pV a),(.bool false),(.bool false)]++(jA 10 undef))))):List Value)) (by kernel_rfl) ?_;refine Zan ?_;refine Zar ?_
 show OpsX mn _ _ _ [0,1,2,3] _ _
 refine Zaq 15 hI rfl (by kernel_rfl) rfl rfl (vv:=(pV a)) (rP λw es=>by kernel_rfl) h λv h=> ?_
 refine Zaq 16 hI rfl (by kernel_rfl) rfl rfl (vv:=(.iface 118 (.agg #[.pointer (some ⟨5,140,none⟩)]))) (λv _=>Ycq 56 λw es=>by kernel_rfl) h λv h=> ?_
 refine Zaq 17 hI rfl (by kernel_rfl) rfl rfl (vv:=(.bool true)) (λv _=>Ycq 108 λw es=>by kernel_rfl) h λv h=> ?_
 refine Zaq 5 hI rfl (by kernel_rfl) rfl rfl (vv:=(.bool true)) (rP λw es=>by kernel_rfl) h λv h=> ?_
 show WpX mn none _ _ _ _ _
 refine Zdz (l':=([(pV a),(pV a)]++(jA 2 undef++([(.bool false),(.bool true),(pV a),(.bool false),(.bool false),(pV a),(.bool false),(.bool false)]++(jA 3 undef++([(pV a),(.iface 118 (.agg #[.pointer (some ⟨5,140,none⟩)])),(.bool true)]++(jA 4 undef))))):List Value)) (by kernel_rfl) ?_;refine Zan ?_;refine Zar ?_
 show OpsX mn _ _ _ [0,1,2,3,4] _ _
 refine Zaq 18 hI rfl (by kernel_rfl) rfl rfl (vv:=(pV a)) (rP λw es=>by kernel_rfl) h λv h=> ?_
 refine Zaq 19 hI rfl (by kernel_rfl) rfl rfl (vv:=(pV a)) (rP λw es=>by kernel_rfl) h λv h=> ?_
 refine Zaq 20 hI rfl (by kernel_rfl) rfl rfl (vv:=(.bool true)) (rP λw es=>by kernel_rfl) h λv h=> ?_
 refine Ygo 21 hI rfl (by rfl) (by rfl) (by kernel_rfl) (Zal (fn:=f57)) (by kernel_rfl) (λv h=>is_sameX a v) h (by rfl) (by rfl) λv h=> ?_
 refine Zaq 4 hI rfl (by kernel_rfl) rfl rfl (vv:=(.bool true)) (rP λw es=>by kernel_rfl) h λv h=> ?_
 show WpX mn none _ _ _ _ _
 refine Zdz (l':=([(pV a),(pV a)]++(jA 2 undef++([(.bool true),(.bool true),(pV a),(.bool false),(.bool false),(pV a),(.bool false),(.bool false)]++(jA 3 undef++([(pV a),(.iface 118 (.agg #[.pointer (some ⟨5,140,none⟩)])),(.bool true),(pV a),(pV a),(.bool true),(.bool true)])))):List Value)) (by kernel_rfl) ?_;refine Zgo ?_;exact⟨.inr rfl,.inl ⟨rfl,λv₁ k=>⟨.bool true,by kernel_rfl,rfl,hG _ (hI _ _ h k)⟩⟩⟩
theorem Yk1{a b:Addr}{ca cb:Array Value}{ta tb:TypeId}(v:World)(hne:a≠b)(ha:v.heap[a.block]?=some (.cells ca ta (0,ca.size+1)))(hb:v.heap[b.block]?=some (.cells cb tb (0,cb.size+1))):Ua4 mn PZ 36 #[(pV a),(pV b)] v λr v'=>r=.bool false/\Ge v v':=by
 refine Zfy (c:=codeOf f36) Tryd.func36 rfl ?_;rw[show ({ tmps:=#[(pV a),(pV b)]++Array.replicate (f36.ntmps - (#[(pV a),(pV b)]:Array Value).size) undef,defers:=[] }:Act)=act ([(pV a),(pV b)]++jA 20 undef) from by kernel_rfl];have hI:∀w w₁,(Ge v w/\w.heap[a.block]?=some (.cells ca ta (0,ca.size+1))/\w.heap[b.block]?=some (.cells cb tb (0,cb.size+1)))->Ge w w₁->(Ge v w₁/\w₁.heap[a.block]?=some (.cells ca ta (0,ca.size+1))/\w₁.heap[b.block]?=some (.cells cb tb (0,cb.size+1))):=λw w₁ h k=>⟨h.1.trans k,geC k h.2.1,geC k h.2.2⟩
 have h:Ge v v/\v.heap[a.block]?=some (.cells ca ta (0,ca.size+1))/\v.heap[b.block]?=some (.cells cb tb (0,cb.size+1)):=⟨.refl v,ha,hb⟩;have hG:∀v₁,(Ge v v₁/\v₁.heap[a.block]?=some (.cells ca ta (0,ca.size+1))/\v₁.heap[b.block]?=some (.cells cb tb (0,cb.size+1)))->Ge v v₁:=λ_ h=>h.1
 refine Zan ?_;refine Zar ?_
 show OpsX mn _ _ _ [0] _ _
 refine Zaq 4 hI rfl (by kernel_rfl) rfl rfl (vv:=(.bool false)) (rP λw es=>by kernel_rfl) h λv h=> ?_
 show WpX mn none _ _ _ _ _
 refine Zdz (l':=([(pV a),(pV b)]++(jA 2 undef++([(.bool false)]++(jA 17 undef))):List Value)) (by kernel_rfl) ?_;refine Zan ?_;refine Zan ?_;refine Zar ?_
 show OpsX mn _ _ _ [0,1,2,3,4,5] _ _
 refine Zaq 6 hI rfl (by kernel_rfl) rfl rfl (vv:=(pV a)) (rP λw es=>by kernel_rfl) h λv h=> ?_
 refine Zaq 7 hI rfl (by kernel_rfl) rfl rfl (vv:=(.bool false)) (rP λw es=>by kernel_rfl) h λv h=> ?_
 refine Zaq 8 hI rfl (by kernel_rfl) rfl rfl (vv:=(.bool false)) (rP λw es=>by kernel_rfl) h λv h=> ?_
 refine Zaq 9 hI rfl (by kernel_rfl) rfl rfl (vv:=(pV b)) (rP λw es=>by kernel_rfl) h λv h=> ?_
 refine Zaq 10 hI rfl (by kernel_rfl) rfl rfl (vv:=(.bool false)) (rP λw es=>by kernel_rfl) h λv h=> ?_
 refine Zaq 11 hI rfl (by kernel_rfl) rfl rfl (vv:=(.bool false)) (rP λw es=>by kernel_rfl) h λv h=> ?_
 show WpX mn none _ _ _ _ _
 refine Zdz (l':=([(pV a),(pV b)]++(jA 2 undef++([(.bool false)]++(jA 1 undef++([(pV a),(.bool false),(.bool false),(pV b),(.bool false),(.bool false)]++(jA 10 undef))))):List Value)) (by kernel_rfl) ?_;refine Zay (by kernel_rfl) ?_;refine Zeb ?_
 show WpX mn none _ _ _ _ _
 refine Zdz (l':=([(pV a),(pV b)]++(jA 2 undef++([(.bool false)]++(jA 1 undef++([(pV a),(.bool false),(.bool false),(pV b),(.bool false),(.bool false)]++(jA 10 undef))))):List Value)) (by kernel_rfl) ?_;refine Zan ?_;refine Zar ?_
 show OpsX mn _ _ _ [0,1,2,3] _ _
 refine Zaq 15 hI rfl (by kernel_rfl) rfl rfl (vv:=(pV b)) (rP λw es=>by kernel_rfl) h λv h=> ?_
 refine Zaq 16 hI rfl (by kernel_rfl) rfl rfl (vv:=(.iface 118 (.agg #[.pointer (some ⟨5,140,none⟩)]))) (λv _=>Ycq 56 λw es=>by kernel_rfl) h λv h=> ?_
 refine Zaq 17 hI rfl (by kernel_rfl) rfl rfl (vv:=(.bool true)) (λv _=>Ycq 108 λw es=>by kernel_rfl) h λv h=> ?_
 refine Zaq 5 hI rfl (by kernel_rfl) rfl rfl (vv:=(.bool true)) (rP λw es=>by kernel_rfl) h λv h=> ?_
 show WpX mn none _ _ _ _ _
 refine Zdz (l':=([(pV a),(pV b)]++(jA 2 undef++([(.bool false),(.bool true),(pV a),(.bool false),(.bool false),(pV b),(.bool false),(.bool false)]++(jA 3 undef++([(pV b),(.iface 118 (.agg #[.pointer (some ⟨5,140,none⟩)])),(.bool true)]++(jA 4 undef))))):List Value)) (by kernel_rfl) ?_;refine Zan ?_;refine Zar ?_
 show OpsX mn _ _ _ [0,1,2,3,4] _ _
 refine Zaq 18 hI rfl (by kernel_rfl) rfl rfl (vv:=(pV a)) (rP λw es=>by kernel_rfl) h λv h=> ?_
 refine Zaq 19 hI rfl (by kernel_rfl) rfl rfl (vv:=(pV b)) (rP λw es=>by kernel_rfl) h λv h=> ?_
 refine Zaq 20 hI rfl (by kernel_rfl) rfl rfl (vv:=(.bool true)) (rP λw es=>by kernel_rfl) h λv h=> ?_
 refine Ygo 21 hI rfl (by rfl) (by rfl) (by kernel_rfl) (Zal (fn:=f57)) (by kernel_rfl) (λv h=>Yk2 v hne h.2.1 h.2.2) h (by rfl) (by rfl) λv h=> ?_
 refine Zaq 4 hI rfl (by kernel_rfl) rfl rfl (vv:=(.bool false)) (rP λw es=>by kernel_rfl) h λv h=> ?_
 show WpX mn none _ _ _ _ _
 refine Zdz (l':=([(pV a),(pV b)]++(jA 2 undef++([(.bool false),(.bool true),(pV a),(.bool false),(.bool false),(pV b),(.bool false),(.bool false)]++(jA 3 undef++([(pV b),(.iface 118 (.agg #[.pointer (some ⟨5,140,none⟩)])),(.bool true),(pV a),(pV b),(.bool true),(.bool false)])))):List Value)) (by kernel_rfl) ?_;refine Zgo ?_;exact⟨.inr rfl,.inl ⟨rfl,λv₁ k=>⟨.bool false,by kernel_rfl,rfl,hG _ (hI _ _ h k)⟩⟩⟩
def isCon:Con:=λargs h=>match args with
 |[.e n,.e m]=>(match h[n]?,h[m]? with
  |some (.gl _ t _ x),some (.gl _ t' _ y)=>bif ((Nat.beq t 140&&Nat.beq t' 140)&&(Nat.ble 65521 x&&Nat.ble 65521 y))&&(Nat.blt x 1000000&&Nat.blt y 1000000) then (bif Nat.beq n m then some (.a (.b true),.none,true) else bif Nat.beq x y then none else some (.a (.b false),.none,true)) else none
  |_,_=>none)
 |_=>none
theorem isCon_ok:Uad mn PZ 36 isCon:=by
 intro ρ h v args vals r ef hno hr hA hH;unfold isCon at hr;split at hr
 ·rename_i n m
  match vals,hA with
  | [v1,v2],hA=>
   obtain⟨g1,t1,a1,x1,p1,q1⟩:=hA.2 0 (.e n) v1 rfl rfl;obtain⟨g2,t2,a2,x2,p2,q2⟩:=hA.2 1 (.e m) v2 rfl rfl;subst q1 q2;rw[p1,p2]at hr;dsimp only at hr;cases ht:((Nat.beq t1 140&&Nat.beq t2 140)&&(Nat.ble 65521 x1&&Nat.ble 65521 x2))&&(Nat.blt x1 1000000&&Nat.blt x2 1000000) with
   |false=>rw[ht]at hr;cases hr
   | true=>
    rw[ht]at hr;simp only[Q7]at ht;obtain⟨⟨⟨ht1,ht2⟩,hb1,hb2⟩,hc1,hc2⟩:=ht;have hc1:x1<1000000:=jB hc1;have hc2:x2<1000000:=jB hc2;obtain rfl:=Nat.eq_of_beq_eq_true ht1;obtain rfl:=Nat.eq_of_beq_eq_true ht2;have hb1:=jB hb1;have hb2:=jB hb2;simp only[Q1]at hr;cases hnm:Nat.beq n m with
    |true=>rw[hnm]at hr;cases hr;obtain rfl:=Nat.eq_of_beq_eq_true hnm;rw[p1]at p2;cases p2;refine(Is_sameX a1 v).mono ?_;rintro e w' ⟨rfl,hg⟩;exact⟨rfl,hg.kept _⟩
    | false=>
     rw[hnm]at hr;simp only[Q2]at hr;cases hx:Nat.beq x1 x2 with
     |true=>rw[hx]at hr;cases hr
     | false=>
      rw[hx]at hr;cases hr;rcases hH.is _ _ p1 with ⟨-,s1,C1,T1,f1,c1,b1,d1⟩ | ⟨h6,-⟩
      case inr=>omega
      rcases hH.is _ _ p2 with ⟨-,s2,C2,T2,f2,c2,b2,d2⟩ | ⟨h6,-⟩
      case inr=>omega
      have l1:=Ybs s1;have l2:=Ybs s2;rcases d1 with ⟨-,d1⟩ | ⟨rfl,d1⟩
      ·omega
      rcases d2 with ⟨-,d2⟩ | ⟨rfl,d2⟩
      ·omega
      refine(Yk1 v (λe=> ?_) b1 b2).mono ?_
      ·subst e;rw[c1]at c2;cases c2;rw[<- d1,<- d2]at hx;simp at hx
      ·rintro e w' ⟨rfl,hg⟩;exact⟨rfl,hg.kept _⟩
  |[],hA=>exact absurd hA.1 (by simp)
  |[_],hA=>exact absurd hA.1 (by simp)
  |_::_::_::_,hA=>exact absurd hA.1 (by simp)
 ·cases hr
theorem Yfq:EntX PZ 36:=Zal (fn:=f36)
end Go.Proofs.YtefjogahegolbaaDoor
