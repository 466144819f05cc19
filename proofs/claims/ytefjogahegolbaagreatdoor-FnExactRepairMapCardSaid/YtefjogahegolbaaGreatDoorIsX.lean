/- errors.Is of two errors that are variables of the program's, in company: Go's text walked. -/
import Derived.Test.YtefjogahegolbaaGreatDoorChecked
import Derived.Test.YtefjogahegolbaaGreatDoorVcG
import Derived.LaidEql
import Derived.Stop.Asserts
set_option linter.unusedVariables false
set_option linter.unusedSimpArgs false
open _root_.List renaming replicate->jA
open _root_.Nat renaming le_of_ble_eq_true->jB
open _root_.Go renaming World->QB,Value->QC,Program->QD,TypeId->QE,Operand->QH,execOp->QI,Addr->QR
namespace Go.Proofs.YtefjogahegolbaaGreatDoor
open Tryz (f80 f98)
open Go.RowKit Go.Conc Ve Vc
open Tryz renaming prog -> PZ
set_option maxRecDepth 100000
set_option maxHeartbeats 1000000
variable {mn:Md}
abbrev pV(a:QR):QC:=.iface 185 (.pointer (some a))
def act(l:List QC):Act:={ tmps:=l.toArray,defers:=[] }
def lput(l:List QC):Option Nat->QC->List QC
 |some d,v=>l.set d v
 |none,_=>l
theorem uX(l:List QC)(d:Option Nat)(v:QC):(act l).put d v=act (lput l d v):=by cases d with|none=>rfl|some d=>unfold act lput Act.put;simp
theorem po{v v':QB}(A:Ge v v'){k:Nat}{c:QA}{t:QE}{fr:Nat×Nat}(h:v.heap[k]?=some (.cells c t fr)):v'.heap[k]?=some (.cells c t fr):=(A.block k (Array.getElem?_eq_some_iff.1 h).1).trans h
def kB(o:Oper):Bool:=match o.op with | .defer _=>false|_=>true
theorem gp{o:Oper}(h:kB o=true):∀c,o.op ≠ .defer c:=λc e=>by unfold kB at h;rw[e]at h;cases h
section
variable {P:QD} {ops:Array Oper} {K:Act->QB->Prop} {i:Nat} {rest:List Nat} {l l':List QC} {v:QB} {o:Oper} {vv:QC} {I:QB->Prop}
theorem Ys2{α:Type}{s:Sem α}{v:QB}{r:α}(h:∀w es,s.runT P w es=(.ok r w,es)):Tr P s v r v:=λG w J A es=>
 ⟨w,#[],by rw[h];simp,by rw[Gh.grow_self];exact A.symm,.refl _ _⟩
theorem rP{α:Type}{s:Sem α}{r:α}(h:∀w es,s.runT P w es=(.ok r w,es))(v:QB)(_:I v):Tr P s v r v:=Ys2 h
theorem pp{α:Type}{s:Sem α}{v:QB}{r:α}(f:FuncId)(h:∀w es,s.runT P w es=(.ok r w,es.push ⟨.mark (.extern f),false,true⟩)):Tr P s v r v:=λG w hf hv es=>
 ⟨w,#[⟨.mark (.extern f),false,true⟩],by rw [h];simp,by rw [Gh.grow_self];exact hv.symm,rfl,rfl,rfl,Nat.le_refl _,fun _ _ _=>rfl,fun e he=>by
  simp at he;subst he;exact .inr (.inr (.inl ⟨_,rfl,.inr ⟨f,rfl⟩⟩))⟩
theorem aG(d:Nat)(hI:∀v v₁,I v->Ge v v₁->I v₁)(ho:ops[i]?=some o)(L:Region.wanted o (yielded ops (act l).tmps)=true)(O:kB o=true)(A:o.dst=some d)(U:∀v,I v->Tr P (QI (act l).eval o) v (.value vv) v)(J:I v)
  (h:∀v,I v->OpsX mn P ops K rest (act (l.set d vv)) v):OpsX mn P ops K (i::rest) (act l) v:=by
 unfold OpsX OpIX;rw[ho];dsimp only;rw[if_pos L];exact⟨gp O,λv₁ h₁=>.inl ⟨vv,v₁,U v₁ (hI _ _ J h₁),by rw[uX,A];exact h v₁ (hI _ _ J h₁)⟩⟩
theorem ya(d:Nat)(hI:∀v v₁,I v->Ge v v₁->I v₁)(ho:ops[i]?=some o){c:Call}{y:QH}(L:o.op=.call c)(O:c.callee=.value y){f:FuncId}{args:QA}(U:(act l).eval y=.func (.func f) #[] #[])(V:EntX P f)(Z:c.args.map (act l).eval=args)
  (hr:∀v,I v->Ua6 mn P f args v λr v'=>r=vv/\Ge v v') (J:I v) (hg:o.guard=none) (A:o.dst=some d)
  (h:∀v,I v->OpsX mn P ops K rest (act (l.set d vv)) v):OpsX mn P ops K (i::rest) (act l) v:=
 lL ho hg (Yji (R:=λr v'=>r=vv/\Ge v v') L O U V Z (λv₁ h₁=>(hr v₁ (hI _ _ J h₁)).mono λr v' q=>⟨q.1,h₁.trans q.2⟩) λr v' q=>by
  obtain⟨rfl,q⟩:=q;rw[uX,A];exact h v' (hI _ _ J q))
theorem bY{ro:Option Nat}{c:Code}{Q:Exit->Act->QB->Prop}(e:act l=act l')(h:WpX mn ro P c Q (act l') v):WpX mn ro P c Q (act l) v:=e ▸ h
theorem uY(d:Nat)(ho:ops[i]?=some o)(J:Region.wanted o (yielded ops (act l).tmps)=false)(A:o.dst=some d)(h:OpsX mn P ops K rest (act (l.set d undef)) v):OpsX mn P ops K (i::rest) (act l) v:=by unfold OpsX OpIX;rw[ho];dsimp only;rw[if_neg (by rw[J];decide),uX,A];exact h
end
theorem kC{α β:Type}(P:QD)(x:Sem α)(f:α->Sem β)(w:QB)(es:Array Event):(x >>= f).runT P w es=match x.runT P w es with|(.ok a w',es')=>(f a).runT P w' es'|(.halt h w',es')=>(.halt h w',es'):=Sem.runT_bind' P x f w es
theorem uZ{α:Type}(P:QD)(x:α)(w:QB)(es:Array Event):(pure x:Sem α).runT P w es=(.ok x w,es):=rfl
theorem kD{α β:Type}(P:QD)(x:Sem α)(f:α->β)(w:QB)(es:Array Event):(f <$> x).runT P w es=match x.runT P w es with|(.ok a w',es')=>(.ok (f a) w',es')|(.halt h w',es')=>(.halt h w',es'):=(Sem.runT_bind' P x (λa=>pure (f a)) w es).trans (by cases x.runT P w es with|mk r es'=>cases r<;>rfl)
theorem Ywa(P:QD)(a:QR)(w:QB)(es:Array Event):(sameAddr a a).runT P w es=(.ok true w,es):=by simp[sameAddr,uZ,-Sem.runT_eq]
theorem Ys6(P:QD){a b:QR}{ca cb:QA}{ta tb:QE}(w:QB)(es:Array Event)(J:a≠b)(L:w.heap[a.block]?=some (.cells ca ta (0,0)))(O:w.heap[b.block]?=some (.cells cb tb (0,0))):
  (sameAddr a b).runT P w es=(.ok false w,es):=by
 by_cases A:a.block=b.block
 ·simp[sameAddr,A,J,uZ,-Sem.runT_eq]
 ·simp[sameAddr,A,World.frozen?,L,O,noView,viewAt,World.shape?,mayBeOne,stringish,Sem.runT,kC,uZ,kD,frozen,shape,-Sem.runT_eq]
theorem iT{b:Bool}{x y:QR}{ρ:QH->QC}{o:Oper}{X Y:QH}{t2:QE}(ho:o.op=.binOp .eql 105 X Y t2)(A:ρ X=.iface 185 (.pointer (some x)))(J:ρ Y=.iface 185 (.pointer (some y)))(w:QB)(es:Array Event)
  (h:(sameAddr x y).runT PZ w es=(.ok b w,es)):(QI ρ o).runT PZ w es=(.ok (.value (.bool b)) w,es):=by
 have L:(Op.equal 105 (.iface 185 (.pointer (some x))) (.iface 185 (.pointer (some y)))).runT PZ w es=(.ok b w,es):=Eq.trans (b:=(sameAddr x y).runT PZ w es) (by kernel_rfl) h;have h2:(binOp .eql 105 (.iface 185 (.pointer (some x))) (.iface 185 (.pointer (some y)))).runT PZ w es=(.ok (.bool b) w,es):=by
  show (Sem.bind (Op.equal 105 (.iface 185 (.pointer (some x))) (.iface 185 (.pointer (some y)))) λb=>Sem.pure (Value.bool b)).runT PZ w es=_
  rw[Sem.runT_bind',L];rfl
 have O:QI ρ o=Sem.bind (Sem.bind (eqGuard .eql 105 X Y (.iface 185 (.pointer (some x))) (.iface 185 (.pointer (some y)))) λ_=>binOp .eql 105 (.iface 185 (.pointer (some x))) (.iface 185 (.pointer (some y)))) λr=>Sem.pure (Next.value r):=by unfold QI;rw[ho];dsimp only;rw[A,J];rfl
 have U:(eqGuard .eql 105 X Y (.iface 185 (.pointer (some x))) (.iface 185 (.pointer (some y)))).runT PZ w es=(.ok () w,es):=rfl;rw[O,Sem.runT_bind',Sem.runT_bind',U];dsimp only;rw[h2];rfl
theorem Yf0{P:QD}(x:QC)(xT t:QE):Simple P (Instr.typeAssert x xT t true):=by
 unfold Instr.typeAssert;refine .bind (Zbh t) λd=> ?_
 repeat' first|exact .pure _|exact yr _|refine .bind (Zd2 _) λ_=> ?_|refine .bind (Zdl _) λ_=> ?_|split
theorem va{P:QD}{ρ:QH->QC}{o:Oper}{X:QH}{xT t tp:QE}{vv z:QC}{want:Array (String×QE)}(ho:o.op=.typeAssert X xT t true)(A:ρ X=.iface tp vv)(J:P.underlying t=some (.interface want))(h:(P.info? tp).map (λi=>(lacking want i.methods).isEmpty)=some false)
  (L:(P.info? t).map (·.zero)=some (some z)) (v:QB):Tr P (QI ρ o) v (.value (.tuple #[z,.bool false])) v:=by
 have e:QI ρ o=Instr.typeAssert (.iface tp vv) xT t true >>= λr=>pure (Next.value r):=by unfold QI;rw[ho];dsimp only;rw[A]
 rw[e];exact((Yf0 _ _ _).bind λ_=>.pure _).tr (by rw[Sem.run_bind,run_typeAssert_lacksB J h L];rfl)
section
variable {x y:QR} {ρ:QH->QC} {o:Oper} {X Y:QH} {t2:QE}
theorem dP(ho:o.op=.binOp .eql 105 X Y t2)(A:ρ X=.iface 185 (.pointer (some x)))(J:ρ Y=.iface 185 (.pointer (some x)))(v:QB):Tr PZ (QI ρ o) v (.value (.bool true)) v:=
 Ys2 λw es=>iT ho A J w es (Ywa _ x w es)
theorem Yqy{G:Gh}{w:QB}{k:Nat}{c:QA}{t:QE}(h:(view G w).heap[k]?=some (.cells c t (0,c.size+1))):w.heap[k]?=some (.cells c t (0,0)):=by
 rw[cp]at h;obtain⟨Z,h2,A⟩:=Option.map_eq_some_iff.1 h
 by_cases J:G.M k
 ·rw[Uc8 J]at A;have:=IZ A;unfold bm at this;simp at this
 ·by_cases L:G.S k
  ·rw[de J L]at A;rw[h2,dU A]
  ·rw[dV J L]at A;cases hF:G.F k with
   |none=>rw[hF]at A;unfold bj at A;injection A with O q2 U;subst O;injection U with _ V;simp at V
   |some x=>rw[hF]at A;unfold cq at A;cases A
theorem IS{ca cb:QA}{ta tb:QE}{v:QB}(ho:o.op=.binOp .eql 105 X Y t2)(J:ρ X=.iface 185 (.pointer (some x)))(L:ρ Y=.iface 185 (.pointer (some y)))(A:x≠y)(O:v.heap[x.block]?=some (.cells ca ta (0,ca.size+1)))(U:v.heap[y.block]?=some (.cells cb tb (0,cb.size+1))):
  Tr PZ (QI ρ o) v (.value (.bool false)) v:=λG w Z V es=>by
 subst V;exact⟨w,#[],by rw[iT ho J L w es (Ys6 _ w es A (Yqy O) (Yqy U))];simp,by rw[Gh.grow_self],.refl _ _⟩
end
theorem dQ(a:QR)(v:QB):Ua6 mn PZ 98 #[(pV a),(pV a),(.bool true)] v λr v'=>r=.bool true/\Ge v v':=by
 refine lN (c:=codeOf f98) Tryz.func98 rfl ?_;rw[show ({ tmps:=#[(pV a),(pV a),(.bool true)]++Array.replicate (f98.ntmps - (#[(pV a),(pV a),(.bool true)]:QA).size) undef,defers:=[] }:Act)=act ([(pV a),(pV a),(.bool true)]++jA 51 undef) from by kernel_rfl];obtain⟨I,hI,h,A⟩:∃I:QB->Prop,(∀v v₁,I v->Ge v v₁->I v₁)/\I v/\∀v₁,I v₁->Ge v v₁:=⟨λw=>Ge v w,λ_ _ h k=>h.trans k,.refl v,λ_ h=>h⟩;refine Za1 ?_;refine Za2 ?_
 show OpsX mn _ _ _ [0] _ _
 refine aG 6 hI rfl (by kernel_rfl) rfl rfl (vv:=(.bool false)) (rP λw es=>by kernel_rfl) h λv h=> ?_
 show WpX mn none _ _ _ _ _
 refine bY (l':=([(pV a),(pV a),(.bool true)]++(jA 3 undef++([(.bool false)]++(jA 47 undef))):List QC)) (by kernel_rfl) ?_;refine Zg6 ?_;refine Zf4 1 ?_
 show WpX mn none _ _ _ _ _
 refine Zg6 ?_;refine Za1 ?_;refine Za1 ?_;refine Za2 ?_
 show OpsX mn _ _ _ [0,1,2,3,4,5] _ _
 refine aG 14 hI rfl (by kernel_rfl) rfl rfl (vv:=(.bool true)) (rP λw es=>by kernel_rfl) h λv h=> ?_
 refine aG 15 hI rfl (by kernel_rfl) rfl rfl (vv:=(.bool true)) (rP λw es=>by kernel_rfl) h λv h=> ?_
 refine aG 16 hI rfl (by kernel_rfl) rfl rfl (vv:=(pV a)) (rP λw es=>by kernel_rfl) h λv h=> ?_
 refine aG 17 hI rfl (by kernel_rfl) rfl rfl (vv:=(pV a)) (rP λw es=>by kernel_rfl) h λv h=> ?_
 refine aG 18 hI rfl (by kernel_rfl) rfl rfl (vv:=(.bool true)) (λv _=>dP (x:=a) rfl (by kernel_rfl) (by kernel_rfl) v) h λv h=> ?_
 refine aG 19 hI rfl (by kernel_rfl) rfl rfl (vv:=(.bool true)) (rP λw es=>by kernel_rfl) h λv h=> ?_
 show WpX mn none _ _ _ _ _
 refine bY (l':=([(pV a),(pV a),(.bool true)]++(jA 3 undef++([(.bool false)]++(jA 7 undef++([(.bool true),(.bool true),(pV a),(pV a),(.bool true),(.bool true)]++(jA 34 undef))))):List QC)) (by kernel_rfl) ?_;refine Zii (by kernel_rfl) ?_;refine Za1 ?_;refine Za2 ?_
 show OpsX mn _ _ _ [0] _ _
 refine aG 6 hI rfl (by kernel_rfl) rfl rfl (vv:=(.bool true)) (rP λw es=>by kernel_rfl) h λv h=> ?_
 show WpX mn none _ _ _ _ _
 refine bY (l':=([(pV a),(pV a),(.bool true)]++(jA 3 undef++([(.bool true)]++(jA 7 undef++([(.bool true),(.bool true),(pV a),(pV a),(.bool true),(.bool true)]++(jA 34 undef))))):List QC)) (by kernel_rfl) ?_;refine Zmk ?_;exact⟨.inr rfl,.inl ⟨rfl,λv₁ k=>⟨.bool true,by kernel_rfl,rfl,A _ (hI _ _ h k)⟩⟩⟩
theorem IT{a b:QR}{ca cb:QA}{ta tb:QE}(v:QB)(A:a≠b)(J:v.heap[a.block]?=some (.cells ca ta (0,ca.size+1)))(L:v.heap[b.block]?=some (.cells cb tb (0,cb.size+1))):Ua6 mn PZ 98 #[(pV a),(pV b),(.bool true)] v λr v'=>r=.bool false/\Ge v v':=by
 refine lN (c:=codeOf f98) Tryz.func98 rfl ?_;rw[show ({ tmps:=#[(pV a),(pV b),(.bool true)]++Array.replicate (f98.ntmps - (#[(pV a),(pV b),(.bool true)]:QA).size) undef,defers:=[] }:Act)=act ([(pV a),(pV b),(.bool true)]++jA 51 undef) from by kernel_rfl];have hI:∀w w₁,(Ge v w/\w.heap[a.block]?=some (.cells ca ta (0,ca.size+1))/\w.heap[b.block]?=some (.cells cb tb (0,cb.size+1)))->Ge w w₁->(Ge v w₁/\w₁.heap[a.block]?=some (.cells ca ta (0,ca.size+1))/\w₁.heap[b.block]?=some (.cells cb tb (0,cb.size+1))):=λw w₁ h k=>⟨h.1.trans k,po k h.2.1,po k h.2.2⟩
 have h:Ge v v/\v.heap[a.block]?=some (.cells ca ta (0,ca.size+1))/\v.heap[b.block]?=some (.cells cb tb (0,cb.size+1)):=⟨.refl v,J,L⟩;have O:∀v₁,(Ge v v₁/\v₁.heap[a.block]?=some (.cells ca ta (0,ca.size+1))/\v₁.heap[b.block]?=some (.cells cb tb (0,cb.size+1)))->Ge v v₁:=λ_ h=>h.1
 refine Za1 ?_;refine Za2 ?_
 show OpsX mn _ _ _ [0] _ _
 refine aG 6 hI rfl (by kernel_rfl) rfl rfl (vv:=(.bool false)) (rP λw es=>by kernel_rfl) h λv h=> ?_
 show WpX mn none _ _ _ _ _
 refine bY (l':=([(pV a),(pV b),(.bool true)]++(jA 3 undef++([(.bool false)]++(jA 47 undef))):List QC)) (by kernel_rfl) ?_;refine Zg6 ?_;refine Zf4 1 ?_
 show WpX mn none _ _ _ _ _
 refine Zg6 ?_;refine Za1 ?_;refine Za1 ?_;refine Za2 ?_
 show OpsX mn _ _ _ [0,1,2,3,4,5] _ _
 refine aG 14 hI rfl (by kernel_rfl) rfl rfl (vv:=(.bool true)) (rP λw es=>by kernel_rfl) h λv h=> ?_
 refine aG 15 hI rfl (by kernel_rfl) rfl rfl (vv:=(.bool true)) (rP λw es=>by kernel_rfl) h λv h=> ?_
 refine aG 16 hI rfl (by kernel_rfl) rfl rfl (vv:=(pV a)) (rP λw es=>by kernel_rfl) h λv h=> ?_
 refine aG 17 hI rfl (by kernel_rfl) rfl rfl (vv:=(pV b)) (rP λw es=>by kernel_rfl) h λv h=> ?_
 refine aG 18 hI rfl (by kernel_rfl) rfl rfl (vv:=(.bool false)) (λv h=>IS (x:=a) (y:=b) rfl (by kernel_rfl) (by kernel_rfl) A h.2.1 h.2.2) h λv h=> ?_
 refine aG 19 hI rfl (by kernel_rfl) rfl rfl (vv:=(.bool false)) (rP λw es=>by kernel_rfl) h λv h=> ?_
 show WpX mn none _ _ _ _ _
 refine bY (l':=([(pV a),(pV b),(.bool true)]++(jA 3 undef++([(.bool false)]++(jA 7 undef++([(.bool true),(.bool true),(pV a),(pV b),(.bool false),(.bool false)]++(jA 34 undef))))):List QC)) (by kernel_rfl) ?_;refine Zbt (by kernel_rfl) ?_;refine Zh9 ?_
 show WpX mn none _ _ _ _ _
 refine bY (l':=([(pV a),(pV b),(.bool true)]++(jA 3 undef++([(.bool false)]++(jA 7 undef++([(.bool true),(.bool true),(pV a),(pV b),(.bool false),(.bool false)]++(jA 34 undef))))):List QC)) (by kernel_rfl) ?_;refine Za1 ?_;refine Za1 ?_;refine Za2 ?_
 show OpsX mn _ _ _ [0,1,2,3,4,5,6] _ _
 refine aG 21 hI rfl (by kernel_rfl) rfl rfl (vv:=(pV a)) (rP λw es=>by kernel_rfl) h λv h=> ?_
 refine aG 22 hI rfl (by kernel_rfl) rfl rfl (vv:=(.tuple #[.nilIface,.bool false])) (λv _=>va (tp:=185) (vv:=.pointer (some a)) (z:=.nilIface) rfl (by kernel_rfl) Tryz.underlying165 (by kernel_rfl) (by kernel_rfl) v) h λv h=> ?_
 refine aG 20 hI rfl (by kernel_rfl) rfl rfl (vv:=(.tuple #[.nilIface,.bool false])) (rP λw es=>by kernel_rfl) h λv h=> ?_
 refine aG 23 hI rfl (by kernel_rfl) rfl rfl (vv:=.nilIface) (rP λw es=>by kernel_rfl) h λv h=> ?_
 refine aG 24 hI rfl (by kernel_rfl) rfl rfl (vv:=(.bool false)) (rP λw es=>by kernel_rfl) h λv h=> ?_
 refine aG 7 hI rfl (by kernel_rfl) rfl rfl (vv:=.nilIface) (rP λw es=>by kernel_rfl) h λv h=> ?_
 refine aG 8 hI rfl (by kernel_rfl) rfl rfl (vv:=(.bool false)) (rP λw es=>by kernel_rfl) h λv h=> ?_
 show WpX mn none _ _ _ _ _
 refine bY (l':=([(pV a),(pV b),(.bool true)]++(jA 3 undef++([(.bool false),.nilIface,(.bool false)]++(jA 5 undef++([(.bool true),(.bool true),(pV a),(pV b),(.bool false),(.bool false),(.tuple #[.nilIface,.bool false]),(pV a),(.tuple #[.nilIface,.bool false]),.nilIface,(.bool false)]++(jA 29 undef))))):List QC)) (by kernel_rfl) ?_;refine Za1 ?_;refine Za2 ?_
 show OpsX mn _ _ _ [0,1,2,3,4,5] _ _
 refine aG 25 hI rfl (by kernel_rfl) rfl rfl (vv:=(.bool false)) (rP λw es=>by kernel_rfl) h λv h=> ?_
 refine aG 26 hI rfl (by kernel_rfl) rfl rfl (vv:=(.bool false)) (rP λw es=>by kernel_rfl) h λv h=> ?_
 refine uY 27 rfl (by kernel_rfl) rfl ?_;refine uY 28 rfl (by kernel_rfl) rfl ?_;refine uY 29 rfl (by kernel_rfl) rfl ?_;refine aG 30 hI rfl (by kernel_rfl) rfl rfl (vv:=(.bool false)) (rP λw es=>by kernel_rfl) h λv h=> ?_
 show WpX mn none _ _ _ _ _
 refine bY (l':=([(pV a),(pV b),(.bool true)]++(jA 3 undef++([(.bool false),.nilIface,(.bool false)]++(jA 5 undef++([(.bool true),(.bool true),(pV a),(pV b),(.bool false),(.bool false),(.tuple #[.nilIface,.bool false]),(pV a),(.tuple #[.nilIface,.bool false]),.nilIface,(.bool false),(.bool false),(.bool false)]++(jA 3 undef++([(.bool false)]++(jA 23 undef))))))):List QC)) (by kernel_rfl) ?_;refine Zbt (by kernel_rfl) ?_;refine Zh9 ?_
 show WpX mn none _ _ _ _ _
 refine bY (l':=([(pV a),(pV b),(.bool true)]++(jA 3 undef++([(.bool false),.nilIface,(.bool false)]++(jA 5 undef++([(.bool true),(.bool true),(pV a),(pV b),(.bool false),(.bool false),(.tuple #[.nilIface,.bool false]),(pV a),(.tuple #[.nilIface,.bool false]),.nilIface,(.bool false),(.bool false),(.bool false)]++(jA 3 undef++([(.bool false)]++(jA 23 undef))))))):List QC)) (by kernel_rfl) ?_;refine Za1 ?_;refine Za2 ?_
 show OpsX mn _ _ _ [0] _ _
 refine aG 31 hI rfl (by kernel_rfl) rfl rfl (vv:=(pV a)) (rP λw es=>by kernel_rfl) h λv h=> ?_
 show WpX mn none _ _ _ _ _
 refine bY (l':=([(pV a),(pV b),(.bool true)]++(jA 3 undef++([(.bool false),.nilIface,(.bool false)]++(jA 5 undef++([(.bool true),(.bool true),(pV a),(pV b),(.bool false),(.bool false),(.tuple #[.nilIface,.bool false]),(pV a),(.tuple #[.nilIface,.bool false]),.nilIface,(.bool false),(.bool false),(.bool false)]++(jA 3 undef++([(.bool false),(pV a)]++(jA 22 undef))))))):List QC)) (by kernel_rfl) ?_;refine Zg6 ?_;refine Za1 ?_;refine Za2 ?_
 show OpsX mn _ _ _ [0,1,2] _ _
 refine aG 32 hI rfl (by kernel_rfl) rfl rfl (vv:=(.tuple #[.nilIface,.bool false])) (λv _=>va (tp:=185) (vv:=.pointer (some a)) (z:=.nilIface) rfl (by kernel_rfl) Tryz.underlying168 (by kernel_rfl) (by kernel_rfl) v) h λv h=> ?_
 refine aG 33 hI rfl (by kernel_rfl) rfl rfl (vv:=(.bool false)) (rP λw es=>by kernel_rfl) h λv h=> ?_
 refine aG 34 hI rfl (by kernel_rfl) rfl rfl (vv:=.nilIface) (rP λw es=>by kernel_rfl) h λv h=> ?_
 show WpX mn none _ _ _ _ _
 refine bY (l':=([(pV a),(pV b),(.bool true)]++(jA 3 undef++([(.bool false),.nilIface,(.bool false)]++(jA 5 undef++([(.bool true),(.bool true),(pV a),(pV b),(.bool false),(.bool false),(.tuple #[.nilIface,.bool false]),(pV a),(.tuple #[.nilIface,.bool false]),.nilIface,(.bool false),(.bool false),(.bool false)]++(jA 3 undef++([(.bool false),(pV a),(.tuple #[.nilIface,.bool false]),(.bool false),.nilIface]++(jA 19 undef))))))):List QC)) (by kernel_rfl) ?_;refine Zbt (by kernel_rfl) ?_;refine Za1 ?_;refine Za2 ?_
 show OpsX mn _ _ _ [0,1,2] _ _
 refine aG 39 hI rfl (by kernel_rfl) rfl rfl (vv:=(.tuple #[.nilIface,.bool false])) (λv _=>va (tp:=185) (vv:=.pointer (some a)) (z:=.nilIface) rfl (by kernel_rfl) Tryz.underlying170 (by kernel_rfl) (by kernel_rfl) v) h λv h=> ?_
 refine aG 40 hI rfl (by kernel_rfl) rfl rfl (vv:=(.bool false)) (rP λw es=>by kernel_rfl) h λv h=> ?_
 refine aG 41 hI rfl (by kernel_rfl) rfl rfl (vv:=.nilIface) (rP λw es=>by kernel_rfl) h λv h=> ?_
 show WpX mn none _ _ _ _ _
 refine bY (l':=([(pV a),(pV b),(.bool true)]++(jA 3 undef++([(.bool false),.nilIface,(.bool false)]++(jA 5 undef++([(.bool true),(.bool true),(pV a),(pV b),(.bool false),(.bool false),(.tuple #[.nilIface,.bool false]),(pV a),(.tuple #[.nilIface,.bool false]),.nilIface,(.bool false),(.bool false),(.bool false)]++(jA 3 undef++([(.bool false),(pV a),(.tuple #[.nilIface,.bool false]),(.bool false),.nilIface]++(jA 4 undef++([(.tuple #[.nilIface,.bool false]),(.bool false),.nilIface]++(jA 12 undef))))))))):List QC)) (by kernel_rfl) ?_;refine Zbt (by kernel_rfl) ?_;refine Za1 ?_;refine Za2 ?_
 show OpsX mn _ _ _ [0] _ _
 refine aG 13 hI rfl (by kernel_rfl) rfl rfl (vv:=(pV a)) (rP λw es=>by kernel_rfl) h λv h=> ?_
 show WpX mn none _ _ _ _ _
 refine bY (l':=([(pV a),(pV b),(.bool true)]++(jA 3 undef++([(.bool false),.nilIface,(.bool false)]++(jA 4 undef++([(pV a),(.bool true),(.bool true),(pV a),(pV b),(.bool false),(.bool false),(.tuple #[.nilIface,.bool false]),(pV a),(.tuple #[.nilIface,.bool false]),.nilIface,(.bool false),(.bool false),(.bool false)]++(jA 3 undef++([(.bool false),(pV a),(.tuple #[.nilIface,.bool false]),(.bool false),.nilIface]++(jA 4 undef++([(.tuple #[.nilIface,.bool false]),(.bool false),.nilIface]++(jA 12 undef))))))))):List QC)) (by kernel_rfl) ?_;refine Za1 ?_;refine Za2 ?_
 show OpsX mn _ _ _ [0] _ _
 refine aG 6 hI rfl (by kernel_rfl) rfl rfl (vv:=(.bool false)) (rP λw es=>by kernel_rfl) h λv h=> ?_
 show WpX mn none _ _ _ _ _
 refine bY (l':=([(pV a),(pV b),(.bool true)]++(jA 3 undef++([(.bool false),.nilIface,(.bool false)]++(jA 4 undef++([(pV a),(.bool true),(.bool true),(pV a),(pV b),(.bool false),(.bool false),(.tuple #[.nilIface,.bool false]),(pV a),(.tuple #[.nilIface,.bool false]),.nilIface,(.bool false),(.bool false),(.bool false)]++(jA 3 undef++([(.bool false),(pV a),(.tuple #[.nilIface,.bool false]),(.bool false),.nilIface]++(jA 4 undef++([(.tuple #[.nilIface,.bool false]),(.bool false),.nilIface]++(jA 12 undef))))))))):List QC)) (by kernel_rfl) ?_;refine Zmk ?_;exact⟨.inr rfl,.inl ⟨rfl,λv₁ k=>⟨.bool false,by kernel_rfl,rfl,O _ (hI _ _ h k)⟩⟩⟩
theorem Is_sameX(a:QR)(v:QB):Ua6 mn PZ 80 #[(pV a),(pV a)] v λr v'=>r=.bool true/\Ge v v':=by
 refine lN (c:=codeOf f80) Tryz.func80 rfl ?_;rw[show ({ tmps:=#[(pV a),(pV a)]++Array.replicate (f80.ntmps - (#[(pV a),(pV a)]:QA).size) undef,defers:=[] }:Act)=act ([(pV a),(pV a)]++jA 20 undef) from by kernel_rfl];obtain⟨I,hI,h,A⟩:∃I:QB->Prop,(∀v v₁,I v->Ge v v₁->I v₁)/\I v/\∀v₁,I v₁->Ge v v₁:=⟨λw=>Ge v w,λ_ _ h k=>h.trans k,.refl v,λ_ h=>h⟩;refine Za1 ?_;refine Za2 ?_
 show OpsX mn _ _ _ [0] _ _
 refine aG 4 hI rfl (by kernel_rfl) rfl rfl (vv:=(.bool false)) (rP λw es=>by kernel_rfl) h λv h=> ?_
 show WpX mn none _ _ _ _ _
 refine bY (l':=([(pV a),(pV a)]++(jA 2 undef++([(.bool false)]++(jA 17 undef))):List QC)) (by kernel_rfl) ?_;refine Za1 ?_;refine Za1 ?_;refine Za2 ?_
 show OpsX mn _ _ _ [0,1,2,3,4,5] _ _
 refine aG 6 hI rfl (by kernel_rfl) rfl rfl (vv:=(pV a)) (rP λw es=>by kernel_rfl) h λv h=> ?_
 refine aG 7 hI rfl (by kernel_rfl) rfl rfl (vv:=(.bool false)) (rP λw es=>by kernel_rfl) h λv h=> ?_
 refine aG 8 hI rfl (by kernel_rfl) rfl rfl (vv:=(.bool false)) (rP λw es=>by kernel_rfl) h λv h=> ?_
 refine aG 9 hI rfl (by kernel_rfl) rfl rfl (vv:=(pV a)) (rP λw es=>by kernel_rfl) h λv h=> ?_
 refine aG 10 hI rfl (by kernel_rfl) rfl rfl (vv:=(.bool false)) (rP λw es=>by kernel_rfl) h λv h=> ?_
 refine aG 11 hI rfl (by kernel_rfl) rfl rfl (vv:=(.bool false)) (rP λw es=>by kernel_rfl) h λv h=> ?_
 show WpX mn none _ _ _ _ _
 refine bY (l':=([(pV a),(pV a)]++(jA 2 undef++([(.bool false)]++(jA 1 undef++([(pV a),(.bool false),(.bool false),(pV a),(.bool false),(.bool false)]++(jA 10 undef))))):List QC)) (by kernel_rfl) ?_;refine Zbt (by kernel_rfl) ?_;refine Zh9 ?_
 show WpX mn none _ _ _ _ _
 refine bY (l':=([(pV a),(pV a)]++(jA 2 undef++([(.bool false)]++(jA 1 undef++([(pV a),(.bool false),(.bool false),(pV a),(.bool false),(.bool false)]++(jA 10 undef))))):List QC)) (by kernel_rfl) ?_;refine Za1 ?_;refine Za2 ?_
 show OpsX mn _ _ _ [0,1,2,3] _ _
 refine aG 15 hI rfl (by kernel_rfl) rfl rfl (vv:=(pV a)) (rP λw es=>by kernel_rfl) h λv h=> ?_
 refine aG 16 hI rfl (by kernel_rfl) rfl rfl (vv:=(.iface 163 (.agg #[.pointer (some ⟨5,185,none⟩)]))) (λv _=>pp 97 λw es=>by kernel_rfl) h λv h=> ?_
 refine aG 17 hI rfl (by kernel_rfl) rfl rfl (vv:=(.bool true)) (λv _=>pp 151 λw es=>by kernel_rfl) h λv h=> ?_
 refine aG 5 hI rfl (by kernel_rfl) rfl rfl (vv:=(.bool true)) (rP λw es=>by kernel_rfl) h λv h=> ?_
 show WpX mn none _ _ _ _ _
 refine bY (l':=([(pV a),(pV a)]++(jA 2 undef++([(.bool false),(.bool true),(pV a),(.bool false),(.bool false),(pV a),(.bool false),(.bool false)]++(jA 3 undef++([(pV a),(.iface 163 (.agg #[.pointer (some ⟨5,185,none⟩)])),(.bool true)]++(jA 4 undef))))):List QC)) (by kernel_rfl) ?_;refine Za1 ?_;refine Za2 ?_
 show OpsX mn _ _ _ [0,1,2,3,4] _ _
 refine aG 18 hI rfl (by kernel_rfl) rfl rfl (vv:=(pV a)) (rP λw es=>by kernel_rfl) h λv h=> ?_
 refine aG 19 hI rfl (by kernel_rfl) rfl rfl (vv:=(pV a)) (rP λw es=>by kernel_rfl) h λv h=> ?_
 refine aG 20 hI rfl (by kernel_rfl) rfl rfl (vv:=(.bool true)) (rP λw es=>by kernel_rfl) h λv h=> ?_
 refine ya 21 hI rfl (by rfl) (by rfl) (by kernel_rfl) (Zaj (fn:=f98)) (by kernel_rfl) (λv h=>dQ a v) h (by rfl) (by rfl) λv h=> ?_
 refine aG 4 hI rfl (by kernel_rfl) rfl rfl (vv:=(.bool true)) (rP λw es=>by kernel_rfl) h λv h=> ?_
 show WpX mn none _ _ _ _ _
 refine bY (l':=([(pV a),(pV a)]++(jA 2 undef++([(.bool true),(.bool true),(pV a),(.bool false),(.bool false),(pV a),(.bool false),(.bool false)]++(jA 3 undef++([(pV a),(.iface 163 (.agg #[.pointer (some ⟨5,185,none⟩)])),(.bool true),(pV a),(pV a),(.bool true),(.bool true)])))):List QC)) (by kernel_rfl) ?_;refine Zmk ?_;exact⟨.inr rfl,.inl ⟨rfl,λv₁ k=>⟨.bool true,by kernel_rfl,rfl,A _ (hI _ _ h k)⟩⟩⟩
theorem Yx6{a b:QR}{ca cb:QA}{ta tb:QE}(v:QB)(A:a≠b)(J:v.heap[a.block]?=some (.cells ca ta (0,ca.size+1)))(L:v.heap[b.block]?=some (.cells cb tb (0,cb.size+1))):Ua6 mn PZ 80 #[(pV a),(pV b)] v λr v'=>r=.bool false/\Ge v v':=by
 refine lN (c:=codeOf f80) Tryz.func80 rfl ?_;rw[show ({ tmps:=#[(pV a),(pV b)]++Array.replicate (f80.ntmps - (#[(pV a),(pV b)]:QA).size) undef,defers:=[] }:Act)=act ([(pV a),(pV b)]++jA 20 undef) from by kernel_rfl];have hI:∀w w₁,(Ge v w/\w.heap[a.block]?=some (.cells ca ta (0,ca.size+1))/\w.heap[b.block]?=some (.cells cb tb (0,cb.size+1)))->Ge w w₁->(Ge v w₁/\w₁.heap[a.block]?=some (.cells ca ta (0,ca.size+1))/\w₁.heap[b.block]?=some (.cells cb tb (0,cb.size+1))):=λw w₁ h k=>⟨h.1.trans k,po k h.2.1,po k h.2.2⟩
 have h:Ge v v/\v.heap[a.block]?=some (.cells ca ta (0,ca.size+1))/\v.heap[b.block]?=some (.cells cb tb (0,cb.size+1)):=⟨.refl v,J,L⟩;have O:∀v₁,(Ge v v₁/\v₁.heap[a.block]?=some (.cells ca ta (0,ca.size+1))/\v₁.heap[b.block]?=some (.cells cb tb (0,cb.size+1)))->Ge v v₁:=λ_ h=>h.1
 refine Za1 ?_;refine Za2 ?_
 show OpsX mn _ _ _ [0] _ _
 refine aG 4 hI rfl (by kernel_rfl) rfl rfl (vv:=(.bool false)) (rP λw es=>by kernel_rfl) h λv h=> ?_
 show WpX mn none _ _ _ _ _
 refine bY (l':=([(pV a),(pV b)]++(jA 2 undef++([(.bool false)]++(jA 17 undef))):List QC)) (by kernel_rfl) ?_;refine Za1 ?_;refine Za1 ?_;refine Za2 ?_
 show OpsX mn _ _ _ [0,1,2,3,4,5] _ _
 refine aG 6 hI rfl (by kernel_rfl) rfl rfl (vv:=(pV a)) (rP λw es=>by kernel_rfl) h λv h=> ?_
 refine aG 7 hI rfl (by kernel_rfl) rfl rfl (vv:=(.bool false)) (rP λw es=>by kernel_rfl) h λv h=> ?_
 refine aG 8 hI rfl (by kernel_rfl) rfl rfl (vv:=(.bool false)) (rP λw es=>by kernel_rfl) h λv h=> ?_
 refine aG 9 hI rfl (by kernel_rfl) rfl rfl (vv:=(pV b)) (rP λw es=>by kernel_rfl) h λv h=> ?_
 refine aG 10 hI rfl (by kernel_rfl) rfl rfl (vv:=(.bool false)) (rP λw es=>by kernel_rfl) h λv h=> ?_
 refine aG 11 hI rfl (by kernel_rfl) rfl rfl (vv:=(.bool false)) (rP λw es=>by kernel_rfl) h λv h=> ?_
 show WpX mn none _ _ _ _ _
 refine bY (l':=([(pV a),(pV b)]++(jA 2 undef++([(.bool false)]++(jA 1 undef++([(pV a),(.bool false),(.bool false),(pV b),(.bool false),(.bool false)]++(jA 10 undef))))):List QC)) (by kernel_rfl) ?_;refine Zbt (by kernel_rfl) ?_;refine Zh9 ?_
 show WpX mn none _ _ _ _ _
 refine bY (l':=([(pV a),(pV b)]++(jA 2 undef++([(.bool false)]++(jA 1 undef++([(pV a),(.bool false),(.bool false),(pV b),(.bool false),(.bool false)]++(jA 10 undef))))):List QC)) (by kernel_rfl) ?_;refine Za1 ?_;refine Za2 ?_
 show OpsX mn _ _ _ [0,1,2,3] _ _
 refine aG 15 hI rfl (by kernel_rfl) rfl rfl (vv:=(pV b)) (rP λw es=>by kernel_rfl) h λv h=> ?_
 refine aG 16 hI rfl (by kernel_rfl) rfl rfl (vv:=(.iface 163 (.agg #[.pointer (some ⟨5,185,none⟩)]))) (λv _=>pp 97 λw es=>by kernel_rfl) h λv h=> ?_
 refine aG 17 hI rfl (by kernel_rfl) rfl rfl (vv:=(.bool true)) (λv _=>pp 151 λw es=>by kernel_rfl) h λv h=> ?_
 refine aG 5 hI rfl (by kernel_rfl) rfl rfl (vv:=(.bool true)) (rP λw es=>by kernel_rfl) h λv h=> ?_
 show WpX mn none _ _ _ _ _
 refine bY (l':=([(pV a),(pV b)]++(jA 2 undef++([(.bool false),(.bool true),(pV a),(.bool false),(.bool false),(pV b),(.bool false),(.bool false)]++(jA 3 undef++([(pV b),(.iface 163 (.agg #[.pointer (some ⟨5,185,none⟩)])),(.bool true)]++(jA 4 undef))))):List QC)) (by kernel_rfl) ?_;refine Za1 ?_;refine Za2 ?_
 show OpsX mn _ _ _ [0,1,2,3,4] _ _
 refine aG 18 hI rfl (by kernel_rfl) rfl rfl (vv:=(pV a)) (rP λw es=>by kernel_rfl) h λv h=> ?_
 refine aG 19 hI rfl (by kernel_rfl) rfl rfl (vv:=(pV b)) (rP λw es=>by kernel_rfl) h λv h=> ?_
 refine aG 20 hI rfl (by kernel_rfl) rfl rfl (vv:=(.bool true)) (rP λw es=>by kernel_rfl) h λv h=> ?_
 refine ya 21 hI rfl (by rfl) (by rfl) (by kernel_rfl) (Zaj (fn:=f98)) (by kernel_rfl) (λv h=>IT v A h.2.1 h.2.2) h (by rfl) (by rfl) λv h=> ?_
 refine aG 4 hI rfl (by kernel_rfl) rfl rfl (vv:=(.bool false)) (rP λw es=>by kernel_rfl) h λv h=> ?_
 show WpX mn none _ _ _ _ _
 refine bY (l':=([(pV a),(pV b)]++(jA 2 undef++([(.bool false),(.bool true),(pV a),(.bool false),(.bool false),(pV b),(.bool false),(.bool false)]++(jA 3 undef++([(pV b),(.iface 163 (.agg #[.pointer (some ⟨5,185,none⟩)])),(.bool true),(pV a),(pV b),(.bool true),(.bool false)])))):List QC)) (by kernel_rfl) ?_;refine Zmk ?_;exact⟨.inr rfl,.inl ⟨rfl,λv₁ k=>⟨.bool false,by kernel_rfl,rfl,O _ (hI _ _ h k)⟩⟩⟩
def dR:af:=λargs h=>match args with
 |[.e n,.e m]=>(match h[n]?,h[m]? with
  |some (.gl _ t _ x),some (.gl _ t' _ y)=>bif ((Nat.beq t 185&&Nat.beq t' 185)&&(Nat.ble 65521 x&&Nat.ble 65521 y))&&(Nat.blt x 1000000&&Nat.blt y 1000000) then (bif Nat.beq n m then some (.a (.b true),.none,true) else bif Nat.beq x y then none else some (.a (.b false),.none,true)) else none
  |_,_=>none)
 |_=>none
theorem dS:Uad mn PZ 80 dR:=by
 intro ρ h v args vals r ef hno hr hA hH;unfold dR at hr;split at hr
 ·rename_i n m
  match vals,hA with
  | [v1,v2],hA=>
   obtain⟨g1,t1,a1,x1,p1,q1⟩:=hA.2 0 (.e n) v1 rfl rfl;obtain⟨g2,t2,a2,x2,p2,q2⟩:=hA.2 1 (.e m) v2 rfl rfl;subst q1 q2;rw[p1,p2]at hr;dsimp only at hr;cases ht:((Nat.beq t1 185&&Nat.beq t2 185)&&(Nat.ble 65521 x1&&Nat.ble 65521 x2))&&(Nat.blt x1 1000000&&Nat.blt x2 1000000) with
   |false=>rw[ht]at hr;cases hr
   | true=>
    rw[ht]at hr;simp only[Q7]at ht;obtain⟨⟨⟨ht1,ht2⟩,hb1,hb2⟩,hc1,hc2⟩:=ht;have hc1:x1<1000000:=jB hc1;have hc2:x2<1000000:=jB hc2;obtain rfl:=Nat.eq_of_beq_eq_true ht1;obtain rfl:=Nat.eq_of_beq_eq_true ht2;have hb1:=jB hb1;have hb2:=jB hb2;simp only[Q1]at hr;cases hnm:Nat.beq n m with
    |true=>rw[hnm]at hr;cases hr;obtain rfl:=Nat.eq_of_beq_eq_true hnm;rw[p1]at p2;cases p2;refine(Is_sameX a1 v).mono ?_;rintro e w' ⟨rfl,hg⟩;exact⟨rfl,hg.kept _⟩
    | false=>
     rw[hnm]at hr;simp only[Q2]at hr;cases hx:Nat.beq x1 x2 with
     |true=>rw[hx]at hr;cases hr
     | false=>
      rw[hx]at hr;cases hr;rcases hH.is _ _ p1 with ⟨-,s1,C1,T1,f1,c1,b1,d1⟩ | ⟨h6,-⟩
      case inr=>omega
      rcases hH.is _ _ p2 with ⟨-,s2,C2,T2,f2,c2,b2,d2⟩ | ⟨h6,-⟩
      case inr=>omega
      have l1:=vC s1;have l2:=vC s2;rcases d1 with ⟨-,d1⟩ | ⟨rfl,d1⟩
      ·omega
      rcases d2 with ⟨-,d2⟩ | ⟨rfl,d2⟩
      ·omega
      refine(Yx6 v (λe=> ?_) b1 b2).mono ?_
      ·subst e;rw[c1]at c2;cases c2;rw[<- d1,<- d2]at hx;simp at hx
      ·rintro e w' ⟨rfl,hg⟩;exact⟨rfl,hg.kept _⟩
  |[],hA=>exact absurd hA.1 (by simp)
  |[_],hA=>exact absurd hA.1 (by simp)
  |_::_::_::_,hA=>exact absurd hA.1 (by simp)
 ·cases hr
theorem IU:EntX PZ 80:=Zaj (fn:=f80)
end Go.Proofs.YtefjogahegolbaaGreatDoor
