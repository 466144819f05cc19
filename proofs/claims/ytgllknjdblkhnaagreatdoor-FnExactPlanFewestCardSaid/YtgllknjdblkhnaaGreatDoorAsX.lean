/- errors.As of the program's own error numbers, in company: Go's text walked. -/
import Derived.Test.YtgllknjdblkhnaaGreatDoorChecked
import Derived.Test.YtgllknjdblkhnaaGreatDoorVcG
import Derived.LaidEql
import Derived.Stop.Asserts
set_option linter.unusedVariables false
set_option linter.unusedSimpArgs false
open _root_.List renaming replicate->jA
open _root_.Array renaming getElem?_eq_some_iff->jC,replicate->jD
open _root_.Nat renaming le_trans->jB,eq_of_beq_eq_true->jE
namespace Go.Proofs.YtgllknjdblkhnaaGreatDoor
open Tryz (f13 f26 f48)
open Go.RowKit Go.Conc Go.Extern Ve Vc
open Tryz renaming prog -> PZ
set_option maxRecDepth 100000
set_option maxHeartbeats 1000000
section
variable {mn:Md}
def act(l:List Value):Act:={ tmps:=l.toArray,defers:=[] }
def lput(l:List Value):Option Nat->Value->List Value
 |some d,v=>l.set d v
 |none,_=>l
theorem Yg5(l:List Value)(d:Option Nat)(v:Value):(act l).put d v=act (lput l d v):=by cases d with|none=>rfl|some d=>unfold act lput Act.put;simp
theorem geC{v v':World}(hg:Ge v v'){k:Nat}{o:Obj}(h:v.heap[k]?=some o):v'.heap[k]?=some o:=(hg.block k (jC.1 h).1).trans h
def notD(o:Oper):Bool:=match o.op with | .defer _=>false|_=>true
theorem Ykx{o:Oper}(h:notD o=true):∀c,o.op ≠ .defer c:=λc e=>by unfold notD at h;rw[e]at h;cases h
variable {P:Program} {ops:Array Oper} {K:Act->World->Prop} {i:Nat} {rest:List Nat} {l l':List Value} {v b:World} {o:Oper} {vv:Value}
theorem Zar{α:Type}{s:Sem α}{v:World}{r:α}(h:∀w es,s.runT P w es=(.ok r w,es)):Tr P s v r v:=λG w hf hv es=>
 ⟨w,#[],by rw[h];simp,by rw[Gh.grow_self];exact hv.symm,.refl _ _⟩
theorem Zsf{α:Type}{s:Sem α}{v:World}{r:α}(f:FuncId)(h:∀w es,s.runT P w es=(.ok r w,es.push ⟨.mark (.extern f),false,true⟩)):Tr P s v r v:=λG w hf hv es=>
 ⟨w,#[⟨.mark (.extern f),false,true⟩],by rw [h];simp,by rw [Gh.grow_self];exact hv.symm,rfl,rfl,rfl,Nat.le_refl _,fun _ _ _=>rfl,fun e he=>by
  simp at he;subst he;exact .inr (.inr (.inl ⟨_,rfl,.inr ⟨f,rfl⟩⟩))⟩
theorem Ylo(G:Gh)(w:World)(ob:Obj)(es:Array Event)(he:∀e∈es,EvOk (G.grow w.heap.size (w.heap.size+1)) e):Did G w (w.alloc ob) es:=
 ⟨rfl,rfl,rfl,by show _<=(w.heap.push ob).size;rw[Array.size_push];omega,λk hk _=>by show (w.heap.push ob)[k]?=_;rw[Array.getElem?_push,if_neg (by omega)],by show ∀e∈es,EvOk (G.grow w.heap.size (w.heap.push ob).size) e;rw[Array.size_push];exact he⟩
theorem Yfq{G:Gh}{w:World}{ob:Obj}(hf:Fit G w)(ho:own ob=ob):(view G w).alloc ob=view (G.grow w.heap.size (w.alloc ob).heap.size) (w.alloc ob):=by have h:=Yif hf ho;have e:(w.alloc ob).heap.size=w.heap.size+1:=Array.size_push ..;rw[e];exact h.symm
theorem Yej{α:Type}{s:Sem α}{v:World}{r:Nat->α}{ob:Obj}(ho:own ob=ob)(h:∀w es,s.runT P w es=(.ok (r w.heap.size) (w.alloc ob),es)):Tr P s v (r v.heap.size) (v.alloc ob):=λG w hf hv es=>by
 subst hv;exact⟨w.alloc ob,#[],by rw[h];simp,Yfq hf ho,Ylo G w ob _ (λe he=>by simp at he)⟩
theorem Yea{α:Type}{s:Sem α}{v:World}{r:Nat->α}{ob:Obj}(ho:own ob=ob)(f:FuncId)(h:∀w es,s.runT P w es=(.ok (r w.heap.size) (w.alloc ob),es.push ⟨.mark (.extern f),false,true⟩)):Tr P s v (r v.heap.size) (v.alloc ob):=λG w hf hv es=>by
 subst hv;refine⟨w.alloc ob,#[⟨.mark (.extern f),false,true⟩],by rw[h];simp,Yfq hf ho,Ylo G w ob _ (λe he=> ?_)⟩;simp at he;subst he;exact .inr (.inr (.inl ⟨_,rfl,.inr ⟨f,rfl⟩⟩))
theorem Zh8{α β:Type}{s:Sem α}{f:α->Sem β}{v v' v'':World}{r:α}{r':β}(h:Tr P s v r v')(h2:Tr P (f r) v' r' v''):Tr P (s >>= f) v r' v'':=λG w hf hv es=>by
 obtain⟨w1,e1,a1,a2,a3⟩:=h G w hf hv es;obtain⟨w2,e2,b1,b2,b3⟩:=h2 (G.grow w.heap.size w1.heap.size) w1 (hf.did a3) a2.symm (es++e1);refine⟨w2,e1++e2,?_,?_,Zx8 a3 b3⟩
 ·show (Sem.bind s f).runT P w es=_
  rw[Sem.runT_bind',a1];dsimp only;rw[b1,Array.append_assoc]
 ·rw[b2,Gh.grow_grow G a3.size b3.size]
theorem Zqc {f : FuncId} {fn : Func} {e : Array Value -> Sem Value} (hf : P.funcs[f]? = some fn) (hname : (fn.name == "runtime.NumGoroutine") = false)
  (hb:fn.body.isNone=true) (hn:Extern.findNext fn=none) (he:Extern.find fn=some e) {args:Array Value} {v v':World} {r:Value} (h:Tr P (e args) v r v'):Tr P (callFunc f args) v (.value r) v':=by
 have h1 : fn.name ≠ "runtime.NumGoroutine" := by simpa using hname
 have h2:fn.body=none:=by simpa using hb
 have hm:Tr P (mark (.extern f)) v () v:=Zsf f λw es=>rfl
 have hx:callFunc f args=(program >>= λQ=>match Q.funcs[f]? with
  | none => stuck "call: no such function"
  | some fn=>
   if fn.name == "runtime.NumGoroutine" then pure .numGoroutine
   else if fn.body.isNone then do
    mark (.extern f)
    if let some e:=Extern.findNext fn then return <- e args
    match Extern.find fn with
    |some e=>pure (.value (<- e args))
    |none=>
     if fn.name.endsWith ".init" && !fn.name.startsWith "(" && !fn.name.startsWith "gosem." then pure (.value (.tuple #[]))
     else unsupported (.extern fn.name) else pure (.enter f args)):=rfl
 rw[hx];refine Zh8 (r:=P) (Zar λw es=>rfl) ?_;rw[hf];dsimp only;rw[hname,hb,hn,he];simp only[Bool.false_eq_true,if_false,if_true];exact Zh8 hm (Zh8 h (Zar λw es=>rfl))
theorem Zaq(d:Nat)(ho:ops[i]?=some o)(hw:Region.wanted o (yielded ops (act l).tmps)=true)(hd:notD o=true)(hdst:o.dst=some d)(hv:Ge b v)(hr:∀v,Ge b v->Tr P (execOp (act l).eval o) v (.value vv) v)
  (h:∀v,Ge b v->OpsX mn P ops K rest (act (l.set d vv)) v):OpsX mn P ops K (i::rest) (act l) v:=by
 unfold OpsX OpIX;rw[ho];dsimp only;rw[if_pos hw];exact⟨Ykx hd,λv₁ h₁=>.inl ⟨vv,v₁,hr v₁ (hv.trans h₁),by rw[Yg5,hdst];exact h v₁ (hv.trans h₁)⟩⟩
theorem Yov(d:Nat)(ho:ops[i]?=some o)(hw:Region.wanted o (yielded ops (act l).tmps)=true)(hd:notD o=true)(hdst:o.dst=some d)(hv:Ge b v)
  (h:∀v,Ge b v->∃vv v',Tr P (execOp (act l).eval o) v (.value vv) v'/\OpsX mn P ops K rest (act (l.set d vv)) v'):OpsX mn P ops K (i::rest) (act l) v:=by
 unfold OpsX OpIX;rw[ho];dsimp only;rw[if_pos hw];refine⟨Ykx hd,λv₁ h₁=> ?_⟩;obtain⟨vv,v',h2,h3⟩:=h v₁ (hv.trans h₁);exact .inl ⟨vv,v',h2,by rw[Yg5,hdst];exact h3⟩
theorem ops_effN(ho:ops[i]?=some o)(hw:Region.wanted o (yielded ops (act l).tmps)=true)(hd:notD o=true)(hdst:o.dst=none)(hv:Ge b v)
  (h:∀v,Ge b v->∃v',Tr P (execOp (act l).eval o) v .skip v'/\OpsX mn P ops K rest (act l) v'):OpsX mn P ops K (i::rest) (act l) v:=by
 unfold OpsX OpIX;rw[ho];dsimp only;rw[if_pos hw];refine⟨Ykx hd,λv₁ h₁=> ?_⟩;obtain⟨v',h2,h3⟩:=h v₁ (hv.trans h₁);exact .inr (.inl ⟨v',h2,by rw[Yg5,hdst];exact h3⟩)
theorem Ynr{ρ:Operand->Value}{c:Call}{y:Operand}{f:FuncId}{args:Array Value}(ho:o.op=.call c)(hc:c.callee=.value y)(hy:ρ y=.func (.func f) #[] #[])(hargs:c.args.map ρ=args):execOp ρ o=callFunc f args:=by
 subst hargs;unfold execOp;rw[ho];simp only[resolve,hc,hy,Deferred.ofValue]
 show callFunc f _=_
 congr 1;rw[<- Array.toList_inj];simp
theorem Ygz{ρ:Operand->Value}{c:Call}{y:Operand}{f:FuncId}{args:Array Value}{r:Next}{v':World}(h:Tr P (callFunc f args) v r v')(ho:o.op=.call c)(hc:c.callee=.value y)(hy:ρ y=.func (.func f) #[] #[])(hargs:c.args.map ρ=args):Tr P (execOp ρ o) v r v':=by rw[Ynr ho hc hy hargs];exact h
theorem Zyz(ho:ops[i]?=some o){c:Call}{y:Operand}(hc:o.op=.call c)(hy:c.callee=.value y){f:FuncId}{args:Array Value}(hf:(act l).eval y=.func (.func f) #[] #[])(he:EntX P f)(ha:c.args.map (act l).eval=args){R:Value->World->Prop}
  (hv:Ge b v) (hr:∀v,Ge b v->Ua9 mn P f args v R) (hg:o.guard=none) (d:Nat) (hdst:o.dst=some d)
  (h:∀r v',R r v'->OpsX mn P ops K rest (act (l.set d r)) v'):OpsX mn P ops K (i::rest) (act l) v:=
 Zsg ho hg (Yi9 (R:=R) hc hy hf he ha (λv₁ h₁=>hr v₁ (hv.trans h₁)) λr v' q=>by
  rw[Yg5,hdst];exact h r v' q)
theorem Zci{ro:Option Nat}{c:Code}{Q:Exit->Act->World->Prop}(e:act l=act l')(h:WpX mn ro P c Q (act l') v):WpX mn ro P c Q (act l) v:=e ▸ h
theorem Ypn(w:World)(ob:Obj):(w.alloc ob).heap[w.heap.size]?=some ob:=by show (w.heap.push ob)[w.heap.size]?=_;rw[Array.getElem?_push,if_pos rfl]
theorem Ypt{w:World}{k:Nat}{ob o':Obj}(h:w.heap[k]?=some o'):(w.alloc ob).heap[k]?=some o':=by
 have hk:=(jC.1 h).1
 show (w.heap.push ob)[k]?=_
 rw[Array.getElem?_push,if_neg (by omega)];exact h
theorem Zv5{w:World}{k i:Nat}{C:Array Value}{T:TypeId}{fr:Nat×Nat}{x:Value}(h:w.heap[k]?=some (.cells C T fr))(hx:C[i]?=some x):w.cell? ⟨k,i,none⟩=some x:=by unfold World.cell?;rw[h];exact hx
theorem froz_of{w:World}{k i:Nat}{C:Array Value}{T:TypeId}(h:w.heap[k]?=some (.cells C T (0,0))):w.frozen? ⟨k,i,none⟩=false:=by unfold World.frozen?;rw[h];simp
theorem Yp7{w:World}{k:Nat}{x:Value}(h:w.cell? ⟨k,0,none⟩=some x):∃C T fr,w.heap[k]?=some (.cells C T fr)/\C[0]?=some x:=by
 unfold World.cell? at h;cases hb:w.heap[k]? with
 |none=>rw[hb]at h;cases h
 |some ob=>cases ob with|cells C T fr=>rw[hb]at h;exact⟨C,T,fr,rfl,h⟩|_=>rw[hb]at h;cases h
theorem set_own{w:World}{k i:Nat}{x:Value}{C:Array Value}{T:TypeId}{fr:Nat×Nat}(h:w.heap[k]?=some (.cells C T fr)):(w.setCell ⟨k,i,none⟩ x).heap[k]?=some (.cells (C.setIfInBounds i x) T fr):=by simp only[World.setCell,Array.getElem?_modify];rw[if_pos trivial,h];rfl
def Mine(t:Nat)(w0:World)(k:Nat):Prop:=k=t\/w0.heap.size<=k
theorem kept_set{E:Nat->Prop}{w:World}{k i:Nat}{x:Value}(h:E k):Kept E w (w.setCell ⟨k,i,none⟩ x):=
 ⟨rfl,rfl,rfl,by simp [World.setCell],fun j _ hj=>by
  simp only[World.setCell,Array.getElem?_modify];rw[if_neg (λe=>by subst e;exact hj h)]⟩
end
section
variable {mn:Md} {P:Program} {ops:Array Oper} {K:Act->World->Prop} {i:Nat} {rest:List Nat} {l l':List Value} {v b:World} {o:Oper} {vv:Value}
theorem Zo8(d:Nat)(ho:ops[i]?=some o)(hw:Region.wanted o (yielded ops (act l).tmps)=true)(hd:notD o=true)(hdst:o.dst=some d)(hv:Ge b v){mk:Nat->Value}{ob:Obj}(htr:∀v,Tr P (execOp (act l).eval o) v (.value (mk v.heap.size)) (v.alloc ob))
  (h:∀(n:Nat) (v':World),(∀(k:Nat) (o':Obj),b.heap[k]?=some o'->v'.heap[k]?=some o')->v'.heap[n]?=some ob->b.heap.size<=n->Kept (λ_=>False) b v'->OpsX mn P ops K rest (act (l.set d (mk n))) v'):OpsX mn P ops K (i::rest) (act l) v:=
 Yov d ho hw hd hdst hv λv₁ h₁=>⟨_,_,htr v₁,h v₁.heap.size (v₁.alloc ob) (λk o' hk=>Ypt (geC h₁ hk)) (Ypn v₁ ob) h₁.size ((Kept.of_below h₁).trans (Kept.alloc _ _ _))⟩
theorem Yeh{ρ:Operand->Value}{T:TypeId}{y:Operand}{x:Value}(ho:o.op=.load T y)(hy:ρ y=x):execOp ρ o=Instr.loadAt T x >>= λr=>pure (Next.value r):=by unfold execOp;rw[ho];dsimp only;rw[hy]
theorem Ztk{ρ:Operand->Value}{T t:TypeId}{y:Operand}{a:Nat}{cs:Array Value}{fr:Nat×Nat}{dd:TypeDesc}(ho:o.op=.load T y)(hy:ρ y=.pointer (some ⟨a,0,none⟩))(hu:P.underlying T=some dd)(hd:(match dd with | .struct _ | .array _ _=>true|_=>false)=true)(hi:(P.info? T).map (·.size)=some cs.size)
  (hc:v.heap[a]?=some (.cells cs t fr)):Tr P (execOp ρ o) v (.value (.agg cs)) v:=by
 rw[Yeh ho hy];refine Zh8 ((Zlg T _).tr (r:=.agg cs) ?_) (Zar λw es=>rfl);simp only[Instr.loadAt,Instr.sureAddr,Sem.run_bind,Sem.run_pure,Result.andThen_ok,run_loadVar_row v a t T cs fr dd hc hu hd hi]
theorem Ygj{ρ:Operand->Value}{T:TypeId}{y:Operand}{a:Nat}{x:Value}(ho:o.op=.load T y)(hy:ρ y=.pointer (some ⟨a,0,none⟩))(hu:(P.underlying T).map (·.isRow)=some false)(hc:v.cell? ⟨a,0,none⟩=some x):Tr P (execOp ρ o) v (.value x) v:=by rw[Yeh ho hy];exact Zh8 ((Zlg T _).tr (Zwj hu hc)) (Zar λw es=>rfl)
theorem kept_row{E:Nat->Prop}{w:World}{k:Nat}{cs:Array Value}(h:E k):Kept E w (w.setRow k cs):=
 ⟨rfl,rfl,rfl,by simp,λj _ hj=>setRow_other _ _ _ _ (λe=>by subst e;exact hj h)⟩
theorem Yin{T t:TypeId}{x y:Operand}{a:Nat}{old cs:Array Value}(ho:ops[i]?=some o)(hw:Region.wanted o (yielded ops (act l).tmps)=true)(hd:notD o=true)(hdst:o.dst=none)(hv:Ge b v)(hop:o.op=.store T x y)(hx:(act l).eval x=.pointer (some ⟨a,0,none⟩))(hy:(act l).eval y=.agg cs)
  (hc:b.heap[a]?=some (.cells old t (0,0))) (hi:(P.info? T).map (·.size)=some cs.size) (hold:old.size=cs.size) (h1:cs.all (·.oneCell')=true)
  (h:∀v',(∀(k:Nat) (o':Obj),k≠a->b.heap[k]?=some o'->v'.heap[k]?=some o')->v'.heap[a]?=some (.cells cs t (0,0))->Kept (λk=>k=a) b v'->OpsX mn P ops K rest (act l) v'):OpsX mn P ops K (i::rest) (act l) v:=
 ops_effN ho hw hd hdst hv λv₁ h₁=>⟨v₁.setRow a cs,by
  have e:execOp (act l).eval o=Instr.storeAt T (.pointer (some ⟨a,0,none⟩)) (.agg cs) >>= λ_=>pure Next.skip:=by unfold execOp;rw[hop];dsimp only;rw[hx,hy]
  rw[e];refine Zh8 ((Zuz T _ _).tr (r:=()) ?_) (Zar λw es=>rfl);simp only[Instr.storeAt,Instr.sureAddr,Sem.run_bind,Sem.run_pure,Result.andThen_ok,run_storeVar_row v₁ a t T old cs (geC h₁ hc) hi hold h1],h _ (λk o' hk hb=>(setRow_other _ _ _ _ hk).trans (geC h₁ hb)) (setRow_heap _ _ _ _ _ _ (geC h₁ hc)) ((Kept.of_below h₁).trans (kept_row rfl))⟩
end
variable {mn:Md}
theorem asRlmX(z:Sem Value)(g:TypeId->Addr->Nat->Nat->Sem Value)(v:Value):
  ReflectliteValue.method z g #[v]=(do match <- ReflectliteValue.parts v with|none=>z|some (t,a,fl)=>g t a fl (fl % 32)):=rfl
theorem Yaz{α:Type}{P:Program}(m:String)(k:Nat):Simple P (ReflectliteValue.valueError m k:Sem α):=by
 unfold ReflectliteValue.valueError;refine .bind ?_ λ_=>.bind (Zqa _) λ_=>.bind (Zkt _ _) λ_=>Ye3 _
 unfold cutType;refine Ze3 ?_;split<;>first|exact .pure _|exact Ya7 _
theorem trIsNil{v:World}{a p:Nat}(ha:v.cell? ⟨a,0,none⟩=some (.pointer (some ⟨p,0,none⟩))):Tr PZ (callFunc 47 #[(.agg #[.pointer (some ⟨2,74,none⟩),(.pointer (some ⟨a,0,none⟩)),.int .u64 150])]) v (.value (.bool false)) v:=by
 refine Zqc (e := ReflectliteValue.method (ReflectliteValue.valueError "reflectlite.Value.IsNil" 0) ReflectliteValue.isNil) Tryz.func47 (by kernel_rfl) (by kernel_rfl) (by kernel_rfl) (by kernel_rfl) ?_
 rw[asRlmX];refine Zh8 (r:=some (74,⟨a,0,none⟩,150)) (Zar λw es=>by kernel_rfl) ?_;refine Simple.tr ?_ ?_
 ·show Simple PZ (ReflectliteValue.isNil 74 ⟨a,0,none⟩ 150 22)
  unfold ReflectliteValue.isNil;simp only[]
  repeat' first|exact Yaz _ _|exact .pure _|exact Zjj _ _|refine .bind ?_ λ_=> ?_|split
 ·show (ReflectliteValue.isNil 74 ⟨a,0,none⟩ 150 22).run PZ v=_
  simp[ReflectliteValue.isNil,loadVar,isAgg,underlying,Tryz.underlying74,ha,Result.andThen]
theorem trElem{v:World}{a p:Nat}(ha:v.cell? ⟨a,0,none⟩=some (.pointer (some ⟨p,0,none⟩))):Tr PZ (callFunc 66 #[(.agg #[.pointer (some ⟨2,74,none⟩),(.pointer (some ⟨a,0,none⟩)),.int .u64 150])]) v (.value (.agg #[.pointer (some ⟨2,70,none⟩),(.pointer (some ⟨p,0,none⟩)),.int .u64 390])) v:=by
 refine Zqc (e := ReflectliteValue.method (ReflectliteValue.valueError "reflectlite.Value.Elem" 0) ReflectliteValue.elem) Tryz.func66 (by kernel_rfl) (by kernel_rfl) (by kernel_rfl) (by kernel_rfl) ?_
 rw[asRlmX];refine Zh8 (r:=some (74,⟨a,0,none⟩,150)) (Zar λw es=>by kernel_rfl) ?_
 show Tr PZ (ReflectliteValue.elem 74 ⟨a,0,none⟩ 150 22) v _ v
 have e:ReflectliteValue.elem 74 ⟨a,0,none⟩ 150 22=(loadVar 74 ⟨a,0,none⟩ >>= λx=>Rtype.elem? 74 >>= λy=>match (22:Nat),x,y with
  |20,i,_=>ReflectliteValue.unpack i
  |22,.pointer none,_=>pure ReflectliteValue.zeroV
  |22,.pointer (some p),some e=>ReflectliteValue.mk e p ReflectliteValue.flagAddr
  | _, _, _ => ReflectliteValue.valueError "reflectlite.Value.Elem" 22) := rfl
 rw[e];refine Zh8 (r:=(.pointer (some ⟨p,0,none⟩))) ((Zjj _ _).tr ?_) (Zh8 (r:=some 70) (Zar λw es=>by kernel_rfl) (Zar λw es=>by kernel_rfl));simp[loadVar,isAgg,underlying,Tryz.underlying74,ha,Result.andThen]
theorem trSet{v:World}{t b:Nat}{old:Value}{TT TB:TypeId}{fb:Nat×Nat}{k:Int}(hb:v.heap[b]?=some (.cells #[.int .i64 k] TB fb))(ht:v.heap[t]?=some (.cells #[old] TT (0,0))):Tr PZ (callFunc 67 #[(.agg #[.pointer (some ⟨2,70,none⟩),(.pointer (some ⟨t,0,none⟩)),.int .u64 390]),(.agg #[.pointer (some ⟨2,70,none⟩),(.pointer (some ⟨b,0,none⟩)),.int .u64 134])]) v (.value (.tuple #[])) (v.setCell ⟨t,0,none⟩ (.int .i64 k)):=by
 refine Zqc (e:=ReflectliteValue.set) Tryz.func67 (by kernel_rfl) (by kernel_rfl) (by kernel_rfl) (by kernel_rfl) ?_;unfold ReflectliteValue.set;refine Zh8 (r:=some (70,⟨t,0,none⟩,390)) (Zar λw es=>by kernel_rfl) ?_;refine Zh8 (r:=some (70,⟨b,0,none⟩,134)) (Zar λw es=>by kernel_rfl) ?_;dsimp only;rw[if_neg (by decide)];refine Zh8 (r:=.int .i64 k) (v':=v) ((Zjj _ _).tr ?_) ?_
 ·have hc:=Zv5 (i:=0) hb rfl;simp[loadVar,isAgg,underlying,Tryz.underlying70,hc,Result.andThen]
 refine Zh8 (r:=true) (Zar λw es=>by kernel_rfl) ?_;rw[if_pos rfl];refine Zh8 (r:=()) (v':=v.setCell ⟨t,0,none⟩ (.int .i64 k)) ((Zst _ _ _).tr ?_) (Zar λw es=>rfl);have hs:(sizeOf 70).run PZ v=.ok 1 v:=by kernel_rfl
 have h1:=Zv5 (i:=0) ht rfl;have h2:=froz_of (i:=0) ht;simp[storeVar,Value.cells,hs,Result.andThen,storeCells,Addr.add];rw[run_store PZ v ⟨t,0,none⟩ _ _ (by rfl)];simp[h1,h2]
theorem as2X(k:Int)(tb a1:Nat){old:Value}(v0:World)(ht:v0.heap[tb]?=some (.cells #[old] 70 (0,0)))(ha:v0.heap[a1]?=some (.cells #[(.pointer (some ⟨tb,0,none⟩))] 74 (0,0))):Ua9 mn PZ 48 #[(.iface 70 (.int .i64 k)),(.iface 74 (.pointer (some ⟨tb,0,none⟩))),(.agg #[.pointer (some ⟨2,74,none⟩),(.pointer (some ⟨a1,0,none⟩)),.int .u64 150]),(.iface 124 (.agg #[.pointer (some ⟨2,70,none⟩)]))] v0 λr v'=>r=.bool true/\Kept (Mine tb v0) v0 v'/\v'.heap[tb]?=some (.cells #[.int .i64 k] 70 (0,0)):=by
 refine Zga (c:=codeOf f48) Tryz.func48 rfl ?_;rw[show ({ tmps:=#[(.iface 70 (.int .i64 k)),(.iface 74 (.pointer (some ⟨tb,0,none⟩))),(.agg #[.pointer (some ⟨2,74,none⟩),(.pointer (some ⟨a1,0,none⟩)),.int .u64 150]),(.iface 124 (.agg #[.pointer (some ⟨2,70,none⟩)]))]++jD (f48.ntmps - (#[(.iface 70 (.int .i64 k)),(.iface 74 (.pointer (some ⟨tb,0,none⟩))),(.agg #[.pointer (some ⟨2,74,none⟩),(.pointer (some ⟨a1,0,none⟩)),.int .u64 150]),(.iface 124 (.agg #[.pointer (some ⟨2,70,none⟩)]))]:Array Value).size) undef,defers:=[] }:Act)=act ([(.iface 70 (.int .i64 k)),(.iface 74 (.pointer (some ⟨tb,0,none⟩))),(.agg #[.pointer (some ⟨2,74,none⟩),(.pointer (some ⟨a1,0,none⟩)),.int .u64 150]),(.iface 124 (.agg #[.pointer (some ⟨2,70,none⟩)]))]++jA 58 undef) from by kernel_rfl];have h:Ge v0 v0:=Ge.refl v0;have hk:Kept (Mine tb v0) v0 v0:=Kept.refl _ _;refine Zal ?_;refine Zap ?_
 show OpsX mn _ _ _ [0,1] _ _
 refine Zo8 6 rfl (by kernel_rfl) rfl rfl h (mk:=λn=>(.pointer (some ⟨n,0,none⟩))) (ob:=(.cells #[.pointer (some ⟨2,74,none⟩),(.pointer (some ⟨a1,0,none⟩)),.int .u64 150] 100)) (λv=>Yej (r:=λn=>Next.value (.pointer (some ⟨n,0,none⟩))) rfl λw es=>by kernel_rfl) λa6 B oa6 fa6 na6 ka6=> ?_
 have ht:=oa6 _ _ ht;have ha:=oa6 _ _ ha;have hna6:=jB hk.size na6;have hk:=hk.trans (Kept.mono ka6 λ_ _ e=>e.elim);clear h;have h:=Ge.refl B;refine Zaq 8 rfl (by kernel_rfl) rfl rfl h (vv:=(.bool false)) (λv h=>Zar λw es=>by kernel_rfl) λv h=> ?_
 show WpX mn none _ _ _ _ _
 refine Zci (l':=([(.iface 70 (.int .i64 k)),(.iface 74 (.pointer (some ⟨tb,0,none⟩))),(.agg #[.pointer (some ⟨2,74,none⟩),(.pointer (some ⟨a1,0,none⟩)),.int .u64 150]),(.iface 124 (.agg #[.pointer (some ⟨2,70,none⟩)]))]++(jA 2 undef++([(.pointer (some ⟨a6,0,none⟩))]++(jA 1 undef++([(.bool false)]++(jA 53 undef))))):List Value)) (by kernel_rfl) ?_;refine Zfj ?_;refine Zby 1 ?_
 show WpX mn none _ _ _ _ _
 refine Zfj ?_;refine Zal ?_;refine Zal ?_;refine Zap ?_
 show OpsX mn _ _ _ [0,1,2,3] _ _
 refine Zaq 16 rfl (by kernel_rfl) rfl rfl h (vv:=(.iface 70 (.int .i64 k))) (λv h=>Zar λw es=>by kernel_rfl) λv h=> ?_
 refine Zaq 17 rfl (by kernel_rfl) rfl rfl h (vv:=(.iface 124 (.agg #[.pointer (some ⟨2,70,none⟩)]))) (λv h=>Zsf 65 λw es=>by kernel_rfl) λv h=> ?_
 refine Zaq 18 rfl (by kernel_rfl) rfl rfl h (vv:=(.iface 124 (.agg #[.pointer (some ⟨2,70,none⟩)]))) (λv h=>Zar λw es=>by kernel_rfl) λv h=> ?_
 refine Zaq 19 rfl (by kernel_rfl) rfl rfl h (vv:=(.bool true)) (λv h=>Zsf 114 λw es=>by kernel_rfl) λv h=> ?_
 show WpX mn none _ _ _ _ _
 refine Zci (l':=([(.iface 70 (.int .i64 k)),(.iface 74 (.pointer (some ⟨tb,0,none⟩))),(.agg #[.pointer (some ⟨2,74,none⟩),(.pointer (some ⟨a1,0,none⟩)),.int .u64 150]),(.iface 124 (.agg #[.pointer (some ⟨2,70,none⟩)]))]++(jA 2 undef++([(.pointer (some ⟨a6,0,none⟩))]++(jA 1 undef++([(.bool false)]++(jA 7 undef++([(.iface 70 (.int .i64 k)),(.iface 124 (.agg #[.pointer (some ⟨2,70,none⟩)])),(.iface 124 (.agg #[.pointer (some ⟨2,70,none⟩)])),(.bool true)]++(jA 42 undef))))))):List Value)) (by kernel_rfl) ?_;refine Zdo (by kernel_rfl) ?_;refine Zal ?_;refine Zap ?_
 show OpsX mn _ _ _ [0,1,2,3,4] _ _
 refine Zaq 20 rfl (by kernel_rfl) rfl rfl h (vv:=(.agg #[.pointer (some ⟨2,74,none⟩),(.pointer (some ⟨a1,0,none⟩)),.int .u64 150])) (λv h=>Ztk rfl (by kernel_rfl) Tryz.underlying100 rfl (by kernel_rfl) (geC h fa6)) λv h=> ?_
 refine Zaq 21 rfl (by kernel_rfl) rfl rfl h (vv:=(.agg #[.pointer (some ⟨2,70,none⟩),(.pointer (some ⟨tb,0,none⟩)),.int .u64 390])) (λv h=>Ygz (trElem (Zv5 (i:=0) (geC h ha) rfl)) rfl rfl (by kernel_rfl) (by kernel_rfl)) λv h=> ?_
 refine Zaq 22 rfl (by kernel_rfl) rfl rfl h (vv:=(.iface 70 (.int .i64 k))) (λv h=>Zar λw es=>by kernel_rfl) λv h=> ?_
 refine Zo8 23 rfl (by kernel_rfl) rfl rfl h (mk:=λn=>(.agg #[.pointer (some ⟨2,70,none⟩),(.pointer (some ⟨n,0,none⟩)),.int .u64 134])) (ob:=(.cells #[.int .i64 k] 70)) (λv=>Yea (r:=λn=>Next.value (.agg #[.pointer (some ⟨2,70,none⟩),.pointer (some ⟨n,0,none⟩),.int .u64 134])) rfl 45 λw es=>by kernel_rfl) λa7 B oa7 fa7 na7 ka7=> ?_
 have ht:=oa7 _ _ ht;have ha:=oa7 _ _ ha;have fa6:=oa7 _ _ fa6;have hna7:=jB hk.size na7;have hk:=hk.trans (Kept.mono ka7 λ_ _ e=>e.elim);clear h;have h:=Ge.refl B;refine Yov 24 rfl (by kernel_rfl) rfl rfl h λv h=>⟨_,_,Ygz (trSet (geC h fa7) (geC h ht)) rfl rfl (by kernel_rfl) (by kernel_rfl),?_⟩
 have hk:=(hk.trans (Kept.of_below h)).trans (kept_set (i:=0) (x:=.int .i64 k) (.inl rfl));have ht:=set_own (i:=0) (x:=.int .i64 k) (geC h ht);generalize v.setCell ⟨tb,0,none⟩ (.int .i64 k)=B at hk ht|-
 clear h;have h:=Ge.refl B
 show WpX mn none _ _ _ _ _
 refine Zci (l':=([(.iface 70 (.int .i64 k)),(.iface 74 (.pointer (some ⟨tb,0,none⟩))),(.agg #[.pointer (some ⟨2,74,none⟩),(.pointer (some ⟨a1,0,none⟩)),.int .u64 150]),(.iface 124 (.agg #[.pointer (some ⟨2,70,none⟩)]))]++(jA 2 undef++([(.pointer (some ⟨a6,0,none⟩))]++(jA 1 undef++([(.bool false)]++(jA 7 undef++([(.iface 70 (.int .i64 k)),(.iface 124 (.agg #[.pointer (some ⟨2,70,none⟩)])),(.iface 124 (.agg #[.pointer (some ⟨2,70,none⟩)])),(.bool true),(.agg #[.pointer (some ⟨2,74,none⟩),(.pointer (some ⟨a1,0,none⟩)),.int .u64 150]),(.agg #[.pointer (some ⟨2,70,none⟩),(.pointer (some ⟨tb,0,none⟩)),.int .u64 390]),(.iface 70 (.int .i64 k)),(.agg #[.pointer (some ⟨2,70,none⟩),(.pointer (some ⟨a7,0,none⟩)),.int .u64 134]),(.tuple #[])]++(jA 37 undef))))))):List Value)) (by kernel_rfl) ?_;refine Zal ?_;refine Zap ?_
 show OpsX mn _ _ _ [0] _ _
 refine Zaq 8 rfl (by kernel_rfl) rfl rfl h (vv:=(.bool true)) (λv h=>Zar λw es=>by kernel_rfl) λv h=> ?_
 show WpX mn none _ _ _ _ _
 refine Zci (l':=([(.iface 70 (.int .i64 k)),(.iface 74 (.pointer (some ⟨tb,0,none⟩))),(.agg #[.pointer (some ⟨2,74,none⟩),(.pointer (some ⟨a1,0,none⟩)),.int .u64 150]),(.iface 124 (.agg #[.pointer (some ⟨2,70,none⟩)]))]++(jA 2 undef++([(.pointer (some ⟨a6,0,none⟩))]++(jA 1 undef++([(.bool true)]++(jA 7 undef++([(.iface 70 (.int .i64 k)),(.iface 124 (.agg #[.pointer (some ⟨2,70,none⟩)])),(.iface 124 (.agg #[.pointer (some ⟨2,70,none⟩)])),(.bool true),(.agg #[.pointer (some ⟨2,74,none⟩),(.pointer (some ⟨a1,0,none⟩)),.int .u64 150]),(.agg #[.pointer (some ⟨2,70,none⟩),(.pointer (some ⟨tb,0,none⟩)),.int .u64 390]),(.iface 70 (.int .i64 k)),(.agg #[.pointer (some ⟨2,70,none⟩),(.pointer (some ⟨a7,0,none⟩)),.int .u64 134]),(.tuple #[])]++(jA 37 undef))))))):List Value)) (by kernel_rfl) ?_;refine Zkl ?_;exact⟨.inr rfl,.inl ⟨rfl,λv₁ g=>⟨.bool true,by kernel_rfl,rfl,(hk.trans (Kept.of_below h)).trans (Kept.of_below g),geC g (geC h ht)⟩⟩⟩
theorem asX(k:Int)(tb:Nat){old:Value}{Cg:Array Value}{Tg:TypeId}{fg:Nat×Nat}(v0:World)(ht:v0.heap[tb]?=some (.cells #[old] 70 (0,0)))(hg:v0.heap[0]?=some (.cells Cg Tg fg))(hx:Cg[0]?=some (.iface 124 (.agg #[.pointer (some ⟨2,55,none⟩)]))):Ua9 mn PZ 26 #[(.iface 70 (.int .i64 k)),(.iface 74 (.pointer (some ⟨tb,0,none⟩)))] v0 λr v'=>r=.bool true/\Kept (Mine tb v0) v0 v'/\v'.heap[tb]?=some (.cells #[.int .i64 k] 70 (0,0)):=by
 refine Zga (c:=codeOf f26) Tryz.func26 rfl ?_;rw[show ({ tmps:=#[(.iface 70 (.int .i64 k)),(.iface 74 (.pointer (some ⟨tb,0,none⟩)))]++jD (f26.ntmps - (#[(.iface 70 (.int .i64 k)),(.iface 74 (.pointer (some ⟨tb,0,none⟩)))]:Array Value).size) undef,defers:=[] }:Act)=act ([(.iface 70 (.int .i64 k)),(.iface 74 (.pointer (some ⟨tb,0,none⟩)))]++jA 40 undef) from by kernel_rfl];have h:Ge v0 v0:=Ge.refl v0;have hk:Kept (Mine tb v0) v0 v0:=Kept.refl _ _;refine Zal ?_;refine Zap ?_
 show OpsX mn _ _ _ [0] _ _
 refine Zaq 4 rfl (by kernel_rfl) rfl rfl h (vv:=(.bool false)) (λv h=>Zar λw es=>by kernel_rfl) λv h=> ?_
 show WpX mn none _ _ _ _ _
 refine Zci (l':=([(.iface 70 (.int .i64 k)),(.iface 74 (.pointer (some ⟨tb,0,none⟩)))]++(jA 2 undef++([(.bool false)]++(jA 37 undef))):List Value)) (by kernel_rfl) ?_;refine Zal ?_;refine Zal ?_;refine Zap ?_
 show OpsX mn _ _ _ [0,1] _ _
 refine Zaq 8 rfl (by kernel_rfl) rfl rfl h (vv:=(.iface 70 (.int .i64 k))) (λv h=>Zar λw es=>by kernel_rfl) λv h=> ?_
 refine Zaq 9 rfl (by kernel_rfl) rfl rfl h (vv:=(.bool false)) (λv h=>Zar λw es=>by kernel_rfl) λv h=> ?_
 show WpX mn none _ _ _ _ _
 refine Zci (l':=([(.iface 70 (.int .i64 k)),(.iface 74 (.pointer (some ⟨tb,0,none⟩)))]++(jA 2 undef++([(.bool false)]++(jA 3 undef++([(.iface 70 (.int .i64 k)),(.bool false)]++(jA 32 undef))))):List Value)) (by kernel_rfl) ?_;refine Za7 (by kernel_rfl) ?_;refine Zf8 ?_
 show WpX mn none _ _ _ _ _
 refine Zci (l':=([(.iface 70 (.int .i64 k)),(.iface 74 (.pointer (some ⟨tb,0,none⟩)))]++(jA 2 undef++([(.bool false)]++(jA 3 undef++([(.iface 70 (.int .i64 k)),(.bool false)]++(jA 32 undef))))):List Value)) (by kernel_rfl) ?_;refine Zal ?_;refine Zal ?_;refine Zap ?_
 show OpsX mn _ _ _ [0,1] _ _
 refine Zaq 10 rfl (by kernel_rfl) rfl rfl h (vv:=(.iface 74 (.pointer (some ⟨tb,0,none⟩)))) (λv h=>Zar λw es=>by kernel_rfl) λv h=> ?_
 refine Zaq 11 rfl (by kernel_rfl) rfl rfl h (vv:=(.bool false)) (λv h=>Zar λw es=>by kernel_rfl) λv h=> ?_
 show WpX mn none _ _ _ _ _
 refine Zci (l':=([(.iface 70 (.int .i64 k)),(.iface 74 (.pointer (some ⟨tb,0,none⟩)))]++(jA 2 undef++([(.bool false)]++(jA 3 undef++([(.iface 70 (.int .i64 k)),(.bool false),(.iface 74 (.pointer (some ⟨tb,0,none⟩))),(.bool false)]++(jA 30 undef))))):List Value)) (by kernel_rfl) ?_;refine Za7 (by kernel_rfl) ?_;refine Zf8 ?_
 show WpX mn none _ _ _ _ _
 refine Zci (l':=([(.iface 70 (.int .i64 k)),(.iface 74 (.pointer (some ⟨tb,0,none⟩)))]++(jA 2 undef++([(.bool false)]++(jA 3 undef++([(.iface 70 (.int .i64 k)),(.bool false),(.iface 74 (.pointer (some ⟨tb,0,none⟩))),(.bool false)]++(jA 30 undef))))):List Value)) (by kernel_rfl) ?_;refine Zal ?_;refine Zap ?_
 show OpsX mn _ _ _ [0,1,2,3] _ _
 refine Zaq 13 rfl (by kernel_rfl) rfl rfl h (vv:=(.iface 74 (.pointer (some ⟨tb,0,none⟩)))) (λv h=>Zar λw es=>by kernel_rfl) λv h=> ?_
 refine Zo8 14 rfl (by kernel_rfl) rfl rfl h (mk:=λn=>(.agg #[.pointer (some ⟨2,74,none⟩),(.pointer (some ⟨n,0,none⟩)),.int .u64 150])) (ob:=(.cells #[(.pointer (some ⟨tb,0,none⟩))] 74)) (λv=>Yea (r:=λn=>Next.value (.agg #[.pointer (some ⟨2,74,none⟩),.pointer (some ⟨n,0,none⟩),.int .u64 150])) rfl 45 λw es=>by kernel_rfl) λa1 B oa1 fa1 na1 ka1=> ?_
 have ht:=oa1 _ _ ht;have hg:=oa1 _ _ hg;have hna1:=jB hk.size na1;have hk:=hk.trans (Kept.mono ka1 λ_ _ e=>e.elim);clear h;have h:=Ge.refl B;refine Zo8 5 rfl (by kernel_rfl) rfl rfl h (mk:=λn=>(.pointer (some ⟨n,0,none⟩))) (ob:=(.cells #[.pointer none,.pointer none,.int .u64 0] 100)) (λv=>Yej (r:=λn=>Next.value (.pointer (some ⟨n,0,none⟩))) rfl λw es=>by kernel_rfl) λa5 B oa5 fa5 na5 ka5=> ?_
 have eht:=Nat.ne_of_lt (Nat.lt_of_lt_of_le (jC.1 ht).1 na5);have ht:=oa5 _ _ ht;have ehg:=Nat.ne_of_lt (Nat.lt_of_lt_of_le (jC.1 hg).1 na5);have hg:=oa5 _ _ hg;have efa1:=Nat.ne_of_lt (Nat.lt_of_lt_of_le (jC.1 fa1).1 na5);have fa1:=oa5 _ _ fa1;have hna5:=jB hk.size na5;have hk:=hk.trans (Kept.mono ka5 λ_ _ e=>e.elim);clear h;have h:=Ge.refl B;refine Yin (a:=a5) (cs:=#[.pointer (some ⟨2,74,none⟩),(.pointer (some ⟨a1,0,none⟩)),.int .u64 150]) rfl (by kernel_rfl) rfl rfl h rfl (by kernel_rfl) (by kernel_rfl) fa5 (by kernel_rfl) rfl (by kernel_rfl) λB oB fB kB=> ?_
 have hk:=hk.trans (kB.mono λ_ _ e=>.inr (e ▸ hna5));have ht:=oB _ _ eht ht;have hg:=oB _ _ ehg hg;have fa1:=oB _ _ efa1 fa1;clear h;have h:=Ge.refl B
 show WpX mn none _ _ _ _ _
 refine Zci (l':=([(.iface 70 (.int .i64 k)),(.iface 74 (.pointer (some ⟨tb,0,none⟩)))]++(jA 2 undef++([(.bool false),(.pointer (some ⟨a5,0,none⟩))]++(jA 2 undef++([(.iface 70 (.int .i64 k)),(.bool false),(.iface 74 (.pointer (some ⟨tb,0,none⟩))),(.bool false)]++(jA 1 undef++([(.iface 74 (.pointer (some ⟨tb,0,none⟩))),(.agg #[.pointer (some ⟨2,74,none⟩),(.pointer (some ⟨a1,0,none⟩)),.int .u64 150])]++(jA 27 undef))))))):List Value)) (by kernel_rfl) ?_;refine Zal ?_;refine Zap ?_
 show OpsX mn _ _ _ [0,1,2] _ _
 refine Zaq 15 rfl (by kernel_rfl) rfl rfl h (vv:=(.agg #[.pointer (some ⟨2,74,none⟩),(.pointer (some ⟨a1,0,none⟩)),.int .u64 150])) (λv h=>Ztk rfl (by kernel_rfl) Tryz.underlying100 rfl (by kernel_rfl) (geC h fB)) λv h=> ?_
 refine Zaq 16 rfl (by kernel_rfl) rfl rfl h (vv:=(.iface 124 (.agg #[.pointer (some ⟨2,74,none⟩)]))) (λv h=>Zsf 46 λw es=>by kernel_rfl) λv h=> ?_
 refine Zaq 6 rfl (by kernel_rfl) rfl rfl h (vv:=(.iface 124 (.agg #[.pointer (some ⟨2,74,none⟩)]))) (λv h=>Zar λw es=>by kernel_rfl) λv h=> ?_
 show WpX mn none _ _ _ _ _
 refine Zci (l':=([(.iface 70 (.int .i64 k)),(.iface 74 (.pointer (some ⟨tb,0,none⟩)))]++(jA 2 undef++([(.bool false),(.pointer (some ⟨a5,0,none⟩)),(.iface 124 (.agg #[.pointer (some ⟨2,74,none⟩)]))]++(jA 1 undef++([(.iface 70 (.int .i64 k)),(.bool false),(.iface 74 (.pointer (some ⟨tb,0,none⟩))),(.bool false)]++(jA 1 undef++([(.iface 74 (.pointer (some ⟨tb,0,none⟩))),(.agg #[.pointer (some ⟨2,74,none⟩),(.pointer (some ⟨a1,0,none⟩)),.int .u64 150]),(.agg #[.pointer (some ⟨2,74,none⟩),(.pointer (some ⟨a1,0,none⟩)),.int .u64 150]),(.iface 124 (.agg #[.pointer (some ⟨2,74,none⟩)]))]++(jA 25 undef))))))):List Value)) (by kernel_rfl) ?_;refine Zal ?_;refine Zal ?_;refine Zap ?_
 show OpsX mn _ _ _ [0,1,2,3,4,5,6] _ _
 refine Zaq 17 rfl (by kernel_rfl) rfl rfl h (vv:=(.iface 124 (.agg #[.pointer (some ⟨2,74,none⟩)]))) (λv h=>Zar λw es=>by kernel_rfl) λv h=> ?_
 refine Zaq 18 rfl (by kernel_rfl) rfl rfl h (vv:=(.int .u8 22)) (λv h=>Zsf 106 λw es=>by kernel_rfl) λv h=> ?_
 refine Zaq 19 rfl (by kernel_rfl) rfl rfl h (vv:=(.bool false)) (λv h=>Zar λw es=>by kernel_rfl) λv h=> ?_
 refine Zaq 20 rfl (by kernel_rfl) rfl rfl h (vv:=(.bool false)) (λv h=>Zar λw es=>by kernel_rfl) λv h=> ?_
 refine Zaq 21 rfl (by kernel_rfl) rfl rfl h (vv:=(.agg #[.pointer (some ⟨2,74,none⟩),(.pointer (some ⟨a1,0,none⟩)),.int .u64 150])) (λv h=>Ztk rfl (by kernel_rfl) Tryz.underlying100 rfl (by kernel_rfl) (geC h fB)) λv h=> ?_
 refine Zaq 22 rfl (by kernel_rfl) rfl rfl h (vv:=(.bool false)) (λv h=>Ygz (trIsNil (Zv5 (i:=0) (geC h fa1) rfl)) rfl rfl (by kernel_rfl) (by kernel_rfl)) λv h=> ?_
 refine Zaq 23 rfl (by kernel_rfl) rfl rfl h (vv:=(.bool false)) (λv h=>Zar λw es=>by kernel_rfl) λv h=> ?_
 show WpX mn none _ _ _ _ _
 refine Zci (l':=([(.iface 70 (.int .i64 k)),(.iface 74 (.pointer (some ⟨tb,0,none⟩)))]++(jA 2 undef++([(.bool false),(.pointer (some ⟨a5,0,none⟩)),(.iface 124 (.agg #[.pointer (some ⟨2,74,none⟩)]))]++(jA 1 undef++([(.iface 70 (.int .i64 k)),(.bool false),(.iface 74 (.pointer (some ⟨tb,0,none⟩))),(.bool false)]++(jA 1 undef++([(.iface 74 (.pointer (some ⟨tb,0,none⟩))),(.agg #[.pointer (some ⟨2,74,none⟩),(.pointer (some ⟨a1,0,none⟩)),.int .u64 150]),(.agg #[.pointer (some ⟨2,74,none⟩),(.pointer (some ⟨a1,0,none⟩)),.int .u64 150]),(.iface 124 (.agg #[.pointer (some ⟨2,74,none⟩)])),(.iface 124 (.agg #[.pointer (some ⟨2,74,none⟩)])),(.int .u8 22),(.bool false),(.bool false),(.agg #[.pointer (some ⟨2,74,none⟩),(.pointer (some ⟨a1,0,none⟩)),.int .u64 150]),(.bool false),(.bool false)]++(jA 18 undef))))))):List Value)) (by kernel_rfl) ?_;refine Za7 (by kernel_rfl) ?_;refine Zf8 ?_
 show WpX mn none _ _ _ _ _
 refine Zci (l':=([(.iface 70 (.int .i64 k)),(.iface 74 (.pointer (some ⟨tb,0,none⟩)))]++(jA 2 undef++([(.bool false),(.pointer (some ⟨a5,0,none⟩)),(.iface 124 (.agg #[.pointer (some ⟨2,74,none⟩)]))]++(jA 1 undef++([(.iface 70 (.int .i64 k)),(.bool false),(.iface 74 (.pointer (some ⟨tb,0,none⟩))),(.bool false)]++(jA 1 undef++([(.iface 74 (.pointer (some ⟨tb,0,none⟩))),(.agg #[.pointer (some ⟨2,74,none⟩),(.pointer (some ⟨a1,0,none⟩)),.int .u64 150]),(.agg #[.pointer (some ⟨2,74,none⟩),(.pointer (some ⟨a1,0,none⟩)),.int .u64 150]),(.iface 124 (.agg #[.pointer (some ⟨2,74,none⟩)])),(.iface 124 (.agg #[.pointer (some ⟨2,74,none⟩)])),(.int .u8 22),(.bool false),(.bool false),(.agg #[.pointer (some ⟨2,74,none⟩),(.pointer (some ⟨a1,0,none⟩)),.int .u64 150]),(.bool false),(.bool false)]++(jA 18 undef))))))):List Value)) (by kernel_rfl) ?_;refine Zal ?_;refine Zap ?_
 show OpsX mn _ _ _ [0,1,2] _ _
 refine Zaq 25 rfl (by kernel_rfl) rfl rfl h (vv:=(.iface 124 (.agg #[.pointer (some ⟨2,74,none⟩)]))) (λv h=>Zar λw es=>by kernel_rfl) λv h=> ?_
 refine Zaq 26 rfl (by kernel_rfl) rfl rfl h (vv:=(.iface 124 (.agg #[.pointer (some ⟨2,70,none⟩)]))) (λv h=>Zsf 116 λw es=>by kernel_rfl) λv h=> ?_
 refine Zaq 7 rfl (by kernel_rfl) rfl rfl h (vv:=(.iface 124 (.agg #[.pointer (some ⟨2,70,none⟩)]))) (λv h=>Zar λw es=>by kernel_rfl) λv h=> ?_
 show WpX mn none _ _ _ _ _
 refine Zci (l':=([(.iface 70 (.int .i64 k)),(.iface 74 (.pointer (some ⟨tb,0,none⟩)))]++(jA 2 undef++([(.bool false),(.pointer (some ⟨a5,0,none⟩)),(.iface 124 (.agg #[.pointer (some ⟨2,74,none⟩)])),(.iface 124 (.agg #[.pointer (some ⟨2,70,none⟩)])),(.iface 70 (.int .i64 k)),(.bool false),(.iface 74 (.pointer (some ⟨tb,0,none⟩))),(.bool false)]++(jA 1 undef++([(.iface 74 (.pointer (some ⟨tb,0,none⟩))),(.agg #[.pointer (some ⟨2,74,none⟩),(.pointer (some ⟨a1,0,none⟩)),.int .u64 150]),(.agg #[.pointer (some ⟨2,74,none⟩),(.pointer (some ⟨a1,0,none⟩)),.int .u64 150]),(.iface 124 (.agg #[.pointer (some ⟨2,74,none⟩)])),(.iface 124 (.agg #[.pointer (some ⟨2,74,none⟩)])),(.int .u8 22),(.bool false),(.bool false),(.agg #[.pointer (some ⟨2,74,none⟩),(.pointer (some ⟨a1,0,none⟩)),.int .u64 150]),(.bool false),(.bool false)]++(jA 1 undef++([(.iface 124 (.agg #[.pointer (some ⟨2,74,none⟩)])),(.iface 124 (.agg #[.pointer (some ⟨2,70,none⟩)]))]++(jA 15 undef))))))):List Value)) (by kernel_rfl) ?_;refine Zal ?_;refine Zal ?_;refine Zap ?_
 show OpsX mn _ _ _ [0,1,2,3,4,5,6,7,8] _ _
 refine Zaq 27 rfl (by kernel_rfl) rfl rfl h (vv:=(.iface 124 (.agg #[.pointer (some ⟨2,70,none⟩)]))) (λv h=>Zar λw es=>by kernel_rfl) λv h=> ?_
 refine Zaq 28 rfl (by kernel_rfl) rfl rfl h (vv:=(.int .u8 6)) (λv h=>Zsf 106 λw es=>by kernel_rfl) λv h=> ?_
 refine Zaq 29 rfl (by kernel_rfl) rfl rfl h (vv:=(.bool true)) (λv h=>Zar λw es=>by kernel_rfl) λv h=> ?_
 refine Zaq 30 rfl (by kernel_rfl) rfl rfl h (vv:=(.bool true)) (λv h=>Zar λw es=>by kernel_rfl) λv h=> ?_
 refine Zaq 31 rfl (by kernel_rfl) rfl rfl h (vv:=(.iface 124 (.agg #[.pointer (some ⟨2,70,none⟩)]))) (λv h=>Zar λw es=>by kernel_rfl) λv h=> ?_
 refine Zaq 32 rfl (by kernel_rfl) rfl rfl h (vv:=(.iface 124 (.agg #[.pointer (some ⟨2,55,none⟩)]))) (λv h=>Ygj rfl rfl (by kernel_rfl) (Zv5 (i:=0) (geC h hg) hx)) λv h=> ?_
 refine Zaq 33 rfl (by kernel_rfl) rfl rfl h (vv:=(.bool true)) (λv h=>Zsf 117 λw es=>by kernel_rfl) λv h=> ?_
 refine Zaq 34 rfl (by kernel_rfl) rfl rfl h (vv:=(.bool false)) (λv h=>Zar λw es=>by kernel_rfl) λv h=> ?_
 refine Zaq 35 rfl (by kernel_rfl) rfl rfl h (vv:=(.bool false)) (λv h=>Zar λw es=>by kernel_rfl) λv h=> ?_
 show WpX mn none _ _ _ _ _
 refine Zci (l':=([(.iface 70 (.int .i64 k)),(.iface 74 (.pointer (some ⟨tb,0,none⟩)))]++(jA 2 undef++([(.bool false),(.pointer (some ⟨a5,0,none⟩)),(.iface 124 (.agg #[.pointer (some ⟨2,74,none⟩)])),(.iface 124 (.agg #[.pointer (some ⟨2,70,none⟩)])),(.iface 70 (.int .i64 k)),(.bool false),(.iface 74 (.pointer (some ⟨tb,0,none⟩))),(.bool false)]++(jA 1 undef++([(.iface 74 (.pointer (some ⟨tb,0,none⟩))),(.agg #[.pointer (some ⟨2,74,none⟩),(.pointer (some ⟨a1,0,none⟩)),.int .u64 150]),(.agg #[.pointer (some ⟨2,74,none⟩),(.pointer (some ⟨a1,0,none⟩)),.int .u64 150]),(.iface 124 (.agg #[.pointer (some ⟨2,74,none⟩)])),(.iface 124 (.agg #[.pointer (some ⟨2,74,none⟩)])),(.int .u8 22),(.bool false),(.bool false),(.agg #[.pointer (some ⟨2,74,none⟩),(.pointer (some ⟨a1,0,none⟩)),.int .u64 150]),(.bool false),(.bool false)]++(jA 1 undef++([(.iface 124 (.agg #[.pointer (some ⟨2,74,none⟩)])),(.iface 124 (.agg #[.pointer (some ⟨2,70,none⟩)])),(.iface 124 (.agg #[.pointer (some ⟨2,70,none⟩)])),(.int .u8 6),(.bool true),(.bool true),(.iface 124 (.agg #[.pointer (some ⟨2,70,none⟩)])),(.iface 124 (.agg #[.pointer (some ⟨2,55,none⟩)])),(.bool true),(.bool false),(.bool false)]++(jA 6 undef))))))):List Value)) (by kernel_rfl) ?_;refine Za7 (by kernel_rfl) ?_;refine Zf8 ?_
 show WpX mn none _ _ _ _ _
 refine Zci (l':=([(.iface 70 (.int .i64 k)),(.iface 74 (.pointer (some ⟨tb,0,none⟩)))]++(jA 2 undef++([(.bool false),(.pointer (some ⟨a5,0,none⟩)),(.iface 124 (.agg #[.pointer (some ⟨2,74,none⟩)])),(.iface 124 (.agg #[.pointer (some ⟨2,70,none⟩)])),(.iface 70 (.int .i64 k)),(.bool false),(.iface 74 (.pointer (some ⟨tb,0,none⟩))),(.bool false)]++(jA 1 undef++([(.iface 74 (.pointer (some ⟨tb,0,none⟩))),(.agg #[.pointer (some ⟨2,74,none⟩),(.pointer (some ⟨a1,0,none⟩)),.int .u64 150]),(.agg #[.pointer (some ⟨2,74,none⟩),(.pointer (some ⟨a1,0,none⟩)),.int .u64 150]),(.iface 124 (.agg #[.pointer (some ⟨2,74,none⟩)])),(.iface 124 (.agg #[.pointer (some ⟨2,74,none⟩)])),(.int .u8 22),(.bool false),(.bool false),(.agg #[.pointer (some ⟨2,74,none⟩),(.pointer (some ⟨a1,0,none⟩)),.int .u64 150]),(.bool false),(.bool false)]++(jA 1 undef++([(.iface 124 (.agg #[.pointer (some ⟨2,74,none⟩)])),(.iface 124 (.agg #[.pointer (some ⟨2,70,none⟩)])),(.iface 124 (.agg #[.pointer (some ⟨2,70,none⟩)])),(.int .u8 6),(.bool true),(.bool true),(.iface 124 (.agg #[.pointer (some ⟨2,70,none⟩)])),(.iface 124 (.agg #[.pointer (some ⟨2,55,none⟩)])),(.bool true),(.bool false),(.bool false)]++(jA 6 undef))))))):List Value)) (by kernel_rfl) ?_;refine Zal ?_;refine Zap ?_
 show OpsX mn _ _ _ [0,1,2,3,4,5] _ _
 refine Zaq 37 rfl (by kernel_rfl) rfl rfl h (vv:=(.iface 70 (.int .i64 k))) (λv h=>Zar λw es=>by kernel_rfl) λv h=> ?_
 refine Zaq 38 rfl (by kernel_rfl) rfl rfl h (vv:=(.iface 74 (.pointer (some ⟨tb,0,none⟩)))) (λv h=>Zar λw es=>by kernel_rfl) λv h=> ?_
 refine Zaq 39 rfl (by kernel_rfl) rfl rfl h (vv:=(.agg #[.pointer (some ⟨2,74,none⟩),(.pointer (some ⟨a1,0,none⟩)),.int .u64 150])) (λv h=>Ztk rfl (by kernel_rfl) Tryz.underlying100 rfl (by kernel_rfl) (geC h fB)) λv h=> ?_
 refine Zaq 40 rfl (by kernel_rfl) rfl rfl h (vv:=(.iface 124 (.agg #[.pointer (some ⟨2,70,none⟩)]))) (λv h=>Zar λw es=>by kernel_rfl) λv h=> ?_
 refine Zyz rfl rfl rfl (by kernel_rfl) (Zak (fn:=f48)) (by kernel_rfl) (R:=λr v'=>r=.bool true/\Kept (Mine tb v0) v0 v'/\v'.heap[tb]?=some (.cells #[.int .i64 k] 70 (0,0))) h (λv h=>(as2X k tb a1 v (geC h ht) (geC h fa1)).mono λr v' q=>⟨q.1,(hk.trans (Kept.of_below h)).trans (q.2.1.mono λ_ _ e=>e.imp id λq=>jB (jB hk.size h.size) q),q.2.2⟩) rfl 41 rfl λr B q=> ?_
 clear hk ht;obtain⟨rfl,hk,ht⟩:=q;clear h;have h:=Ge.refl B;refine Zaq 4 rfl (by kernel_rfl) rfl rfl h (vv:=(.bool true)) (λv h=>Zar λw es=>by kernel_rfl) λv h=> ?_
 show WpX mn none _ _ _ _ _
 refine Zci (l':=([(.iface 70 (.int .i64 k)),(.iface 74 (.pointer (some ⟨tb,0,none⟩)))]++(jA 2 undef++([(.bool true),(.pointer (some ⟨a5,0,none⟩)),(.iface 124 (.agg #[.pointer (some ⟨2,74,none⟩)])),(.iface 124 (.agg #[.pointer (some ⟨2,70,none⟩)])),(.iface 70 (.int .i64 k)),(.bool false),(.iface 74 (.pointer (some ⟨tb,0,none⟩))),(.bool false)]++(jA 1 undef++([(.iface 74 (.pointer (some ⟨tb,0,none⟩))),(.agg #[.pointer (some ⟨2,74,none⟩),(.pointer (some ⟨a1,0,none⟩)),.int .u64 150]),(.agg #[.pointer (some ⟨2,74,none⟩),(.pointer (some ⟨a1,0,none⟩)),.int .u64 150]),(.iface 124 (.agg #[.pointer (some ⟨2,74,none⟩)])),(.iface 124 (.agg #[.pointer (some ⟨2,74,none⟩)])),(.int .u8 22),(.bool false),(.bool false),(.agg #[.pointer (some ⟨2,74,none⟩),(.pointer (some ⟨a1,0,none⟩)),.int .u64 150]),(.bool false),(.bool false)]++(jA 1 undef++([(.iface 124 (.agg #[.pointer (some ⟨2,74,none⟩)])),(.iface 124 (.agg #[.pointer (some ⟨2,70,none⟩)])),(.iface 124 (.agg #[.pointer (some ⟨2,70,none⟩)])),(.int .u8 6),(.bool true),(.bool true),(.iface 124 (.agg #[.pointer (some ⟨2,70,none⟩)])),(.iface 124 (.agg #[.pointer (some ⟨2,55,none⟩)])),(.bool true),(.bool false),(.bool false)]++(jA 1 undef++([(.iface 70 (.int .i64 k)),(.iface 74 (.pointer (some ⟨tb,0,none⟩))),(.agg #[.pointer (some ⟨2,74,none⟩),(.pointer (some ⟨a1,0,none⟩)),.int .u64 150]),(.iface 124 (.agg #[.pointer (some ⟨2,70,none⟩)])),(.bool true)])))))))):List Value)) (by kernel_rfl) ?_;refine Zkl ?_
 exact⟨.inr rfl,.inl ⟨rfl,λv₁ g=>⟨.bool true,by kernel_rfl,rfl,(hk.trans (Kept.of_below h)).trans (Kept.of_below g),geC g (geC h ht)⟩⟩⟩
theorem asNilX(t:Value)(v0:World):Ua9 mn PZ 26 #[.nilIface,t] v0 λr v'=>r=.bool false/\Ge v0 v':=by
 refine Zga (c:=codeOf f26) Tryz.func26 rfl ?_;rw[show ({ tmps:=#[.nilIface,t]++jD (f26.ntmps - (#[.nilIface,t]:Array Value).size) undef,defers:=[] }:Act)=act ([.nilIface,t]++jA 40 undef) from by kernel_rfl];have h:Ge v0 v0:=Ge.refl v0;refine Zal ?_;refine Zap ?_
 show OpsX mn _ _ _ [0] _ _
 refine Zaq 4 rfl (by kernel_rfl) rfl rfl h (vv:=(.bool false)) (λv h=>Zar λw es=>by kernel_rfl) λv h=> ?_
 show WpX mn none _ _ _ _ _
 refine Zci (l':=([.nilIface,t]++(jA 2 undef++([(.bool false)]++(jA 37 undef))):List Value)) (by kernel_rfl) ?_;refine Zal ?_;refine Zal ?_;refine Zap ?_
 show OpsX mn _ _ _ [0,1] _ _
 refine Zaq 8 rfl (by kernel_rfl) rfl rfl h (vv:=.nilIface) (λv h=>Zar λw es=>by kernel_rfl) λv h=> ?_
 refine Zaq 9 rfl (by kernel_rfl) rfl rfl h (vv:=(.bool true)) (λv h=>Zar λw es=>by kernel_rfl) λv h=> ?_
 show WpX mn none _ _ _ _ _
 refine Zci (l':=([.nilIface,t]++(jA 2 undef++([(.bool false)]++(jA 3 undef++([.nilIface,(.bool true)]++(jA 32 undef))))):List Value)) (by kernel_rfl) ?_;refine Zdo (by kernel_rfl) ?_;refine Zal ?_;refine Zap ?_
 show OpsX mn _ _ _ [0] _ _
 refine Zaq 4 rfl (by kernel_rfl) rfl rfl h (vv:=(.bool false)) (λv h=>Zar λw es=>by kernel_rfl) λv h=> ?_
 show WpX mn none _ _ _ _ _
 refine Zci (l':=([.nilIface,t]++(jA 2 undef++([(.bool false)]++(jA 3 undef++([.nilIface,(.bool true)]++(jA 32 undef))))):List Value)) (by kernel_rfl) ?_;refine Zkl ?_;exact⟨.inr rfl,.inl ⟨rfl,λv₁ g=>⟨.bool false,by kernel_rfl,rfl,h.trans g⟩⟩⟩
theorem planX(k:Int){Cg:Array Value}{Tg:TypeId}{fg:Nat×Nat}(v0:World)(hg:v0.heap[0]?=some (.cells Cg Tg fg))(hx:Cg[0]?=some (.iface 124 (.agg #[.pointer (some ⟨2,55,none⟩)]))):Ua9 mn PZ 13 #[(.iface 70 (.int .i64 k))] v0 λr v'=>r=.int .i64 k/\Kept (λ_=>False) v0 v':=by
 refine Zga (c:=codeOf f13) Tryz.func13 rfl ?_;rw[show ({ tmps:=#[(.iface 70 (.int .i64 k))]++jD (f13.ntmps - (#[(.iface 70 (.int .i64 k))]:Array Value).size) undef,defers:=[] }:Act)=act ([(.iface 70 (.int .i64 k))]++jA 7 undef) from by kernel_rfl];have h:Ge v0 v0:=Ge.refl v0;have hk:Kept (λk=>v0.heap.size<=k) v0 v0:=Kept.refl _ _;refine Zal ?_;refine Zap ?_
 show OpsX mn _ _ _ [0] _ _
 refine Zaq 2 rfl (by kernel_rfl) rfl rfl h (vv:=(.int .i64 0)) (λv h=>Zar λw es=>by kernel_rfl) λv h=> ?_
 show WpX mn none _ _ _ _ _
 refine Zci (l':=([(.iface 70 (.int .i64 k))]++(jA 1 undef++([(.int .i64 0)]++(jA 5 undef))):List Value)) (by kernel_rfl) ?_;refine Zal ?_;refine Zap ?_
 show OpsX mn _ _ _ [0] _ _
 refine Zo8 3 rfl (by kernel_rfl) rfl rfl h (mk:=λn=>(.pointer (some ⟨n,0,none⟩))) (ob:=(.cells #[.int .i64 0] 70)) (λv=>Yej (r:=λn=>Next.value (.pointer (some ⟨n,0,none⟩))) rfl λw es=>by kernel_rfl) λtb B otb ftb ntb ktb=> ?_
 have hg:=otb _ _ hg;have hntb:=jB hk.size ntb;have hk:=hk.trans (Kept.mono ktb λ_ _ e=>e.elim);clear h;have h:=Ge.refl B
 show WpX mn none _ _ _ _ _
 refine Zci (l':=([(.iface 70 (.int .i64 k))]++(jA 1 undef++([(.int .i64 0),(.pointer (some ⟨tb,0,none⟩))]++(jA 4 undef))):List Value)) (by kernel_rfl) ?_;refine Zal ?_;refine Zal ?_;refine Zap ?_
 show OpsX mn _ _ _ [0,1,2] _ _
 refine Zaq 4 rfl (by kernel_rfl) rfl rfl h (vv:=(.iface 70 (.int .i64 k))) (λv h=>Zar λw es=>by kernel_rfl) λv h=> ?_
 refine Zaq 5 rfl (by kernel_rfl) rfl rfl h (vv:=(.iface 74 (.pointer (some ⟨tb,0,none⟩)))) (λv h=>Zar λw es=>by kernel_rfl) λv h=> ?_
 refine Zyz rfl rfl rfl (by kernel_rfl) (Zak (fn:=f26)) (by kernel_rfl) (R:=λr v'=>r=.bool true/\Kept (λk=>v0.heap.size<=k) v0 v'/\v'.heap[tb]?=some (.cells #[.int .i64 k] 70 (0,0))) h (λv h=>(asX k tb v (geC h ftb) (geC h hg) hx).mono λr v' q=>⟨q.1,(hk.trans (Kept.of_below h)).trans (q.2.1.mono λ_ _ e=>e.elim (λq=>q ▸ hntb) λq=>jB (jB hk.size h.size) q),q.2.2⟩) rfl 6 rfl λr B q=> ?_
 clear hk;obtain⟨rfl,hk,ht⟩:=q;clear h;have h:=Ge.refl B
 show WpX mn none _ _ _ _ _
 refine Zci (l':=([(.iface 70 (.int .i64 k))]++(jA 1 undef++([(.int .i64 0),(.pointer (some ⟨tb,0,none⟩)),(.iface 70 (.int .i64 k)),(.iface 74 (.pointer (some ⟨tb,0,none⟩))),(.bool true)]++(jA 1 undef))):List Value)) (by kernel_rfl) ?_;refine Zdo (by kernel_rfl) ?_;refine Zal ?_;refine Zap ?_
 show OpsX mn _ _ _ [0,1] _ _
 refine Zaq 7 rfl (by kernel_rfl) rfl rfl h (vv:=(.int .i64 k)) (λv h=>Ygj rfl (by kernel_rfl) (by kernel_rfl) (Zv5 (i:=0) (geC h ht) rfl)) λv h=> ?_
 refine Zaq 2 rfl (by kernel_rfl) rfl rfl h (vv:=(.int .i64 k)) (λv h=>Zar λw es=>by kernel_rfl) λv h=> ?_
 show WpX mn none _ _ _ _ _
 refine Zci (l':=([(.iface 70 (.int .i64 k))]++(jA 1 undef++([(.int .i64 k),(.pointer (some ⟨tb,0,none⟩)),(.iface 70 (.int .i64 k)),(.iface 74 (.pointer (some ⟨tb,0,none⟩))),(.bool true),(.int .i64 k)])):List Value)) (by kernel_rfl) ?_;refine Zkl ?_;exact⟨.inr rfl,.inl ⟨rfl,λv₁ g=>⟨.int .i64 k,by kernel_rfl,rfl,((hk.trans (Kept.of_below h)).trans (Kept.of_below g)).mono λ_ q e=>by omega⟩⟩⟩
theorem planNilX(v0:World):Ua9 mn PZ 13 #[.nilIface] v0 λr v'=>r=.int .i64 0/\Kept (λ_=>False) v0 v':=by
 refine Zga (c:=codeOf f13) Tryz.func13 rfl ?_;rw[show ({ tmps:=#[.nilIface]++jD (f13.ntmps - (#[.nilIface]:Array Value).size) undef,defers:=[] }:Act)=act ([.nilIface]++jA 7 undef) from by kernel_rfl];have h:Ge v0 v0:=Ge.refl v0;have hk:Kept (λk=>v0.heap.size<=k) v0 v0:=Kept.refl _ _;refine Zal ?_;refine Zap ?_
 show OpsX mn _ _ _ [0] _ _
 refine Zaq 2 rfl (by kernel_rfl) rfl rfl h (vv:=(.int .i64 0)) (λv h=>Zar λw es=>by kernel_rfl) λv h=> ?_
 show WpX mn none _ _ _ _ _
 refine Zci (l':=([.nilIface]++(jA 1 undef++([(.int .i64 0)]++(jA 5 undef))):List Value)) (by kernel_rfl) ?_;refine Zal ?_;refine Zap ?_
 show OpsX mn _ _ _ [0] _ _
 refine Zo8 3 rfl (by kernel_rfl) rfl rfl h (mk:=λn=>(.pointer (some ⟨n,0,none⟩))) (ob:=(.cells #[.int .i64 0] 70)) (λv=>Yej (r:=λn=>Next.value (.pointer (some ⟨n,0,none⟩))) rfl λw es=>by kernel_rfl) λtb B otb ftb ntb ktb=> ?_
 have hntb:=jB hk.size ntb;have hk:=hk.trans (Kept.mono ktb λ_ _ e=>e.elim);clear h;have h:=Ge.refl B
 show WpX mn none _ _ _ _ _
 refine Zci (l':=([.nilIface]++(jA 1 undef++([(.int .i64 0),(.pointer (some ⟨tb,0,none⟩))]++(jA 4 undef))):List Value)) (by kernel_rfl) ?_;refine Zal ?_;refine Zal ?_;refine Zap ?_
 show OpsX mn _ _ _ [0,1,2] _ _
 refine Zaq 4 rfl (by kernel_rfl) rfl rfl h (vv:=.nilIface) (λv h=>Zar λw es=>by kernel_rfl) λv h=> ?_
 refine Zaq 5 rfl (by kernel_rfl) rfl rfl h (vv:=(.iface 74 (.pointer (some ⟨tb,0,none⟩)))) (λv h=>Zar λw es=>by kernel_rfl) λv h=> ?_
 refine Zyz rfl rfl rfl (by kernel_rfl) (Zak (fn:=f26)) (by kernel_rfl) (R:=λr v'=>r=.bool false/\Kept (λk=>v0.heap.size<=k) v0 v') h (λv h=>(asNilX (.iface 74 (.pointer (some ⟨tb,0,none⟩))) v).mono λr v' q=>⟨q.1,(hk.trans (Kept.of_below h)).trans (Kept.of_below q.2)⟩) rfl 6 rfl λr B q=> ?_
 clear hk;obtain⟨rfl,hk⟩:=q;clear h;have h:=Ge.refl B
 show WpX mn none _ _ _ _ _
 refine Zci (l':=([.nilIface]++(jA 1 undef++([(.int .i64 0),(.pointer (some ⟨tb,0,none⟩)),.nilIface,(.iface 74 (.pointer (some ⟨tb,0,none⟩))),(.bool false)]++(jA 1 undef))):List Value)) (by kernel_rfl) ?_;refine Za7 (by kernel_rfl) ?_;refine Zf8 ?_
 show WpX mn none _ _ _ _ _
 refine Zci (l':=([.nilIface]++(jA 1 undef++([(.int .i64 0),(.pointer (some ⟨tb,0,none⟩)),.nilIface,(.iface 74 (.pointer (some ⟨tb,0,none⟩))),(.bool false)]++(jA 1 undef))):List Value)) (by kernel_rfl) ?_;refine Zal ?_;refine Zap ?_
 show OpsX mn _ _ _ [0] _ _
 refine Zaq 2 rfl (by kernel_rfl) rfl rfl h (vv:=(.int .i64 0)) (λv h=>Zar λw es=>by kernel_rfl) λv h=> ?_
 show WpX mn none _ _ _ _ _
 refine Zci (l':=([.nilIface]++(jA 1 undef++([(.int .i64 0),(.pointer (some ⟨tb,0,none⟩)),.nilIface,(.iface 74 (.pointer (some ⟨tb,0,none⟩))),(.bool false)]++(jA 1 undef))):List Value)) (by kernel_rfl) ?_;refine Zkl ?_;exact⟨.inr rfl,.inl ⟨rfl,λv₁ g=>⟨.int .i64 0,by kernel_rfl,rfl,((hk.trans (Kept.of_below h)).trans (Kept.of_below g)).mono λ_ q e=>by omega⟩⟩⟩
def tyIn:List VB->Bool
 |.gl g t _ x::r=>(Nat.beq g 0&&(Nat.beq t 124&&Nat.beq x 3000055))||tyIn r
 |_=>false
theorem Ypj:∀{h:List VB},tyIn h=true->∃(n:Nat) (a:Addr),h[n]?=some (VB.gl 0 124 a 3000055)
 |[],h=>by cases h
 | b::r,h=>by
  cases b with
  | gl g t a x=>
   simp only[tyIn,Bool.or_eq_true,Q7]at h;rcases h with ⟨h1,h2,h3⟩|h
   ·obtain rfl:=jE h1;obtain rfl:=jE h2;obtain rfl:=jE h3;exact⟨0,a,rfl⟩
   ·obtain⟨n,a,h1⟩:=Ypj (h:=r) h;exact⟨n+1,a,by simpa using h1⟩
  |_=>cases h
def Ufr:Con:=λargs h=>match args with|[.v .nilIface]=>some (.a (.i .i64 0),.none,true)|[.v (.iface t (.int .i64 k))]=>bif Nat.beq t 70&&(tyIn h&&(decide (IntKind.i64.min<=k)&&decide (k<=IntKind.i64.max))) then some (.a (.i .i64 k),.none,true) else none|_=>none
theorem Ynk:Uac mn PZ 13 Ufr:=by
 intro ρ h v args vals r ef hno hr hA hH;unfold Ufr at hr;split at hr
 ·match vals,hA with
  |[v1],hA=>cases hr;obtain rfl:=hA.2 0 _ v1 rfl rfl;refine(planNilX v).mono ?_;rintro e w' ⟨rfl,hk⟩;exact⟨⟨rfl,by decide⟩,hk⟩
  |[],hA=>exact absurd hA.1 (by simp)
  |_::_::_,hA=>exact absurd hA.1 (by simp)
 ·rename_i t k
  match vals,hA with
  | [v1],hA=>
   obtain rfl:=hA.2 0 _ v1 rfl rfl;cases hc:(Nat.beq t 70&&(tyIn h&&(decide (IntKind.i64.min<=k)&&decide (k<=IntKind.i64.max)))) with
   |false=>rw[hc]at hr;cases hr
   | true=>
    rw[hc]at hr;cases hr;simp only[Q7,decide_eq_true_eq]at hc;obtain⟨ht,hty,hk1,hk2⟩:=hc;obtain rfl:=jE ht;obtain⟨n,a,hn⟩:=Ypj hty;have hg:v.cell? ⟨0,0,none⟩=some (.iface 124 (.agg #[.pointer (some ⟨2,55,none⟩)])):=by
     rcases hH.is _ _ hn with ⟨-,s1,C,T1,fr1,c1,b1,d1⟩ | ⟨-,-,⟨-,h3⟩ | ⟨h4,-⟩⟩
     ·exfalso;have:=Yh5 s1;rcases d1 with ⟨-,d1⟩ | ⟨-,d1⟩<;>omega
     ·exact h3
     ·omega
    obtain⟨Cg,Tg,fg,hg,hx⟩:=Yp7 hg;refine(planX k v hg hx).mono ?_;rintro e w' ⟨rfl,hk⟩;exact⟨⟨rfl,hk1,hk2⟩,hk⟩
  |[],hA=>exact absurd hA.1 (by simp)
  |_::_::_,hA=>exact absurd hA.1 (by simp)
 ·cases hr
theorem Yht:EntX PZ 13:=Zak (fn:=f13)
end Go.Proofs.YtgllknjdblkhnaaGreatDoor
