/- A goroutine in company: what it sees of the world; operations that are the same on what it sees and on the world. No program is named. -/
import Derived.Conc.Own
import Derived.Scope
import Derived.ControlIn
import Derived.Conc.Script
import Derived.Conc.Listed
import Derived.OrdersIn
import Derived.Test.YtnhilgpdgicgfaaVeE
namespace Go.Proofs.Ytnhilgpdgicgfaa.Vc
open Go.RowKit Go.Conc Go.Proofs.Ytnhilgpdgicgfaa.Ve
section
set_option linter.unusedVariables false
set_option linter.unusedSimpArgs false
/-- What is a goroutine's: its own blocks; blocks that are shared, to be read alone; channels over which a value has been promised. -/
structure Gh where
 M:Nat->Prop
 S:Nat->Prop
 F:Nat->Option Value
def dead:Obj:=.cells #[] 0 (0,0)
def marked(c:Array Value)(fr:Nat×Nat):Bool:=Nat.beq fr.1 0&&Nat.beq fr.2 (c.size+1)
def frzR(c:Array Value)(fr:Nat×Nat):Nat×Nat:=(0,bif (Nat.beq fr.1 0&&Nat.beq fr.2 0) then c.size+1 else c.size)
def frz:Obj->Obj
 |.cells c e fr=>.cells c e (frzR c fr)
 |_=>dead
def own:Obj->Obj
 |.view _ _=>dead
 |.cells c e fr=>bif marked c fr then dead else .cells c e fr
 |o=>o
theorem own_form(o:Obj):(∃c e fr,o=.cells c e fr/\(own o=dead\/own o=o))\/(∃a u,o=.view a u/\own o=dead)\/(o.isCells=false/\own o=o):=by
 cases o with
 |cells c e fr=>
  refine .inl ⟨c,e,fr,rfl,?_⟩;simp only[own];cases marked c fr
  ·exact .inr rfl
  ·exact .inl rfl
 |view a u=>exact .inr (.inl ⟨a,u,rfl,rfl⟩)
 |_=>exact .inr (.inr ⟨rfl,rfl⟩)
def prom(v:Value):Obj:=.chan 1 #[v] false 0 0 false
open Classical in
noncomputable def Gh.see(G:Gh)(i:Nat)(o:Obj):Obj:=
 if G.M i then own o else if G.S i then frz o else match G.F i with|some v=>prom v|none=>dead
noncomputable def view(G:Gh)(w:World):World:={ w with heap:=w.heap.mapIdx G.see }
/-- The ghost names what is there. -/
structure Fit (G:Gh) (w:World):Prop where
 m:∀k,G.M k->k<w.heap.size
 s:∀k,G.S k->k<w.heap.size/\¬G.M k
 f:∀k v,G.F k=some v->k<w.heap.size/\¬G.M k/\¬G.S k
/-- What the others may do. -/
structure Rely (G:Gh) (w w':World):Prop where
 os:w'.os=w.os
 tape:w'.tape=w.tape
 output:w'.output=w.output
 size:w.heap.size<=w'.heap.size
 same:∀k,G.M k\/G.S k->w'.heap[k]?=w.heap[k]?
theorem Rely.refl(G:Gh)(w:World):Rely G w w:=⟨rfl,rfl,rfl,Nat.le_refl _,λ_ _=>rfl⟩
theorem Rely.trans{G:Gh}{a b c:World}(h:Rely G a b)(k:Rely G b c):Rely G a c:=
 ⟨k.os.trans h.os,k.tape.trans h.tape,k.output.trans h.output,Nat.le_trans h.size k.size,λi hi=>(k.same i hi).trans (h.same i hi)⟩
theorem Fit.rely{G:Gh}{w w':World}(h:Fit G w)(k:Rely G w w'):Fit G w':=
 ⟨λi hi=>Nat.lt_of_lt_of_le (h.m i hi) k.size,λi hi=>⟨Nat.lt_of_lt_of_le (h.s i hi).1 k.size,(h.s i hi).2⟩,λi v hi=>⟨Nat.lt_of_lt_of_le (h.f i v hi).1 k.size,(h.f i v hi).2⟩⟩
section
variable {G:Gh} {w:World}
@[simp] theorem view_size:(view G w).heap.size=w.heap.size:=by simp[view]
theorem view_get(k:Nat):(view G w).heap[k]?=(w.heap[k]?).map (G.see k):=by simp[view]
theorem Rely.view{w':World}(hf:Fit G w)(h:Rely G w w'):Below (view G w).heap.size (view G w) (view G w'):=by
 refine⟨h.os,h.tape,h.output,by simpa using h.size,λk hk=> ?_⟩;rw[view_size]at hk;have hk':k<w'.heap.size:=Nat.lt_of_lt_of_le hk h.size;rw[view_get,view_get]
 by_cases hm:G.M k\/G.S k
 ·rw[h.same k hm]
 ·rw[Array.getElem?_eq_getElem hk,Array.getElem?_eq_getElem hk'];simp only[not_or]at hm;simp only[Option.map_some,Gh.see,if_neg hm.1,if_neg hm.2]
theorem own_cells{o:Obj}{c:Array Value}{e:TypeId}{fr:Nat×Nat}(h:own o=.cells c e fr)(hc:c≠#[]):o=.cells c e fr:=by
 rcases own_form o with ⟨c',e',fr',rfl,h' | h'⟩ | ⟨a,u,rfl,h'⟩ | ⟨-,h'⟩
 ·rw[h']at h;unfold dead at h;cases h;exact absurd rfl hc
 ·rw[h']at h;exact h
 ·rw[h']at h;unfold dead at h;cases h;exact absurd rfl hc
 ·rw[h']at h;exact h
theorem view_cell{a:Addr}{x:Value}(h:(view G w).cell? a=some x):w.cell? a=some x/\(G.M a.block\/G.S a.block)/\((view G w).frozen? a=false->G.M a.block/\w.frozen? a=false):=by
 unfold World.cell? at h;rw[view_get]at h;cases hb:w.heap[a.block]? with
 |none=>rw[hb]at h;cases h
 | some o=>
  rw[hb]at h;simp only[Option.map_some]at h
  by_cases hm:G.M a.block
  ·simp only[Gh.see,if_pos hm]at h;cases ho:own o with
   |cells c e fr=>
    rw[ho]at h;dsimp only at h;have hc:c≠#[]:=by rintro rfl;split at h<;>simp at h
    have:=own_cells ho hc;subst this;refine⟨by unfold World.cell?;rw[hb];exact h,.inl hm,λhfr=>⟨hm,?_⟩⟩;unfold World.frozen? at hfr|-
    rw[view_get,hb]at hfr;simp only[Option.map_some,Gh.see,if_pos hm,ho]at hfr;rw[hb];exact hfr
   |_=>rw[ho]at h;cases h
  ·by_cases hs:G.S a.block
   ·simp only[Gh.see,if_neg hm,if_pos hs]at h;cases o with
    | cells c e fr=>
     simp only[frz]at h;refine⟨by unfold World.cell?;rw[hb];exact h,.inr hs,λhfr=> ?_⟩;exfalso;unfold World.frozen? at hfr;rw[view_get,hb]at hfr;simp only[Option.map_some,Gh.see,if_neg hm,if_pos hs,frz]at hfr;split at h
     ·cases h
     ·have:a.off<c.size:=(Array.getElem?_eq_some_iff.1 h).1;unfold frzR at hfr;cases hq:(Nat.beq fr.1 0&&Nat.beq fr.2 0)<;>rw[hq]at hfr<;>simp[this,Nat.lt_succ_of_lt this]at hfr
    |_=>simp only[frz,dead]at h;split at h<;>simp at h
   ·simp only[Gh.see,if_neg hm,if_neg hs]at h;cases hF:G.F a.block with|none=>rw[hF]at h;simp only[dead]at h;split at h<;>simp at h|some v=>rw[hF]at h;simp only[prom]at h;cases h
theorem own_not_view{o:Obj}{a:Addr}{u:TypeId}:own o ≠ .view a u:=by
 intro h;rcases own_form o with ⟨c',e',fr',rfl,h' | h'⟩ | ⟨a,u,rfl,h'⟩ | ⟨h1,h'⟩
 ·rw[h']at h;cases h
 ·rw[h']at h;cases h
 ·rw[h']at h;cases h
 ·rw[h']at h;subst h;cases h'
theorem view_not_view{k:Nat}{a:Addr}{u:TypeId}:(view G w).heap[k]?≠some (.view a u):=by
 rw[view_get];intro h;obtain⟨o,-,ho⟩:=Option.map_eq_some_iff.1 h;unfold Gh.see at ho;split at ho
 ·exact own_not_view ho
 ·split at ho
  ·cases o<;>simp only[frz,dead]at ho<;>cases ho
  ·split at ho<;>cases ho
theorem view_farLoad{P:Program}{a:Addr}{b:Bool}:∃e,(view G w).farLoad P a b=.error e:=by
 unfold World.farLoad;split
 ·rename_i h;exact absurd h view_not_view
 ·exact⟨_,rfl⟩
theorem view_farStore{P:Program}{a:Addr}{v:Value}{b:Bool}:∃e,(view G w).farStore P a v b=.error e:=by
 unfold World.farStore;split
 ·rename_i h;exact absurd h view_not_view
 ·exact⟨_,rfl⟩
end
def Gh.grow(G:Gh)(a b:Nat):Gh:={ G with M:=λk=>G.M k\/(a<=k/\k<b) }
theorem Gh.ext'{G G':Gh}(h1:∀k,G.M k ↔ G'.M k)(h2:G.S=G'.S)(h3:G.F=G'.F):G=G':=by cases G;cases G';simp only at h1 h2 h3;subst h2;subst h3;congr;exact funext λk=>propext (h1 k)
theorem Gh.grow_self(G:Gh)(a:Nat):G.grow a a=G:=Gh.ext' (λk=>by simp only[Gh.grow];constructor<;>intro h<;>(first|exact h.elim id (λx=>by omega)|exact .inl h)) rfl rfl
theorem Gh.grow_grow(G:Gh){a b c:Nat}(h1:a<=b)(h2:b<=c):(G.grow a b).grow b c=G.grow a c:=Gh.ext' (λk=>by
 simp only[Gh.grow,or_assoc];constructor
 ·rintro(h|h|h)
  ·exact .inl h
  ·exact .inr ⟨h.1,by omega⟩
  ·exact .inr ⟨by omega,h.2⟩
 ·rintro(h|h)
  ·exact .inl h
  ·by_cases k<b
   ·exact .inr (.inl ⟨h.1,by omega⟩)
   ·exact .inr (.inr ⟨by omega,h.2⟩)) rfl rfl
theorem Fit.grow{G:Gh}{w w':World}(h:Fit G w)(hs:w.heap.size<=w'.heap.size):Fit (G.grow w.heap.size w'.heap.size) w':=
  ⟨fun k hk=>hk.elim (fun x=>Nat.lt_of_lt_of_le (h.m k x) hs) (fun x=>x.2),
   λk hk=>⟨Nat.lt_of_lt_of_le (h.s k hk).1 hs,λx=>x.elim (h.s k hk).2 λy=>by have:=(h.s k hk).1;omega⟩,
   λk v hk=>⟨Nat.lt_of_lt_of_le (h.f k v hk).1 hs,λx=>x.elim (h.f k v hk).2.1 λy=>by have:=(h.f k v hk).1;omega,(h.f k v hk).2.2⟩⟩
def NeuX(m:Mark):Prop:=m=.noRoom\/∃f,m=.extern f
theorem NeuX.touch{m:Mark}(h:NeuX m):(MemAct.mark m).touch?=none:=by rcases h with rfl | ⟨f,rfl⟩<;>rfl
def EvOk(G:Gh)(e:Event):Prop:=
 (∃a,e=⟨.cell a,true,false⟩/\G.M a.block)\/(∃a,e=⟨.cell a,false,false⟩/\(G.M a.block\/G.S a.block))\/(∃m,e=⟨.mark m,false,true⟩/\NeuX m)\/(∃r b,e=⟨.obj r,b,false⟩/\G.M r)
theorem EvOk.grow{G:Gh}{e:Event}(h:EvOk G e)(a b:Nat):EvOk (G.grow a b) e:=by
 rcases h with ⟨x,rfl,h⟩ | ⟨x,rfl,h⟩|h | ⟨r,b,rfl,h⟩
 ·exact .inl ⟨x,rfl,.inl h⟩
 ·exact .inr (.inl ⟨x,rfl,h.imp .inl id⟩)
 ·exact .inr (.inr (.inl h))
 ·exact .inr (.inr (.inr ⟨r,b,rfl,.inl h⟩))
/-- An own step: what is none of its own is as it was. -/
structure Did (G:Gh) (w w':World) (es:Array Event):Prop where
 os:w'.os=w.os
 tape:w'.tape=w.tape
 output:w'.output=w.output
 size:w.heap.size<=w'.heap.size
 same:∀k,k<w.heap.size->¬G.M k->w'.heap[k]?=w.heap[k]?
 evs:∀e∈es,EvOk (G.grow w.heap.size w'.heap.size) e
theorem Did.refl(G:Gh)(w:World):Did G w w #[]:=⟨rfl,rfl,rfl,Nat.le_refl _,λ_ _ _=>rfl,λe he=>by simp at he⟩
/-- A run that looks at cells alone. -/
inductive Simple (P:Program) {α:Type}:Sem α->Prop
 |pure (a:α):Simple P (.pure a)
 |load (a:Addr) (k:Value->Sem α) (h:∀v,Simple P (k v)):Simple P (.load .plain a k)
 |store (a:Addr) (v:Value) (k:Sem α) (h:Simple P k):Simple P (.store .plain a v k)
 |new (o:Obj) (k:Nat->Sem α) (ho:own o=o) (h:∀r,Simple P (k r)):Simple P (.new o k)
 |choose (q:Question) (k:Nat->Sem α) (h:∀n,Simple P (k n)):Simple P (.choose q k)
 |program (k:Program->Sem α) (h:Simple P (k P)):Simple P (.program k)
 |noRoom (k:Sem α) (h:Simple P k):Simple P (.mark .noRoom k)
 |halt (h:Halt):Simple P (.halt h)
 |never (s:Sem α) (h:∀(v:World) (r:α) (v':World),s.run P v ≠ .ok r v'):Simple P s
theorem Simple.bind{P:Program}{α β:Type}{s:Sem α}{f:α->Sem β}(h:Simple P s)(hf:∀a,Simple P (f a)):Simple P (s >>= f):=by
 show Simple P (s.bind f)
 induction h with
 |pure a=>exact hf a
 |load a k _ ih=>exact .load a _ ih
 |store a v k _ ih=>exact .store a v _ ih
 |new o k ho _ ih=>exact .new o _ ho ih
 |choose q k _ ih=>exact .choose q _ ih
 |program k _ ih=>exact .program _ ih
 |noRoom k _ ih=>exact .noRoom _ ih
 |halt h=>exact .halt h
 |never s h=>
  refine .never _ λv r v' e=> ?_
  have e':(s >>= f).run P v=.ok r v':=e;rw[Sem.run_bind]at e';cases hs:s.run P v with|ok r₁ v₁=>exact h v r₁ v₁ hs|halt hh v₁=>rw[hs]at e';cases e'
theorem see_m{G:Gh}{k:Nat}{o:Obj}(h:G.M k):G.see k o=own o:=by unfold Gh.see;rw[if_pos h]
theorem see_s{G:Gh}{k:Nat}{o:Obj}(h:¬G.M k)(h':G.S k):G.see k o=frz o:=by unfold Gh.see;rw[if_neg h,if_pos h']
theorem see_f{G:Gh}{k:Nat}{o:Obj}(h:¬G.M k)(h':¬G.S k):G.see k o=match G.F k with|some v=>prom v|none=>dead:=by unfold Gh.see;rw[if_neg h,if_neg h']
theorem see_grow{G:Gh}{a b k:Nat}{o:Obj}(hk:k<a):(G.grow a b).see k o=G.see k o:=by
 by_cases hm:G.M k
 ·have hm':(G.grow a b).M k:=.inl hm;rw[see_m hm,see_m hm']
 ·have hm':¬(G.grow a b).M k:=λh=>Or.elim h hm λx=>by omega
  by_cases hs:G.S k
  ·have hs':(G.grow a b).S k:=hs;rw[see_s hm hs,see_s hm' hs']
  ·have hs':¬(G.grow a b).S k:=hs;rw[see_f hm hs,see_f hm' hs'];rfl
theorem view_push{G:Gh}{w:World}{o:Obj}(hf:Fit G w)(ho:own o=o):
  view (G.grow w.heap.size (w.heap.size+1)) { w with heap:=w.heap.push o }={ view G w with heap:=(view G w).heap.push o }:=by
 unfold view;simp only[World.mk.injEq,true_and,and_true];refine Array.ext_getElem? λi=> ?_
 rw[Array.getElem?_mapIdx,Array.getElem?_push,Array.getElem?_push,Array.size_mapIdx]
 by_cases hi:i=w.heap.size
 ·rw[if_pos hi,if_pos hi];have hm:(G.grow w.heap.size (w.heap.size+1)).M i:=.inr ⟨by omega,by omega⟩;exact congrArg some ((see_m hm).trans ho)
 ·rw[if_neg hi,if_neg hi,Array.getElem?_mapIdx]
  by_cases hlt:i<w.heap.size
  ·rw[Array.getElem?_eq_getElem hlt];exact congrArg some (see_grow hlt)
  ·rw[Array.getElem?_eq_none (by omega)];rfl
theorem view_setCell{G:Gh}{w:World}{a:Addr}{v:Value}(hm:G.M a.block):view G (w.setCell a v)=(view G w).setCell a v:=by
 unfold view World.setCell;simp only[World.mk.injEq,true_and,and_true];refine Array.ext_getElem? λi=> ?_
 rw[Array.getElem?_mapIdx,Array.getElem?_modify,Array.getElem?_modify,Array.getElem?_mapIdx]
 by_cases hi:a.block=i
 ·subst hi;rw[if_pos rfl,if_pos rfl];cases w.heap[a.block]? with
  |none=>rfl
  | some o=>
   simp only[Option.map_some,Gh.see,if_pos hm,Option.some.injEq];cases o with
   | cells c e fr=>
    have hz:(if a.spot.isSome=true then c else c.setIfInBounds a.off v).size=c.size:=by split<;>simp
    cases hm':marked c fr with
    |false=>
     have hm2:marked (if a.spot.isSome=true then c else c.setIfInBounds a.off v) fr=false:=by unfold marked at hm' |-;rw[hz];exact hm'
     simp[own,hm',hm2]
    |true=>
     have hm2:marked (if a.spot.isSome=true then c else c.setIfInBounds a.off v) fr=true:=by unfold marked at hm' |-;rw[hz];exact hm'
     simp[own,hm',hm2,dead]
   |_=>simp[own,dead]
 ·rw[if_neg hi,if_neg hi]
theorem did_trans{G:Gh}{a b c:World}{es es':Array Event}(h:Did G a b es)(k:Did (G.grow a.heap.size b.heap.size) b c es'):Did G a c (es++es'):=
  ⟨k.os.trans h.os,k.tape.trans h.tape,k.output.trans h.output,Nat.le_trans h.size k.size,
   λi hi hm=>(k.same i (Nat.lt_of_lt_of_le hi h.size) λx=>x.elim hm λy=>by omega).trans (h.same i hi hm),
   λe he=>by
    rw[<- Gh.grow_grow G h.size k.size];rcases Array.mem_append.1 he with x|x
    . exact(h.evs e x).grow _ _
    . exact k.evs e x⟩
theorem Simple.run{P:Program}{α:Type}{s:Sem α}(hs:Simple P s):∀{G:Gh} {w v':World} {r:α} (es:Array Event),Fit G w->s.run P (view G w)=.ok r v' ->
  ∃w' es',s.runT P w es=(.ok r w',es++es')/\v'=view (G.grow w.heap.size w'.heap.size) w'/\Did G w w' es':=by
 induction hs with
 |pure a=>intro G w v' r es hf h;simp only[Sem.run,Result.ok.injEq]at h;obtain⟨rfl,rfl⟩:=h;exact⟨w,#[],by simp[Sem.runT],by rw[Gh.grow_self],.refl _ _⟩
 | load a k _ ih=>
  intro G w v' r es hf h;simp only[Sem.run]at h;cases hc:(view G w).cell? a with
  |none=>rw[hc]at h;obtain⟨e,he⟩:=view_farLoad (G:=G) (w:=w) (P:=P) (a:=a) (b:=Mode.plain == .atomic);rw[he]at h;cases h
  | some x=>
   rw[hc]at h;obtain⟨h1,h2,-⟩:=view_cell hc;obtain⟨w',es',h3,h4,h5⟩:=ih x (es.push ⟨.cell a,false,false⟩) hf h;refine⟨w',#[⟨.cell a,false,false⟩]++es',?_,h4,?_⟩
   ·simp only[Sem.runT,h1];rw[show (Mode.plain==Mode.atomic)=false from rfl,h3];simp
   ·refine⟨h5.os,h5.tape,h5.output,h5.size,h5.same,λe he=> ?_⟩;rcases Array.mem_append.1 he with x' | x'
    ·simp at x';subst x';exact .inr (.inl ⟨a,rfl,h2.imp .inl id⟩)
    ·exact h5.evs e x'
 | store a v k _ ih=>
  intro G w v' r es hf h
  have key : ∀ x, (view G w).cell? a = some x -> ((if (view G w).frozen? a then (.halt (.unsupported (.unsafePointer "a write to bytes that a string shares")) (view G w)) else k.run P ((view G w).setCell a v)) = .ok r v') ->
    (w.cell? a=some x/\w.frozen? a=false/\∃w' es',k.runT P (w.setCell a v) (es.push ⟨.cell a,true,false⟩)=(.ok r w',es++es')/\v'=view (G.grow w.heap.size w'.heap.size) w'/\Did G w w' es'):=by
   intro x hc h;obtain⟨h1,-,h3⟩:=view_cell hc;cases hfr:(view G w).frozen? a with
   |true=>rw[hfr]at h;cases h
   | false=>
    rw[hfr]at h;simp only[Bool.false_eq_true,if_false]at h;obtain⟨hm,hfw⟩:=h3 hfr;rw[<- view_setCell hm]at h;have hsz:(w.setCell a v).heap.size=w.heap.size:=by simp[World.setCell]
    have hf':Fit G (w.setCell a v):=⟨λk hk=>by rw[hsz];exact hf.m k hk,λk hk=>by rw[hsz];exact hf.s k hk,λk v hk=>by rw[hsz];exact hf.f k v hk⟩;obtain⟨w',es',h4,h5,h6⟩:=ih (es.push ⟨.cell a,true,false⟩) hf' h;rw[hsz]at h5;refine⟨h1,hfw,w',#[⟨.cell a,true,false⟩]++es',by rw[h4];simp,h5,h6.os,h6.tape,h6.output,by rw[<- hsz];exact h6.size,λi hi hni=> ?_,λe he=> ?_⟩
    ·rw[h6.same i (by rw[hsz];exact hi) hni];simp only[World.setCell,Array.getElem?_modify];rw[if_neg λe=>hni (by rw[<- e];exact hm)]
    ·rcases Array.mem_append.1 he with x' | x'
     ·simp at x';subst x';exact .inl ⟨a,rfl,.inl hm⟩
     ·have:=h6.evs e x';rw[hsz]at this;exact this
  have main:(∀c,v ≠ .agg c)->(∀c,v ≠ .tuple c)->∃w' es',(Sem.store .plain a v k).runT P w es=(.ok r w',es++es')/\v'=view (G.grow w.heap.size w'.heap.size) w'/\Did G w w' es':=by
   intro n1 n2;cases hc:(view G w).cell? a with
   |none=>exfalso;obtain⟨e,he⟩:=view_farStore (G:=G) (w:=w) (P:=P) (a:=a) (v:=v) (b:=Mode.plain == .atomic);cases v<;>first|exact n1 _ rfl|exact n2 _ rfl | (simp only[Sem.run,hc,he]at h;cases h)
   |some x=>obtain⟨h1,h2,w',es',h3,h4,h5⟩:=key x hc (by cases v<;>first|exact absurd rfl (n1 _)|exact absurd rfl (n2 _) | (simp only[Sem.run,hc]at h;exact h));refine⟨w',es',?_,h4,h5⟩;cases v<;>first|exact absurd rfl (n1 _)|exact absurd rfl (n2 _) | (simp only[Sem.runT,h1,h2,Bool.false_eq_true,if_false];exact h3)
  refine main (λc e=> ?_) (λc e=> ?_)
  ·subst e;simp only[Sem.run]at h;cases h
  ·subst e;simp only[Sem.run]at h;cases h
 | new o k ho _ ih=>
  intro G w v' r es hf h;simp only[Sem.run,view_size]at h;rw[<- view_push hf ho]at h;have hsz:({ w with heap:=w.heap.push o }:World).heap.size=w.heap.size+1:=by simp
  have hf':Fit (G.grow w.heap.size (w.heap.size+1)) { w with heap:=w.heap.push o }:=by have:=hf.grow (w':={ w with heap:=w.heap.push o }) (by simp);rw[hsz]at this;exact this
  obtain⟨w',es',h3,h4,h5⟩:=ih _ es hf' h;have hle:w.heap.size+1<=w'.heap.size:=by rw[<- hsz];exact h5.size
  refine⟨w',es',by simp only[Sem.runT];exact h3,?_,?_⟩
  ·rw[h4,hsz,Gh.grow_grow G (by omega) hle]
  ·have:=did_trans (G:=G) (a:=w) (b:={ w with heap:=w.heap.push o }) (es:=#[]) (c:=w') (es':=es') ⟨rfl,rfl,rfl,by simp,λi hi _=>by simp[Array.getElem?_push];omega,λe he=>by simp at he⟩ (by rw[hsz];exact h5)
   simpa using this
 | choose q k _ ih=>
  intro G w v' r es hf h;simp only[Sem.run]at h
  by_cases hq:q.forced
  ·simp only[hq,if_true]at h;obtain⟨w',es',h3,h4,h5⟩:=ih 0 es hf h;exact⟨w',es',by simp only[Sem.runT,hq,if_true];exact h3,h4,h5⟩
  ·simp only[hq,Bool.false_eq_true,if_false]at h;obtain⟨w',es',h3,h4,h5⟩:=ih (q.cut (w.tape w.drawn q)) (w:={ w with drawn:=w.drawn+1 }) es ⟨hf.m,hf.s,hf.f⟩ h;exact⟨w',es',by simp only[Sem.runT,hq,Bool.false_eq_true,if_false];exact h3,h4,h5.os,h5.tape,h5.output,h5.size,h5.same,h5.evs⟩
 |program k _ ih=>intro G w v' r es hf h;simp only[Sem.run]at h;obtain⟨w',es',h3,h4,h5⟩:=ih es hf h;exact⟨w',es',by simp only[Sem.runT];exact h3,h4,h5⟩
 |noRoom k _ ih=>
  intro G w v' r es hf h;simp only[Sem.run]at h;obtain⟨w',es',h3,h4,h5⟩:=ih (es.push ⟨.mark .noRoom,false,true⟩) hf h;refine⟨w',#[⟨.mark .noRoom,false,true⟩]++es',by simp only[Sem.runT];rw[h3];simp,h4,h5.os,h5.tape,h5.output,h5.size,h5.same,λe he=> ?_⟩;rcases Array.mem_append.1 he with x' | x'
  ·simp at x';subst x';exact .inr (.inr (.inl ⟨_,rfl,.inl rfl⟩))
  ·exact h5.evs e x'
 |halt h'=>intro G w v' r es hf h;simp only[Sem.run]at h;cases h
 |never s hn=>intro G w v' r es hf h;exact absurd h (hn _ _ _)
end
section
set_option linter.unusedVariables false
set_option linter.unusedSimpArgs false
/-- Who runs: the starter or not; what is promised meanwhile. -/
structure Md where
 main:Bool
 F:Nat->Option Value
structure FitM (mn:Md) (G:Gh) (w:World):Prop extends Fit G w where
 eqF:G.F=mn.F
instance {mn:Md} {G:Gh} {w:World}:CoeOut (FitM mn G w) (Fit G w):=⟨FitM.toFit⟩
variable {mn:Md}
theorem FitM.rely{G:Gh}{w w':World}(h:FitM mn G w)(k:Rely G w w'):FitM mn G w':=⟨h.toFit.rely k,h.eqF⟩
theorem FitM.drew{G:Gh}{w:World}(h:FitM mn G w)(d:Nat):FitM mn G { w with drawn:=d }:=⟨⟨h.m,h.s,h.f⟩,h.eqF⟩
abbrev gr(fr:Frame)(cs:List Frame):Goroutine:={ frame:=fr,callers:=cs,status:=.running,dying:=none }
def Ge(v v':World):Prop:=Below v.heap.size v v'
theorem Ge.refl(v:World):Ge v v:=Below.refl _ v
theorem Ge.trans{a b c:World}(h:Ge a b)(k:Ge b c):Ge a c:=Below.trans h (Below.mono k h.size)
/-- A worker's stop: its one send; behind it it only leaves. -/
structure SendStop (P:Program) (c:Nat) (v:Value) (G:Gh) (w:World) (g:Goroutine):Prop where
 run:g.status=.running
 go:∃g₂ z q,Conc.QuitsIn P q (Conc.served g₂ undef)/\∀w₁,Rely G w w₁->∃es,stepG P false g w₁=.comm g₂ #[Conc.scase c v z] true .send w₁ es/\∀e∈es,EvOk G e
/-- A worker: its own steps, then its one send of v on c. -/
inductive GoW (P:Program) (c:Nat) (v:Value):Gh->World->Goroutine->Prop
 | step (G:Gh) (w:World) (g:Goroutine):Fit G w→g.status = .running→(∀ w₁,Rely G w w₁→∃ g' w' es,stepG P false g w₁ = .go g' w' es∧Did G w₁ w' es) →
   (∀w₁,Rely G w w₁->∀g' w' es,stepG P false g w₁=.go g' w' es->GoW P c v (G.grow w₁.heap.size w'.heap.size) w' g')->GoW P c v G w g
 |stop (G:Gh) (w:World) (g:Goroutine):Fit G w->SendStop P c v G w g->GoW P c v G w g
def Gh.kid(G:Gh)(K:Nat->Prop):Gh:=⟨λ_=>False,λk=>G.S k\/K k,λ_=>none⟩
def Gh.lend(G:Gh)(c:Nat)(v:Value)(K:Nat->Prop):Gh:=⟨λk=>G.M k/\k≠c/\¬K k,λk=>G.S k\/K k,λk=>if k=c then some v else G.F k⟩
def Gh.took(G:Gh)(c:Nat):Gh:={ G with F:=λk=>if k=c then none else G.F k }
/-- Closed under own steps, go statements, receives of what has been promised. -/
structure Closed (P:Program) (main:Bool) (Pr:Gh->World->Goroutine->Prop):Prop where
 step:∀(G:Gh) (w:World) (g:Goroutine),Fit G w->g.status=.running ->
  (∀w₁,Rely G w w₁->∃g' w' es,stepG P main g w₁=.go g' w' es/\Did G w₁ w' es/\Pr (G.grow w₁.heap.size w'.heap.size) w' g')->Pr G w g
 spawn:main=true->∀(G:Gh) (w:World) (g:Goroutine) (c:Nat) (v:Value) (K:Nat->Prop),Fit G w->g.status=.running->G.M c->¬K c->(∀k,K k->G.M k) ->
  (∀ w₁,Rely G w w₁→∃ g' child es,stepG P true g w₁ = .spawn g' child w₁ es∧(∀ e ∈ es,EvOk G e)∧(∃ s tm,w₁.heap[c]? = some (.chan 0 #[] false s s tm)) ∧
   g'.status=.running/\GoW P c v (G.kid K) w₁ child/\Pr (G.lend c v K) w₁ g')->Pr G w g
 recv:main=true->∀(G:Gh) (w:World) (g g₂:Goroutine) (c:Nat) (v z:Value),Fit G w->g.status=.running->G.F c=some v ->
  (∀w₁,Rely G w w₁->∃es,stepG P true g w₁=.comm g₂ #[Conc.rcase c z] true (.recv false) w₁ es/\∀e∈es,EvOk G e) ->
  (∀w',Rely G w w'->Pr (G.took c) w' (Conc.served g₂ v))->Pr G w g
def Arr(Pr:Gh->World->Goroutine->Prop)(b:Frame)(k:List Item)(cs:List Frame):Exit->Act->Gh->World->Prop
 |.normal,a,G,w=>Pr G w (gr (b.atR a k) cs)
 |.exit id,a,G,w=>(∀k',exitTo id k=some k'->Pr G w (gr (b.atR a k') cs))/\(exitTo id k=none->∀k₁,exitTo id k₁=none->Pr G w (gr (b.atR a (.code (.exit id)::k₁)) cs))
 |.goto l,a,G,w=>(∀k',gotoIn l k=some k'->Pr G w (gr (b.atR a k') cs))/\(gotoIn l k=none->∀k₁,gotoIn l k₁=none->Pr G w (gr (b.atR a (.code (.goto l)::k₁)) cs))
 |.ret,a,G,w=>∀k₁,Pr G w (gr (b.atR a (.code .ret::k₁)) cs)
 |.panic _,_,_,_=>True
 |.outgrown,_,_,_=>True
def WpX(mn:Md)(ro:Option Nat)(P:Program)(c:Code)(Q:Exit->Act->World->Prop)(a:Act)(v:World):Prop:=
 ∀(Pr:Gh->World->Goroutine->Prop),Closed P mn.main Pr->∀(b:Frame),b.roundOf=ro->b.kind=.normal->∀(k:List Item) (cs:List Frame) (G:Gh) (w:World),FitM mn G w->Ge v (view G w) ->
  (∀e a' v',Q e a' v'->∀G' w',FitM mn G' w'->Ge v' (view G' w')->Arr Pr b k cs e a' G' w')->Pr G w (gr (b.atR a (.code c::k)) cs)
section
variable {ro:Option Nat} {P:Program} {Q Q':Exit->Act->World->Prop} {a:Act} {v:World}
theorem WpX.mono{c:Code}(h:WpX mn ro P c Q a v)(hq:∀e a v,Q e a v->Q' e a v):WpX mn ro P c Q' a v:=
 λPr hC b hb hk k cs G w hf hv hQ=>h Pr hC b hb hk k cs G w hf hv λe a' v' hq'=>hQ e a' v' (hq _ _ _ hq')
theorem Closed.calm{Pr:Gh->World->Goroutine->Prop}(hC:Closed P mn.main Pr){G:Gh}{w:World}{g g':Goroutine}(hf:FitM mn G w)(hr:g.status=.running)(hs:∀w,stepG P mn.main g w=.go g' w #[])
  (h:∀w₁,FitM mn G w₁->Ge (view G w) (view G w₁)->Pr G w₁ g'):Pr G w g:=
 hC.step G w g hf.toFit hr λw₁ h₁=>⟨g',w₁,#[],hs w₁,.refl _ _,by rw[Gh.grow_self];exact h w₁ (hf.rely h₁) (h₁.view hf.toFit)⟩
section moves
variable {b:Frame} {k:List Item} {cs:List Frame} {w:World}
theorem sg_skip:stepG P mn.main (gr (b.atR a (.code .skip::k)) cs) w=.go (gr (b.atR a k) cs) w #[]:=by simp[gr,stepG,stepG.exec,Frame.atR]
theorem sg_label{l:Nat}:stepG P mn.main (gr (b.atR a (.code (.label l)::k)) cs) w=.go (gr (b.atR a k) cs) w #[]:=by simp[gr,stepG,stepG.exec,Frame.atR]
theorem sg_inBlock{id:Nat}:stepG P mn.main (gr (b.atR a (.inBlock id::k)) cs) w=.go (gr (b.atR a k) cs) w #[]:=by simp[gr,stepG,stepG.exec,Frame.atR]
theorem sg_inScope{c:Code}:stepG P mn.main (gr (b.atR a (.inScope c::k)) cs) w=.go (gr (b.atR a k) cs) w #[]:=by simp[gr,stepG,stepG.exec,Frame.atR]
theorem sg_seq{x y:Code}:stepG P mn.main (gr (b.atR a (.code (.seq x y)::k)) cs) w=.go (gr (b.atR a (.code x::.code y::k)) cs) w #[]:=by simp[gr,stepG,stepG.exec,Frame.atR]
theorem sg_cond{c:Operand}{x y:Code}{t:Bool}(h:a.eval c=.bool t):stepG P mn.main (gr (b.atR a (.code (.cond c x y)::k)) cs) w=.go (gr (b.atR a (.code (if t then x else y)::k)) cs) w #[]:=by have:=congrFun (Frame.eval_atR b a (.code (.cond c x y)::k)) c;simp only[Frame.atR]at this;simp[gr,stepG,stepG.exec,Frame.atR,this,h]
theorem sg_block{id:Nat}{c:Code}:stepG P mn.main (gr (b.atR a (.code (.block id c)::k)) cs) w=.go (gr (b.atR a (.code c::.inBlock id::k)) cs) w #[]:=by simp[gr,stepG,stepG.exec,Frame.atR]
theorem sg_scope{c:Code}:stepG P mn.main (gr (b.atR a (.code (.scope c)::k)) cs) w=.go (gr (b.atR a (.code c::.inScope c::k)) cs) w #[]:=by simp[gr,stepG,stepG.exec,Frame.atR]
theorem sg_loop{c:Code}:stepG P mn.main (gr (b.atR a (.code (.loop c)::k)) cs) w=.go (gr (b.atR a (.code c::.inLoop c::k)) cs) w #[]:=by simp[gr,stepG,stepG.exec,Frame.atR]
theorem sg_inLoop{c:Code}:stepG P mn.main (gr (b.atR a (.inLoop c::k)) cs) w=.go (gr (b.atR a (.code c::.inLoop c::k)) cs) w #[]:=by simp[gr,stepG,stepG.exec,Frame.atR]
theorem sg_exit{id:Nat}{k':List Item}(h:exitTo id k=some k'):stepG P mn.main (gr (b.atR a (.code (.exit id)::k)) cs) w=.go (gr (b.atR a k') cs) w #[]:=by simp[gr,stepG,stepG.exec,Frame.atR,h]
theorem sg_goto{l:Nat}{k':List Item}(h:gotoIn l k=some k'):stepG P mn.main (gr (b.atR a (.code (.goto l)::k)) cs) w=.go (gr (b.atR a k') cs) w #[]:=by simp[gr,stepG,stepG.exec,Frame.atR,h]
theorem sg_region{id:Nat}{ops:Array Oper}:stepG P mn.main (gr (b.atR a (.code (.region id ops false)::k)) cs) w=.go (gr (b.atR a (.inRegion ops (List.range ops.size)::k)) cs) w #[]:=by simp[gr,stepG,stepG.exec,Frame.atR]
theorem sg_region_draw{id:Nat}{ops:Array Oper}:stepG P mn.main (gr (b.atR a (.code (.region id ops true)::k)) cs) w =
  .go (gr (b.atR a (.inRegion ops (Region.schedule (P.follows .mixedOrders) ops (w.tape w.drawn (.order b.fn id)))::k)) cs) { w with drawn:=w.drawn+1 } #[]:=by
 simp[gr,stepG,stepG.exec,Frame.atR,choose,Sem.run,Question.forced,Question.cut]
theorem sg_region_end{ops:Array Oper}:stepG P mn.main (gr (b.atR a (.inRegion ops []::k)) cs) w=.go (gr (b.atR a k) cs) w #[]:=by simp[gr,stepG,stepG.exec,Frame.atR]
theorem sg_op_skip{ops:Array Oper}{i:Nat}{rest:List Nat}(h:((ops[i]?).map (Region.wanted · (yielded ops a.tmps))).getD false=false):
  stepG P mn.main (gr (b.atR a (.inRegion ops (i::rest)::k)) cs) w=.go (gr (b.atR (a.put ((ops[i]?).bind (·.dst)) undef) (.inRegion ops rest::k)) cs) w #[]:=by
 rw[<- Frame.finish_atR];have h':=h;simp only[Frame.atR] at *;simp[gr,stepG,stepG.exec,h']
theorem sg_op{ops:Array Oper}{i:Nat}{rest:List Nat}{o:Oper}(ho:ops[i]?=some o)(hw:Region.wanted o (yielded ops a.tmps)=true)(hd:∀c,o.op ≠ .defer c):
  stepG P mn.main (gr (b.atR a (.inRegion ops (i::rest)::k)) cs) w=stepG.apply P true (b.atR a (.inRegion ops (i::rest)::k)) cs none (execOp a.eval o) w:=by
 have he:=Frame.eval_atR b a (.inRegion ops (i::rest)::k);simp only[Frame.atR]at he;simp only[gr,stepG,stepG.exec,stepG.oper,Frame.oper?,Frame.atR,ho,Option.map_some,hw,Option.getD_some,if_true,he];cases hro:b.roundOf with|none=>simp[hro]|some l=>cases hop:o.op<;>first|exact absurd hop (hd _)|simp[hro,hop]
end moves
theorem wpX_skip(h:Q .normal a v):WpX mn ro P .skip Q a v:=λPr hC b hb hkd k cs G w hf hv hQ=>
 hC.calm hf rfl (λw=>sg_skip) λw₁ hf₁ hg=>hQ .normal a v h G w₁ hf₁ (hv.trans hg)
theorem wpX_label{l:Nat}(h:Q .normal a v):WpX mn ro P (.label l) Q a v:=λPr hC b hb hkd k cs G w hf hv hQ=>
 hC.calm hf rfl (λw=>sg_label) λw₁ hf₁ hg=>hQ .normal a v h G w₁ hf₁ (hv.trans hg)
theorem wpX_exit{id:Nat}(h:Q (.exit id) a v):WpX mn ro P (.exit id) Q a v:=λPr hC b hb hkd k cs G w hf hv hQ=>by
 cases he:exitTo id k with
 |some k'=>exact hC.calm hf rfl (λw=>sg_exit he) λw₁ hf₁ hg=>(hQ (.exit id) a v h G w₁ hf₁ (hv.trans hg)).1 k' he
 |none=>exact(hQ (.exit id) a v h G w hf hv).2 he k he
theorem wpX_goto{l:Nat}(h:Q (.goto l) a v):WpX mn ro P (.goto l) Q a v:=λPr hC b hb hkd k cs G w hf hv hQ=>by
 cases he:gotoIn l k with
 |some k'=>exact hC.calm hf rfl (λw=>sg_goto he) λw₁ hf₁ hg=>(hQ (.goto l) a v h G w₁ hf₁ (hv.trans hg)).1 k' he
 |none=>exact(hQ (.goto l) a v h G w hf hv).2 he k he
theorem wpX_ret(h:Q .ret a v):WpX mn ro P .ret Q a v:=λPr hC b hb hkd k cs G w hf hv hQ=>hQ .ret a v h G w hf hv k
theorem Arr.cons{Pr:Gh->World->Goroutine->Prop}{b:Frame}{x:Item}{k:List Item}{cs:List Frame}{e:Exit}{a:Act}{G:Gh}{w:World}(hx:x.plain=true)(hn:e ≠ .normal)(h:Arr Pr b k cs e a G w):Arr Pr b (x::k) cs e a G w:=by cases e with|normal=>exact absurd rfl hn|exit id=>exact⟨λk' hk=>h.1 k' (by rwa [exitTo_plain hx]at hk),λhk=>h.2 (by rwa [exitTo_plain hx]at hk)⟩|goto l=>exact⟨λk' hk=>h.1 k' (by rwa [gotoIn_plain hx]at hk),λhk=>h.2 (by rwa [gotoIn_plain hx]at hk)⟩|ret=>exact h|panic ch=>trivial|outgrown=>trivial
theorem wpX_seq{x y:Code}(h:WpX mn ro P x (Exit.then (WpX mn ro P y Q) Q) a v):WpX mn ro P (.seq x y) Q a v:=λPr hC b hb hkd k cs G w hf hv hQ=>
 hC.calm hf rfl (λw=>sg_seq) λw₁ hf₁ hg=>h Pr hC b hb hkd (.code y::k) cs G w₁ hf₁ (hv.trans hg) λe a' v' hq G' w' hf' hv'=>by
  cases e with|normal=>exact hq Pr hC b hb hkd k cs G' w' hf' hv' hQ|exit id=>exact .cons (x:=.code y) rfl (by simp) (hQ _ a' v' hq G' w' hf' hv')|goto l=>exact .cons (x:=.code y) rfl (by simp) (hQ _ a' v' hq G' w' hf' hv')|ret=>exact hQ .ret a' v' hq G' w' hf' hv'|panic ch=>trivial|outgrown=>trivial
theorem wpX_cond{c:Operand}{x y:Code}{t:Bool}(hc:a.eval c=.bool t)(h:WpX mn ro P (if t then x else y) Q a v):WpX mn ro P (.cond c x y) Q a v:=λPr hC b hb hkd k cs G w hf hv hQ=>
 hC.calm hf rfl (λw=>sg_cond hc) λw₁ hf₁ hg=>h Pr hC b hb hkd k cs G w₁ hf₁ (hv.trans hg) hQ
theorem wpX_cond_true{c:Operand}{x y:Code}(hc:a.eval c=.bool true)(h:WpX mn ro P x Q a v):WpX mn ro P (.cond c x y) Q a v:=wpX_cond hc h
theorem wpX_cond_false{c:Operand}{x y:Code}(hc:a.eval c=.bool false)(h:WpX mn ro P y Q a v):WpX mn ro P (.cond c x y) Q a v:=wpX_cond hc h
theorem wpX_block{id:Nat}{c:Code}(h:WpX mn ro P c (Exit.inBlock id Q) a v):WpX mn ro P (.block id c) Q a v:=λPr hC b hb hkd k cs G w hf hv hQ=>
 hC.calm hf rfl (λw=>sg_block) λw₁ hf₁ hg=>h Pr hC b hb hkd (.inBlock id::k) cs G w₁ hf₁ (hv.trans hg) λe a' v' hq G' w' hf' hv'=>by
  cases e with
  |normal=>exact hC.calm hf' rfl (λw=>sg_inBlock) λw₂ hf₂ hg₂=>hQ .normal a' v' hq G' w₂ hf₂ (hv'.trans hg₂)
  | exit id'=>
   by_cases hid:id'=id
   ·subst hid;simp only[Exit.inBlock,if_true]at hq;refine⟨λk' hk=> ?_,λhk=> ?_⟩
    ·simp[exitTo]at hk;subst hk;exact hQ .normal a' v' hq G' w' hf' hv'
    ·simp[exitTo]at hk
   ·simp only[Exit.inBlock,if_neg hid]at hq;have hx:exitTo id' (.inBlock id::k)=exitTo id' k:=by
     have this:(id==id')=false:=by simp;exact λh=>hid h.symm
     simp[exitTo,this]
    have:=hQ (.exit id') a' v' hq G' w' hf' hv';exact⟨λk' hk=>this.1 k' (by rwa [hx]at hk),λhk=>this.2 (by rwa [hx]at hk)⟩
  |goto l=>
   have hx:gotoIn l (.inBlock id::k)=gotoIn l k:=by simp[gotoIn]
   have:=hQ (.goto l) a' v' hq G' w' hf' hv';exact⟨λk' hk=>this.1 k' (by rwa [hx]at hk),λhk=>this.2 (by rwa [hx]at hk)⟩
  |ret=>exact hQ .ret a' v' hq G' w' hf' hv'
  |panic ch=>trivial
  |outgrown=>trivial
theorem wpX_scope{c:Code}(h:WpX mn ro P c (Exit.noGoto Q) a v):WpX mn ro P (.scope c) Q a v:=λPr hC b hb hkd k cs G w hf hv hQ=>
 hC.calm hf rfl (λw=>sg_scope) λw₁ hf₁ hg=>h Pr hC b hb hkd (.inScope c::k) cs G w₁ hf₁ (hv.trans hg) λe a' v' hq G' w' hf' hv'=>by
  cases e with
  |normal=>exact hC.calm hf' rfl (λw=>sg_inScope) λw₂ hf₂ hg₂=>hQ .normal a' v' hq G' w₂ hf₂ (hv'.trans hg₂)
  |exit id'=>
   have hx:exitTo id' (.inScope c::k)=exitTo id' k:=by simp[exitTo]
   have:=hQ (.exit id') a' v' hq G' w' hf' hv';exact⟨λk' hk=>this.1 k' (by rwa [hx]at hk),λhk=>this.2 (by rwa [hx]at hk)⟩
  |goto l=>exact hq.elim
  |ret=>exact hQ .ret a' v' hq G' w' hf' hv'
  |panic ch=>trivial
  |outgrown=>trivial
def RoundsX(mn:Md)(ro:Option Nat)(P:Program)(c:Code)(Q:Exit->Act->World->Prop):Nat->Act->World->Prop
 |0,_,_=>False
 |n+1,a,v=>WpX mn ro P c (Exit.then (RoundsX mn ro P c Q n) Q) a v
theorem wpX_inLoop{c:Code}:∀(n:Nat) {a:Act} {v:World},RoundsX mn ro P c Q n a v->∀(Pr:Gh->World->Goroutine->Prop),Closed P mn.main Pr->∀(b:Frame),b.roundOf=ro->b.kind=.normal->∀(k:List Item) (cs:List Frame) (G:Gh) (w:World),FitM mn G w->Ge v (view G w) ->
  (∀e a' v',Q e a' v'->∀G' w',FitM mn G' w'->Ge v' (view G' w')->e ≠ .normal->Arr Pr b k cs e a' G' w')->Pr G w (gr (b.atR a (.code c::.inLoop c::k)) cs)
 |0,a,v,h,_,_,_,_,_,_,_,_,_,_,_,_=>h.elim
 |n+1,a,v,h,Pr,hC,b,hb,hkd,k,cs,G,w,hf,hv,hQ=>h Pr hC b hb hkd (.inLoop c::k) cs G w hf hv λe a' v' hq G' w' hf' hv'=>by
  cases e with
  |normal=>exact hC.calm hf' rfl (λw=>sg_inLoop) λw₂ hf₂ hg₂=>wpX_inLoop n hq Pr hC b hb hkd k cs G' w₂ hf₂ (hv'.trans hg₂) hQ
  |exit id=>exact .cons (x:=.inLoop c) rfl (by simp) (hQ _ a' v' hq G' w' hf' hv' (by simp))
  |goto l=>exact .cons (x:=.inLoop c) rfl (by simp) (hQ _ a' v' hq G' w' hf' hv' (by simp))
  |ret=>exact hQ .ret a' v' hq G' w' hf' hv' (by simp)
  |panic ch=>trivial
  |outgrown=>trivial
theorem wpX_loop_rounds{c:Code}(n:Nat)(h:RoundsX mn ro P c Q n a v):WpX mn ro P (.loop c) Q a v:=λPr hC b hb hkd k cs G w hf hv hQ=>
 hC.calm hf rfl (λw=>sg_loop) λw₁ hf₁ hg=>wpX_inLoop n h Pr hC b hb hkd k cs G w₁ hf₁ (hv.trans hg) λe a' v' hq G' w' hf' hv' _=>hQ e a' v' hq G' w' hf' hv'
end
end
section
set_option linter.unusedVariables false
set_option linter.unusedSimpArgs false
variable {mn:Md}
def Tr(P:Program){α:Type}(s:Sem α)(v:World)(r:α)(v':World):Prop:=
 ∀(G:Gh) (w:World),Fit G w->view G w=v->∀es:Array Event,∃w' es',s.runT P w es=(.ok r w',es++es')/\v'=view (G.grow w.heap.size w'.heap.size) w'/\Did G w w' es'
theorem Simple.tr{P:Program}{α:Type}{s:Sem α}(hs:Simple P s){v v':World}{r:α}(h:s.run P v=.ok r v'):Tr P s v r v':=λG w hf hv es=>hs.run es hf (hv ▸ h)
def LeavesX(P:Program)(fr:Frame)(R:Value->World->Prop)(v:World):Prop:=
 fr.mode=.returning/\fr.defers=[]/\fr.kind=.normal/\∃fn,P.funcs[fr.fn]?=some fn/\∀v₁,Ge v v₁->∃r,Tr P (results fn fr.tmps) v₁ r v₁/\R r v₁
theorem LeavesX.mono{P:Program}{fr:Frame}{R R':Value->World->Prop}{v:World}(h:LeavesX P fr R v)(hr:∀r v,R r v->R' r v):LeavesX P fr R' v:=
 ⟨h.1,h.2.1,h.2.2.1,let ⟨fn,h1,h2⟩:=h.2.2.2;⟨fn,h1,λv₁ h₁=>let ⟨r,q1,q2⟩:=h2 v₁ h₁;⟨r,q1,hr _ _ q2⟩⟩⟩
def CallsX(mn:Md)(P:Program)(f:FuncId)(args:Array Value)(v:World)(R:Value->World->Prop):Prop:=
 ∀(Pr:Gh->World->Goroutine->Prop),Closed P mn.main Pr->∀(cs:List Frame) (G:Gh) (w:World),FitM mn G w->Ge v (view G w) ->
  (∀v' fr,fr.fn=f->LeavesX P fr R v'->∀G' w',FitM mn G' w'->Ge v' (view G' w')->Pr G' w' (gr fr cs))->Pr G w (gr (Frame.enter P f args .normal) cs)
section
variable {P:Program}
theorem CallsX.mono{f:FuncId}{args:Array Value}{v:World}{R R':Value->World->Prop}(h:CallsX mn P f args v R)(hr:∀r v,R r v->R' r v):CallsX mn P f args v R':=
 λPr hC cs G w hf hv hQ=>h Pr hC cs G w hf hv λv' fr hfn hl=>hQ v' fr hfn (hl.mono hr)
def RoundX(mn:Md)(P:Program)(l:Nat)(f:FuncId)(tmps:Array Value)(assign body:Code)(v:World)(R:Value->World->Prop):Prop:=
 ∀(Pr:Gh->World->Goroutine->Prop),Closed P mn.main Pr->∀(c:Frame) (cs:List Frame) (G:Gh) (w:World),FitM mn G w->Ge v (view G w) ->
  (∀r v',R r v'->∀G' w',FitM mn G' w'->Ge v' (view G' w')->Pr G' w' (gr (c.finish r) cs))->Pr G w (gr (Frame.round l f tmps assign body .normal) (c::cs))
theorem RoundX.mono{l:Nat}{f:FuncId}{tmps:Array Value}{assign body:Code}{v:World}{R R':Value->World->Prop}(h:RoundX mn P l f tmps assign body v R)(hr:∀r v,R r v->R' r v):RoundX mn P l f tmps assign body v R':=
 λPr hC c cs G w hf hv hQ=>h Pr hC c cs G w hf hv λr v' hr'=>hQ r v' (hr _ _ hr')
def OpX(mn:Md)(P:Program)(o:Oper)(a:Act)(v:World)(K:Act->World->Prop):Prop:=
 (∀ c,o.op ≠ .defer c)∧∀ v₁,Ge v v₁ →
  (∃vv v',Tr P (execOp a.eval o) v₁ (.value vv) v'/\K (a.put o.dst vv) v')\/(∃v',Tr P (execOp a.eval o) v₁ .skip v'/\K (a.put o.dst undef) v') \/
  (∃f args v',Tr P (execOp a.eval o) v₁ (.enter f args) v'/\CallsX mn P f args v' λr v'=>K (a.put o.dst r) v') \/
  ∃l f tmps assign body v',Tr P (execOp a.eval o) v₁ (.round l f tmps assign body) v'/\RoundX mn P l f tmps assign body v' λr v'=>K (a.put o.dst r) v'
theorem OpX.mono{o:Oper}{a:Act}{v:World}{K K':Act->World->Prop}(h:OpX mn P o a v K)(hk:∀a v,K a v->K' a v):OpX mn P o a v K':=
 ⟨h.1,fun v₁ h₁=>by
  rcases h.2 v₁ h₁ with ⟨vv,v',h1,h2⟩ | ⟨v',h1,h2⟩ | ⟨f,args,v',h1,h2⟩ | ⟨l,f,tmps,assign,body,v',h1,h2⟩
  ·exact .inl ⟨vv,v',h1,hk _ _ h2⟩
  ·exact .inr (.inl ⟨v',h1,hk _ _ h2⟩)
  ·exact .inr (.inr (.inl ⟨f,args,v',h1,h2.mono λ_ _=>hk _ _⟩))
  ·exact .inr (.inr (.inr ⟨l,f,tmps,assign,body,v',h1,h2.mono λ_ _=>hk _ _⟩))⟩
def OpIX(mn:Md)(P:Program)(ops:Array Oper)(i:Nat)(K:Act->World->Prop)(a:Act)(v:World):Prop:=
 match ops[i]? with|none=>K a v|some o=>if Region.wanted o (yielded ops a.tmps) then OpX mn P o a v K else K (a.put o.dst undef) v
theorem OpIX.mono{ops:Array Oper}{i:Nat}{a:Act}{v:World}{K K':Act->World->Prop}(hk:∀a v,K a v->K' a v)(h:OpIX mn P ops i K a v):OpIX mn P ops i K' a v:=by
 unfold OpIX at h|-
 split
 ·rename_i ho;rw[ho]at h;exact hk _ _ h
 ·rename_i o ho;rw[ho]at h;dsimp only at h;split
  ·rename_i hw;rw[if_pos hw]at h;exact h.mono hk
  ·rename_i hw;rw[if_neg hw]at h;exact hk _ _ h
def OpsX(mn:Md)(P:Program)(ops:Array Oper)(K:Act->World->Prop):List Nat->Act->World->Prop
 |[],a,v=>K a v
 |i::rest,a,v=>OpIX mn P ops i (OpsX mn P ops K rest) a v
def AnyX(mn:Md)(P:Program)(ops:Array Oper)(K:Act->World->Prop):Nat->Array Bool->Act->World->Prop
 |0,listed,a,v=>Region.ready .any ops listed=[]/\K a v
 |fuel+1,listed,a,v=>(Region.ready .any ops listed=[]->K a v)/\∀i∈Region.ready .any ops listed,OpIX mn P ops i (AnyX mn P ops K fuel (listed.setIfInBounds i true)) a v
theorem anyX_sound{ops:Array Oper}{K:Act->World->Prop}:∀(fuel t:Nat) (listed:Array Bool) (a:Act) (v:World),AnyX mn P ops K fuel listed a v->OpsX mn P ops K (Region.linearise.go .any ops fuel t listed []) a v:=by
 intro fuel
 induction fuel with
 |zero=>intro t listed a v h;simpa [Region.linearise.go,OpsX] using h.2
 | succ fuel ih=>
  intro t listed a v h;obtain⟨h₀,h₁⟩:=h;simp only[Region.linearise.go];change OpsX mn P ops K (match (Region.ready .any ops listed)[t % (Region.ready .any ops listed).length]? with
   |some i=>Region.linearise.go .any ops fuel (t / (Region.ready .any ops listed).length) (listed.setIfInBounds i true) [i]
   |none=>[].reverse) a v
  cases hi:(Region.ready .any ops listed)[t % (Region.ready .any ops listed).length]? with
  | none=>
   have hnil:Region.ready .any ops listed=[]:=by cases hr:Region.ready .any ops listed with|nil=>rfl|cons x xs=>rw[hr]at hi;have hlt:t % (x::xs).length<(x::xs).length:=Nat.mod_lt _ (by simp);simp at hi;simp at hlt;omega
   simpa [OpsX] using h₀ hnil
  |some i=>simp only[];rw[linearise_go_acc,List.reverse_singleton,List.singleton_append,OpsX];exact OpIX.mono (λa v=>ih _ _ a v) (h₁ i (List.mem_of_getElem? hi))
theorem sg_apply{b:Frame}{a:Act}{k:List Item}{cs:List Frame}{w w':World}{ops:Array Oper}{i:Nat}{rest:List Nat}{o:Oper}{es:Array Event}{n:Next}(ho:ops[i]?=some o)(hk:b.kind ≠ .early)
  (hw:Region.wanted o (yielded ops a.tmps)=true) (hd:∀c,o.op ≠ .defer c) (hr:(execOp a.eval o).runT P w #[]=(.ok n w',es)) :
  (∀vv,n=.value vv->stepG P mn.main (gr (b.atR a (.inRegion ops (i::rest)::k)) cs) w=.go (gr (b.atR (a.put o.dst vv) (.inRegion ops rest::k)) cs) w' (seen P b.fn es)) /\
  (n=.skip->stepG P mn.main (gr (b.atR a (.inRegion ops (i::rest)::k)) cs) w=.go (gr (b.atR (a.put o.dst undef) (.inRegion ops rest::k)) cs) w' (seen P b.fn es)) /\
  (∀f args,n=.enter f args->stepG P mn.main (gr (b.atR a (.inRegion ops (i::rest)::k)) cs) w=.go (gr (Frame.enter P f args .normal) (b.atR a (.inRegion ops (i::rest)::k)::cs)) w' (seen P b.fn es)) /\
  (∀l f tmps assign body,n=.round l f tmps assign body->stepG P mn.main (gr (b.atR a (.inRegion ops (i::rest)::k)) cs) w=.go (gr (Frame.round l f tmps assign body .normal) (b.atR a (.inRegion ops (i::rest)::k)::cs)) w' (seen P b.fn es)):=by
 have hfin:∀v,(b.atR a (.inRegion ops (i::rest)::k)).finish v=b.atR (a.put o.dst v) (.inRegion ops rest::k):=by intro v;rw[Frame.finish_atR,ho];rfl
 have hke:(b.kind==CallKind.early)=false:=by simpa using hk
 refine⟨λvv e=> ?_,λe=> ?_,λf args e=> ?_,λl f tmps assign body e=> ?_⟩
 ·subst e;rw[sg_op ho hw hd,<- hfin];simp only[stepG.apply,if_true,hr,Frame.atR,hke,Bool.false_eq_true,if_false,GStep.after,gr,Array.append_empty]
 ·subst e;rw[sg_op ho hw hd,<- hfin];simp only[stepG.apply,if_true,hr,Frame.atR,hke,Bool.false_eq_true,if_false,GStep.after,gr,Array.append_empty]
 ·subst e;rw[sg_op ho hw hd];simp only[stepG.apply,if_true,hr,Frame.atR,hke,Bool.false_eq_true,if_false,GStep.after,gr,Array.append_empty]
 ·subst e;rw[sg_op ho hw hd];simp only[stepG.apply,if_true,hr,Frame.atR,hke,Bool.false_eq_true,if_false,GStep.after,gr,Array.append_empty]
theorem Did.seen{G:Gh}{w w':World}{es:Array Event}(h:Did G w w' es)(fn:FuncId):Did G w w' (Go.seen P fn es):=⟨h.os,h.tape,h.output,h.size,h.same,λe he=>h.evs e (mem_seen he)⟩
theorem sg_leave{fr c:Frame}{cs:List Frame}{w:World}{r:Value}{fn:Func}{w':World}{es:Array Event}(hm:fr.mode=.returning)(hd:fr.defers=[])(hk:fr.kind=.normal)(hf:P.funcs[fr.fn]?=some fn)(hr:(results fn fr.tmps).runT P w #[]=(.ok r w',es)):
  stepG P mn.main (gr fr (c::cs)) w=.go (gr (c.finish r) cs) w' (seen P fr.fn es):=by
 simp[gr,stepG,unwind,doReturn,hm,hd,hk,hf,hr,GStep.after,-Sem.runT_eq]
theorem Fit.did{G:Gh}{w w':World}{es:Array Event}(hf:Fit G w)(h:Did G w w' es):Fit (G.grow w.heap.size w'.heap.size) w':=hf.grow h.size
theorem FitM.did{G:Gh}{w w':World}{es:Array Event}(hf:FitM mn G w)(h:Did G w w' es):FitM mn (G.grow w.heap.size w'.heap.size) w':=⟨hf.toFit.grow h.size,hf.eqF⟩
theorem opsX_pre{ops:Array Oper}{K:Act->World->Prop}{Pr:Gh->World->Goroutine->Prop}(hC:Closed P mn.main Pr){b:Frame}(hb:b.kind ≠ .early){k:List Item}{cs:List Frame}(tail:List Nat):
  ∀(l:List Nat) (a:Act) (v:World),OpsX mn P ops K l a v->∀(G:Gh) (w:World),FitM mn G w->Ge v (view G w) ->
   (∀a' v',K a' v'->∀G' w',FitM mn G' w'->Ge v' (view G' w')->Pr G' w' (gr (b.atR a' (.inRegion ops tail::k)) cs))->Pr G w (gr (b.atR a (.inRegion ops (l++tail)::k)) cs)
 |[],a,v,h,G,w,hf,hv,hQ=>hQ a v h G w hf hv
 | i::rest,a,v,h,G,w,hf,hv,hQ=>by
  rw[List.cons_append];unfold OpsX OpIX at h;cases ho:ops[i]? with
  |none=>
   rw[ho]at h;have hs:=λw=>sg_op_skip (P:=P) (mn:=mn) (b:=b) (a:=a) (k:=k) (cs:=cs) (w:=w) (ops:=ops) (i:=i) (rest:=rest++tail) (by simp[ho])
   simp only[ho,Option.bind_none,Act.put]at hs;exact hC.calm hf rfl hs λw₁ hf₁ hg=>opsX_pre hC hb tail rest a v h G w₁ hf₁ (hv.trans hg) hQ
  | some o=>
   rw[ho]at h;dsimp only at h
   by_cases hw:Region.wanted o (yielded ops a.tmps)=true
   ·rw[if_pos hw]at h;obtain⟨hd,h⟩:=h;refine hC.step G w _ hf.toFit rfl λw₁ hr₁=> ?_
    have hf₁:=hf.rely hr₁;rcases h (view G w₁) (hv.trans (hr₁.view hf.toFit)) with ⟨vv,v',ht,hk⟩ | ⟨v',ht,hk⟩ | ⟨f,args,v',ht,hk⟩ | ⟨l,f,tmps,assign,body,v',ht,hk⟩
    ·obtain⟨w',es,e1,e2,e3⟩:=ht G w₁ hf₁.toFit rfl #[];refine⟨_,w',_,(sg_apply ho hb hw hd e1).1 vv rfl,by simpa using e3.seen b.fn,?_⟩;exact opsX_pre hC hb tail rest _ v' hk _ w' (hf₁.did e3) (e2 ▸ .refl _) hQ
    ·obtain⟨w',es,e1,e2,e3⟩:=ht G w₁ hf₁.toFit rfl #[];refine⟨_,w',_,(sg_apply ho hb hw hd e1).2.1 rfl,by simpa using e3.seen b.fn,?_⟩;exact opsX_pre hC hb tail rest _ v' hk _ w' (hf₁.did e3) (e2 ▸ .refl _) hQ
    ·obtain⟨w',es,e1,e2,e3⟩:=ht G w₁ hf₁.toFit rfl #[];refine⟨_,w',_,(sg_apply ho hb hw hd e1).2.2.1 f args rfl,by simpa using e3.seen b.fn,?_⟩;refine hk Pr hC _ _ w' (hf₁.did e3) (e2 ▸ .refl _) λv'' fr hfn hl G' w'' hf' hv'=> ?_
     refine hC.step G' w'' _ hf'.toFit rfl λw₂ hr₂=> ?_
     obtain⟨hm,hdf,hkd,fn,hfun,hres⟩:=hl;obtain⟨r,ht,hK⟩:=hres (view G' w₂) (hv'.trans (hr₂.view hf'.toFit));obtain⟨w₃,es₃,q1,q2,q3⟩:=ht G' w₂ (hf'.rely hr₂).toFit rfl #[];refine⟨_,w₃,_,sg_leave hm hdf hkd hfun q1,by simpa using q3.seen fr.fn,?_⟩;have hfin:(b.atR a (.inRegion ops (i::(rest++tail))::k)).finish r=b.atR (a.put o.dst r) (.inRegion ops (rest++tail)::k):=by rw[Frame.finish_atR,ho];rfl
     rw[hfin];exact opsX_pre hC hb tail rest _ _ hK _ w₃ ((hf'.rely hr₂).did q3) (by rw[<- q2];exact Ge.refl _) hQ
    ·obtain⟨w',es,e1,e2,e3⟩:=ht G w₁ hf₁.toFit rfl #[];refine⟨_,w',_,(sg_apply ho hb hw hd e1).2.2.2 l f tmps assign body rfl,by simpa using e3.seen b.fn,?_⟩;refine hk Pr hC _ _ _ w' (hf₁.did e3) (e2 ▸ .refl _) λr v'' hK G' w'' hf' hv'=> ?_
     have hfin:(b.atR a (.inRegion ops (i::(rest++tail))::k)).finish r=b.atR (a.put o.dst r) (.inRegion ops (rest++tail)::k):=by rw[Frame.finish_atR,ho];rfl
     rw[hfin];exact opsX_pre hC hb tail rest _ _ hK G' w'' hf' hv' hQ
   ·rw[if_neg hw]at h;have hs:=λw=>sg_op_skip (P:=P) (mn:=mn) (b:=b) (a:=a) (k:=k) (cs:=cs) (w:=w) (ops:=ops) (i:=i) (rest:=rest++tail) (by simp[ho];simpa using hw)
    simp only[ho,Option.bind_some]at hs;exact hC.calm hf rfl hs λw₁ hf₁ hg=>opsX_pre hC hb tail rest _ v h G w₁ hf₁ (hv.trans hg) hQ
theorem opsX_run{ops:Array Oper}{K:Act->World->Prop}{Pr:Gh->World->Goroutine->Prop}(hC:Closed P mn.main Pr){b:Frame}(hb:b.kind ≠ .early){k:List Item}{cs:List Frame}
  (l:List Nat) (a:Act) (v:World) (h:OpsX mn P ops K l a v) (G:Gh) (w:World) (hf:FitM mn G w) (hv:Ge v (view G w))
  (hQ:∀a' v',K a' v'->∀G' w',FitM mn G' w'->Ge v' (view G' w')->Pr G' w' (gr (b.atR a' k) cs)):Pr G w (gr (b.atR a (.inRegion ops l::k)) cs):=by
 have:=opsX_pre hC hb (k:=k) (cs:=cs) [] l a v h G w hf hv λa' v' hk G' w' hf' hv'=>
  hC.calm hf' rfl (λw=>sg_region_end) λw₁ hf₁ hg=>hQ a' v' hk G' w₁ hf₁ (hv'.trans hg)
 rwa [List.append_nil]at this
theorem ne_early{b:Frame}(h:b.kind=.normal):b.kind ≠ .early:=by rw[h];intro e;cases e
variable {ro:Option Nat} {Q:Exit->Act->World->Prop} {a:Act} {v:World}
theorem wpX_region{id:Nat}{ops:Array Oper}(h:OpsX mn P ops (Q .normal) (List.range ops.size) a v):WpX mn ro P (.region id ops false) Q a v:=λPr hC b hb hkd k cs G w hf hv hQ=>
 hC.calm hf rfl (λw=>sg_region) λw₁ hf₁ hg=>opsX_run hC (ne_early hkd) _ a v h G w₁ hf₁ (hv.trans hg) λa' v' hq G' w' hf' hv'=>hQ .normal a' v' hq G' w' hf' hv'
theorem view_drew{G:Gh}{w:World}:view G { w with drawn:=w.drawn+1 }={ view G w with drawn:=w.drawn+1 }:=rfl
theorem ge_drew(v:World)(d:Nat):Ge v { v with drawn:=d }:=⟨rfl,rfl,rfl,Nat.le_refl _,λ_ _=>rfl⟩
theorem wpX_region_any{id:Nat}{ops:Array Oper}(hm:P.follows .mixedOrders=true)(h:AnyX mn P ops (Q .normal) ops.size (Array.replicate ops.size false) a v):WpX mn ro P (.region id ops true) Q a v:=λPr hC b hb hkd k cs G w hf hv hQ=>by
 refine hC.step G w _ hf.toFit rfl λw₁ hr₁=>⟨_,_,_,sg_region_draw,⟨rfl,rfl,rfl,Nat.le_refl _,λ_ _ _=>rfl,λe he=>by simp at he⟩,?_⟩
 have hf₁:=hf.rely hr₁;rw[show G.grow w₁.heap.size ({ w₁ with drawn:=w₁.drawn+1 }:World).heap.size=G from Gh.grow_self G _];simp only[Region.schedule,hm,Bool.true_or,if_true];refine opsX_run hC (ne_early hkd) _ a v (anyX_sound ops.size _ _ a v h) G _ (hf₁.drew _) ?_ λa' v' hq G' w' hf' hv'=>hQ .normal a' v' hq G' w' hf' hv'
 rw[view_drew];exact(hv.trans (hr₁.view hf.toFit)).trans (ge_drew _ _)
end
end
section
set_option linter.unusedVariables false
set_option linter.unusedSimpArgs false
variable {mn:Md}
section
variable {P:Program}
theorem Simple.pure'{α:Type}(a:α):Simple P (Pure.pure a:Sem α):=.pure a
theorem simple_stuck{α:Type}(s:String):Simple P (stuck s:Sem α):=.halt _
theorem simple_program{α:Type}{f:Program->Sem α}(h:Simple P (f P)):Simple P (program >>= f):=.program _ h
theorem simple_choose(q:Question):Simple P (choose q):=.choose _ _ λ_=>.pure _
theorem simple_typeInfo(t:TypeId):Simple P (typeInfo t):=by unfold typeInfo;refine simple_program ?_;split<;>first|exact .pure _|exact .halt _
theorem simple_underlying(t:TypeId):Simple P (underlying t):=by unfold underlying;refine simple_program ?_;split<;>first|exact .pure _|exact .halt _
theorem simple_sizeOf(t:TypeId):Simple P (sizeOf t):=.bind (simple_typeInfo t) λ_=>.pure _
theorem simple_zeroValue(t:TypeId):Simple P (zeroValue t):=by
 unfold zeroValue;refine .bind (simple_typeInfo t) λ_=> ?_
 split<;>first|exact .pure _|exact .halt _
theorem simple_isAgg(t:TypeId):Simple P (isAgg t):=by
 unfold isAgg;refine .bind (simple_underlying t) λ_=> ?_
 split<;>exact .pure _
theorem simple_load(a:Addr):Simple P (Go.load a):=.load _ _ λ_=>.pure _
theorem simple_store(a:Addr)(v:Value):Simple P (Go.store a v):=.store _ _ _ (.pure _)
theorem simple_loadCellsFrom(a:Addr):∀(n i:Nat) (acc:Array Value),Simple P (loadCellsFrom a i n acc)
 |0,i,acc=>.pure _
 |n+1,i,acc=>by unfold loadCellsFrom;exact .bind (simple_load _) λ_=>simple_loadCellsFrom a n _ _
theorem simple_storeCells(a:Addr):∀(vs:List Value) (i:Nat),Simple P (storeCells a vs i)
 |[],i=>.pure _
 |v::r,i=>by unfold storeCells;exact .bind (simple_store _ _) λ_=>simple_storeCells a r _
theorem simple_loadVar(t:TypeId)(a:Addr):Simple P (loadVar t a):=by
 unfold loadVar;refine .bind (simple_isAgg t) λ_=> ?_
 split
 ·exact .bind (simple_sizeOf t) λ_=>.bind (simple_loadCellsFrom _ _ _ _) λ_=>.pure _
 ·exact simple_load a
theorem simple_storeVar(t:TypeId)(a:Addr)(v:Value):Simple P (storeVar t a v):=by
 unfold storeVar;refine .bind (simple_sizeOf t) λ_=> ?_
 split
 ·exact .bind (.halt _) λ_=>simple_storeCells _ _ _
 ·exact simple_storeCells _ _ _
theorem simple_newRow(t:TypeId)(c:Array Value):Simple P (newRow t c):=.bind (.new _ _ rfl λ_=>.pure _) λ_=>.pure _
theorem simple_newVar(t:TypeId)(v:Value):Simple P (newVar t v):=simple_newRow _ _
theorem simple_elemOf(t:TypeId):Simple P (elemOf t):=by
 unfold elemOf;refine .bind (simple_underlying t) λ_=> ?_
 split<;>first|exact .pure _|exact .halt _
theorem simple_part(t:TypeId)(c:Array Value)(o:Nat):Simple P (part t c o):=by
 unfold part;refine .bind (simple_isAgg t) λ_=> ?_
 split
 ·exact .bind (simple_sizeOf t) λ_=>.pure _
 ·split<;>first|exact .pure _|exact .halt _
theorem simple_runtimePanic{α:Type}(e:RuntimeError):Simple P (runtimePanic e:Sem α):=by
 unfold runtimePanic;refine simple_program ?_;cases e
 case typeAssertion=>exact .bind (simple_elemOf _) λ_=>.bind (simple_newVar _ _) λ_=>.halt _
 case panicNil=>exact .bind (simple_elemOf _) λ_=>.bind (simple_newVar _ _) λ_=>.halt _
 all_goals exact .halt _
theorem simple_boundsPanic{α:Type}(k:IntKind)(x y:Int)(c:BoundsCode):Simple P (boundsPanic k x y c:Sem α):=by
 unfold boundsPanic;dsimp only;split
 ·exact .bind (.bind (simple_choose _) λ_=>.pure _) λ_=>simple_runtimePanic _
 ·exact .bind (.pure _) λ_=>simple_runtimePanic _
theorem simple_asIntOf(v:Value):Simple P (asIntOf v):=by unfold asIntOf;split<;>first|exact .pure _|exact .halt _
theorem simple_asInt(v:Value):Simple P (asInt v):=.bind (simple_asIntOf v) λ_=>.pure _
theorem simple_asBool(v:Value):Simple P (asBool v):=by unfold asBool;split<;>first|exact .pure _|exact .halt _
theorem simple_asAgg(v:Value):Simple P (asAgg v):=by unfold asAgg;split<;>first|exact .pure _|exact .halt _
theorem simple_asAddr(v:Value):Simple P (asAddr v):=by unfold asAddr;split<;>first|exact .pure _|exact simple_runtimePanic _|exact .halt _
theorem simple_sureAddr(v:Value):Simple P (Instr.sureAddr v):=by unfold Instr.sureAddr;split<;>first|exact .pure _|exact .halt _
theorem simple_askRoom(n:Nat):Simple P (askRoom n):=by
 unfold askRoom;split
 ·exact .noRoom _ (.pure _)
 ·exact .pure _
theorem simple_loadAt(t:TypeId)(v:Value):Simple P (Instr.loadAt t v):=.bind (simple_sureAddr v) λ_=>simple_loadVar _ _
theorem simple_storeAt(t:TypeId)(v x:Value):Simple P (Instr.storeAt t v x):=.bind (simple_sureAddr v) λ_=>simple_storeVar _ _ _
theorem simple_makeMap(t:TypeId):Simple P (Instr.makeMap t none):=.new _ _ rfl λ_=>.pure _
theorem simple_alloc(t:TypeId):Simple P (Instr.alloc t true (.tuple #[])):=.bind (simple_zeroValue t) λ_=>.bind (simple_newVar _ _) λ_=>.pure _
theorem simple_box(t:TypeId)(v:Value):Simple P (Instr.box t v):=.bind (simple_newVar _ _) λ_=>.pure _
theorem simple_mapM{α β:Type}(f:α->Sem β)(hf:∀x,Simple P (f x)):∀(l:List α),Simple P (l.mapM f)
 |[]=>.pure _
 |x::r=>by rw[List.mapM_cons];exact .bind (hf x) λ_=>.bind (simple_mapM f hf r) λ_=>.pure _
theorem simple_mapMA{α β:Type}(f:α->Sem β)(hf:∀x,Simple P (f x))(l:Array α):Simple P (l.mapM f):=by rw[Array.mapM_eq_mapM_toList];exact .bind (simple_mapM f hf _) λ_=>.pure _
theorem simple_build(t:TypeId)(ps:Array (Nat×Value)):Simple P (Instr.build t ps):=by
 unfold Instr.build;refine .bind (simple_zeroValue t) λ_=>.bind (simple_underlying t) λ_=> ?_
 split
 ·refine .bind (simple_mapMA _ (λ_=>.bind (simple_sizeOf _) λ_=>.pure _) _) λ_=> ?_
  split<;>first|exact .pure _|exact .halt _
 ·refine .bind (simple_sizeOf _) λ_=> ?_
  split<;>first|exact .pure _|exact .halt _
 ·exact .halt _
theorem simple_buildSlice(t:TypeId)(n:Nat)(ps:Array (Nat×Value)):Simple P (Instr.buildSlice t n ps):=by
 unfold Instr.buildSlice;dsimp only
 repeat' (first
  |exact .pure _
  |exact .halt _
  |exact simple_underlying _
  |exact simple_typeInfo _
  |exact simple_sizeOf _
  |exact simple_zeroValue _
  |exact simple_newRow _ _
  |exact simple_sureAddr _
  |exact simple_asInt _
  |exact simple_asIntOf _
  |exact simple_askRoom _
  |exact simple_choose _
  |exact simple_runtimePanic _
  |exact simple_boundsPanic _ _ _ _
  |exact simple_part _ _ _
  |refine .bind ?_ λ_=> ?_
  |split
  |dsimp only)
theorem simple_under{α:Type}{t:TypeId}{d:TypeDesc}{f:TypeDesc->Sem α}(hu:P.underlying t=some d)(h:Simple P (f d)):Simple P (underlying t >>= f):=
 .program _ (by
  show Simple P ((match P.underlying t with | some d => Pure.pure d | none => stuck "no such type" : Sem TypeDesc) >>= f)
  rw[hu];exact h)
theorem simple_fieldAt{t:TypeId}{fs:Array Field}{f:Nat}{fd:Field}{i:TypeInfo}(v:Value)(hu:P.underlying t=some (.struct fs))(hf:fs[f]?=some fd)(hi:P.info? fd.type=some i)(h0:i.size≠0):Simple P (Instr.fieldAt t v f):=by
 unfold Instr.fieldAt;refine simple_under hu ?_;dsimp only;rw[hf];refine .bind (simple_sureAddr v) λa=>.bind ?_ λ_=>.pure _
 unfold fieldPlace sizeOf;refine .program _ ?_
 show Simple P (((match P.info? fd.type with | some i => Pure.pure i | none => stuck "no such type" : Sem TypeInfo) >>= λ i => Pure.pure i.size) >>= _)
 rw[hi]
 show Simple P (if i.size=0 then _ else _)
 rw[if_neg h0];exact .pure _
theorem simple_indexAt(t:TypeId)(v x:Value):Simple P (Instr.indexAt t v x):=by
 unfold Instr.indexAt;dsimp only
 repeat' (first
  |exact .pure _
  |exact .halt _
  |exact simple_underlying _
  |exact simple_typeInfo _
  |exact simple_sizeOf _
  |exact simple_zeroValue _
  |exact simple_newRow _ _
  |exact simple_sureAddr _
  |exact simple_asInt _
  |exact simple_asIntOf _
  |exact simple_askRoom _
  |exact simple_choose _
  |exact simple_runtimePanic _
  |exact simple_boundsPanic _ _ _ _
  |exact simple_part _ _ _
  |refine .bind ?_ λ_=> ?_
  |split
  |dsimp only)
theorem simple_field(t:TypeId)(v:Value)(f:Nat):Simple P (Instr.field t v f):=by
 unfold Instr.field;refine .bind (simple_underlying t) λ_=> ?_
 split
 ·split
  ·exact .bind (simple_asAgg v) λ_=>simple_part _ _ _
  ·exact .halt _
 ·exact .halt _
theorem simple_index(t:TypeId)(v x:Value):Simple P (Instr.index t v x):=by
 unfold Instr.index;refine .bind (simple_asIntOf x) λ_=> ?_
 refine .bind (simple_underlying t) λ_=> ?_
 split
 ·split
  ·exact .bind (simple_sizeOf _) λ_=>simple_part _ _ _
  ·exact simple_boundsPanic _ _ _ _
 ·split
  ·exact .pure _
  ·exact simple_boundsPanic _ _ _ _
 ·exact .halt _
theorem simple_extract(v:Value)(k:Nat):Simple P (Instr.extract v k):=by
 unfold Instr.extract;split
 ·split<;>first|exact .pure _|exact .halt _
 ·exact .halt _
theorem simple_makeSlice(t:TypeId)(l c:Value):Simple P (Instr.makeSlice t l c):=by
 unfold Instr.makeSlice;dsimp only
 repeat' (first
  |exact .pure _
  |exact .halt _
  |exact simple_underlying _
  |exact simple_typeInfo _
  |exact simple_sizeOf _
  |exact simple_zeroValue _
  |exact simple_newRow _ _
  |exact simple_sureAddr _
  |exact simple_asInt _
  |exact simple_asIntOf _
  |exact simple_askRoom _
  |exact simple_choose _
  |exact simple_runtimePanic _
  |exact simple_boundsPanic _ _ _ _
  |exact simple_part _ _ _
  |refine .bind ?_ λ_=> ?_
  |split
  |dsimp only)
end
end
section
set_option linter.unusedVariables false
set_option linter.unusedSimpArgs false
variable {mn:Md}
section
variable {P:Program}
theorem simple_forIn{α β:Type}(f:α->β->Sem (ForInStep β)):∀(l:List α),(∀x∈l,∀s,Simple P (f x s))->∀s,Simple P (forIn l s f)
 |[],_,s=>by rw[List.forIn_nil];exact .pure _
 |x::r,h,s=>by
  rw[List.forIn_cons];refine .bind (h x (List.mem_cons_self ..) s) λy=> ?_
  cases y with|done b=>exact .pure _|yield b=>exact simple_forIn f r (λz hz=>h z (List.mem_cons_of_mem _ hz)) b
theorem simple_partK{α:Type}{T e:TypeId}{C:Array Value}{o:Nat}{f:Value->Sem α}(hC:WT P T C)(hs:Sub P T o e)(h0:0<(lay P e).length)(hz:szEq P e=true)(h1:has1 P e=true)(hl:isRow P e=false->(lay P e).length=1)
  (h:Simple P (f (valP P e (C.extract o (o+(zc P e).size))))):Simple P (part e C o >>= f):=by
 unfold part isAgg;unfold valP at h;cases hR:isRow P e with
 | true=>
  obtain⟨d,hu,hd⟩:=isRow_true hR;have hzi:=szEq_info hz;rw[hR]at h;cases hq:P.info? e with
  |none=>simp[hq]at hzi
  | some i=>
   have hsz:i.size=(zc P e).size:=by simpa [hq] using hzi
   refine .program _ ?_
   show Simple P (((((match P.underlying e with | some d => Pure.pure d | none => stuck "no such type" : Sem TypeDesc) >>= _) : Sem Bool) >>= _) >>= f)
   rw[hu];cases d with
   |struct fs=>
    refine .program _ ?_
    show Simple P ((((match P.info? e with | some i => Pure.pure i | none => stuck "no such type" : Sem TypeInfo) >>= λ i => Pure.pure i.size) >>= λ n => Pure.pure (Value.agg (C.extract o (o + n)))) >>= f)
    rw[hq]
    show Simple P (f (.agg (C.extract o (o+i.size))))
    rw[hsz];exact h
   |array n e'=>
    refine .program _ ?_
    show Simple P ((((match P.info? e with | some i => Pure.pure i | none => stuck "no such type" : Sem TypeInfo) >>= λ i => Pure.pure i.size) >>= λ n => Pure.pure (Value.agg (C.extract o (o + n)))) >>= f)
    rw[hq]
    show Simple P (f (.agg (C.extract o (o+i.size))))
    rw[hsz];exact h
   |_=>cases hd
 | false=>
  obtain⟨d,hu,hd⟩:=isRow_false hR h1;have hlen:=hl hR;have hle:=hs.le h0;rw[<- hC.layLen]at hle;rw[hlen]at hle;have hc:C[o]?=some (C[o]'(by omega)):=Array.getElem?_eq_getElem (by omega);have hzl:=lay_len (P:=P) e;have hv:(C.extract o (o+(zc P e).size)).getD 0 undef=C[o]'(by omega):=by rw[Array.getD_eq_getD_getElem?,Array.getElem?_extract,if_pos (by omega),Nat.add_zero,hc];rfl
  rw[hR,cond_false,hv]at h;refine .program _ ?_
  show Simple P (((((match P.underlying e with | some d => Pure.pure d | none => stuck "no such type" : Sem TypeDesc) >>= _) : Sem Bool) >>= _) >>= f)
  rw[hu];cases d with
  |struct fs=>cases hd
  |array n e'=>cases hd
  |_=>
   show Simple P ((match C[o]? with | some v => Pure.pure v | none => stuck "part: no such cell" : Sem Value) >>= f)
   rw[hc];exact h
theorem simple_sizeOfK{α:Type}{e:TypeId}{m:Nat}{f:Nat->Sem α}(hs:(P.info? e).map (·.size)=some m)(h:Simple P (f m)):Simple P (sizeOf e >>= f):=by
 cases hq:P.info? e with
 |none=>simp[hq]at hs
 |some i=>
  have:i.size=m:=by simpa [hq] using hs
  refine .program _ ?_
  show Simple P (((match P.info? e with | some i => Pure.pure i | none => stuck "no such type" : Sem TypeInfo) >>= λ i => Pure.pure i.size) >>= f)
  rw[hq]
  show Simple P (f i.size)
  rw[this];exact h
theorem simple_equalIn:∀(d:Nat) (T:TypeId),eqT P d T=true->∀(k:Nat) (C D:Array Value),WT P T C->WT P T D->Simple P (Op.equalIn (d+k) T (valP P T C) (valP P T D))
 |0,T,h,k,C,D,hC,hD=>by cases h
 | d+1,T,h,k,C,D,hC,hD=>by
  have hk:d+1+k=(d+k)+1:=by omega
  rw[hk];simp only[eqT]at h;split at h
  ·rename_i hu;have hl:=leq_eq h;have hR:isRow P T=false:=by unfold isRow;rw[hu]
   have c1:=hC.bool (o:=0) (by rw[hl];rfl);have c2:=hD.bool (o:=0) (by rw[hl];rfl);have v:∀{A:Array Value},A[0]?=some (.bool (bol A 0))->valP P T A=.bool (bol A 0):=λ{A} hA=>by
    unfold valP;rw[hR,cond_false,Array.getD_eq_getD_getElem?,hA];rfl
   rw[v c1,v c2];unfold Op.equalIn;exact simple_under hu (.pure _)
  ·rename_i kd hu;have hl:=leq_eq h;have hR:isRow P T=false:=by unfold isRow;rw[hu]
   have c1:=(hC.int (o:=0) (k:=kd) (by rw[hl];rfl)).1;have c2:=(hD.int (o:=0) (k:=kd) (by rw[hl];rfl)).1;have v:∀{A:Array Value},A[0]?=some (.int kd (num A 0))->valP P T A=.int kd (num A 0):=λ{A} hA=>by
    unfold valP;rw[hR,cond_false,Array.getD_eq_getD_getElem?,hA];rfl
   rw[v c1,v c2];unfold Op.equalIn;refine simple_under hu ?_;dsimp only;split<;>first|exact .pure _|exact .halt _
  ·rename_i n e hu;split at h
   ·rename_i n' e' m ha;obtain⟨hu',hm,hsub,h0,hz⟩:=arrOf_sound ha;rw[hu]at hu';cases hu';simp only[Bool.and_eq_true]at h;have hR:isRow P T=true:=by unfold isRow;rw[hu]
    have hzl:=lay_len (P:=P) e;have hv:∀A,valP P T A=.agg A:=λA=>by unfold valP;rw[hR];rfl
    rw[hv,hv];have hwt:∀{A:Array Value},WT P T A->∀i,i<n->WT P e (A.extract (i*m) (i*m+(zc P e).size)):=λ{A} hA i hi=>hA.sub (hsub i hi) h0
    have hsz:(P.info? e).map (·.size)=some m:=by rw[szEq_info hz,hm,hzl]
    unfold Op.equalIn;refine simple_under hu ?_;dsimp only;refine simple_sizeOfK hsz ?_;refine .bind ?_ λr=> ?_
    ·simp only[Std.Legacy.Range.forIn_eq_forIn_range',Std.Legacy.Range.size,Nat.sub_zero,Nat.add_sub_cancel,Nat.div_one];refine simple_forIn _ _ (λi hi s=> ?_) _;have hi':i<n:=by simpa using List.mem_range'_1.1 hi
     refine simple_partK hC (hsub i hi') h0 hz (eqT_has h.2) (eqT_lay1 h.2) ?_;refine simple_partK hD (hsub i hi') h0 hz (eqT_has h.2) (eqT_lay1 h.2) ?_;refine .bind (simple_equalIn d e h.2 k _ _ (hwt hC i hi') (hwt hD i hi')) λb=> ?_
     split<;>exact .pure _
    ·split<;>exact .pure _
   ·cases h
  ·rename_i fs hu;simp only[Bool.and_eq_true,Bool.not_eq_true',List.all_eq_true]at h;obtain⟨hst,hcov,hnm,hall⟩:=h;have hR:isRow P T=true:=by unfold isRow;rw[hu]
   have hv:∀A,valP P T A=.agg A:=λA=>by unfold valP;rw[hR];rfl
   have hfld:∀f∈fs.toList,Sub P T f.offset f.type/\0<(lay P f.type).length/\szEq P f.type=true/\eqT P d f.type=true:=λf hf=>by
    obtain⟨i,hi⟩:=List.mem_iff_getElem?.1 hf;have hilt:i<fs.size:=by have:=(List.getElem?_eq_some_iff.1 hi).1;simpa using this
    have hq:=hall i (List.mem_range.2 hilt);split at hq
    ·rename_i q e hfo;obtain⟨fs',fd,hu',hfd,rfl,rfl,hs,h0,hze⟩:=fieldOf_sound hfo;rw[hu]at hu';cases hu';have:fd=f:=by
      rw[<- Array.getElem?_toList]at hfd;rw[hfd]at hi;exact Option.some.inj hi
     subst this;exact⟨hs,h0,hze,hq⟩
    ·cases hq
   rw[hv,hv];unfold Op.equalIn;refine simple_under hu ?_;dsimp only;refine simple_program ?_;rw[hst];simp only[Bool.false_eq_true,if_false];refine .bind ?_ λr=> ?_
   ·rw[<- Array.forIn_toList];refine simple_forIn _ _ (λf hf s=> ?_) _;obtain⟨hs,h0,hz,hq⟩:=hfld f hf;split
    ·refine simple_partK hC hs h0 hz (eqT_has hq) (eqT_lay1 hq) ?_;refine simple_partK hD hs h0 hz (eqT_has hq) (eqT_lay1 hq) ?_;refine .bind (simple_equalIn d f.type hq k _ _ (hC.sub hs h0) (hD.sub hs h0)) λb=> ?_
     split<;>exact .pure _
    ·exact .pure _
   ·split<;>exact .pure _
  ·cases h
theorem simple_eqGuard_int(op:BinOp)(T:TypeId)(x y:Operand)(k k':IntKind)(p q:Int):Simple P (eqGuard op T x y (.int k p) (.int k' q)):=by unfold eqGuard;cases op<;>exact .pure _
theorem simple_eqGuard_str(op:BinOp)(T:TypeId)(x y:Operand)(p q:ByteArray):Simple P (eqGuard op T x y (.string p) (.string q)):=by unfold eqGuard;cases op<;>exact .pure _
theorem simple_eqGuard_bool(op:BinOp)(T:TypeId)(x y:Operand)(p q:Bool):Simple P (eqGuard op T x y (.bool p) (.bool q)):=by unfold eqGuard;cases op<;>exact .pure _
theorem simple_intArith(op:BinOp)(k:IntKind)(x y:Int):Simple P (Op.intArith op k x y):=by unfold Op.intArith;split<;>first|exact .pure _|exact .halt _
theorem simple_intBits(op:BinOp)(k:IntKind)(x y:Int):Simple P (Op.intBits op k x y):=by unfold Op.intBits;dsimp only;split<;>first|exact .pure _|exact .halt _
theorem simple_intCmp(op:BinOp)(x y:Int):Simple P (Op.intCmp op x y):=by unfold Op.intCmp;split<;>first|exact .pure _|exact .halt _
theorem simple_intDiv(op:BinOp)(k:IntKind)(x y:Int):Simple P (Op.intDiv op k x y):=by
 unfold Op.intDiv;split
 ·exact simple_runtimePanic _
 ·split<;>first|exact .pure _|exact .halt _
theorem simple_shift(op:BinOp)(k:IntKind)(x:Int)(yk:IntKind)(y:Int):Simple P (Op.shift op k x yk y):=by
 unfold Op.shift;split
 ·exact simple_runtimePanic _
 ·dsimp only;split<;>first|exact .pure _|exact .halt _
theorem simple_stringOp(op:BinOp)(x y:ByteArray):Simple P (Op.stringOp op x y):=by
 unfold Op.stringOp;dsimp only;split
 ·split<;>first|exact .pure _|exact .halt _
 all_goals first|exact .pure _|exact .halt _
theorem simple_unary(op:UnOp)(x:Value):Simple P (Op.unary op x):=by unfold Op.unary;split<;>first|exact simple_intArith _ _ _ _|exact simple_intBits _ _ _ _|exact .pure _|exact .halt _
theorem simple_binOp_int(op:BinOp)(T:TypeId)(k k':IntKind)(p q:Int):Simple P (binOp op T (.int k p) (.int k' q)):=by cases op<;>unfold binOp<;>dsimp only<;>first|exact simple_shift _ _ _ _ _ | (split<;>first|exact .halt _|exact simple_intArith _ _ _ _|exact simple_intDiv _ _ _ _|exact simple_intBits _ _ _ _|exact simple_intCmp _ _ _)
theorem simple_binOp_str(op:BinOp)(T:TypeId)(p q:ByteArray):Simple P (binOp op T (.string p) (.string q)):=by cases op<;>unfold binOp<;>exact simple_stringOp _ _ _
theorem simple_equal_bool{T:TypeId}(hT:P.underlying T=some .bool)(p q:Bool):Simple P (Op.equal T (.bool p) (.bool q)):=by unfold Op.equal Op.maxDepth Op.equalIn;exact simple_under hT (.pure _)
theorem simple_convert{src dst:TypeId}{k k':IntKind}{n:Int}(hs:has1 P src=true)(hd:P.underlying dst=some (.int k)):Simple P (convert src dst (.int k' n)):=by obtain⟨d,hu⟩:=has1_some hs;unfold convert;refine simple_under hu (simple_under hd ?_);cases d<;>exact .pure _
theorem simple_bytesToString(v:Value):Simple P (Conv.bytesToString v):=by
 unfold Conv.bytesToString;split
 ·exact .pure _
 ·refine .bind (simple_loadCellsFrom _ _ _ _) λcs=>.bind ?_ λ_=>.pure _
  rw[<- Array.forIn_toList];refine simple_forIn _ _ (λc _ s=> ?_) _;split<;>first|exact .pure _|exact .halt _
 ·exact .halt _
theorem simple_convert_bytes{src dst e:TypeId}(hs:P.underlying src=some (.slice e))(he:P.underlying e=some (.int .u8))(hd:P.underlying dst=some .string){ad:Option Addr}{l c:Nat}:Simple P (convert src dst (.slice ad l c)):=by unfold convert;refine simple_under hs (simple_under hd ?_);dsimp only;exact simple_under he (simple_bytesToString _)
theorem simple_sliceBound(x:Value)(y:Nat)(c:BoundsCode):Simple P (Instr.sliceBound x y c):=by
 unfold Instr.sliceBound;refine .bind (simple_asIntOf x) λq=> ?_
 dsimp only;split
 ·exact .pure _
 ·exact simple_boundsPanic _ _ _ _
theorem simple_sliceBounds(b:Bool)(l c:Nat)(lo hi mx:Option Value):Simple P (Instr.sliceBounds b l c lo hi mx):=by
 unfold Instr.sliceBounds;dsimp only
 repeat' (first
  |exact .pure _
  |exact .halt _
  |exact simple_sliceBound _ _ _
  |refine .bind ?_ λ_=> ?_
  |split)
theorem simple_sliceAt{t e:TypeId}{n:Nat}(hu:P.underlying t=some (.array n e))(v:Value)(lo hi mx:Option Value):Simple P (Instr.sliceAt t v lo hi mx):=by unfold Instr.sliceAt;refine simple_under hu ?_;dsimp only;exact .bind (simple_sureAddr v) λa=>.bind (simple_sliceBounds _ _ _ _ _ _) λq=>.bind (simple_sizeOf _) λ_=>.pure _
theorem simple_min2(k k':IntKind)(p q:Int):Simple P (Builtin.min2 (.int k p) (.int k' q)):=.pure _
theorem simple_max2(k k':IntKind)(p q:Int):Simple P (Builtin.max2 (.int k p) (.int k' q)):=.pure _
end
end
end Go.Proofs.Ytnhilgpdgicgfaa.Vc
