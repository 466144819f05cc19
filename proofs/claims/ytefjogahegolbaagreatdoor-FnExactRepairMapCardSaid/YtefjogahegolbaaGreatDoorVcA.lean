/- A goroutine in company: what it sees of the world; operations that are the same on what it sees and on the world. No program is named. -/
import Derived.Conc.Own
import Derived.Scope
import Derived.ControlIn
import Derived.Conc.Script
import Derived.Conc.Listed
import Derived.OrdersIn
import Derived.Test.YtefjogahegolbaaGreatDoorVeE
set_option linter.unusedVariables false
set_option linter.unusedSimpArgs false
open _root_.Array renaming append_empty->jD,getElem?_eq_getElem->jE,getElem?_mapIdx->jF,getD_eq_getD_getElem?->jG
open _root_.Nat renaming lt_of_lt_of_le->jB
open _root_.Bool renaming false_eq_true->jA
open _root_.Option renaming map_some->jC
open _root_.Go renaming World->QB,Value->QC,Program->QD,TypeId->QE,FuncId->QF,Goroutine->QG,Operand->QH,execOp->QI,Frame->QL,IntKind->QM,Oper->QN,Code->QOq,Sem->QQ,Addr->QR,Event->QU
namespace Go.Proofs.YtefjogahegolbaaGreatDoor.Vc
open Go.RowKit Go.Conc Go.Proofs.YtefjogahegolbaaGreatDoor.Ve
section
structure Gh where
 M:Nat->Prop
 S:Nat->Prop
 F:Nat->Option QC
def bj:Obj:=.cells #[] 0 (0,0)
def bm(c:QA)(fr:Nat×Nat):Bool:=Nat.beq fr.1 0&&Nat.beq fr.2 (c.size+1)
def frzR(c:QA)(fr:Nat×Nat):Nat×Nat:=(0,bif (Nat.beq fr.1 0&&Nat.beq fr.2 0) then c.size+1 else c.size)
def cU:Obj->Obj
 |.cells c e fr=>.cells c e (frzR c fr)
 |_=>bj
def own:Obj->Obj
 |.view _ _=>bj
 |.cells c e fr=>bif bm c fr then bj else .cells c e fr
 |o=>o
theorem pq(o:Obj):(∃c e fr,o=.cells c e fr/\(own o=bj\/own o=o))\/(∃a u,o=.view a u/\own o=bj)\/(o.isCells=false/\own o=o):=by
 cases o with
 |cells c e fr=>
  refine .inl ⟨c,e,fr,rfl,?_⟩;simp only[own];cases bm c fr
  ·exact .inr rfl
  ·exact .inl rfl
 |view a u=>exact .inr (.inl ⟨a,u,rfl,rfl⟩)
 |_=>exact .inr (.inr ⟨rfl,rfl⟩)
theorem IZ{o:Obj}{c:QA}{e:QE}{fr:Nat×Nat}(h:own o=.cells c e fr):bm c fr=false:=by
 cases o with
 |cells J L fr'=>
  simp only[own]at h;cases A:bm J fr' with
  |false=>rw[A]at h;cases h;exact A
  |true=>rw[A]at h;cases h;rfl
 |_=>first | (cases h;rfl)|cases h
theorem dU{o:Obj}{c:QA}{e:QE}(h:cU o=.cells c e (0,c.size+1)):o=.cells c e (0,0):=by
 cases o with
 | cells c' e' fr'=>
  simp only[cU,frzR]at h;cases hb:Nat.beq fr'.1 0&&Nat.beq fr'.2 0 with
  |true=>
   rw[hb]at h;injection h with q1 q2 q3
   rw[Q7]at hb;have h1:=Nat.eq_of_beq_eq_true hb.1;have h2:=Nat.eq_of_beq_eq_true hb.2;obtain⟨x,y⟩:=fr';simp only at h1 h2;rw[q1,q2,h1,h2]
  |false=>
   rw[hb]at h;injection h with q1 q2 q3
   subst q1;injection q3 with _ q4
   simp at q4
 |_=>simp only[cU,bj]at h;injection h with q1 q2 q3;subst q1;injection q3 with _ q4;simp at q4
def cq(v:QC):Obj:=.chan 1 #[v] false 0 0 false
open Classical in
noncomputable def Gh.see(G:Gh)(i:Nat)(o:Obj):Obj:=
 if G.M i then own o else if G.S i then cU o else match G.F i with|some v=>cq v|none=>bj
noncomputable def view(G:Gh)(w:QB):QB:={ w with heap:=w.heap.mapIdx G.see }
structure Fit (G:Gh) (w:QB):Prop where
 m:∀k,G.M k->k<w.heap.size
 s:∀k,G.S k->k<w.heap.size/\¬G.M k
 f:∀k v,G.F k=some v->k<w.heap.size/\¬G.M k/\¬G.S k
structure Rely (G:Gh) (w w':QB):Prop where
 os:w'.os=w.os
 tape:w'.tape=w.tape
 output:w'.output=w.output
 size:w.heap.size<=w'.heap.size
 same:∀k,G.M k\/G.S k->w'.heap[k]?=w.heap[k]?
theorem Rely.refl(G:Gh)(w:QB):Rely G w w:=⟨rfl,rfl,rfl,Nat.le_refl _,λ_ _=>rfl⟩
theorem Rely.trans{G:Gh}{a b c:QB}(h:Rely G a b)(k:Rely G b c):Rely G a c:=
 ⟨k.os.trans h.os,k.tape.trans h.tape,k.output.trans h.output,Nat.le_trans h.size k.size,λi hi=>(k.same i hi).trans (h.same i hi)⟩
theorem Fit.rely{G:Gh}{w w':QB}(h:Fit G w)(k:Rely G w w'):Fit G w':=
 ⟨λi hi=>jB (h.m i hi) k.size,λi hi=>⟨jB (h.s i hi).1 k.size,(h.s i hi).2⟩,λi v hi=>⟨jB (h.f i v hi).1 k.size,(h.f i v hi).2⟩⟩
section
variable {G:Gh} {w:QB}
@[simp] theorem Yq3:(view G w).heap.size=w.heap.size:=by simp[view]
theorem cp(k:Nat):(view G w).heap[k]?=(w.heap[k]?).map (G.see k):=by simp[view]
theorem Rely.view{w':QB}(L:Fit G w)(h:Rely G w w'):Below (view G w).heap.size (view G w) (view G w'):=by
 refine⟨h.os,h.tape,h.output,by simpa using h.size,λk hk=> ?_⟩;rw[Yq3]at hk;have J:k<w'.heap.size:=jB hk h.size;rw[cp,cp]
 by_cases A:G.M k\/G.S k
 ·rw[h.same k A]
 ·rw[jE hk,jE J];simp only[not_or]at A;simp only[jC,Gh.see,if_neg A.1,if_neg A.2]
theorem yb{o:Obj}{c:QA}{e:QE}{fr:Nat×Nat}(h:own o=.cells c e fr)(A:c≠#[]):o=.cells c e fr:=by
 rcases pq o with ⟨J,L,fr',rfl,h' | h'⟩ | ⟨a,u,rfl,h'⟩ | ⟨-,h'⟩
 ·rw[h']at h;unfold bj at h;cases h;exact absurd rfl A
 ·rw[h']at h;exact h
 ·rw[h']at h;unfold bj at h;cases h;exact absurd rfl A
 ·rw[h']at h;exact h
theorem yc{a:QR}{x:QC}(h:(view G w).cell? a=some x):w.cell? a=some x/\(G.M a.block\/G.S a.block)/\((view G w).frozen? a=false->G.M a.block/\w.frozen? a=false):=by
 unfold World.cell? at h;rw[cp]at h;cases hb:w.heap[a.block]? with
 |none=>rw[hb]at h;cases h
 | some o=>
  rw[hb]at h;simp only[jC]at h
  by_cases hm:G.M a.block
  ·simp only[Gh.see,if_pos hm]at h;cases ho:own o with
   |cells c e fr=>
    rw[ho]at h;dsimp only at h;have hc:c≠#[]:=by rintro rfl;split at h<;>simp at h
    have:=yb ho hc;subst this;refine⟨by unfold World.cell?;rw[hb];exact h,.inl hm,λhfr=>⟨hm,?_⟩⟩;unfold World.frozen? at hfr|-
    rw[cp,hb]at hfr;simp only[jC,Gh.see,if_pos hm,ho]at hfr;rw[hb];exact hfr
   |_=>rw[ho]at h;cases h
  ·by_cases hs:G.S a.block
   ·simp only[Gh.see,if_neg hm,if_pos hs]at h;cases o with
    | cells c e fr=>
     simp only[cU]at h;refine⟨by unfold World.cell?;rw[hb];exact h,.inr hs,λhfr=> ?_⟩;exfalso;unfold World.frozen? at hfr;rw[cp,hb]at hfr;simp only[jC,Gh.see,if_neg hm,if_pos hs,cU]at hfr;split at h
     ·cases h
     ·have:a.off<c.size:=(Array.getElem?_eq_some_iff.1 h).1;unfold frzR at hfr;cases hq:(Nat.beq fr.1 0&&Nat.beq fr.2 0)<;>rw[hq]at hfr<;>simp[this,Nat.lt_succ_of_lt this]at hfr
    |_=>simp only[cU,bj]at h;split at h<;>simp at h
   ·simp only[Gh.see,if_neg hm,if_neg hs]at h;cases hF:G.F a.block with|none=>rw[hF]at h;simp only[bj]at h;split at h<;>simp at h|some v=>rw[hF]at h;simp only[cq]at h;cases h
theorem Ja{o:Obj}{a:QR}{u:QE}:own o ≠ .view a u:=by
 intro h;rcases pq o with ⟨A,J,fr',rfl,h' | h'⟩ | ⟨a,u,rfl,h'⟩ | ⟨L,h'⟩
 ·rw[h']at h;cases h
 ·rw[h']at h;cases h
 ·rw[h']at h;cases h
 ·rw[h']at h;subst h;cases h'
theorem yd{k:Nat}{a:QR}{u:QE}:(view G w).heap[k]?≠some (.view a u):=by
 rw[cp];intro h;obtain⟨o,-,ho⟩:=Option.map_eq_some_iff.1 h;unfold Gh.see at ho;split at ho
 ·exact Ja ho
 ·split at ho
  ·cases o<;>simp only[cU,bj]at ho<;>cases ho
  ·split at ho<;>cases ho
theorem Jb{P:QD}{a:QR}{b:Bool}:∃e,(view G w).farLoad P a b=.error e:=by
 unfold World.farLoad;split
 ·rename_i h;exact absurd h yd
 ·exact⟨_,rfl⟩
theorem Jc{P:QD}{a:QR}{v:QC}{b:Bool}:∃e,(view G w).farStore P a v b=.error e:=by
 unfold World.farStore;split
 ·rename_i h;exact absurd h yd
 ·exact⟨_,rfl⟩
end
def Gh.grow(G:Gh)(a b:Nat):Gh:={ G with M:=λk=>G.M k\/(a<=k/\k<b) }
theorem Gh.ext'{G G':Gh}(A:∀k,G.M k ↔ G'.M k)(h2:G.S=G'.S)(J:G.F=G'.F):G=G':=by cases G;cases G';simp only at A h2 J;subst h2;subst J;congr;exact funext λk=>propext (A k)
theorem Gh.grow_self(G:Gh)(a:Nat):G.grow a a=G:=Gh.ext' (λk=>by simp only[Gh.grow];constructor<;>intro h<;>(first|exact h.elim id (λx=>by omega)|exact .inl h)) rfl rfl
theorem Gh.grow_grow(G:Gh){a b c:Nat}(A:a<=b)(h2:b<=c):(G.grow a b).grow b c=G.grow a c:=Gh.ext' (λk=>by
 simp only[Gh.grow,or_assoc];constructor
 ·rintro(h|h|h)
  ·exact .inl h
  ·exact .inr ⟨h.1,by omega⟩
  ·exact .inr ⟨by omega,h.2⟩
 ·rintro(h|h)
  ·exact .inl h
  ·by_cases k<b
   ·exact .inr (.inl ⟨h.1,by omega⟩)
   ·exact .inr (.inr ⟨by omega,h.2⟩)) rfl rfl
theorem Fit.grow{G:Gh}{w w':QB}(h:Fit G w)(hs:w.heap.size<=w'.heap.size):Fit (G.grow w.heap.size w'.heap.size) w':=
  ⟨fun k hk=>hk.elim (fun x=>jB (h.m k x) hs) (fun x=>x.2),
   λk hk=>⟨jB (h.s k hk).1 hs,λx=>x.elim (h.s k hk).2 λy=>by have:=(h.s k hk).1;omega⟩,
   λk v hk=>⟨jB (h.f k v hk).1 hs,λx=>x.elim (h.f k v hk).2.1 λy=>by have:=(h.f k v hk).1;omega,(h.f k v hk).2.2⟩⟩
def NeuX(m:Mark):Prop:=m=.noRoom\/∃f,m=.extern f
theorem NeuX.touch{m:Mark}(h:NeuX m):(MemAct.mark m).touch?=none:=by rcases h with rfl | ⟨f,rfl⟩<;>rfl
def EvOk(G:Gh)(e:QU):Prop:=
 (∃a,e=⟨.cell a,true,false⟩/\G.M a.block)\/(∃a,e=⟨.cell a,false,false⟩/\(G.M a.block\/G.S a.block))\/(∃m,e=⟨.mark m,false,true⟩/\NeuX m)\/(∃r b,e=⟨.obj r,b,false⟩/\G.M r)
theorem EvOk.grow{G:Gh}{e:QU}(h:EvOk G e)(a b:Nat):EvOk (G.grow a b) e:=by
 rcases h with ⟨x,rfl,h⟩ | ⟨x,rfl,h⟩|h | ⟨r,b,rfl,h⟩
 ·exact .inl ⟨x,rfl,.inl h⟩
 ·exact .inr (.inl ⟨x,rfl,h.imp .inl id⟩)
 ·exact .inr (.inr (.inl h))
 ·exact .inr (.inr (.inr ⟨r,b,rfl,.inl h⟩))
structure Did (G:Gh) (w w':QB) (es:Array QU):Prop where
 os:w'.os=w.os
 tape:w'.tape=w.tape
 output:w'.output=w.output
 size:w.heap.size<=w'.heap.size
 same:∀k,k<w.heap.size->¬G.M k->w'.heap[k]?=w.heap[k]?
 evs:∀e∈es,EvOk (G.grow w.heap.size w'.heap.size) e
theorem Did.refl(G:Gh)(w:QB):Did G w w #[]:=⟨rfl,rfl,rfl,Nat.le_refl _,λ_ _ _=>rfl,λe A=>by simp at A⟩
inductive Simple (P:QD) {α:Type}:QQ α->Prop
 |pure (a:α):Simple P (.pure a)
 |load (a:QR) (k:QC->QQ α) (h:∀v,Simple P (k v)):Simple P (.load .plain a k)
 |store (a:QR) (v:QC) (k:QQ α) (h:Simple P k):Simple P (.store .plain a v k)
 |new (o:Obj) (k:Nat->QQ α) (ho:own o=o) (h:∀r,Simple P (k r)):Simple P (.new o k)
 |choose (q:Question) (k:Nat->QQ α) (h:∀n,Simple P (k n)):Simple P (.choose q k)
 |program (k:QD->QQ α) (h:Simple P (k P)):Simple P (.program k)
 |noRoom (k:QQ α) (h:Simple P k):Simple P (.mark .noRoom k)
 |halt (h:Halt):Simple P (.halt h)
 |never (s:QQ α) (h:∀(v:QB) (r:α) (v':QB),s.run P v ≠ .ok r v'):Simple P s
theorem Simple.bind{P:QD}{α β:Type}{s:QQ α}{f:α->QQ β}(h:Simple P s)(O:∀a,Simple P (f a)):Simple P (s >>= f):=by
 show Simple P (s.bind f)
 induction h with
 |pure a=>exact O a
 |load a k _ A=>exact .load a _ A
 |store a v k _ A=>exact .store a v _ A
 |new o k ho _ A=>exact .new o _ ho A
 |choose q k _ A=>exact .choose q _ A
 |program k _ A=>exact .program _ A
 |noRoom k _ A=>exact .noRoom _ A
 |halt h=>exact .halt h
 |never s h=>
  refine .never _ λv r v' e=> ?_
  have J:(s >>= f).run P v=.ok r v':=e;rw[Sem.run_bind]at J;cases L:s.run P v with|ok r₁ v₁=>exact h v r₁ v₁ L|halt hh v₁=>rw[L]at J;cases J
theorem Uc8{G:Gh}{k:Nat}{o:Obj}(h:G.M k):G.see k o=own o:=by unfold Gh.see;rw[if_pos h]
theorem de{G:Gh}{k:Nat}{o:Obj}(h:¬G.M k)(h':G.S k):G.see k o=cU o:=by unfold Gh.see;rw[if_neg h,if_pos h']
theorem dV{G:Gh}{k:Nat}{o:Obj}(h:¬G.M k)(h':¬G.S k):G.see k o=match G.F k with|some v=>cq v|none=>bj:=by unfold Gh.see;rw[if_neg h,if_neg h']
theorem see_grow{G:Gh}{a b k:Nat}{o:Obj}(hk:k<a):(G.grow a b).see k o=G.see k o:=by
 by_cases L:G.M k
 ·have A:(G.grow a b).M k:=.inl L;rw[Uc8 L,Uc8 A]
 ·have A:¬(G.grow a b).M k:=λh=>Or.elim h L λx=>by omega
  by_cases O:G.S k
  ·have J:(G.grow a b).S k:=O;rw[de L O,de A J]
  ·have J:¬(G.grow a b).S k:=O;rw[dV L O,dV A J];rfl
theorem Jd{G:Gh}{w:QB}{o:Obj}(L:Fit G w)(ho:own o=o):
  view (G.grow w.heap.size (w.heap.size+1)) { w with heap:=w.heap.push o }={ view G w with heap:=(view G w).heap.push o }:=by
 unfold view;simp only[World.mk.injEq,true_and,and_true];refine Array.ext_getElem? λi=> ?_
 rw[jF,Array.getElem?_push,Array.getElem?_push,Array.size_mapIdx]
 by_cases hi:i=w.heap.size
 ·rw[if_pos hi,if_pos hi];have J:(G.grow w.heap.size (w.heap.size+1)).M i:=.inr ⟨by omega,by omega⟩;exact congrArg some ((Uc8 J).trans ho)
 ·rw[if_neg hi,if_neg hi,jF]
  by_cases A:i<w.heap.size
  ·rw[jE A];exact congrArg some (see_grow A)
  ·rw[Array.getElem?_eq_none (by omega)];rfl
theorem Je{G:Gh}{w:QB}{a:QR}{v:QC}(hm:G.M a.block):view G (w.setCell a v)=(view G w).setCell a v:=by
 unfold view World.setCell;simp only[World.mk.injEq,true_and,and_true];refine Array.ext_getElem? λi=> ?_
 rw[jF,Array.getElem?_modify,Array.getElem?_modify,jF]
 by_cases hi:a.block=i
 ·subst hi;rw[if_pos rfl,if_pos rfl];cases w.heap[a.block]? with
  |none=>rfl
  | some o=>
   simp only[jC,Gh.see,if_pos hm,Q8];cases o with
   | cells c e fr=>
    have hz:(if a.spot.isSome=true then c else c.setIfInBounds a.off v).size=c.size:=by split<;>simp
    cases hm':bm c fr with
    |false=>
     have hm2:bm (if a.spot.isSome=true then c else c.setIfInBounds a.off v) fr=false:=by unfold bm at hm' |-;rw[hz];exact hm'
     simp[own,hm',hm2]
    |true=>
     have hm2:bm (if a.spot.isSome=true then c else c.setIfInBounds a.off v) fr=true:=by unfold bm at hm' |-;rw[hz];exact hm'
     simp[own,hm',hm2,bj]
   |_=>simp[own,bj]
 ·rw[if_neg hi,if_neg hi]
theorem vi{G:Gh}{a b c:QB}{es es':Array QU}(h:Did G a b es)(k:Did (G.grow a.heap.size b.heap.size) b c es'):Did G a c (es++es'):=
  ⟨k.os.trans h.os,k.tape.trans h.tape,k.output.trans h.output,Nat.le_trans h.size k.size,
   λi hi hm=>(k.same i (jB hi h.size) λx=>x.elim hm λy=>by omega).trans (h.same i hi hm),
   λe he=>by
    rw[<- Gh.grow_grow G h.size k.size];rcases Array.mem_append.1 he with x|x
    . exact(h.evs e x).grow _ _
    . exact k.evs e x⟩
theorem Simple.run{P:QD}{α:Type}{s:QQ α}(hs:Simple P s):∀{G:Gh} {w v':QB} {r:α} (es:Array QU),Fit G w->s.run P (view G w)=.ok r v' ->
  ∃w' es',s.runT P w es=(.ok r w',es++es')/\v'=view (G.grow w.heap.size w'.heap.size) w'/\Did G w w' es':=by
 induction hs with
 |pure a=>intro G w v' r es hf h;simp only[Sem.run,Result.ok.injEq]at h;obtain⟨rfl,rfl⟩:=h;exact⟨w,#[],by simp[Sem.runT],by rw[Gh.grow_self],.refl _ _⟩
 | load a k _ ih=>
  intro G w v' r es hf h;simp only[Sem.run]at h;cases hc:(view G w).cell? a with
  |none=>rw[hc]at h;obtain⟨e,he⟩:=Jb (G:=G) (w:=w) (P:=P) (a:=a) (b:=Mode.plain == .atomic);rw[he]at h;cases h
  | some x=>
   rw[hc]at h;obtain⟨h1,h2,-⟩:=yc hc;obtain⟨w',es',h3,h4,h5⟩:=ih x (es.push ⟨.cell a,false,false⟩) hf h;refine⟨w',#[⟨.cell a,false,false⟩]++es',?_,h4,?_⟩
   ·simp only[Sem.runT,h1];rw[show (Mode.plain==Mode.atomic)=false from rfl,h3];simp
   ·refine⟨h5.os,h5.tape,h5.output,h5.size,h5.same,λe he=> ?_⟩;rcases Array.mem_append.1 he with x' | x'
    ·simp at x';subst x';exact .inr (.inl ⟨a,rfl,h2.imp .inl id⟩)
    ·exact h5.evs e x'
 | store a v k _ ih=>
  intro G w v' r es hf h
  have key : ∀ x, (view G w).cell? a = some x -> ((if (view G w).frozen? a then (.halt (.unsupported (.unsafePointer "a write to bytes that a string shares")) (view G w)) else k.run P ((view G w).setCell a v)) = .ok r v') ->
    (w.cell? a=some x/\w.frozen? a=false/\∃w' es',k.runT P (w.setCell a v) (es.push ⟨.cell a,true,false⟩)=(.ok r w',es++es')/\v'=view (G.grow w.heap.size w'.heap.size) w'/\Did G w w' es'):=by
   intro x hc h;obtain⟨h1,-,h3⟩:=yc hc;cases hfr:(view G w).frozen? a with
   |true=>rw[hfr]at h;cases h
   | false=>
    rw[hfr]at h;simp only[jA,if_false]at h;obtain⟨hm,hfw⟩:=h3 hfr;rw[<- Je hm]at h;have hsz:(w.setCell a v).heap.size=w.heap.size:=by simp[World.setCell]
    have hf':Fit G (w.setCell a v):=⟨λk hk=>by rw[hsz];exact hf.m k hk,λk hk=>by rw[hsz];exact hf.s k hk,λk v hk=>by rw[hsz];exact hf.f k v hk⟩;obtain⟨w',es',h4,h5,h6⟩:=ih (es.push ⟨.cell a,true,false⟩) hf' h;rw[hsz]at h5;refine⟨h1,hfw,w',#[⟨.cell a,true,false⟩]++es',by rw[h4];simp,h5,h6.os,h6.tape,h6.output,by rw[<- hsz];exact h6.size,λi hi hni=> ?_,λe he=> ?_⟩
    ·rw[h6.same i (by rw[hsz];exact hi) hni];simp only[World.setCell,Array.getElem?_modify];rw[if_neg λe=>hni (by rw[<- e];exact hm)]
    ·rcases Array.mem_append.1 he with x' | x'
     ·simp at x';subst x';exact .inl ⟨a,rfl,.inl hm⟩
     ·have:=h6.evs e x';rw[hsz]at this;exact this
  have main:(∀c,v ≠ .agg c)->(∀c,v ≠ .tuple c)->∃w' es',(Sem.store .plain a v k).runT P w es=(.ok r w',es++es')/\v'=view (G.grow w.heap.size w'.heap.size) w'/\Did G w w' es':=by
   intro n1 n2;cases hc:(view G w).cell? a with
   |none=>exfalso;obtain⟨e,he⟩:=Jc (G:=G) (w:=w) (P:=P) (a:=a) (v:=v) (b:=Mode.plain == .atomic);cases v<;>first|exact n1 _ rfl|exact n2 _ rfl | (simp only[Sem.run,hc,he]at h;cases h)
   |some x=>obtain⟨h1,h2,w',es',h3,h4,h5⟩:=key x hc (by cases v<;>first|exact absurd rfl (n1 _)|exact absurd rfl (n2 _) | (simp only[Sem.run,hc]at h;exact h));refine⟨w',es',?_,h4,h5⟩;cases v<;>first|exact absurd rfl (n1 _)|exact absurd rfl (n2 _) | (simp only[Sem.runT,h1,h2,jA,if_false];exact h3)
  refine main (λc e=> ?_) (λc e=> ?_)
  ·subst e;simp only[Sem.run]at h;cases h
  ·subst e;simp only[Sem.run]at h;cases h
 | new o k ho _ ih=>
  intro G w v' r es hf h;simp only[Sem.run,Yq3]at h;rw[<- Jd hf ho]at h;have hsz:({ w with heap:=w.heap.push o }:QB).heap.size=w.heap.size+1:=by simp
  have hf':Fit (G.grow w.heap.size (w.heap.size+1)) { w with heap:=w.heap.push o }:=by have:=hf.grow (w':={ w with heap:=w.heap.push o }) (by simp);rw[hsz]at this;exact this
  obtain⟨w',es',h3,h4,h5⟩:=ih _ es hf' h;have hle:w.heap.size+1<=w'.heap.size:=by rw[<- hsz];exact h5.size
  refine⟨w',es',by simp only[Sem.runT];exact h3,?_,?_⟩
  ·rw[h4,hsz,Gh.grow_grow G (by omega) hle]
  ·have:=vi (G:=G) (a:=w) (b:={ w with heap:=w.heap.push o }) (es:=#[]) (c:=w') (es':=es') ⟨rfl,rfl,rfl,by simp,λi hi _=>by simp[Array.getElem?_push];omega,λe he=>by simp at he⟩ (by rw[hsz];exact h5)
   simpa using this
 | choose q k _ ih=>
  intro G w v' r es hf h;simp only[Sem.run]at h
  by_cases hq:q.forced
  ·simp only[hq,if_true]at h;obtain⟨w',es',h3,h4,h5⟩:=ih 0 es hf h;exact⟨w',es',by simp only[Sem.runT,hq,if_true];exact h3,h4,h5⟩
  ·simp only[hq,jA,if_false]at h;obtain⟨w',es',h3,h4,h5⟩:=ih (q.cut (w.tape w.drawn q)) (w:={ w with drawn:=w.drawn+1 }) es ⟨hf.m,hf.s,hf.f⟩ h;exact⟨w',es',by simp only[Sem.runT,hq,jA,if_false];exact h3,h4,h5.os,h5.tape,h5.output,h5.size,h5.same,h5.evs⟩
 |program k _ ih=>intro G w v' r es hf h;simp only[Sem.run]at h;obtain⟨w',es',h3,h4,h5⟩:=ih es hf h;exact⟨w',es',by simp only[Sem.runT];exact h3,h4,h5⟩
 |noRoom k _ ih=>
  intro G w v' r es hf h;simp only[Sem.run]at h;obtain⟨w',es',h3,h4,h5⟩:=ih (es.push ⟨.mark .noRoom,false,true⟩) hf h;refine⟨w',#[⟨.mark .noRoom,false,true⟩]++es',by simp only[Sem.runT];rw[h3];simp,h4,h5.os,h5.tape,h5.output,h5.size,h5.same,λe he=> ?_⟩;rcases Array.mem_append.1 he with x' | x'
  ·simp at x';subst x';exact .inr (.inr (.inl ⟨_,rfl,.inl rfl⟩))
  ·exact h5.evs e x'
 |halt h'=>intro G w v' r es hf h;simp only[Sem.run]at h;cases h
 |never s hn=>intro G w v' r es hf h;exact absurd h (hn _ _ _)
end
section
structure Md where
 main:Bool
 F:Nat->Option QC
structure FitM (mn:Md) (G:Gh) (w:QB):Prop extends Fit G w where
 eqF:G.F=mn.F
instance {mn:Md} {G:Gh} {w:QB}:CoeOut (FitM mn G w) (Fit G w):=⟨FitM.toFit⟩
variable {mn:Md}
theorem FitM.rely{G:Gh}{w w':QB}(h:FitM mn G w)(k:Rely G w w'):FitM mn G w':=⟨h.toFit.rely k,h.eqF⟩
theorem FitM.drew{G:Gh}{w:QB}(h:FitM mn G w)(d:Nat):FitM mn G { w with drawn:=d }:=⟨⟨h.m,h.s,h.f⟩,h.eqF⟩
abbrev gr(fr:QL)(cs:List QL):QG:={ frame:=fr,callers:=cs,status:=.running,dying:=none }
def Ge(v v':QB):Prop:=Below v.heap.size v v'
theorem Ge.refl(v:QB):Ge v v:=Below.refl _ v
theorem Ge.trans{a b c:QB}(h:Ge a b)(k:Ge b c):Ge a c:=Below.trans h (Below.mono k h.size)
structure SendStop (P:QD) (c:Nat) (v:QC) (G:Gh) (w:QB) (g:QG):Prop where
 run:g.status=.running
 go:∃g₂ z q,Conc.QuitsIn P q (Conc.served g₂ undef)/\∀w₁,Rely G w w₁->∃es,stepG P false g w₁=.comm g₂ #[Conc.scase c v z] true .send w₁ es/\∀e∈es,EvOk G e
inductive GoW (P:QD) (c:Nat) (v:QC):Gh->QB->QG->Prop
 | step (G:Gh) (w:QB) (g:QG):Fit G w→g.status = .running→(∀ w₁,Rely G w w₁→∃ g' w' es,stepG P false g w₁ = .go g' w' es∧Did G w₁ w' es) →
   (∀w₁,Rely G w w₁->∀g' w' es,stepG P false g w₁=.go g' w' es->GoW P c v (G.grow w₁.heap.size w'.heap.size) w' g')->GoW P c v G w g
 |stop (G:Gh) (w:QB) (g:QG):Fit G w->SendStop P c v G w g->GoW P c v G w g
def Gh.kid(G:Gh)(K:Nat->Prop):Gh:=⟨λ_=>False,λk=>G.S k\/K k,λ_=>none⟩
def Gh.lend(G:Gh)(c:Nat)(v:QC)(K:Nat->Prop):Gh:=⟨λk=>G.M k/\k≠c/\¬K k,λk=>G.S k\/K k,λk=>if k=c then some v else G.F k⟩
def Gh.took(G:Gh)(c:Nat):Gh:={ G with F:=λk=>if k=c then none else G.F k }
structure Closed (P:QD) (main:Bool) (Pr:Gh->QB->QG->Prop):Prop where
 step:∀(G:Gh) (w:QB) (g:QG),Fit G w->g.status=.running ->
  (∀w₁,Rely G w w₁->∃g' w' es,stepG P main g w₁=.go g' w' es/\Did G w₁ w' es/\Pr (G.grow w₁.heap.size w'.heap.size) w' g')->Pr G w g
 spawn:main=true->∀(G:Gh) (w:QB) (g:QG) (c:Nat) (v:QC) (K:Nat->Prop),Fit G w->g.status=.running->G.M c->¬K c->(∀k,K k->G.M k) ->
  (∀ w₁,Rely G w w₁→∃ g' child es,stepG P true g w₁ = .spawn g' child w₁ es∧(∀ e ∈ es,EvOk G e)∧(∃ s tm,w₁.heap[c]? = some (.chan 0 #[] false s s tm)) ∧
   g'.status=.running/\GoW P c v (G.kid K) w₁ child/\Pr (G.lend c v K) w₁ g')->Pr G w g
 recv:main=true->∀(G:Gh) (w:QB) (g g₂:QG) (c:Nat) (v z:QC),Fit G w->g.status=.running->G.F c=some v ->
  (∀w₁,Rely G w w₁->∃es,stepG P true g w₁=.comm g₂ #[Conc.rcase c z] true (.recv false) w₁ es/\∀e∈es,EvOk G e) ->
  (∀w',Rely G w w'->Pr (G.took c) w' (Conc.served g₂ v))->Pr G w g
def Arr(Pr:Gh->QB->QG->Prop)(b:QL)(k:List Item)(cs:List QL):Exit->Act->Gh->QB->Prop
 |.normal,a,G,w=>Pr G w (gr (b.atR a k) cs)
 |.exit id,a,G,w=>(∀k',exitTo id k=some k'->Pr G w (gr (b.atR a k') cs))/\(exitTo id k=none->∀k₁,exitTo id k₁=none->Pr G w (gr (b.atR a (.code (.exit id)::k₁)) cs))
 |.goto l,a,G,w=>(∀k',gotoIn l k=some k'->Pr G w (gr (b.atR a k') cs))/\(gotoIn l k=none->∀k₁,gotoIn l k₁=none->Pr G w (gr (b.atR a (.code (.goto l)::k₁)) cs))
 |.ret,a,G,w=>∀k₁,Pr G w (gr (b.atR a (.code .ret::k₁)) cs)
 |.panic _,_,_,_=>True
 |.outgrown,_,_,_=>True
def WpX(mn:Md)(ro:Option Nat)(P:QD)(c:QOq)(Q:Exit->Act->QB->Prop)(a:Act)(v:QB):Prop:=
 ∀(Pr:Gh->QB->QG->Prop),Closed P mn.main Pr->∀(b:QL),b.roundOf=ro->b.kind=.normal->∀(k:List Item) (cs:List QL) (G:Gh) (w:QB),FitM mn G w->Ge v (view G w) ->
  (∀e A v',Q e A v'->∀G' w',FitM mn G' w'->Ge v' (view G' w')->Arr Pr b k cs e A G' w')->Pr G w (gr (b.atR a (.code c::k)) cs)
section
variable {ro:Option Nat} {P:QD} {Q Q':Exit->Act->QB->Prop} {a:Act} {v:QB}
theorem WpX.mono{c:QOq}(h:WpX mn ro P c Q a v)(J:∀e a v,Q e a v->Q' e a v):WpX mn ro P c Q' a v:=
 λPr L b O hk k cs G w U V Z=>h Pr L b O hk k cs G w U V λe a' v' A=>Z e a' v' (J _ _ _ A)
theorem Closed.calm{Pr:Gh->QB->QG->Prop}(J:Closed P mn.main Pr){G:Gh}{w:QB}{g g':QG}(A:FitM mn G w)(L:g.status=.running)(O:∀w,stepG P mn.main g w=.go g' w #[])
  (h:∀w₁,FitM mn G w₁->Ge (view G w) (view G w₁)->Pr G w₁ g'):Pr G w g:=
 J.step G w g A.toFit L λw₁ h₁=>⟨g',w₁,#[],O w₁,.refl _ _,by rw[Gh.grow_self];exact h w₁ (A.rely h₁) (h₁.view A.toFit)⟩
section moves
variable {b:QL} {k:List Item} {cs:List QL} {w:QB}
theorem gu:stepG P mn.main (gr (b.atR a (.code .skip::k)) cs) w=.go (gr (b.atR a k) cs) w #[]:=by simp[gr,stepG,stepG.exec,Frame.atR]
theorem dW{l:Nat}:stepG P mn.main (gr (b.atR a (.code (.label l)::k)) cs) w=.go (gr (b.atR a k) cs) w #[]:=by simp[gr,stepG,stepG.exec,Frame.atR]
theorem ye{id:Nat}:stepG P mn.main (gr (b.atR a (.inBlock id::k)) cs) w=.go (gr (b.atR a k) cs) w #[]:=by simp[gr,stepG,stepG.exec,Frame.atR]
theorem Jf{c:QOq}:stepG P mn.main (gr (b.atR a (.inScope c::k)) cs) w=.go (gr (b.atR a k) cs) w #[]:=by simp[gr,stepG,stepG.exec,Frame.atR]
theorem dX{x y:QOq}:stepG P mn.main (gr (b.atR a (.code (.seq x y)::k)) cs) w=.go (gr (b.atR a (.code x::.code y::k)) cs) w #[]:=by simp[gr,stepG,stepG.exec,Frame.atR]
theorem yf{c:QH}{x y:QOq}{t:Bool}(h:a.eval c=.bool t):stepG P mn.main (gr (b.atR a (.code (.cond c x y)::k)) cs) w=.go (gr (b.atR a (.code (if t then x else y)::k)) cs) w #[]:=by have:=congrFun (Frame.eval_atR b a (.code (.cond c x y)::k)) c;simp only[Frame.atR]at this;simp[gr,stepG,stepG.exec,Frame.atR,this,h]
theorem yg{id:Nat}{c:QOq}:stepG P mn.main (gr (b.atR a (.code (.block id c)::k)) cs) w=.go (gr (b.atR a (.code c::.inBlock id::k)) cs) w #[]:=by simp[gr,stepG,stepG.exec,Frame.atR]
theorem dY{c:QOq}:stepG P mn.main (gr (b.atR a (.code (.scope c)::k)) cs) w=.go (gr (b.atR a (.code c::.inScope c::k)) cs) w #[]:=by simp[gr,stepG,stepG.exec,Frame.atR]
theorem yh{c:QOq}:stepG P mn.main (gr (b.atR a (.code (.loop c)::k)) cs) w=.go (gr (b.atR a (.code c::.inLoop c::k)) cs) w #[]:=by simp[gr,stepG,stepG.exec,Frame.atR]
theorem yi{c:QOq}:stepG P mn.main (gr (b.atR a (.inLoop c::k)) cs) w=.go (gr (b.atR a (.code c::.inLoop c::k)) cs) w #[]:=by simp[gr,stepG,stepG.exec,Frame.atR]
theorem gv{id:Nat}{k':List Item}(h:exitTo id k=some k'):stepG P mn.main (gr (b.atR a (.code (.exit id)::k)) cs) w=.go (gr (b.atR a k') cs) w #[]:=by simp[gr,stepG,stepG.exec,Frame.atR,h]
theorem gx{l:Nat}{k':List Item}(h:gotoIn l k=some k'):stepG P mn.main (gr (b.atR a (.code (.goto l)::k)) cs) w=.go (gr (b.atR a k') cs) w #[]:=by simp[gr,stepG,stepG.exec,Frame.atR,h]
theorem yj{id:Nat}{ops:Array QN}:stepG P mn.main (gr (b.atR a (.code (.region id ops false)::k)) cs) w=.go (gr (b.atR a (.inRegion ops (List.range ops.size)::k)) cs) w #[]:=by simp[gr,stepG,stepG.exec,Frame.atR]
theorem yl{id:Nat}{ops:Array QN}:stepG P mn.main (gr (b.atR a (.code (.region id ops true)::k)) cs) w =
  .go (gr (b.atR a (.inRegion ops (Region.schedule (P.follows .mixedOrders) ops (w.tape w.drawn (.order b.fn id)))::k)) cs) { w with drawn:=w.drawn+1 } #[]:=by
 simp[gr,stepG,stepG.exec,Frame.atR,choose,Sem.run,Question.forced,Question.cut]
theorem vj{ops:Array QN}:stepG P mn.main (gr (b.atR a (.inRegion ops []::k)) cs) w=.go (gr (b.atR a k) cs) w #[]:=by simp[gr,stepG,stepG.exec,Frame.atR]
theorem pt{ops:Array QN}{i:Nat}{rest:List Nat}(h:((ops[i]?).map (Region.wanted · (yielded ops a.tmps))).getD false=false):
  stepG P mn.main (gr (b.atR a (.inRegion ops (i::rest)::k)) cs) w=.go (gr (b.atR (a.put ((ops[i]?).bind (·.dst)) undef) (.inRegion ops rest::k)) cs) w #[]:=by
 rw[<- Frame.finish_atR];have h':=h;simp only[Frame.atR] at *;simp[gr,stepG,stepG.exec,h']
theorem kG{ops:Array QN}{i:Nat}{rest:List Nat}{o:QN}(ho:ops[i]?=some o)(L:Region.wanted o (yielded ops a.tmps)=true)(O:∀c,o.op ≠ .defer c):
  stepG P mn.main (gr (b.atR a (.inRegion ops (i::rest)::k)) cs) w=stepG.apply P true (b.atR a (.inRegion ops (i::rest)::k)) cs none (QI a.eval o) w:=by
 have J:=Frame.eval_atR b a (.inRegion ops (i::rest)::k);simp only[Frame.atR]at J;simp only[gr,stepG,stepG.exec,stepG.oper,Frame.oper?,Frame.atR,ho,jC,L,Option.getD_some,if_true,J];cases A:b.roundOf with|none=>simp[A]|some l=>cases hop:o.op<;>first|exact absurd hop (O _)|simp[A,hop]
end moves
theorem Zh9(h:Q .normal a v):WpX mn ro P .skip Q a v:=λPr A b Z J k cs G w L O U=>
 A.calm L rfl (λw=>gu) λw₁ hf₁ V=>U .normal a v h G w₁ hf₁ (O.trans V)
theorem Yrx{l:Nat}(h:Q .normal a v):WpX mn ro P (.label l) Q a v:=λPr A b Z J k cs G w L O U=>
 A.calm L rfl (λw=>dW) λw₁ hf₁ V=>U .normal a v h G w₁ hf₁ (O.trans V)
theorem Zw7{id:Nat}(h:Q (.exit id) a v):WpX mn ro P (.exit id) Q a v:=λPr U b hb V k cs G w J L O=>by
 cases A:exitTo id k with
 |some k'=>exact U.calm J rfl (λw=>gv A) λw₁ hf₁ Z=>(O (.exit id) a v h G w₁ hf₁ (L.trans Z)).1 k' A
 |none=>exact(O (.exit id) a v h G w J L).2 A k A
theorem dZ{l:Nat}(h:Q (.goto l) a v):WpX mn ro P (.goto l) Q a v:=λPr U b hb V k cs G w J L O=>by
 cases A:gotoIn l k with
 |some k'=>exact U.calm J rfl (λw=>gx A) λw₁ hf₁ Z=>(O (.goto l) a v h G w₁ hf₁ (L.trans Z)).1 k' A
 |none=>exact(O (.goto l) a v h G w J L).2 A k A
theorem Zmk(h:Q .ret a v):WpX mn ro P .ret Q a v:=λPr U b V A k cs G w J L O=>O .ret a v h G w J L k
theorem Arr.cons{Pr:Gh->QB->QG->Prop}{b:QL}{x:Item}{k:List Item}{cs:List QL}{e:Exit}{a:Act}{G:Gh}{w:QB}(A:x.plain=true)(J:e ≠ .normal)(h:Arr Pr b k cs e a G w):Arr Pr b (x::k) cs e a G w:=by cases e with|normal=>exact absurd rfl J|exit id=>exact⟨λk' hk=>h.1 k' (by rwa [exitTo_plain A]at hk),λhk=>h.2 (by rwa [exitTo_plain A]at hk)⟩|goto l=>exact⟨λk' hk=>h.1 k' (by rwa [gotoIn_plain A]at hk),λhk=>h.2 (by rwa [gotoIn_plain A]at hk)⟩|ret=>exact h|panic ch=>trivial|outgrown=>trivial
theorem Za1{x y:QOq}(h:WpX mn ro P x (Exit.then (WpX mn ro P y Q) Q) a v):WpX mn ro P (.seq x y) Q a v:=λPr V b hb L k cs G w hf hv O=>
 V.calm hf rfl (λw=>dX) λw₁ hf₁ hg=>h Pr V b hb L (.code y::k) cs G w₁ hf₁ (hv.trans hg) λe Z v' U G' w' A J=>by
  cases e with|normal=>exact U Pr V b hb L k cs G' w' A J O|exit id=>exact .cons (x:=.code y) rfl (by simp) (O _ Z v' U G' w' A J)|goto l=>exact .cons (x:=.code y) rfl (by simp) (O _ Z v' U G' w' A J)|ret=>exact O .ret Z v' U G' w' A J|panic ch=>trivial|outgrown=>trivial
theorem ym{c:QH}{x y:QOq}{t:Bool}(L:a.eval c=.bool t)(h:WpX mn ro P (if t then x else y) Q a v):WpX mn ro P (.cond c x y) Q a v:=λPr J b O A k cs G w U V Z=>
 J.calm U rfl (λw=>yf L) λw₁ hf₁ hg=>h Pr J b O A k cs G w₁ hf₁ (V.trans hg) Z
theorem Zii{c:QH}{x y:QOq}(A:a.eval c=.bool true)(h:WpX mn ro P x Q a v):WpX mn ro P (.cond c x y) Q a v:=ym A h
theorem Zbt{c:QH}{x y:QOq}(A:a.eval c=.bool false)(h:WpX mn ro P y Q a v):WpX mn ro P (.cond c x y) Q a v:=ym A h
theorem Zg6{id:Nat}{c:QOq}(h:WpX mn ro P c (Exit.inBlock id Q) a v):WpX mn ro P (.block id c) Q a v:=λPr hC b hb hkd k cs G w hf hv hQ=>
 hC.calm hf rfl (λw=>yg) λw₁ hf₁ hg=>h Pr hC b hb hkd (.inBlock id::k) cs G w₁ hf₁ (hv.trans hg) λe a' v' hq G' w' hf' hv'=>by
  cases e with
  |normal=>exact hC.calm hf' rfl (λw=>ye) λw₂ hf₂ hg₂=>hQ .normal a' v' hq G' w₂ hf₂ (hv'.trans hg₂)
  | exit id'=>
   by_cases hid:id'=id
   ·subst hid;simp only[Exit.inBlock,if_true]at hq;refine⟨λk' hk=> ?_,λhk=> ?_⟩
    ·simp[exitTo]at hk;subst hk;exact hQ .normal a' v' hq G' w' hf' hv'
    ·simp[exitTo]at hk
   ·simp only[Exit.inBlock,if_neg hid]at hq;have hx:exitTo id' (.inBlock id::k)=exitTo id' k:=by
     have this:(id==id')=false:=by simp;exact λh=>hid h.symm
     simp[exitTo,this]
    have:=hQ (.exit id') a' v' hq G' w' hf' hv';exact⟨λk' hk=>this.1 k' (by rwa [hx]at hk),λhk=>this.2 (by rwa [hx]at hk)⟩
  |goto l=>
   have hx:gotoIn l (.inBlock id::k)=gotoIn l k:=by simp[gotoIn]
   have:=hQ (.goto l) a' v' hq G' w' hf' hv';exact⟨λk' hk=>this.1 k' (by rwa [hx]at hk),λhk=>this.2 (by rwa [hx]at hk)⟩
  |ret=>exact hQ .ret a' v' hq G' w' hf' hv'
  |panic ch=>trivial
  |outgrown=>trivial
def Ubp(mn:Md)(ro:Option Nat)(P:QD)(c:QOq)(Q:Exit->Act->QB->Prop):Nat->Act->QB->Prop
 |0,_,_=>False
 |n+1,a,v=>WpX mn ro P c (Exit.then (Ubp mn ro P c Q n) Q) a v
theorem yn{c:QOq}:∀(n:Nat) {a:Act} {v:QB},Ubp mn ro P c Q n a v->∀(Pr:Gh->QB->QG->Prop),Closed P mn.main Pr->∀(b:QL),b.roundOf=ro->b.kind=.normal->∀(k:List Item) (cs:List QL) (G:Gh) (w:QB),FitM mn G w->Ge v (view G w) ->
  (∀e L v',Q e L v'->∀G' w',FitM mn G' w'->Ge v' (view G' w')->e ≠ .normal->Arr Pr b k cs e L G' w')->Pr G w (gr (b.atR a (.code c::.inLoop c::k)) cs)
 |0,a,v,h,_,_,_,_,_,_,_,_,_,_,_,_=>h.elim
 |n+1,a,v,h,Pr,Z,b,hb,O,k,cs,G,w,hf,hv,U=>h Pr Z b hb O (.inLoop c::k) cs G w hf hv λe L v' V G' w' A J=>by
  cases e with
  |normal=>exact Z.calm A rfl (λw=>yi) λw₂ hf₂ hg₂=>yn n V Pr Z b hb O k cs G' w₂ hf₂ (J.trans hg₂) U
  |exit id=>exact .cons (x:=.inLoop c) rfl (by simp) (U _ L v' V G' w' A J (by simp))
  |goto l=>exact .cons (x:=.inLoop c) rfl (by simp) (U _ L v' V G' w' A J (by simp))
  |ret=>exact U .ret L v' V G' w' A J (by simp)
  |panic ch=>trivial
  |outgrown=>trivial
theorem Zf4{c:QOq}(n:Nat)(h:Ubp mn ro P c Q n a v):WpX mn ro P (.loop c) Q a v:=λPr O b U A k cs G w V Z hQ=>
 O.calm V rfl (λw=>yh) λw₁ hf₁ hg=>yn n h Pr O b U A k cs G w₁ hf₁ (Z.trans hg) λe a' v' hq G' w' J L _=>hQ e a' v' hq G' w' J L
end
end
section
variable {mn:Md}
def Tr(P:QD){α:Type}(s:QQ α)(v:QB)(r:α)(v':QB):Prop:=
 ∀(G:Gh) (w:QB),Fit G w->view G w=v->∀es:Array QU,∃w' es',s.runT P w es=(.ok r w',es++es')/\v'=view (G.grow w.heap.size w'.heap.size) w'/\Did G w w' es'
theorem Simple.tr{P:QD}{α:Type}{s:QQ α}(A:Simple P s){v v':QB}{r:α}(h:s.run P v=.ok r v'):Tr P s v r v':=λG w J L es=>A.run es J (L ▸ h)
def Ucx(P:QD)(fr:QL)(R:QC->QB->Prop)(v:QB):Prop:=
 fr.mode=.returning/\fr.defers=[]/\fr.kind=.normal/\∃fn,P.funcs[fr.fn]?=some fn/\∀v₁,Ge v v₁->∃r,Tr P (results fn fr.tmps) v₁ r v₁/\R r v₁
theorem Ucx.mono{P:QD}{fr:QL}{R A:QC->QB->Prop}{v:QB}(h:Ucx P fr R v)(J:∀r v,R r v->A r v):Ucx P fr A v:=
 ⟨h.1,h.2.1,h.2.2.1,let ⟨fn,L,h2⟩:=h.2.2.2;⟨fn,L,λv₁ h₁=>let ⟨r,O,U⟩:=h2 v₁ h₁;⟨r,O,J _ _ U⟩⟩⟩
def Ua6(mn:Md)(P:QD)(f:QF)(args:QA)(v:QB)(R:QC->QB->Prop):Prop:=
 ∀(Pr:Gh->QB->QG->Prop),Closed P mn.main Pr->∀(cs:List QL) (G:Gh) (w:QB),FitM mn G w->Ge v (view G w) ->
  (∀v' fr,fr.fn=f->Ucx P fr R v'->∀G' w',FitM mn G' w'->Ge v' (view G' w')->Pr G' w' (gr fr cs))->Pr G w (gr (Frame.enter P f args .normal) cs)
section
variable {P:QD}
theorem Ua6.mono{f:QF}{args:QA}{v:QB}{R J:QC->QB->Prop}(h:Ua6 mn P f args v R)(L:∀r v,R r v->J r v):Ua6 mn P f args v J:=
 λPr O cs G w U V Z=>h Pr O cs G w U V λv' fr A hl=>Z v' fr A (hl.mono L)
def Ud1(mn:Md)(P:QD)(l:Nat)(f:QF)(tmps:QA)(assign body:QOq)(v:QB)(R:QC->QB->Prop):Prop:=
 ∀(Pr:Gh->QB->QG->Prop),Closed P mn.main Pr->∀(c:QL) (cs:List QL) (G:Gh) (w:QB),FitM mn G w->Ge v (view G w) ->
  (∀r v',R r v'->∀G' w',FitM mn G' w'->Ge v' (view G' w')->Pr G' w' (gr (c.finish r) cs))->Pr G w (gr (Frame.round l f tmps assign body .normal) (c::cs))
theorem Ud1.mono{l:Nat}{f:QF}{tmps:QA}{assign body:QOq}{v:QB}{R J:QC->QB->Prop}(h:Ud1 mn P l f tmps assign body v R)(L:∀r v,R r v->J r v):Ud1 mn P l f tmps assign body v J:=
 λPr O c cs G w U V Z=>h Pr O c cs G w U V λr v' A=>Z r v' (L _ _ A)
def OpX(mn:Md)(P:QD)(o:QN)(a:Act)(v:QB)(K:Act->QB->Prop):Prop:=
 (∀ c,o.op ≠ .defer c)∧∀ v₁,Ge v v₁ →
  (∃vv v',Tr P (QI a.eval o) v₁ (.value vv) v'/\K (a.put o.dst vv) v')\/(∃v',Tr P (QI a.eval o) v₁ .skip v'/\K (a.put o.dst undef) v') \/
  (∃f args v',Tr P (QI a.eval o) v₁ (.enter f args) v'/\Ua6 mn P f args v' λr v'=>K (a.put o.dst r) v') \/
  ∃l f tmps assign body v',Tr P (QI a.eval o) v₁ (.round l f tmps assign body) v'/\Ud1 mn P l f tmps assign body v' λr v'=>K (a.put o.dst r) v'
theorem OpX.mono{o:QN}{a:Act}{v:QB}{K K':Act->QB->Prop}(h:OpX mn P o a v K)(hk:∀a v,K a v->K' a v):OpX mn P o a v K':=
 ⟨h.1,fun v₁ h₁=>by
  rcases h.2 v₁ h₁ with ⟨vv,v',h1,h2⟩ | ⟨v',h1,h2⟩ | ⟨f,args,v',h1,h2⟩ | ⟨l,f,tmps,assign,body,v',h1,h2⟩
  ·exact .inl ⟨vv,v',h1,hk _ _ h2⟩
  ·exact .inr (.inl ⟨v',h1,hk _ _ h2⟩)
  ·exact .inr (.inr (.inl ⟨f,args,v',h1,h2.mono λ_ _=>hk _ _⟩))
  ·exact .inr (.inr (.inr ⟨l,f,tmps,assign,body,v',h1,h2.mono λ_ _=>hk _ _⟩))⟩
abbrev Udn(P:QD)(d:Deferred):QG:={ frame:={ (default:QL) with fn:=P.funcs.size,defers:=[d],mode:=.panicking [goexitEntry] },callers:=[],status:=.running,dying:=none }
def OpIX(mn:Md)(P:QD)(ops:Array QN)(i:Nat)(K:Act->QB->Prop)(a:Act)(v:QB):Prop:=
 match ops[i]? with|none=>K a v|some o=>if Region.wanted o (yielded ops a.tmps) then OpX mn P o a v K else K (a.put o.dst undef) v
theorem OpIX.mono{ops:Array QN}{i:Nat}{a:Act}{v:QB}{K K':Act->QB->Prop}(hk:∀a v,K a v->K' a v)(h:OpIX mn P ops i K a v):OpIX mn P ops i K' a v:=by
 unfold OpIX at h|-
 split
 ·rename_i ho;rw[ho]at h;exact hk _ _ h
 ·rename_i o ho;rw[ho]at h;dsimp only at h;split
  ·rename_i A;rw[if_pos A]at h;exact h.mono hk
  ·rename_i A;rw[if_neg A]at h;exact hk _ _ h
def OpsX(mn:Md)(P:QD)(ops:Array QN)(K:Act->QB->Prop):List Nat->Act->QB->Prop
 |[],a,v=>K a v
 |i::rest,a,v=>OpIX mn P ops i (OpsX mn P ops K rest) a v
def AnyX(mn:Md)(P:QD)(ops:Array QN)(K:Act->QB->Prop):Nat->Array Bool->Act->QB->Prop
 |0,listed,a,v=>Region.ready .any ops listed=[]/\K a v
 |fuel+1,listed,a,v=>(Region.ready .any ops listed=[]->K a v)/\∀i∈Region.ready .any ops listed,OpIX mn P ops i (AnyX mn P ops K fuel (listed.setIfInBounds i true)) a v
theorem Ywc{ops:Array QN}{K:Act->QB->Prop}:∀(fuel t:Nat) (listed:Array Bool) (a:Act) (v:QB),AnyX mn P ops K fuel listed a v->OpsX mn P ops K (Region.linearise.go .any ops fuel t listed []) a v:=by
 intro fuel
 induction fuel with
 |zero=>intro t listed a v h;simpa [Region.linearise.go,OpsX] using h.2
 | succ fuel ih=>
  intro t listed a v h;obtain⟨h₀,h₁⟩:=h;simp only[Region.linearise.go];change OpsX mn P ops K (match (Region.ready .any ops listed)[t % (Region.ready .any ops listed).length]? with
   |some i=>Region.linearise.go .any ops fuel (t / (Region.ready .any ops listed).length) (listed.setIfInBounds i true) [i]
   |none=>[].reverse) a v
  cases hi:(Region.ready .any ops listed)[t % (Region.ready .any ops listed).length]? with
  | none=>
   have hnil:Region.ready .any ops listed=[]:=by cases hr:Region.ready .any ops listed with|nil=>rfl|cons x xs=>rw[hr]at hi;have hlt:t % (x::xs).length<(x::xs).length:=Nat.mod_lt _ (by simp);simp at hi;simp at hlt;omega
   simpa [OpsX] using h₀ hnil
  |some i=>simp only[];rw[linearise_go_acc,List.reverse_singleton,List.singleton_append,OpsX];exact OpIX.mono (λa v=>ih _ _ a v) (h₁ i (List.mem_of_getElem? hi))
theorem Yde{b:QL}{a:Act}{k:List Item}{cs:List QL}{w w':QB}{ops:Array QN}{i:Nat}{rest:List Nat}{o:QN}{es:Array QU}{n:Next}(ho:ops[i]?=some o)(hk:b.kind ≠ .early)
  (L:Region.wanted o (yielded ops a.tmps)=true) (O:∀c,o.op ≠ .defer c) (U:(QI a.eval o).runT P w #[]=(.ok n w',es)) :
  (∀vv,n=.value vv->stepG P mn.main (gr (b.atR a (.inRegion ops (i::rest)::k)) cs) w=.go (gr (b.atR (a.put o.dst vv) (.inRegion ops rest::k)) cs) w' (seen P b.fn es)) /\
  (n=.skip->stepG P mn.main (gr (b.atR a (.inRegion ops (i::rest)::k)) cs) w=.go (gr (b.atR (a.put o.dst undef) (.inRegion ops rest::k)) cs) w' (seen P b.fn es)) /\
  (∀f args,n=.enter f args->stepG P mn.main (gr (b.atR a (.inRegion ops (i::rest)::k)) cs) w=.go (gr (Frame.enter P f args .normal) (b.atR a (.inRegion ops (i::rest)::k)::cs)) w' (seen P b.fn es)) /\
  (∀l f tmps assign body,n=.round l f tmps assign body->stepG P mn.main (gr (b.atR a (.inRegion ops (i::rest)::k)) cs) w=.go (gr (Frame.round l f tmps assign body .normal) (b.atR a (.inRegion ops (i::rest)::k)::cs)) w' (seen P b.fn es)):=by
 have J:∀v,(b.atR a (.inRegion ops (i::rest)::k)).finish v=b.atR (a.put o.dst v) (.inRegion ops rest::k):=by intro v;rw[Frame.finish_atR,ho];rfl
 have A:(b.kind==CallKind.early)=false:=by simpa using hk
 refine⟨λvv e=> ?_,λe=> ?_,λf args e=> ?_,λl f tmps assign body e=> ?_⟩
 ·subst e;rw[kG ho L O,<- J];simp only[stepG.apply,if_true,U,Frame.atR,A,jA,if_false,GStep.after,gr,jD]
 ·subst e;rw[kG ho L O,<- J];simp only[stepG.apply,if_true,U,Frame.atR,A,jA,if_false,GStep.after,gr,jD]
 ·subst e;rw[kG ho L O];simp only[stepG.apply,if_true,U,Frame.atR,A,jA,if_false,GStep.after,gr,jD]
 ·subst e;rw[kG ho L O];simp only[stepG.apply,if_true,U,Frame.atR,A,jA,if_false,GStep.after,gr,jD]
theorem ea{b:QL}{a:Act}{k:List Item}{cs:List QL}{w:QB}{ops:Array QN}{i:Nat}{rest:List Nat}{o:QN}{d:Deferred}(ho:ops[i]?=some o)(hk:b.kind ≠ .early)
  (L:Region.wanted o (yielded ops a.tmps)=true) (O:∀c,o.op ≠ .defer c) (U:d.target ≠ .nil) (V:(QI a.eval o).runT P w #[]=(.ok (.spawn d) w,#[])) :
  stepG P mn.main (gr (b.atR a (.inRegion ops (i::rest)::k)) cs) w=.spawn (gr (b.atR (a.put o.dst undef) (.inRegion ops rest::k)) cs) (Udn P d) w #[]:=by
 have A:∀v,(b.atR a (.inRegion ops (i::rest)::k)).finish v=b.atR (a.put o.dst v) (.inRegion ops rest::k):=by intro v;rw[Frame.finish_atR,ho];rfl
 have J:(b.kind==CallKind.early)=false:=by simpa using hk
 rw[kG ho L O,<- A];obtain⟨tg,as⟩:=d;simp only[stepG.apply,if_true,V,Frame.atR,J,jA,if_false];cases tg<;>first|exact absurd rfl U|simp[GStep.after,seen,gr]
theorem gy{b:QL}{a:Act}{k:List Item}{cs:List QL}{w:QB}{ops:Array QN}{i:Nat}{rest:List Nat}{o:QN}{c:Nat}{z:QC}(ho:ops[i]?=some o)(hk:b.kind ≠ .early)
  (J:Region.wanted o (yielded ops a.tmps)=true) (L:∀c,o.op ≠ .defer c) (O:(QI a.eval o).runT P w #[]=(.ok (.comm #[Conc.rcase c z] true (.recv false)) w,#[])) :
  stepG P mn.main (gr (b.atR a (.inRegion ops (i::rest)::k)) cs) w=.comm (gr (b.atR a (.inRegion ops (i::rest)::k)) cs) #[Conc.rcase c z] true (.recv false) w #[]:=by
 have A:(b.kind==CallKind.early)=false:=by simpa using hk
 rw[kG ho J L];simp only[stepG.apply,if_true,O,Frame.atR,A,jA,if_false,GStep.after,gr,jD];simp[seen]
theorem Did.seen{G:Gh}{w w':QB}{es:Array QU}(h:Did G w w' es)(fn:QF):Did G w w' (Go.seen P fn es):=⟨h.os,h.tape,h.output,h.size,h.same,λe A=>h.evs e (mem_seen A)⟩
theorem vk{fr c:QL}{cs:List QL}{w:QB}{r:QC}{fn:Func}{w':QB}{es:Array QU}(A:fr.mode=.returning)(J:fr.defers=[])(hk:fr.kind=.normal)(L:P.funcs[fr.fn]?=some fn)(O:(results fn fr.tmps).runT P w #[]=(.ok r w',es)):
  stepG P mn.main (gr fr (c::cs)) w=.go (gr (c.finish r) cs) w' (seen P fr.fn es):=by
 simp[gr,stepG,unwind,doReturn,A,J,hk,L,O,GStep.after,-Sem.runT_eq]
theorem Fit.did{G:Gh}{w w':QB}{es:Array QU}(A:Fit G w)(h:Did G w w' es):Fit (G.grow w.heap.size w'.heap.size) w':=A.grow h.size
theorem FitM.did{G:Gh}{w w':QB}{es:Array QU}(A:FitM mn G w)(h:Did G w w' es):FitM mn (G.grow w.heap.size w'.heap.size) w':=⟨A.toFit.grow h.size,A.eqF⟩
theorem gz{ops:Array QN}{K:Act->QB->Prop}{Pr:Gh->QB->QG->Prop}(hC:Closed P mn.main Pr){b:QL}(hb:b.kind ≠ .early){k:List Item}{cs:List QL}(tail:List Nat):
  ∀(l:List Nat) (a:Act) (v:QB),OpsX mn P ops K l a v->∀(G:Gh) (w:QB),FitM mn G w->Ge v (view G w) ->
   (∀a' v',K a' v'->∀G' w',FitM mn G' w'->Ge v' (view G' w')->Pr G' w' (gr (b.atR a' (.inRegion ops tail::k)) cs))->Pr G w (gr (b.atR a (.inRegion ops (l++tail)::k)) cs)
 |[],a,v,h,G,w,hf,hv,hQ=>hQ a v h G w hf hv
 | i::rest,a,v,h,G,w,hf,hv,hQ=>by
  rw[List.cons_append];unfold OpsX OpIX at h;cases ho:ops[i]? with
  |none=>
   rw[ho]at h;have hs:=λw=>pt (P:=P) (mn:=mn) (b:=b) (a:=a) (k:=k) (cs:=cs) (w:=w) (ops:=ops) (i:=i) (rest:=rest++tail) (by simp[ho])
   simp only[ho,Option.bind_none,Act.put]at hs;exact hC.calm hf rfl hs λw₁ hf₁ hg=>gz hC hb tail rest a v h G w₁ hf₁ (hv.trans hg) hQ
  | some o=>
   rw[ho]at h;dsimp only at h
   by_cases hw:Region.wanted o (yielded ops a.tmps)=true
   ·rw[if_pos hw]at h;obtain⟨hd,h⟩:=h;refine hC.step G w _ hf.toFit rfl λw₁ hr₁=> ?_
    have hf₁:=hf.rely hr₁;rcases h (view G w₁) (hv.trans (hr₁.view hf.toFit)) with ⟨vv,v',ht,hk⟩ | ⟨v',ht,hk⟩ | ⟨f,args,v',ht,hk⟩ | ⟨l,f,tmps,assign,body,v',ht,hk⟩
    ·obtain⟨w',es,e1,e2,e3⟩:=ht G w₁ hf₁.toFit rfl #[];refine⟨_,w',_,(Yde ho hb hw hd e1).1 vv rfl,by simpa using e3.seen b.fn,?_⟩;exact gz hC hb tail rest _ v' hk _ w' (hf₁.did e3) (e2 ▸ .refl _) hQ
    ·obtain⟨w',es,e1,e2,e3⟩:=ht G w₁ hf₁.toFit rfl #[];refine⟨_,w',_,(Yde ho hb hw hd e1).2.1 rfl,by simpa using e3.seen b.fn,?_⟩;exact gz hC hb tail rest _ v' hk _ w' (hf₁.did e3) (e2 ▸ .refl _) hQ
    ·obtain⟨w',es,e1,e2,e3⟩:=ht G w₁ hf₁.toFit rfl #[];refine⟨_,w',_,(Yde ho hb hw hd e1).2.2.1 f args rfl,by simpa using e3.seen b.fn,?_⟩;refine hk Pr hC _ _ w' (hf₁.did e3) (e2 ▸ .refl _) λv'' fr hfn hl G' w'' hf' hv'=> ?_
     refine hC.step G' w'' _ hf'.toFit rfl λw₂ hr₂=> ?_
     obtain⟨hm,hdf,hkd,fn,hfun,hres⟩:=hl;obtain⟨r,ht,hK⟩:=hres (view G' w₂) (hv'.trans (hr₂.view hf'.toFit));obtain⟨w₃,es₃,q1,q2,q3⟩:=ht G' w₂ (hf'.rely hr₂).toFit rfl #[];refine⟨_,w₃,_,vk hm hdf hkd hfun q1,by simpa using q3.seen fr.fn,?_⟩;have hfin:(b.atR a (.inRegion ops (i::(rest++tail))::k)).finish r=b.atR (a.put o.dst r) (.inRegion ops (rest++tail)::k):=by rw[Frame.finish_atR,ho];rfl
     rw[hfin];exact gz hC hb tail rest _ _ hK _ w₃ ((hf'.rely hr₂).did q3) (by rw[<- q2];exact Ge.refl _) hQ
    ·obtain⟨w',es,e1,e2,e3⟩:=ht G w₁ hf₁.toFit rfl #[];refine⟨_,w',_,(Yde ho hb hw hd e1).2.2.2 l f tmps assign body rfl,by simpa using e3.seen b.fn,?_⟩;refine hk Pr hC _ _ _ w' (hf₁.did e3) (e2 ▸ .refl _) λr v'' hK G' w'' hf' hv'=> ?_
     have hfin:(b.atR a (.inRegion ops (i::(rest++tail))::k)).finish r=b.atR (a.put o.dst r) (.inRegion ops (rest++tail)::k):=by rw[Frame.finish_atR,ho];rfl
     rw[hfin];exact gz hC hb tail rest _ _ hK G' w'' hf' hv' hQ
   ·rw[if_neg hw]at h;have hs:=λw=>pt (P:=P) (mn:=mn) (b:=b) (a:=a) (k:=k) (cs:=cs) (w:=w) (ops:=ops) (i:=i) (rest:=rest++tail) (by simp[ho];simpa using hw)
    simp only[ho,Option.bind_some]at hs;exact hC.calm hf rfl hs λw₁ hf₁ hg=>gz hC hb tail rest _ v h G w₁ hf₁ (hv.trans hg) hQ
theorem yo{ops:Array QN}{K:Act->QB->Prop}{Pr:Gh->QB->QG->Prop}(O:Closed P mn.main Pr){b:QL}(U:b.kind ≠ .early){k:List Item}{cs:List QL}
  (l:List Nat) (a:Act) (v:QB) (h:OpsX mn P ops K l a v) (G:Gh) (w:QB) (V:FitM mn G w) (Z:Ge v (view G w))
  (hQ:∀A v',K A v'->∀G' w',FitM mn G' w'->Ge v' (view G' w')->Pr G' w' (gr (b.atR A k) cs)):Pr G w (gr (b.atR a (.inRegion ops l::k)) cs):=by
 have:=gz O U (k:=k) (cs:=cs) [] l a v h G w V Z λA v' hk G' w' J L=>
  O.calm J rfl (λw=>vj) λw₁ hf₁ hg=>hQ A v' hk G' w₁ hf₁ (L.trans hg)
 rwa [List.append_nil]at this
theorem Ypa{b:QL}(h:b.kind=.normal):b.kind ≠ .early:=by rw[h];intro e;cases e
variable {ro:Option Nat} {Q:Exit->Act->QB->Prop} {a:Act} {v:QB}
theorem Za2{id:Nat}{ops:Array QN}(h:OpsX mn P ops (Q .normal) (List.range ops.size) a v):WpX mn ro P (.region id ops false) Q a v:=λPr O b hb A k cs G w U V Z=>
 O.calm U rfl (λw=>yj) λw₁ hf₁ hg=>yo O (Ypa A) _ a v h G w₁ hf₁ (V.trans hg) λa' v' hq G' w' J L=>Z .normal a' v' hq G' w' J L
theorem yp{G:Gh}{w:QB}:view G { w with drawn:=w.drawn+1 }={ view G w with drawn:=w.drawn+1 }:=rfl
theorem Ywy(v:QB)(d:Nat):Ge v { v with drawn:=d }:=⟨rfl,rfl,rfl,Nat.le_refl _,λ_ _=>rfl⟩
theorem yq{id:Nat}{ops:Array QN}(V:P.follows .mixedOrders=true)(h:AnyX mn P ops (Q .normal) ops.size (Array.replicate ops.size false) a v):WpX mn ro P (.region id ops true) Q a v:=λPr U b hb A k cs G w J Z hQ=>by
 refine U.step G w _ J.toFit rfl λw₁ hr₁=>⟨_,_,_,yl,⟨rfl,rfl,rfl,Nat.le_refl _,λ_ _ _=>rfl,λe he=>by simp at he⟩,?_⟩
 have hf₁:=J.rely hr₁;rw[show G.grow w₁.heap.size ({ w₁ with drawn:=w₁.drawn+1 }:QB).heap.size=G from Gh.grow_self G _];simp only[Region.schedule,V,Bool.true_or,if_true];refine yo U (Ypa A) _ a v (Ywc ops.size _ _ a v h) G _ (hf₁.drew _) ?_ λa' v' hq G' w' L O=>hQ .normal a' v' hq G' w' L O
 rw[yp];exact(Z.trans (hr₁.view J.toFit)).trans (Ywy _ _)
end
end
section
variable {mn:Md}
section
variable {P:QD}
theorem Simple.pure'{α:Type}(a:α):Simple P (Pure.pure a:QQ α):=.pure a
theorem yr{α:Type}(s:String):Simple P (stuck s:QQ α):=.halt _
theorem kI{α:Type}{f:QD->QQ α}(h:Simple P (f P)):Simple P (program >>= f):=.program _ h
theorem Zmq(q:Question):Simple P (choose q):=.choose _ _ λ_=>.pure _
theorem Zdl(t:QE):Simple P (typeInfo t):=by unfold typeInfo;refine kI ?_;split<;>first|exact .pure _|exact .halt _
theorem Zbh(t:QE):Simple P (underlying t):=by unfold underlying;refine kI ?_;split<;>first|exact .pure _|exact .halt _
theorem Zeh(t:QE):Simple P (sizeOf t):=.bind (Zdl t) λ_=>.pure _
theorem Zd2(t:QE):Simple P (zeroValue t):=by
 unfold zeroValue;refine .bind (Zdl t) λ_=> ?_
 split<;>first|exact .pure _|exact .halt _
theorem Ygs(t:QE):Simple P (isAgg t):=by
 unfold isAgg;refine .bind (Zbh t) λ_=> ?_
 split<;>exact .pure _
theorem Ykv(a:QR):Simple P (Go.load a):=.load _ _ λ_=>.pure _
theorem Yrc(a:QR)(v:QC):Simple P (Go.store a v):=.store _ _ _ (.pure _)
theorem Zk4(a:QR):∀(n i:Nat) (acc:QA),Simple P (loadCellsFrom a i n acc)
 |0,i,acc=>.pure _
 |n+1,i,acc=>by unfold loadCellsFrom;exact .bind (Ykv _) λ_=>Zk4 a n _ _
theorem pu(a:QR):∀(vs:List QC) (i:Nat),Simple P (storeCells a vs i)
 |[],i=>.pure _
 |v::r,i=>by unfold storeCells;exact .bind (Yrc _ _) λ_=>pu a r _
theorem yt(t:QE)(a:QR):Simple P (loadVar t a):=by
 unfold loadVar;refine .bind (Ygs t) λ_=> ?_
 split
 ·exact .bind (Zeh t) λ_=>.bind (Zk4 _ _ _ _) λ_=>.pure _
 ·exact Ykv a
theorem Jg(t:QE)(a:QR)(v:QC):Simple P (storeVar t a v):=by
 unfold storeVar;refine .bind (Zeh t) λ_=> ?_
 split
 ·exact .bind (.halt _) λ_=>pu _ _ _
 ·exact pu _ _ _
theorem nn(t:QE)(c:QA):Simple P (newRow t c):=.bind (.new _ _ rfl λ_=>.pure _) λ_=>.pure _
theorem Zp6(t:QE)(v:QC):Simple P (newVar t v):=nn _ _
theorem Ya2(t:QE):Simple P (elemOf t):=by
 unfold elemOf;refine .bind (Zbh t) λ_=> ?_
 split<;>first|exact .pure _|exact .halt _
theorem np(t:QE)(c:QA)(o:Nat):Simple P (part t c o):=by
 unfold part;refine .bind (Ygs t) λ_=> ?_
 split
 ·exact .bind (Zeh t) λ_=>.pure _
 ·split<;>first|exact .pure _|exact .halt _
theorem ec{α:Type}(e:RuntimeError):Simple P (runtimePanic e:QQ α):=by
 unfold runtimePanic;refine kI ?_;cases e
 case typeAssertion=>exact .bind (Ya2 _) λ_=>.bind (Zp6 _ _) λ_=>.halt _
 case panicNil=>exact .bind (Ya2 _) λ_=>.bind (Zp6 _ _) λ_=>.halt _
 all_goals exact .halt _
theorem nq{α:Type}(k:QM)(x y:Int)(c:BoundsCode):Simple P (boundsPanic k x y c:QQ α):=by
 unfold boundsPanic;dsimp only;split
 ·exact .bind (.bind (Zmq _) λ_=>.pure _) λ_=>ec _
 ·exact .bind (.pure _) λ_=>ec _
theorem Zlh(v:QC):Simple P (asIntOf v):=by unfold asIntOf;split<;>first|exact .pure _|exact .halt _
theorem nr(v:QC):Simple P (asInt v):=.bind (Zlh v) λ_=>.pure _
theorem Yox(v:QC):Simple P (asBool v):=by unfold asBool;split<;>first|exact .pure _|exact .halt _
theorem Yri(v:QC):Simple P (asAgg v):=by unfold asAgg;split<;>first|exact .pure _|exact .halt _
theorem Yo9(v:QC):Simple P (asAddr v):=by unfold asAddr;split<;>first|exact .pure _|exact ec _|exact .halt _
theorem Zh1(v:QC):Simple P (Instr.sureAddr v):=by unfold Instr.sureAddr;split<;>first|exact .pure _|exact .halt _
theorem pw(n:Nat):Simple P (askRoom n):=by
 unfold askRoom;split
 ·exact .noRoom _ (.pure _)
 ·exact .pure _
theorem Ydd(t:QE)(v:QC):Simple P (Instr.loadAt t v):=.bind (Zh1 v) λ_=>yt _ _
theorem Ymm(t:QE)(v x:QC):Simple P (Instr.storeAt t v x):=.bind (Zh1 v) λ_=>Jg _ _ _
theorem Yqi(t:QE):Simple P (Instr.alloc t true (.tuple #[])):=.bind (Zd2 t) λ_=>.bind (Zp6 _ _) λ_=>.pure _
theorem Ynm(t:QE)(v:QC):Simple P (Instr.box t v):=.bind (Zp6 _ _) λ_=>.pure _
theorem Ykk{α β:Type}(f:α->QQ β)(A:∀x,Simple P (f x)):∀(l:List α),Simple P (l.mapM f)
 |[]=>.pure _
 |x::r=>by rw[List.mapM_cons];exact .bind (A x) λ_=>.bind (Ykk f A r) λ_=>.pure _
theorem Ygu{α β:Type}(f:α->QQ β)(A:∀x,Simple P (f x))(l:Array α):Simple P (l.mapM f):=by rw[Array.mapM_eq_mapM_toList];exact .bind (Ykk f A _) λ_=>.pure _
theorem Yro(t:QE)(ps:Array (Nat×QC)):Simple P (Instr.build t ps):=by
 unfold Instr.build;refine .bind (Zd2 t) λ_=>.bind (Zbh t) λ_=> ?_
 split
 ·refine .bind (Ygu _ (λ_=>.bind (Zeh _) λ_=>.pure _) _) λ_=> ?_
  split<;>first|exact .pure _|exact .halt _
 ·refine .bind (Zeh _) λ_=> ?_
  split<;>first|exact .pure _|exact .halt _
 ·exact .halt _
theorem Yfb(t:QE)(n:Nat)(ps:Array (Nat×QC)):Simple P (Instr.buildSlice t n ps):=by
 unfold Instr.buildSlice;dsimp only
 repeat' (first
  |exact .pure _
  |exact .halt _
  |exact Zbh _
  |exact Zdl _
  |exact Zeh _
  |exact Zd2 _
  |exact nn _ _
  |exact Zh1 _
  |exact nr _
  |exact Zlh _
  |exact pw _
  |exact Zmq _
  |exact ec _
  |exact nq _ _ _ _
  |exact np _ _ _
  |refine .bind ?_ λ_=> ?_
  |split
  |dsimp only)
theorem Zda{α:Type}{t:QE}{d:TypeDesc}{f:TypeDesc->QQ α}(A:P.underlying t=some d)(h:Simple P (f d)):Simple P (underlying t >>= f):=
 .program _ (by
  show Simple P ((match P.underlying t with | some d => Pure.pure d | none => stuck "no such type" : QQ TypeDesc) >>= f)
  rw[A];exact h)
theorem Ymq{t:QE}{fs:Array Field}{f:Nat}{fd:Field}{i:TypeInfo}(v:QC)(A:P.underlying t=some (.struct fs))(J:fs[f]?=some fd)(hi:P.info? fd.type=some i)(h0:i.size≠0):Simple P (Instr.fieldAt t v f):=by
 unfold Instr.fieldAt;refine Zda A ?_;dsimp only;rw[J];refine .bind (Zh1 v) λa=>.bind ?_ λ_=>.pure _
 unfold fieldPlace sizeOf;refine .program _ ?_
 show Simple P (((match P.info? fd.type with | some i => Pure.pure i | none => stuck "no such type" : QQ TypeInfo) >>= λ i => Pure.pure i.size) >>= _)
 rw[hi]
 show Simple P (if i.size=0 then _ else _)
 rw[if_neg h0];exact .pure _
theorem Ymu(t:QE)(v x:QC):Simple P (Instr.indexAt t v x):=by
 unfold Instr.indexAt;dsimp only
 repeat' (first
  |exact .pure _
  |exact .halt _
  |exact Zbh _
  |exact Zdl _
  |exact Zeh _
  |exact Zd2 _
  |exact nn _ _
  |exact Zh1 _
  |exact nr _
  |exact Zlh _
  |exact pw _
  |exact Zmq _
  |exact ec _
  |exact nq _ _ _ _
  |exact np _ _ _
  |refine .bind ?_ λ_=> ?_
  |split
  |dsimp only)
theorem Yqc(t:QE)(v:QC)(f:Nat):Simple P (Instr.field t v f):=by
 unfold Instr.field;refine .bind (Zbh t) λ_=> ?_
 split
 ·split
  ·exact .bind (Yri v) λ_=>np _ _ _
  ·exact .halt _
 ·exact .halt _
theorem Yqe(t:QE)(v x:QC):Simple P (Instr.index t v x):=by
 unfold Instr.index;refine .bind (Zlh x) λ_=> ?_
 refine .bind (Zbh t) λ_=> ?_
 split
 ·split
  ·exact .bind (Zeh _) λ_=>np _ _ _
  ·exact nq _ _ _ _
 ·split
  ·exact .pure _
  ·exact nq _ _ _ _
 ·exact .halt _
theorem Ymo(v:QC)(k:Nat):Simple P (Instr.extract v k):=by
 unfold Instr.extract;split
 ·split<;>first|exact .pure _|exact .halt _
 ·exact .halt _
theorem Yhw(t:QE)(l c:QC):Simple P (Instr.makeSlice t l c):=by
 unfold Instr.makeSlice;dsimp only
 repeat' (first
  |exact .pure _
  |exact .halt _
  |exact Zbh _
  |exact Zdl _
  |exact Zeh _
  |exact Zd2 _
  |exact nn _ _
  |exact Zh1 _
  |exact nr _
  |exact Zlh _
  |exact pw _
  |exact Zmq _
  |exact ec _
  |exact nq _ _ _ _
  |exact np _ _ _
  |refine .bind ?_ λ_=> ?_
  |split
  |dsimp only)
theorem Yjw(t:QE)(n:QC):Simple P (Instr.makeChan t n):=by
 unfold Instr.makeChan;dsimp only
 repeat' (first
  |exact .pure _
  |exact .halt _
  |exact Zbh _
  |exact Zdl _
  |exact nr _
  |exact ec _
  |exact .new _ _ rfl λ_=>.pure _
  |refine .bind ?_ λ_=> ?_
  |split
  |dsimp only)
end
end
section
variable {mn:Md}
section
variable {P:QD}
theorem vl{α β:Type}(f:α->β->QQ (ForInStep β)):∀(l:List α),(∀x∈l,∀s,Simple P (f x s))->∀s,Simple P (forIn l s f)
 |[],_,s=>by rw[List.forIn_nil];exact .pure _
 |x::r,h,s=>by
  rw[List.forIn_cons];refine .bind (h x (List.mem_cons_self ..) s) λy=> ?_
  cases y with|done b=>exact .pure _|yield b=>exact vl f r (λz A=>h z (List.mem_cons_of_mem _ A)) b
theorem px{α:Type}{T e:QE}{C:QA}{o:Nat}{f:QC->QQ α}(hC:WT P T C)(hs:Sub P T o e)(h0:0<(lay P e).length)(hz:szEq P e=true)(h1:has1 P e=true)(hl:isRow P e=false->(lay P e).length=1)
  (h:Simple P (f (valP P e (C.extract o (o+(zc P e).size))))):Simple P (part e C o >>= f):=by
 unfold part isAgg;unfold valP at h;cases hR:isRow P e with
 | true=>
  obtain⟨d,hu,hd⟩:=fB hR;have hzi:=bW hz;rw[hR]at h;cases hq:P.info? e with
  |none=>simp[hq]at hzi
  | some i=>
   have hsz:i.size=(zc P e).size:=by simpa [hq] using hzi
   refine .program _ ?_
   show Simple P (((((match P.underlying e with | some d => Pure.pure d | none => stuck "no such type" : QQ TypeDesc) >>= _) : QQ Bool) >>= _) >>= f)
   rw[hu];cases d with
   |struct fs=>
    refine .program _ ?_
    show Simple P ((((match P.info? e with | some i => Pure.pure i | none => stuck "no such type" : QQ TypeInfo) >>= λ i => Pure.pure i.size) >>= λ n => Pure.pure (Value.agg (C.extract o (o + n)))) >>= f)
    rw[hq]
    show Simple P (f (.agg (C.extract o (o+i.size))))
    rw[hsz];exact h
   |array n e'=>
    refine .program _ ?_
    show Simple P ((((match P.info? e with | some i => Pure.pure i | none => stuck "no such type" : QQ TypeInfo) >>= λ i => Pure.pure i.size) >>= λ n => Pure.pure (Value.agg (C.extract o (o + n)))) >>= f)
    rw[hq]
    show Simple P (f (.agg (C.extract o (o+i.size))))
    rw[hsz];exact h
   |_=>cases hd
 | false=>
  obtain⟨d,hu,hd⟩:=gY hR h1;have hlen:=hl hR;have hle:=hs.le h0;rw[<- hC.layLen]at hle;rw[hlen]at hle;have hc:C[o]?=some (C[o]'(by omega)):=jE (by omega);have hzl:=Zd9 (P:=P) e;have hv:(C.extract o (o+(zc P e).size)).getD 0 undef=C[o]'(by omega):=by rw[jG,Array.getElem?_extract,if_pos (by omega),Nat.add_zero,hc];rfl
  rw[hR,Q2,hv]at h;refine .program _ ?_
  show Simple P (((((match P.underlying e with | some d => Pure.pure d | none => stuck "no such type" : QQ TypeDesc) >>= _) : QQ Bool) >>= _) >>= f)
  rw[hu];cases d with
  |struct fs=>cases hd
  |array n e'=>cases hd
  |_=>
   show Simple P ((match C[o]? with | some v => Pure.pure v | none => stuck "part: no such cell" : QQ QC) >>= f)
   rw[hc];exact h
theorem Jh{α:Type}{e:QE}{m:Nat}{f:Nat->QQ α}(J:(P.info? e).map (·.size)=some m)(h:Simple P (f m)):Simple P (sizeOf e >>= f):=by
 cases A:P.info? e with
 |none=>simp[A]at J
 |some i=>
  have:i.size=m:=by simpa [A] using J
  refine .program _ ?_
  show Simple P (((match P.info? e with | some i => Pure.pure i | none => stuck "no such type" : QQ TypeInfo) >>= λ i => Pure.pure i.size) >>= f)
  rw[A]
  show Simple P (f i.size)
  rw[this];exact h
theorem Zr8:∀(d:Nat) (T:QE),eqT P d T=true->∀(k:Nat) (C D:QA),WT P T C->WT P T D->Simple P (Op.equalIn (d+k) T (valP P T C) (valP P T D))
 |0,T,h,k,C,D,hC,hD=>by cases h
 | d+1,T,h,k,C,D,hC,hD=>by
  have hk:d+1+k=(d+k)+1:=by omega
  rw[hk];simp only[eqT]at h;split at h
  ·rename_i hu;have hl:=Zix h;have hR:isRow P T=false:=by unfold isRow;rw[hu]
   have c1:=hC.bool (o:=0) (by rw[hl];rfl);have c2:=hD.bool (o:=0) (by rw[hl];rfl);have v:∀{A:QA},A[0]?=some (.bool (bol A 0))->valP P T A=.bool (bol A 0):=λ{A} hA=>by
    unfold valP;rw[hR,Q2,jG,hA];rfl
   rw[v c1,v c2];unfold Op.equalIn;exact Zda hu (.pure _)
  ·rename_i kd hu;have hl:=Zix h;have hR:isRow P T=false:=by unfold isRow;rw[hu]
   have c1:=(hC.int (o:=0) (k:=kd) (by rw[hl];rfl)).1;have c2:=(hD.int (o:=0) (k:=kd) (by rw[hl];rfl)).1;have v:∀{A:QA},A[0]?=some (.int kd (num A 0))->valP P T A=.int kd (num A 0):=λ{A} hA=>by
    unfold valP;rw[hR,Q2,jG,hA];rfl
   rw[v c1,v c2];unfold Op.equalIn;refine Zda hu ?_;dsimp only;split<;>first|exact .pure _|exact .halt _
  ·rename_i n e hu;split at h
   ·rename_i n' e' m ha;obtain⟨hu',hm,hsub,h0,hz⟩:=nO ha;rw[hu]at hu';cases hu';simp only[Q7]at h;have hR:isRow P T=true:=by unfold isRow;rw[hu]
    have hzl:=Zd9 (P:=P) e;have hv:∀A,valP P T A=.agg A:=λA=>by unfold valP;rw[hR];rfl
    rw[hv,hv];have hwt:∀{A:QA},WT P T A->∀i,i<n->WT P e (A.extract (i*m) (i*m+(zc P e).size)):=λ{A} hA i hi=>hA.sub (hsub i hi) h0
    have hsz:(P.info? e).map (·.size)=some m:=by rw[bW hz,hm,hzl]
    unfold Op.equalIn;refine Zda hu ?_;dsimp only;refine Jh hsz ?_;refine .bind ?_ λr=> ?_
    ·simp only[Std.Legacy.Range.forIn_eq_forIn_range',Std.Legacy.Range.size,Nat.sub_zero,Nat.add_sub_cancel,Nat.div_one];refine vl _ _ (λi hi s=> ?_) _;have hi':i<n:=by simpa using List.mem_range'_1.1 hi
     refine px hC (hsub i hi') h0 hz (Yd8 h.2) (Zxk h.2) ?_;refine px hD (hsub i hi') h0 hz (Yd8 h.2) (Zxk h.2) ?_;refine .bind (Zr8 d e h.2 k _ _ (hwt hC i hi') (hwt hD i hi')) λb=> ?_
     split<;>exact .pure _
    ·split<;>exact .pure _
   ·cases h
  ·rename_i fs hu;simp only[Q7,Bool.not_eq_true',List.all_eq_true]at h;obtain⟨hst,hcov,hnm,hall⟩:=h;have hR:isRow P T=true:=by unfold isRow;rw[hu]
   have hv:∀A,valP P T A=.agg A:=λA=>by unfold valP;rw[hR];rfl
   have hfld:∀f∈fs.toList,Sub P T f.offset f.type/\0<(lay P f.type).length/\szEq P f.type=true/\eqT P d f.type=true:=λf hf=>by
    obtain⟨i,hi⟩:=List.mem_iff_getElem?.1 hf;have hilt:i<fs.size:=by have:=(List.getElem?_eq_some_iff.1 hi).1;simpa using this
    have hq:=hall i (List.mem_range.2 hilt);split at hq
    ·rename_i q e hfo;obtain⟨fs',fd,hu',hfd,rfl,rfl,hs,h0,hze⟩:=lX hfo;rw[hu]at hu';cases hu';have:fd=f:=by
      rw[<- Array.getElem?_toList]at hfd;rw[hfd]at hi;exact Q5 hi
     subst this;exact⟨hs,h0,hze,hq⟩
    ·cases hq
   rw[hv,hv];unfold Op.equalIn;refine Zda hu ?_;dsimp only;refine kI ?_;rw[hst];simp only[jA,if_false];refine .bind ?_ λr=> ?_
   ·rw[<- Array.forIn_toList];refine vl _ _ (λf hf s=> ?_) _;obtain⟨hs,h0,hz,hq⟩:=hfld f hf;split
    ·refine px hC hs h0 hz (Yd8 hq) (Zxk hq) ?_;refine px hD hs h0 hz (Yd8 hq) (Zxk hq) ?_;refine .bind (Zr8 d f.type hq k _ _ (hC.sub hs h0) (hD.sub hs h0)) λb=> ?_
     split<;>exact .pure _
    ·exact .pure _
   ·split<;>exact .pure _
  ·cases h
theorem Yc9(op:BinOp)(T:QE)(x y:QH)(k k':QM)(p q:Int):Simple P (eqGuard op T x y (.int k p) (.int k' q)):=by unfold eqGuard;cases op<;>exact .pure _
theorem Ybz(op:BinOp)(T:QE)(x y:QH)(p q:ByteArray):Simple P (eqGuard op T x y (.string p) (.string q)):=by unfold eqGuard;cases op<;>exact .pure _
theorem Yad(op:BinOp)(T:QE)(x y:QH)(p q:Bool):Simple P (eqGuard op T x y (.bool p) (.bool q)):=by unfold eqGuard;cases op<;>exact .pure _
theorem yu(op:BinOp)(k:QM)(x y:Int):Simple P (Op.intArith op k x y):=by unfold Op.intArith;split<;>first|exact .pure _|exact .halt _
theorem yv(op:BinOp)(k:QM)(x y:Int):Simple P (Op.intBits op k x y):=by unfold Op.intBits;dsimp only;split<;>first|exact .pure _|exact .halt _
theorem Ji(op:BinOp)(x y:Int):Simple P (Op.intCmp op x y):=by unfold Op.intCmp;split<;>first|exact .pure _|exact .halt _
theorem Jj(op:BinOp)(k:QM)(x y:Int):Simple P (Op.intDiv op k x y):=by
 unfold Op.intDiv;split
 ·exact ec _
 ·split<;>first|exact .pure _|exact .halt _
theorem Jk(op:BinOp)(k:QM)(x:Int)(yk:QM)(y:Int):Simple P (Op.shift op k x yk y):=by
 unfold Op.shift;split
 ·exact ec _
 ·dsimp only;split<;>first|exact .pure _|exact .halt _
theorem Jl(op:BinOp)(x y:ByteArray):Simple P (Op.stringOp op x y):=by
 unfold Op.stringOp;dsimp only;split
 ·split<;>first|exact .pure _|exact .halt _
 all_goals first|exact .pure _|exact .halt _
theorem Yrv(op:UnOp)(x:QC):Simple P (Op.unary op x):=by unfold Op.unary;split<;>first|exact yu _ _ _ _|exact yv _ _ _ _|exact .pure _|exact .halt _
theorem Jm(op:BinOp)(T:QE)(k k':QM)(p q:Int):Simple P (binOp op T (.int k p) (.int k' q)):=by cases op<;>unfold binOp<;>dsimp only<;>first|exact Jk _ _ _ _ _ | (split<;>first|exact .halt _|exact yu _ _ _ _|exact Jj _ _ _ _|exact yv _ _ _ _|exact Ji _ _ _)
theorem Jn(op:BinOp)(T:QE)(p q:ByteArray):Simple P (binOp op T (.string p) (.string q)):=by cases op<;>unfold binOp<;>exact Jl _ _ _
theorem Zsy{T:QE}(A:P.underlying T=some .bool)(p q:Bool):Simple P (Op.equal T (.bool p) (.bool q)):=by unfold Op.equal Op.maxDepth Op.equalIn;exact Zda A (.pure _)
theorem Jo{src dst:QE}{k k':QM}{n:Int}(A:has1 P src=true)(J:P.underlying dst=some (.int k)):Simple P (convert src dst (.int k' n)):=by obtain⟨d,L⟩:=zb A;unfold convert;refine Zda L (Zda J ?_);cases d<;>exact .pure _
theorem Ysx(k k':QM)(p q:Int):Simple P (Builtin.min2 (.int k p) (.int k' q)):=.pure _
theorem Ysc(k k':QM)(p q:Int):Simple P (Builtin.max2 (.int k p) (.int k' q)):=.pure _
end
end
end Go.Proofs.YtefjogahegolbaaGreatDoor.Vc
