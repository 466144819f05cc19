/- Code: what is known behind it. -/
import Derived.LoopNIn
import Derived.RangeFuncLeaves
import Derived.RangeFuncRecord
import Derived.Test.YtnhilgpdgicgfaaVeB
namespace Go.Proofs.Ytnhilgpdgicgfaa.Ve
open Go.RowKit
section
set_option linter.unusedVariables false
inductive Stp (S α:Type) where
 |more (s:S)
 |done (r:α)
def iterO{S α:Type}(f:S->Option (Stp S α)):Nat->S->Option α
 |0,_=>none
 |n+1,s=>match f s with|some (.more s')=>iterO f n s'|some (.done r)=>some r|none=>none
def foldI{S α X:Type}(f:X->S->Option (Stp S α)):List X->S->Option (Stp S α)
 |[],s=>some (.more s)
 |x::r,s=>match f x s with|some (.more s')=>foldI f r s'|some (.done a)=>some (.done a)|none=>none
inductive Plan where
 |one
 |two (p q:Plan)
 |loop (cs bs:List Nat) (p:Plan)
 |loopG (cs bs:List Nat) (g:Nat) (e:TypeId) (p:Plan)
 |iter (bs:List Nat) (p:Plan)
 |jump (l:Nat) (cs bs:List Nat) (p q:Plan)
 |sc (p:Plan)
 |loopR (cs bs:List Nat) (p:Plan)
 |loopGR (cs bs:List Nat) (g:Nat) (e:TypeId) (p:Plan)
 |loopB (cs bs:List Nat) (g:Nat) (e:TypeId) (p:Plan)
 |iterB (bs:List Nat) (g:Nat) (e:TypeId) (p:Plan)
 |loopM (cs bs:List Nat) (gs:List (Nat×TypeId)) (p:Plan)
 |iterL (bs:List Nat) (p:Plan)
 |iterA (bs:List Nat) (p:Plan)
 |iterW (bs:List Nat) (p:Plan)
 |loopF (cs bs:List Nat) (gs:List (Nat×TypeId)) (p:Plan)
 |ng (p:Plan)
def noIter:Plan->Bool
 |.one=>true
 |.two p q=>noIter p&&noIter q
 |.loop _ _ p=>noIter p
 |.loopG _ _ _ _ p=>noIter p
 |.loopR _ _ p=>noIter p
 |.loopGR _ _ _ _ p=>noIter p
 |.loopB _ _ _ _ p=>noIter p
 |.loopM _ _ _ p=>noIter p
 |.loopF _ _ _ p=>noIter p
 |.iter _ _=>false
 |.iterB _ _ _ _=>false
 |.iterL _ _=>false
 |.ng p=>noIter p
 |.iterA _ _=>false
 |.iterW _ _=>false
 |.jump _ _ _ p q=>noIter p&&noIter q
 |.sc p=>noIter p
def tupSl(P:Program)(T:TypeId):Bool:=match P.underlying T with|some (.tuple ts)=>ts.toList.any (λt=>(sliOf P t).isSome||hasSl P t)|_=>false
def anyNew(P:Program):List Oper->Bool
 |[]=>false
 |o::r=>(match o.op with | .alloc _=>true | .box _ _=>true | .makeSlice _ _ _=>true | .buildSlice _ _ _=>true | .call _=>(sliOf P o.type).isSome||(tupSl P o.type||hasSl P o.type)|_=>false)||anyNew P r
def anyCl(Γ:Cons):List Oper->Bool
 |[]=>false
 |o::r=>(match o.op with | .call c=>(match c.callee with | .value (.func f)=>(match Γ.n f with|some _=>true|none=>false)|_=>false)|_=>false)||anyCl Γ r
def anyInl(Γ:Cons):List Oper->Bool
 |[]=>false
 |o::r=>(match o.op with | .call c=>(match c.callee with | .value (.func f)=>(match Γ.x f with|some _=>true|none=>false)|_=>false)|_=>false)||anyInl Γ r
def anyVal(Γ:Cons):List Oper->Bool
 |[]=>false
 |o::r=>(match o.op with | .call c=>(match c.callee with | .value _=>true|_=>false)|_=>false)||anyVal Γ r
def cutB(bl:List Nat)(k:Nat):Nat->Bool
 |0=>true
 |n+1=>bif Nat.ble k n then Nat.beq (bl.getD n 0+1) (2^n)&&cutB bl k n else true
def cutAt(bl:List Nat):Nat->Nat
 |0=>0
 |n+1=>bif Nat.beq (bl.getD n 0+1) (2^n) then cutAt bl n else n+1
def guardsIn(k:Nat):List Oper->Bool
 |[]=>true
 |o::r=>(match o.guard with|some (j,_)=>Nat.blt j k|none=>true)&&guardsIn k r
def veCut(P:Program)(Γ:Cons)(ops:Array Oper){α:Type}(st:St)(K:St->Option α)(k:Nat):Option α:=
 bif (cutB (befs ops.toList []) k ops.size&&Nat.ble k ops.size)&&(edgesOk (ops.toList.take k) 0&&guardsIn k (ops.toList.take k)) then
  veDraw P Γ (ops.toList.take k) (befs (ops.toList.take k) []) st.h.length { st with h:=st.h++List.replicate ops.size .no }
   (λst1=>veOps P Γ ops st.h.length (ops.toList.drop k) k st1 K) (ops.toList.take k) 0 [] else none
def veReg (P:Program) (Γ:Cons) (ops:Array Oper) (draw:Bool) {α:Type} (st:St) (K:St→Option α):Option α:=
  bif draw then
    (bif edgesOk ops.toList 0 then bif anyInl Γ ops.toList then veCut P Γ ops st K (cutAt (befs ops.toList []) ops.size) else veDraw P Γ ops.toList (befs ops.toList []) st.h.length { st with h:=st.h++List.replicate ops.size .no } K ops.toList 0 [] else none)
  else
    (bif Γ.xb&&anyVal Γ ops.toList then veOps P Γ ops st.h.length ops.toList 0 { st with h:=st.h++List.replicate ops.size .no } K else bif anyCl Γ ops.toList then veOps P Γ ops st.h.length ops.toList 0 { st with h:=st.h++List.replicate (4*ops.size) .no } K else bif anyNew P ops.toList then veOps P Γ ops st.h.length ops.toList 0 { st with h:=st.h++List.replicate ops.size .no } K else veOps P Γ ops st.h.length ops.toList 0 st K)
def writes:Code->List Nat
 |.region _ ops _=>wrL ops.toList
 |.seq x y=>writes x++writes y
 |.cond _ x y=>writes x++writes y
 |.block _ x=>writes x
 |.loop x=>writes x
 |.scope x=>writes x
 |_=>[]
def forget(W:List Nat):List SV->Nat->List SV
 |[],_=>[]
 |v::r,i=>(bif elemN i W then .a .x else v)::forget W r (i+1)
def setMany{α:Type}:List α->List Nat->List α->List α
 |l,c::cs,v::vs=>setMany (l.set c v) cs vs
 |l,_,_=>l
def head(W cs bs:List Nat)(st:St)(s:List SV×List VB):St:={ s:=setMany (forget W st.s 0) cs s.1,h:=setMany st.h bs s.2,d:=bs }
def refLt(m:Nat):SA->Bool
 |.p n _ _=>Nat.blt n m
 |.w n=>Nat.blt n m
 |.c _ ns=>ns.all (Nat.blt · m)
 |.l n=>Nat.blt n m
 |.q n _ _=>Nat.blt n m
 |.e n=>Nat.blt n m
 |.m n=>Nat.blt n m
 |.k n _ _ _=>Nat.blt n m
 |.r _ _ ns=>ns.all (λq=>Nat.blt q.2 m)
 |_=>true
def refLtV(m:Nat):SV->Bool
 |.a y=>refLt m y
 |.t l=>l.all (refLt m)
def refLtB(m:Nat):VB->Bool
 |.one y _=>refLt m y
 |_=>true
def getS(s:List SV):List Nat->List SV
 |[]=>[]
 |c::cs=>s.getD c (.a .x)::getS s cs
def dirtyOk(m:Nat)(bs:List Nat):List Nat->Bool
 |[]=>true
 |n::r=>(elemN n bs || !Nat.blt n m)&&dirtyOk m bs r
def tail(m:Nat)(cs bs:List Nat)(st:St):Option (List SV×List VB):=
 bif dirtyOk m bs st.d&&((getS st.s cs).all (refLtV m)&&(getH st.h bs).all (refLtB m)) then some (getS st.s cs,getH st.h bs) else none
def moreStp{S X:Type}:Option S->Option (Stp S X)
 |some s=>some (.more s)
 |none=>none
def doneStp{S:Type}(e:Exit):Option S->Option (Stp S (Exit×S))
 |some s=>some (.done (e,s))
 |none=>none
abbrev LS:=List SV×List VB
def kBody(m:Nat)(cs bs:List Nat)(e:Exit)(st':St):Option (Stp LS (Exit×LS)):=match e with|.normal=>moreStp (tail m cs bs st')|.panic _=>none|.outgrown=>none|e=>doneStp e (tail m cs bs st')
def prepG(g:Nat)(e:TypeId)(st:St):Option St:=match ownV st.h e (asA (st.s.getD g (.a .x))) with|some (n,len,C)=>some { s:=st.s.set g (.a (.l st.h.length)),h:=spend n st.h++[.sl .own len C e],d:=n.toList++st.d }|none=>none
def tailG(m:Nat)(cs bs:List Nat)(g:Nat)(e:TypeId)(st:St):Option LS:=match asA (st.s.getD g (.a .x)) with
 |.l n=>(match st.h[n]? with
  |some (.sl .own len C e')=>bif Nat.beq e e'&&(Nat.ble m n&&(dirtyOk m bs st.d&&((getS st.s cs).all (refLtV m)&&(getH st.h bs).all (refLtB m)))) then some (getS st.s cs++[.a (.l m)],getH st.h bs++[.sl .own len C e]) else none
  |_=>none)
 |_=>none
def prepM:List (Nat×TypeId)->St->Option St
 |[],st=>some st
 |(g,e)::r,st=>match prepG g e st with|some st1=>prepM r st1|none=>none
def grownM (m : Nat) (st : St) : List (Nat × TypeId) → Option (List Nat × List VB)
 |[]=>some ([],[])
 | (g, e) :: r => match asA (st.s.getD g (.a .x)) with
  | .l n => (match st.h[n]? with
   |some (.sl .own len C e')=>bif Nat.beq e e'&&Nat.ble m n then (match grownM m st r with
    |some q=>some (n::q.1,.sl .own len C e::q.2)
    |none=>none) else none
   |_=>none)
  |_=>none
def mS(m n:Nat):List SV:=(List.range' m n).map λk=>.a (.l k)
def tailM(m:Nat)(cs bs:List Nat)(gs:List (Nat×TypeId))(st:St):Option LS:=match grownM m st gs with|some q=>bif nodupN q.1&&(dirtyOk m bs st.d&&((getS st.s cs).all (refLtV m)&&(getH st.h bs).all (refLtB m))) then some (getS st.s cs++mS m gs.length,getH st.h bs++q.2) else none|none=>none
def kBodyM(m:Nat)(cs bs:List Nat)(gs:List (Nat×TypeId))(e:Exit)(st':St):Option (Stp LS (Exit×LS)):=match e with|.normal=>moreStp (tailM m cs bs gs st')|.panic _=>none|.outgrown=>none|e=>doneStp e (tailM m cs bs gs st')
def grownF (m : Nat) (st : St) : List (Nat × TypeId) → Option (List Nat × List VB)
 |[]=>some ([],[])
 | (g, t) :: r => match asA (st.s.getD g (.a .x)) with
  | .w n => (match st.h[n]? with
   |some (.row C t')=>bif Nat.beq t t'&&Nat.ble m n then (match grownF m st r with
    |some q=>some (n::q.1,.row C t::q.2)
    |none=>none) else none
   |_=>none)
  |_=>none
def mW(m n:Nat):List SV:=(List.range' m n).map λk=>.a (.w k)
def tailF(m:Nat)(cs bs:List Nat)(gs:List (Nat×TypeId))(st:St):Option LS:=match grownF m st gs with|some q=>bif nodupN q.1&&(dirtyOk m bs st.d&&((getS st.s cs).all (refLtV m)&&(getH st.h bs).all (refLtB m))) then some (getS st.s cs++mW m gs.length,getH st.h bs++q.2) else none|none=>none
def kBodyF(m:Nat)(cs bs:List Nat)(gs:List (Nat×TypeId))(e:Exit)(st':St):Option (Stp LS (Exit×LS)):=match e with|.normal=>moreStp (tailF m cs bs gs st')|.panic _=>none|.outgrown=>none|e=>doneStp e (tailF m cs bs gs st')
def roomF(n:Nat)(st:St):St:={ s:=st.s,h:=st.h++List.replicate n .no,d:=st.d }
def kFirst{α:Type}(m:Nat)(cs bs:List Nat)(gs:List (Nat×TypeId))(st:St)(go:LS->Option α)(K:Exit->St->Option α)(e:Exit)(st':St):Option α:=match e with
 |.normal=>(match tailF m cs bs gs st' with
  |some s=>go s
  |none=>none)
 |e=>K e { s:=st'.s,h:=st'.h,d:=st'.d++st.d }
def nilAt:List Value->Nat->Option Nat
 |[],_=>none
 |v::r,i=>match v with|.slice none 0 0=>some i|_=>nilAt r (i+1)
def boxIn:SA->Option (SA×(Nat->SA))
 |.l n=>some (.l n,λm=>.l m)
 |.v x=>some (.v x,λm=>.l m)
 |.r D T []=>(match nilAt D.toList 0 with|some o=>some (.v nilS,λm=>.r D T [(o,m)])|none=>none)
 |.r D T [(o,n)]=>some (.l n,λm=>.r D T [(o,m)])
 |_=>none
def boxV(h:List VB)(e:TypeId)(g:Nat):Option (TypeId×(Nat->SA)×Option Nat×Nat×Array Value):=match h[g]? with
 |some (.one y T)=>(match boxIn y with
  |some (z,f)=>(match ownV h e z with|some (n,len,C)=>some (T,f,n,len,C)|none=>none)
  |none=>none)
 |_=>none
def prepB(g:Nat)(e:TypeId)(st:St):Option St:=match boxV st.h e g with|some (T,f,n,len,C)=>some { s:=st.s,h:=(spend n st.h).set g (.one (f st.h.length) T)++[.sl .own len C e],d:=g::(n.toList++st.d) }|none=>none
def boxY(st:St)(g:Nat):SA:=match st.h[g]? with|some (.one y _)=>y|_=>.x
def sameBox(q:Array Value->Array Value->Bool):SA->SA->Option (Nat×Bool)
 |.l _,.l n=>some (n,true)
 |.r D T [(o,_)],.r D' T' [(o',n)]=>bif Nat.beq T T'&&Nat.beq o o' then some (n,q D' D) else none
 |_,_=>none
def grownB(q:Array Value->Array Value->Bool)(y1:SA)(m g:Nat)(e:TypeId)(h:List VB):Option VB:=match h[g]? with
 | some (.one y _)=>(match sameBox q y1 y with
  |some (n,ok)=>bif ok then (match h[n]? with
   |some (.sl .own len C e')=>bif Nat.beq e e'&&Nat.ble m n then some (.sl .own len C e) else none
   |_=>none) else none
  |none=>none)
 |_=>none
def tailB(q:Array Value->Array Value->Bool)(y1:SA)(m:Nat)(cs bs:List Nat)(g:Nat)(e:TypeId)(st:St):Option LS:=match grownB q y1 m g e st.h with|some b=>bif dirtyOk m (g::bs) st.d&&((getS st.s cs).all (refLtV m)&&(getH st.h bs).all (refLtB m)) then some (getS st.s cs,getH st.h bs++[b]) else none|none=>none
def kBodyB0(q:Array Value->Array Value->Bool)(y1:SA)(m:Nat)(cs bs:List Nat)(g:Nat)(t:TypeId)(e:Exit)(st':St):Option (Stp LS (Exit×LS)):=match e with|.normal=>moreStp (tailB q y1 m cs bs g t st')|.panic _=>none|.outgrown=>none|e=>doneStp e (tailB q y1 m cs bs g t st')
def okBox(q:Array Value->Array Value->Bool)(y1:SA)(g:Nat)(h:List VB):Bool:=match h[g]? with
 |some (.one y _)=>(match sameBox q y1 y with
  |some (_,ok)=>ok
  |none=>false)
 |_=>false
def kBodyB(q:Array Value->Array Value->Bool)(y1:SA)(m:Nat)(cs bs:List Nat)(g:Nat)(t:TypeId)(e:Exit)(st':St):Option (Stp LS (Exit×LS)):=match e with|.panic _=>none|.outgrown=>none|e=>bif okBox q y1 g st'.h then kBodyB0 (λ_ _=>true) y1 m cs bs g t e st' else none
theorem same_q{q:Array Value->Array Value->Bool}{y1 y:SA}{n:Nat}{ok:Bool}(h:sameBox (λ_ _=>true) y1 y=some (n,ok)):∃ok',sameBox q y1 y=some (n,ok'):=by
 unfold sameBox at h;split at h
 ·cases h;exact⟨true,rfl⟩
 ·rename_i D T o _ D' T' o' n';unfold sameBox;dsimp only;cases hb:(Nat.beq T T'&&Nat.beq o o') with
  |false=>rw[hb]at h;cases h
  |true=>rw[hb]at h;cases h;exact⟨_,rfl⟩
 ·cases h
theorem grown_q{q:Array Value->Array Value->Bool}{y1:SA}{m g:Nat}{e:TypeId}{h:List VB}(h0:okBox q y1 g h=true):grownB (λ_ _=>true) y1 m g e h=grownB q y1 m g e h:=by
 unfold okBox at h0;unfold grownB;split at h0
 case h_2=>cases h0
 rename_i y T hg
 try rw[hg]
 try dsimp only
 cases hs:sameBox (λ_ _=>true) y1 y with
 | none=>
  split at h0
  case h_2=>cases h0
  rename_i n ok hs2;exfalso;unfold sameBox at hs hs2;split at hs2
  ·cases hs
  ·rename_i D T o _ D' T' o' n';dsimp only at hs;cases hb:(Nat.beq T T'&&Nat.beq o o') with
   |false=>rw[hb]at hs2;cases hs2
   |true=>rw[hb]at hs;cases hs
  ·cases hs2
 | some x=>
  obtain⟨n,ok⟩:=x;obtain⟨ok',hs'⟩:=same_q (q:=q) hs;have hk:ok=true:=by
   unfold sameBox at hs;split at hs
   ·cases hs;rfl
   ·rename_i D T o _ D' T' o' n';cases hb:(Nat.beq T T'&&Nat.beq o o') with
    |false=>rw[hb]at hs;cases hs
    |true=>rw[hb]at hs;cases hs;rfl
   ·cases hs
  rw[hs']at h0|-
  dsimp only at h0|-
  rw[h0,hk]
theorem kBodyB_q{q:Array Value->Array Value->Bool}{y1:SA}{m:Nat}{cs bs:List Nat}{g:Nat}{t:TypeId}{e:Exit}{st':St}{r:Stp LS (Exit×LS)}(h:kBodyB q y1 m cs bs g t e st'=some r):kBodyB0 q y1 m cs bs g t e st'=some r:=by
 have key:okBox q y1 g st'.h=true->tailB (λ_ _=>true) y1 m cs bs g t st'=tailB q y1 m cs bs g t st':=λh0=>by unfold tailB;rw[grown_q h0]
 unfold kBodyB at h;split at h
 ·cases h
 ·cases h
 ·cases hk:okBox q y1 g st'.h with
  |false=>rw[hk]at h;cases h
  |true=>
   rw[hk,cond_true]at h;unfold kBodyB0 at h|-
   rw[key hk]at h;exact h
def kBodyG(m:Nat)(cs bs:List Nat)(g:Nat)(t:TypeId)(e:Exit)(st':St):Option (Stp LS (Exit×LS)):=match e with|.normal=>moreStp (tailG m cs bs g t st')|.panic _=>none|.outgrown=>none|e=>doneStp e (tailG m cs bs g t st')
def doneI{S α:Type}(e:Exit):Option S->Option (Stp S ((Exit×S)⊕α))
 |some s=>some (.done (.inl (e,s)))
 |none=>none
def doneA{S α:Type}:Option α->Option (Stp S ((Exit×S)⊕α))
 |some r=>some (.done (.inr r))
 |none=>none
def fixR(bs:List Nat)(st st':St):St:={ s:=st'.s,h:=st'.h,d:=st'.d++(bs++st.d) }
def kBodyR{α:Type}(m:Nat)(cs bs:List Nat)(st:St)(K:Exit->St->Option α)(e:Exit)(st':St):Option (Stp LS ((Exit×LS)⊕α)):=match e with|.normal=>moreStp (tail m cs bs st')|.panic _=>none|.outgrown=>none|.ret=>doneA (K .ret (fixR bs st st'))|e=>doneI e (tail m cs bs st')
def kBodyGR{α:Type}(m:Nat)(cs bs:List Nat)(g:Nat)(t:TypeId)(st:St)(K:Exit->St->Option α)(e:Exit)(st':St):Option (Stp LS ((Exit×LS)⊕α)):=match e with|.normal=>moreStp (tailG m cs bs g t st')|.panic _=>none|.outgrown=>none|.ret=>doneA (K .ret (fixR (bs++[m]) st st'))|e=>doneI e (tailG m cs bs g t st')
def bindR{α:Type}(o:Option ((Exit×LS)⊕α))(K:Exit->LS->Option α):Option α:=match o with|some (.inl r)=>K r.1 r.2|some (.inr a)=>some a|none=>none
def kBodyL(l m:Nat)(cs bs:List Nat)(e:Exit)(st':St):Option (Stp LS (Exit×LS)):=match e with|.goto l'=>bif Nat.beq l' l then moreStp (tail m cs bs st') else none|.panic _=>none|.outgrown=>none|e=>doneStp e (tail m cs bs st')
def kScope{α:Type}(K:Exit->St->Option α)(e:Exit)(st':St):Option α:=match e with|.goto _=>none|e=>K e st'
def afterL(l:Nat):Code->Option Code
 |.seq (.label l') z=>bif Nat.beq l' l then some z else none
 |_=>none
def kSeq{α:Type}(f:St->(Exit->St->Option α)->Option α)(K:Exit->St->Option α)(e:Exit)(st':St):Option α:=match e with|.normal=>f st' K|e=>K e st'
def kBlock{α:Type}(id:Nat)(K:Exit->St->Option α)(e:Exit)(st':St):Option α:=match e with|.exit id'=>bif Nat.beq id' id then K .normal st' else K (.exit id') st'|e=>K e st'
abbrev BS:=List VB
def rowsAll(h:List VB):List Nat->Bool
 |[]=>true
 |n::r=>(match h[n]? with|some (.row _ _)=>true|_=>false)&&rowsAll h r
def noOwn:List VB->Bool
 |[]=>true
 |b::r=>(match b with | .sl .own _ _ _=>false|_=>true)&&noOwn r
theorem noOwn_ne:∀{h:List VB},noOwn h=true->∀(n len:Nat) (C:Array Value) (e:TypeId),h[n]?≠some (.sl .own len C e)
 |[],_,n,_,_,_,hn=>by simp at hn
 |b::r,hb,0,len,C,e,hn=>by
  simp only[List.getElem?_cons_zero,Option.some.injEq]at hn;subst hn;simp[noOwn]at hb
 |b::r,hb,n+1,len,C,e,hn=>by
  simp only[noOwn,Bool.and_eq_true]at hb;exact noOwn_ne hb.2 n len C e (by simpa using hn)
def cellAll(h:List VB):List Nat->Bool
 |[]=>true
 |n::r=>(match h[n]? with|some (.row _ _)=>true|some (.one _ _)=>true|_=>false)&&cellAll h r
def wrAll(h:List VB):List Nat->Bool
 |[]=>true
 |n::r=>(match h[n]? with|some (.row _ _)=>true|some (.one _ _)=>true|some (.sl .lent _ _ _)=>true|_=>false)&&wrAll h r
def lentPos(h:List VB):List Nat->Bool
 |[]=>true
 |n::r=>(match h[n]? with|some (.sl .lent len _ _)=>Nat.blt 0 len&&lentPos h r|_=>lentPos h r)
def apart(ns:List Nat):List Nat->Bool
 |[]=>true
 |b::r=> !elemN b ns&&apart ns r
def asgL:List Oper->Option (List (Nat×Nat))
 |[]=>some []
 |⟨some d,.assign (.tmp p),_,_,_,none⟩::r=>(match asgL r with|some l=>some ((d,p)::l)|none=>none)
 |_=>none
def asgOf:Code->Option (List (Nat×Nat))
 |.skip=>some []
 |.region _ ops false=>asgL ops.toList
 |_=>none
def asgR:Code->Option (List (Nat×Nat)×Array Oper)
 |.seq a (.region _ ops false)=>(match asgOf a with|some l=>some (l,ops)|none=>none)
 |_=>none
def kAsg{α:Type}(m:Nat)(k:St->Option α)(st:St):Option α:=bif st.d.all (Nat.ble m) then k st else none
def runAsg:List (Nat×Nat)->List SV->List SV
 |[],s=>s
 |(d,p)::r,s=>runAsg r (s.set d (s.getD p (.a .x)))
def setPs:List SV->List Nat->List SA->List SV
 |s,p::ps,y::ys=>setPs (s.set p (.a y)) ps ys
 |s,_,_=>s
def headI(bs ps:List Nat)(l:List (Nat×Nat))(st:St)(ys:List SA)(hb:BS):St:={ s:=runAsg l (setPs st.s ps ys),h:=setMany st.h bs hb,d:=[] }
def tailI(m:Nat)(bs:List Nat)(st:St):Option BS:=
 bif dirtyOk m bs st.d&&(getH st.h bs).all (refLtB m) then some (getH st.h bs) else none
def kBodyI(m:Nat)(bs:List Nat)(e:Exit)(st':St):Option (Stp BS (Exit×BS)):=match e with|.normal=>moreStp (tailI m bs st')|.ret=>doneStp .ret (tailI m bs st')|.exit id=>doneStp (.exit id) (tailI m bs st')|_=>none
def tailIB(q:Array Value->Array Value->Bool)(y1:SA)(m:Nat)(bs:List Nat)(g:Nat)(e:TypeId)(st:St):Option BS:=match grownB q y1 m g e st.h with|some b=>bif dirtyOk m (g::bs) st.d&&(getH st.h bs).all (refLtB m) then some (getH st.h bs++[b]) else none|none=>none
def kBodyIB0(q:Array Value->Array Value->Bool)(y1:SA)(m:Nat)(bs:List Nat)(g:Nat)(t:TypeId)(e:Exit)(st':St):Option (Stp BS (Exit×BS)):=match e with|.normal=>moreStp (tailIB q y1 m bs g t st')|.ret=>doneStp .ret (tailIB q y1 m bs g t st')|.exit id=>doneStp (.exit id) (tailIB q y1 m bs g t st')|_=>none
def kBodyIB(q:Array Value->Array Value->Bool)(y1:SA)(m:Nat)(bs:List Nat)(g:Nat)(t:TypeId)(e:Exit)(st':St):Option (Stp BS (Exit×BS)):=match e with|.panic _=>none|.outgrown=>none|e=>bif okBox q y1 g st'.h then kBodyIB0 (λ_ _=>true) y1 m bs g t e st' else none
theorem kBodyIB_q{q:Array Value->Array Value->Bool}{y1:SA}{m:Nat}{bs:List Nat}{g:Nat}{t:TypeId}{e:Exit}{st':St}{r:Stp BS (Exit×BS)}(h:kBodyIB q y1 m bs g t e st'=some r):kBodyIB0 q y1 m bs g t e st'=some r:=by
 have key:okBox q y1 g st'.h=true->tailIB (λ_ _=>true) y1 m bs g t st'=tailIB q y1 m bs g t st':=λh0=>by unfold tailIB;rw[grown_q h0]
 unfold kBodyIB at h;split at h
 ·cases h
 ·cases h
 ·cases hk:okBox q y1 g st'.h with
  |false=>rw[hk]at h;cases h
  |true=>
   rw[hk,cond_true]at h;unfold kBodyIB0 at h|-
   rw[key hk]at h;exact h
def leftI(bs:List Nat)(st:St)(hb:BS):St:={ s:=st.s,h:=setMany st.h bs hb,d:=bs++st.d }
def bindI{α:Type}(o:Option (Stp BS (Exit×BS)))(K1:BS->Option α)(K2:Exit->BS->Option α):Option α:=match o with|some (.more hb)=>K1 hb|some (.done x)=>K2 x.1 x.2|none=>none
def spendB:VB->VB
 |.sl .own _ _ _=>.sp
 |b=>b
def ownIx:List VB->Nat->List Nat
 |[],_=>[]
 |b::r,i=>match b with|.sl .own _ _ _=>i::ownIx r (i+1)|_=>ownIx r (i+1)
def spendSt(st:St):St:={ s:=st.s,h:=st.h.map spendB,d:=ownIx st.h 0++st.d }
def lendV:VB->VB
 |.sl .own len C e=>.sl .lent len C e
 |b=>b
def lendS(st:St):St:={ s:=st.s,h:=st.h.map lendV,d:=st.d }
def reown:List VB->List VB->List VB
 |a::r,b::r'=>(match a,b with
  |.sl .own _ _ _,.sl .lent len C e=>.sl .own len C e
  |_,b=>b)::reown r r'
 |_,l=>l
def reS(st0 st:St):St:={ s:=st.s,h:=reown st0.h st.h,d:=st.d }
def kNoGoto{α:Type}(K:Exit->St->Option α)(e:Exit)(st:St):Option α:=match e with|.goto _=>none|e=>K e st
def iterOf(Γ:Cons)(h:List VB):SA->Option (List Nat×Yields)
 |.c f ns=>(match Γ.i f with
  |some I=>(match I (getH h ns) h with|some Y=>some (ns,Y)|none=>none)
  |none=>none)
 |_=>none
def left(W cs bs:List Nat)(st:St)(s:LS):St:={ s:=setMany (forget W st.s 0) cs s.1,h:=setMany st.h bs s.2,d:=bs++st.d }
def bindX{α:Type}(o:Option (Exit×LS))(K:Exit->LS->Option α):Option α:=match o with|some r=>K r.1 r.2|none=>none
def veC (P:Program) (Γ:Cons) (N:Nat):Code→Plan→(α:Type)→St→(Exit→St→Option α)→Option α
 |.skip,_,_,st,K=>K .normal st
 |.region _ ops draw,_,_,st,K=>veReg P Γ ops draw st (K .normal)
 |.seq x y,.two p q,α,st,K=>veC P Γ N x p α st (kSeq (veC P Γ N y q α) K)
 |.cond c x y,.two p q,α,st,K=>(match asA (evO st.s c) with
  |.b t=>bif t then veC P Γ N x p α st K else veC P Γ N y q α st K
  |_=>none)
 |.block id x,p,α,st,K=>veC P Γ N x p α st (kBlock id K)
 | .loop x,.loop cs bs p,α,st,K=>
  bif cs.all (elemN · (writes x)) then
   bindX (iterO (λs=>veC P Γ N x p (Stp LS (Exit×LS)) (head (writes x) cs bs st s) (kBody st.h.length cs bs)) N (getS st.s cs,getH st.h bs)) λe s=>K e (left (writes x) cs bs st s) else none
 | .loop x,.loopG cs bs g e p,α,st,K=>(match prepG g e st with
  | some st1=>
   bif cs.all (elemN · (writes x))&&(elemN g (writes x)&&(!elemN g cs&&bs.all (Nat.blt · st.h.length))) then
    bindX (iterO (λs=>veC P Γ N x p (Stp LS (Exit×LS)) (head (writes x) (cs++[g]) (bs++[st.h.length]) st1 s) (kBodyG st.h.length cs bs g e)) N (getS st1.s (cs++[g]),getH st1.h (bs++[st.h.length]))) λe s=>K e (left (writes x) (cs++[g]) (bs++[st.h.length]) st1 s) else none
  |none=>none)
 | .loop x,.loopR cs bs p,α,st,K=>
  bif cs.all (elemN · (writes x)) then
   bindR (iterO (λs=>veC P Γ N x p (Stp LS ((Exit×LS)⊕α)) (head (writes x) cs bs st s) (kBodyR st.h.length cs bs st K)) N (getS st.s cs,getH st.h bs)) λe s=>K e (left (writes x) cs bs st s) else none
 | .loop x,.loopGR cs bs g e p,α,st,K=>(match prepG g e st with
  | some st1=>
   bif cs.all (elemN · (writes x))&&(elemN g (writes x)&&(!elemN g cs&&bs.all (Nat.blt · st.h.length))) then
    bindR (iterO (λs=>veC P Γ N x p (Stp LS ((Exit×LS)⊕α)) (head (writes x) (cs++[g]) (bs++[st.h.length]) st1 s) (kBodyGR st.h.length cs bs g e st1 K)) N (getS st1.s (cs++[g]),getH st1.h (bs++[st.h.length]))) λe s=>K e (left (writes x) (cs++[g]) (bs++[st.h.length]) st1 s) else none
  |none=>none)
 | .loop x,.loopF cs bs gs p,α,st,K=>
   bif cs.all (elemN · (writes x))&&(gs.all (λq=>elemN q.1 (writes x) && !elemN q.1 cs)&&(nodupN (gs.map (·.1))&&bs.all (Nat.blt · st.h.length))) then
    veC P Γ N x p α { s:=st.s,h:=st.h,d:=[] } (kFirst st.h.length cs bs gs st (λs0=>bindX (iterO (λs=>veC P Γ N x p (Stp LS (Exit×LS)) (head (writes x) (cs++gs.map (·.1)) (bs++List.range' st.h.length gs.length) (roomF gs.length st) s) (kBodyF st.h.length cs bs gs)) N s0) λe s=>K e (left (writes x) (cs++gs.map (·.1)) (bs++List.range' st.h.length gs.length) (roomF gs.length st) s)) K) else none
 | .loop x,.loopM cs bs gs p,α,st,K=>(match prepM gs st with
  | some st1=>
   bif cs.all (elemN · (writes x))&&(gs.all (λq=>elemN q.1 (writes x) && !elemN q.1 cs)&&(nodupN (gs.map (·.1))&&bs.all (Nat.blt · st.h.length))) then
    bindX (iterO (λs=>veC P Γ N x p (Stp LS (Exit×LS)) (head (writes x) (cs++gs.map (·.1)) (bs++List.range' st.h.length gs.length) st1 s) (kBodyM st.h.length cs bs gs)) N (getS st1.s (cs++gs.map (·.1)),getH st1.h (bs++List.range' st.h.length gs.length))) λe s=>K e (left (writes x) (cs++gs.map (·.1)) (bs++List.range' st.h.length gs.length) st1 s) else none
  |none=>none)
 | .loop x,.loopB cs bs g e p,α,st,K=>(match prepB g e st with
  | some st1=>
   bif cs.all (elemN · (writes x))&&(Nat.blt g st.h.length&&(!elemN g bs&&bs.all (Nat.blt · st.h.length))) then
    bindX (iterO (λs=>veC P Γ N x p (Stp LS (Exit×LS)) (head (writes x) cs (bs++[st.h.length]) st1 s) (kBodyB Γ.e (boxY st1 g) st.h.length cs bs g e)) N (getS st1.s cs,getH st1.h (bs++[st.h.length]))) λe s=>K e (left (writes x) cs (bs++[st.h.length]) st1 s) else none
  |none=>none)
 | .rangeFunc g0 ps as x,.iterB bs g e p,_,st0,K=>(match prepB g e st0 with
  | some st=>(match iterOf Γ st.h (asA (evO st.s g0)),asgOf as with
   | some (ns,Y),some l=>
    bif Y.ok then (bif rowsAll st.h ns&&(rowsAll st.h bs&&(apart ns bs&&(noIter p&&(softT P e&&(noOwn (st.h.take st0.h.length)&&(bs.all (Nat.blt · st0.h.length)&&Nat.blt g st0.h.length)))))) then
     bindI (foldI (λy hb=>bif Nat.beq (Y.enc y).length ps.toList.length then veC P Γ N x p (Stp BS (Exit×BS)) (headI (bs++[st0.h.length]) ps.toList l st (Y.enc y) hb) (kBodyIB Γ.e (boxY st g) st0.h.length bs g e) else none) Y.xs (getH st.h (bs++[st0.h.length]))) (λhb=>K .normal (leftI (bs++[st0.h.length]) st hb)) (λe hb=>K e (leftI (bs++[st0.h.length]) st hb)) else none) else none
   |_,_=>none)
  |none=>none)
 | .rangeFunc g ps as x,.iterL bs p,_,st0,K=>let st:=lendS st0;(match iterOf Γ st.h (asA (evO st.s g)),asgOf as with
  | some (ns,Y),some l=>
   bif Y.ok then (bif cellAll st.h ns&&cellAll st.h bs&&apart ns bs&&noIter p&&noOwn st.h then
    bindI (foldI (λy hb=>bif Nat.beq (Y.enc y).length ps.toList.length then veC P Γ N x p (Stp BS (Exit×BS)) (headI bs ps.toList l st (Y.enc y) hb) (kBodyI st.h.length bs) else none) Y.xs (getH st.h bs)) (λhb=>K .normal (leftI bs st0 hb)) (λe hb=>K e (leftI bs st0 hb)) else none) else none
  |_,_=>none)
 | .rangeFunc g ps as x,.iterW bs p,_,st0,K=>let st:=lendS st0;(match iterOf Γ st.h (asA (evO st.s g)),asgOf as with
  | some (ns,Y),some l=>
   bif Y.ok then (bif lentPos st.h bs then (bif rowsAll st.h ns&&wrAll st.h bs&&apart ns bs&&noIter p&&noOwn st.h then
    bindI (foldI (λy hb=>bif Nat.beq (Y.enc y).length ps.toList.length then veC P Γ N x p (Stp BS (Exit×BS)) (headI bs ps.toList l st (Y.enc y) hb) (kBodyI st.h.length bs) else none) Y.xs (getH st.h bs)) (λhb=>K .normal (reS st0 (leftI bs st hb))) (λe hb=>K e (reS st0 (leftI bs st hb))) else none) else none) else none
  |_,_=>none)
 | .rangeFunc g ps as x,.iterA bs p,_,st0,K=>let st:=lendS st0;(match iterOf Γ st.h (asA (evO st.s g)),asgR as with
  | some (ns,Y),some (l,ops)=>
   bif Y.ok then (bif cellAll st.h ns&&cellAll st.h bs&&apart ns bs&&noIter p&&noOwn st.h then
    bindI (foldI (λy hb=>bif Nat.beq (Y.enc y).length ps.toList.length then veReg P Γ ops false (headI bs ps.toList l st (Y.enc y) hb) (kAsg st.h.length λst1=>veC P Γ N x p (Stp BS (Exit×BS)) st1 (kBodyI st.h.length bs)) else none) Y.xs (getH st.h bs)) (λhb=>K .normal (leftI bs st0 hb)) (λe hb=>K e (leftI bs st0 hb)) else none) else none
  |_,_=>none)
 | .rangeFunc g ps as x,.iter bs p,_,st0,K=>let st:=spendSt st0;(match iterOf Γ st.h (asA (evO st.s g)),asgOf as with
  | some (ns,Y),some l=>
   bif Y.ok then (bif rowsAll st.h ns&&rowsAll st.h bs&&apart ns bs&&noIter p&&noOwn st.h then
    bindI (foldI (λy hb=>bif Nat.beq (Y.enc y).length ps.toList.length then veC P Γ N x p (Stp BS (Exit×BS)) (headI bs ps.toList l st (Y.enc y) hb) (kBodyI st.h.length bs) else none) Y.xs (getH st.h bs)) (λhb=>K .normal (leftI bs st hb)) (λe hb=>K e (leftI bs st hb)) else none) else none
  |_,_=>none)
 |.exit id,_,_,st,K=>K (.exit id) st
 |.scope x,.ng p,α,st,K=>veC P Γ N x p α st (kNoGoto K)
 |.label _,_,_,st,K=>K .normal st
 |.goto l,_,_,st,K=>K (.goto l) st
 |.ret,_,_,st,K=>K .ret st
 |_,_,_,_,_=>none
def stepV(P:Program)(Γ:Cons)(N:Nat)(x:Code)(p:Plan)(cs bs:List Nat)(st:St)(s:LS):Option (Stp LS (Exit×LS)):=
 veC P Γ N x p (Stp LS (Exit×LS)) (head (writes x) cs bs st s) (kBody st.h.length cs bs)
def stepVJ(P:Program)(Γ:Cons)(N:Nat)(z:Code)(q:Plan)(l:Nat)(cs bs:List Nat)(st:St)(s:LS):Option (Stp LS (Exit×LS)):=
 veC P Γ N z q (Stp LS (Exit×LS)) (head (writes z) cs bs st s) (kBodyL l st.h.length cs bs)
def veSc (P:Program) (Γ:Cons) (N:Nat):Code→Plan→(α:Type)→St→(Exit→St→Option α)→Option α
 |.seq x y,.two p q,α,st,K=>veC P Γ N x p α st (kSeq (veSc P Γ N y q α) K)
 |.seq x y,.jump l cs bs p q,α,st,K=>(match afterL l y with
  | some z=>bif cs.all (elemN · (writes z)) then
    veC P Γ N x p α st (kSeq (λst1 K1=>bindX (iterO (stepVJ P Γ N z q l cs bs st1) N (getS st1.s cs,getH st1.h bs)) λe s=>K1 e (left (writes z) cs bs st1 s)) K) else none
  |none=>none)
 |_,_,_,_,_=>none
structure JD where
 l:Nat
 z:Code
 cs:List Nat
 bs:List Nat
 q:Plan
def jd:Code->Plan->Option JD
 |.seq x y,.two _ q=>(match jd y q with|some j=>bif (findLabel x j.l).isNone then some j else none|none=>none)
 |.seq x y,.jump l cs bs _ q=>(match afterL l y with|some z=>bif (findLabel x l).isNone then some ⟨l,z,cs,bs,q⟩ else none|none=>none)
 |_,_=>none
def veF(P:Program)(Γ:Cons)(N:Nat):Code->Plan->(α:Type)->St->(Exit->St->Option α)->Option α
 |.seq x y,.two p q,α,st,K=>veC P Γ N x p α st (kSeq (veF P Γ N y q α) K)
 |.scope x,p,α,st,K=>(match jd x p with|some _=>veSc P Γ N x p α st (kScope K)|none=>none)
 |_,_,_,_,_=>none
def veT(P:Program)(Γ:Cons)(N:Nat)(c:Code):Plan->(α:Type)->St->(Exit->St->Option α)->Option α
 |.sc p,α,st,K=>veF P Γ N c p α st K
 |p,α,st,K=>veC P Γ N c p α st K
def stepVG(P:Program)(Γ:Cons)(N:Nat)(x:Code)(p:Plan)(cs bs:List Nat)(g:Nat)(e:TypeId)(m:Nat)(st:St)(s:LS):Option (Stp LS (Exit×LS)):=
 veC P Γ N x p (Stp LS (Exit×LS)) (head (writes x) (cs++[g]) (bs++[m]) st s) (kBodyG m cs bs g e)
theorem forget_get(W:List Nat):∀(l:List SV) (q i:Nat),(forget W l q)[i]?=(l[i]?).map λv=>bif elemN (q+i) W then .a .x else v
 |[],q,i=>by simp[forget]
 |v::r,q,0=>by simp[forget]
 |v::r,q,i+1=>by
  simp only[forget,List.getElem?_cons_succ];rw[forget_get W r (q+1) i,show q+1+i=q+(i+1) by omega]
theorem forget_len(W:List Nat):∀(l:List SV) (q:Nat),(forget W l q).length=l.length
 |[],q=>rfl
 |v::r,q=>by simp[forget,forget_len W r]
theorem setMany_len{α:Type}:∀(l:List α) (cs:List Nat) (vs:List α),(setMany l cs vs).length=l.length
 |l,c::cs,v::vs=>by rw[setMany,setMany_len];simp
 |l,[],_=>by cases ‹List α›<;>rfl
 |l,_::_,[]=>rfl
theorem setMany_get{α:Type}{g:Nat->α}:∀(cs:List Nat) (l:List α) (vs:List α) (i:Nat),vs=cs.map g->(setMany l cs vs)[i]?=if i∈cs/\i<l.length then some (g i) else l[i]?
 |[],l,vs,i,h=>by cases vs<;>simp[setMany]
 | c::cs,l,vs,i,h=>by
  subst h;simp only[List.map_cons,setMany];rw[setMany_get cs _ _ i rfl];simp only[List.length_set,List.mem_cons]
  by_cases hlt:i<l.length
  ·by_cases hc:i∈cs
   ·rw[if_pos ⟨hc,hlt⟩,if_pos ⟨.inr hc,hlt⟩]
   ·rw[if_neg (λh=>hc h.1)]
    by_cases hic:i=c
    ·subst hic;rw[if_pos ⟨.inl rfl,hlt⟩,List.getElem?_set_self hlt]
    ·rw[if_neg (by rintro⟨h|h,_⟩;exact hic h;exact hc h),List.getElem?_set_ne (by omega)]
  ·rw[if_neg (λh=>hlt h.2),if_neg (λh=>hlt h.2)];rw[List.getElem?_eq_none (by simp;omega),List.getElem?_eq_none (by omega)]
theorem setMany_other{α:Type}{i:Nat}:∀(l:List α) (cs:List Nat) (vs:List α),i ∉ cs->(setMany l cs vs)[i]?=l[i]?
 |l,c::cs,v::vs,h=>by
  rw[setMany,setMany_other _ cs vs λhc=>h (List.mem_cons_of_mem _ hc),List.getElem?_set_ne (by rintro rfl;exact h (List.mem_cons_self ..))]
 |l,[],vs,_=>by cases vs<;>rfl
 |l,_::_,[],_=>rfl
theorem getS_map(s:List SV):∀(cs:List Nat),getS s cs=cs.map λc=>s.getD c (.a .x)
 |[]=>rfl
 |c::cs=>by simp[getS,getS_map s cs]
theorem getH_map(h:List VB):∀(cs:List Nat),getH h cs=cs.map λc=>h.getD c .no
 |[]=>rfl
 |c::cs=>by simp[getH,getH_map h cs]
theorem dirtyOk_mem{m:Nat}{bs:List Nat}:∀{d:List Nat},dirtyOk m bs d=true->∀n∈d,n<m->n∈bs
 |[],_,n,hn,_=>by cases hn
 | a::d,h,n,hn,hm=>by
  simp only[dirtyOk,Bool.and_eq_true,Bool.or_eq_true,Bool.not_eq_true']at h;rcases List.mem_cons.1 hn with rfl|hn
  ·rcases h.1 with h1|h1
   ·exact elemN_mem.1 h1
   ·have h2:Nat.blt n m=true:=by simp[Nat.blt];omega
    rw[h2]at h1;cases h1
  ·exact dirtyOk_mem h.2 n hn hm
section
variable {P:Program} {Γ:Cons} {F:Fence} {n:Nat} {Q:Exit->Act->World->Prop} {W0:World} {n0:Nat} {D E:List Nat} {ρ0:Nat->Ad}
theorem RS.room{ρ:Nat->Ad}{st:St}{a:Act}{w:World}(hR:RS E P W0 n0 D ρ0 ρ st a w)(m:Nat):RS E P W0 n0 D ρ0 ρ { st with h:=st.h++List.replicate m .no } a w/\HLe st.h (st.h++List.replicate m .no):=by
 have old:∀{n:Nat} {b:VB},st.h[n]?=some b->(st.h++List.replicate m .no)[n]?=some b:=λ{n b} h=>by
  rw[List.getElem?_append_left (List.getElem?_eq_some_iff.1 h).1];exact h
 have back:∀{n:Nat} {b:VB},(st.h++List.replicate m .no)[n]?=some b->st.h[n]?=some b\/b=.no:=λ{n b} h=>by
  by_cases hn:n<st.h.length
  ·rw[List.getElem?_append_left hn]at h;exact .inl h
  ·rw[List.getElem?_append_right (by omega),List.getElem?_replicate]at h;split at h
   ·cases h;exact .inr rfl
   ·cases h
 have hl:HLe st.h (st.h++List.replicate m .no):=λn=>⟨λC t e=>⟨C,old e⟩,λy t e=>⟨y,old e⟩,λ_ _ C _ e=>.inl ⟨C,old e⟩,λe=>old e,λ_ _ _ _ e=>old e,λE c e=>⟨E,c,old e⟩⟩
 have pb:∀n,present (st.h++List.replicate m .no) n->present st.h n:=λn hp=>by
  cases hp with
  |row e=>rcases back e with h|h;exact .row h;cases h
  |one e=>rcases back e with h|h;exact .one h;cases h
  |mp e=>rcases back e with h|h;exact .mp h;cases h
  |own e hk h0=>rcases back e with h|h;exact .own h hk h0;cases h
 refine⟨⟨hR.len,λi v hv=>(hR.slots i v hv).mono hl λ_ _=>rfl,⟨λn b hb=> ?_,λn q hp hq=>hR.heap.inj n q (pb n hp) (pb q hq),λn b k h1 h2 m hp=>by
  rcases back h1 with h|rfl
  ·exact hR.heap.far n b k h h2 m (pb m hp)
  ·exact h2.elim⟩,hR.base,λn hn hp=>hR.fresh n hn (pb n hp),hR.kept,λn len C e hn he=>(back he).elim (hR.own0 n len C e hn) (λh=>by cases h),hR.defers,by simp;have:=hR.bound;omega⟩,hl⟩
 rcases back hb with h|rfl
 ·exact(hR.heap.is n b h).mono hl λ_ _=>rfl
 ·trivial
theorem fold_ext{base:Nat}{B:Nat->Bool}(W:List Nat){b:Nat}(hb:b<=base):∀(l:List Entry) (q:Nat) (st:St),(∀(j:Nat) (x:Entry),l[j]?=some x->∀d,x.1=some d->d∈W) ->
  (∀(i:Nat),i ∉ W->(foldTr base B l q st).s[i]?=st.s[i]?)/\(∀(m:Nat),m<b->m ∉ (foldTr base B l q st).d->(foldTr base B l q st).h[m]?=st.h[m]?)/\(∀m,m∈st.d->m∈(foldTr base B l q st).d)
 |[],q,st,_=>⟨λ_ _=>rfl,λ_ _ _=>rfl,λ_ h=>h⟩
 | (d, v, e) :: r, q, st, hW => by
  simp only[foldTr];obtain⟨h1,h2,h3⟩:=fold_ext (base:=base) (B:=B) W hb r (q+1) (bif B q then applyE st (base+q) d v e else st) λj x hj=>hW (j+1) x (by simpa using hj)
  cases hB:B q with
  |false=>rw[hB]at h1 h2 h3; exact⟨h1,h2,h3⟩
  | true =>
   rw[hB]at h1 h2 h3;simp only[cond_true]at h1 h2 h3 |-
   have hd:∀(i:Nat) (u:SV),i ∉ W->(putS st.s d u)[i]?=st.s[i]?:=λi u hi=>by
    cases hdd:d with|none=>rfl|some dd=>exact List.getElem?_set_ne λe'=>hi (by rw[<- e']; exact hW 0 (d,v,e) rfl dd hdd)
   refine⟨λi hi=>(h1 i hi).trans ?_,λm hm hmd=>(h2 m hm hmd).trans ?_,λm hm=>h3 m ?_⟩
   ·cases e<;>exact hd i _ hi
   ·cases e with
    |none=>rfl
    |new bb=>exact List.getElem?_set_ne (by omega)
    |newS _ _ _ _=>exact List.getElem?_set_ne (by omega)
    |app k _ _ _ =>refine(List.getElem?_set_ne (by omega)).trans (spend_ne λe'=>hmd (h3 m ?_));subst e';simp[applyE]
    |set k bb =>
     refine List.getElem?_set_ne λe'=>hmd (h3 m ?_)
     subst e';simp[applyE]
   ·cases e with|none=>exact hm|new bb=>exact hm|newS _ _ _ _=>exact hm|app _ _ _ _=>exact List.mem_append_right _ hm|set k bb=>exact List.mem_cons_of_mem _ hm
theorem mem_wrL{l:List Oper}{j:Nat}{o:Oper}(ho:l[j]?=some o){d:Nat}(hd:o.dst=some d):d∈wrL l:=by induction l generalizing j with|nil=>simp at ho| cons x r ih=>cases j with|zero=>simp only[List.getElem?_cons_zero,Option.some.injEq]at ho;subst ho;exact mem_wrL_head d (by rw[hd];exact List.mem_singleton.2 rfl)|succ j=>exact mem_wrL_tail d (ih (by simpa using ho))
end
end
section
set_option linter.unusedVariables false
theorem foldI_app{S α X:Type}(f:X->S->Option (Stp S α)):∀(l m:List X) (s:S),foldI f (l++m) s=match foldI f l s with|some (.more s')=>foldI f m s'|o=>o
 |[],m,s=>rfl
 | x::l,m,s=>by
  simp only[List.cons_append,foldI];cases f x s with|none=>rfl|some r=>cases r with|more s'=>exact foldI_app f l m s'|done a=>rfl
theorem rowsAll_mem{h:List VB}:∀{l:List Nat},rowsAll h l=true->∀n∈l,∃C t,h[n]?=some (.row C t)
 |[],_,n,hn=>by cases hn
 | a::l,hl,n,hn=>by
  simp only[rowsAll,Bool.and_eq_true]at hl;rcases List.mem_cons.1 hn with rfl|hn
  ·have:=hl.1;split at this
   ·exact⟨_,_,by assumption⟩
   ·cases this
  ·exact rowsAll_mem hl.2 n hn
theorem rowsAll_celled{h:List VB}{l:List Nat}(hl:rowsAll h l=true):∀n∈l,celled h n:=λn hn=>.inl (rowsAll_mem hl n hn)
theorem cellAll_mem{h:List VB}:∀{l:List Nat},cellAll h l=true->∀n∈l,celled h n
 |[],_,_,hn=>by cases hn
 | m::r,hl,n,hn=>by
  rw[cellAll,Bool.and_eq_true]at hl;rcases List.mem_cons.1 hn with rfl|hn
  ·have h1:=hl.1;split at h1
   ·rename_i C t e;exact .inl ⟨C,t,e⟩
   ·rename_i y t e;exact .inr ⟨y,t,e⟩
   ·cases h1
  ·exact cellAll_mem hl.2 n hn
theorem apart_mem{ns:List Nat}:∀{bs:List Nat},apart ns bs=true->∀b∈bs,b ∉ ns
 |[],_,n,hn=>by cases hn
 | a::l,hl,n,hn=>by
  simp only[apart,Bool.and_eq_true,Bool.not_eq_true']at hl;rcases List.mem_cons.1 hn with rfl|hn
  ·intro h;rw[elemN_mem.2 h]at hl;cases hl.1
  ·exact apart_mem hl.2 n hn
section
variable {P:Program} {Γ:Cons} {F:Fence} {n N:Nat} {Q:Exit->Act->World->Prop} {W0:World} {n0:Nat} {D E:List Nat} {ρ0:Nat->Ad}
theorem IsL.cut{ρ:Nat->Ad}{h hs:List VB}{n:Nat}{v:Value}(e:h[n]?=hs[n]?)(hi:IsL P ρ hs n v):IsL P ρ h n v:=by
 unfold IsL at hi|-
 rw[e];exact hi
theorem IsL.lt{ρ:Nat->Ad}{h:List VB}{n:Nat}{v:Value}(hi:IsL P ρ h n v):Nat.blt n h.length=true:=by rcases hi with h3 | ⟨a,len,C,e,ad,cap,h3,_⟩<;>(have:=(List.getElem?_eq_some_iff.1 h3).1;simp[Nat.blt];omega)
theorem Is.cut{ρ:Nat->Ad}{h hs:List VB}{m:Nat}(hl:∀n,n<m->h[n]?=hs[n]?){y:SA}{v:Value}(hi:Is P ρ hs y v)(hr:refLt m y=true):Is P ρ h y v:=by
 have pres:∀n,n<m->there hs n->there h n:=λn hn hp=>by
  cases hp with|row e=>exact .row (by rw[hl n hn];exact e)|one e=>exact .one (by rw[hl n hn];exact e)
 have lt:∀{n},Nat.blt n m=true->n<m:=λ{n} h=>by simp[Nat.blt]at h;omega
 cases y with
 |i k n=>exact hi
 |b t=>exact hi
 |s t=>exact hi
 |g D T=>exact hi
 |v y=>exact hi
 |u=>exact hi
 |x=>trivial
 |e n=>obtain⟨g,t,a,x,h1,h2⟩:=hi;exact⟨g,t,a,x,by rw[hl n (lt hr)];exact h1,h2⟩
 |m n=>obtain⟨h1,E,c,h2⟩:=hi;exact⟨h1,E,c,by rw[hl n (lt hr)];exact h2⟩
 |k n len cap e=>obtain⟨h1,h0,C,t,c,m,h2,h3⟩:=hi;exact⟨h1,h0,C,t,c,m,by rw[hl n (lt hr)];exact h2,h3⟩
 |w n=>exact⟨hi.1,pres n (lt hr) hi.2⟩
 |p n o T=>obtain⟨h1,h2,t,h3,h4⟩:=hi;exact⟨h1,h2,t,by unfold blkT;rw[hl n (lt hr)];exact h3,h4⟩
 |c f ns=>simp only[refLt,List.all_eq_true]at hr;exact⟨hi.1,λn hn=>pres n (lt (hr n hn)) (hi.2 n hn)⟩
 |l n=>exact IsL.cut (P:=P) (hl n (lt hr)) hi
 | r D T ns=>
  obtain⟨D',h1,h2,h3⟩:=hi;simp only[refLt,List.all_eq_true]at hr;exact⟨D',h1,h2,h3.size,h3.same,λi k hk=>by
   obtain⟨q1,ad,l,c,q2,q3⟩:=h3.refs i k hk;exact⟨q1,ad,l,c,q2,q3.cut (P:=P) (hl k (lt (hr (i,k) (lookN_mem hk))))⟩,h3.uniq⟩
 |q n o T=>exact hi.imp (λh3=>by rw[hl n (lt hr)];exact h3) λ⟨a,len,C,e,g,b,k,q,h3,h4⟩=>⟨a,len,C,e,g,b,k,q,by rw[hl n (lt hr)];exact h3,h4⟩
theorem IsV.cut{ρ:Nat->Ad}{h hs:List VB}{m:Nat}(hl:∀n,n<m->h[n]?=hs[n]?){y:SV}{v:Value}(hi:IsV P ρ hs y v)(hr:refLtV m y=true):IsV P ρ h y v:=by cases y with|a y=>exact Is.cut hl hi hr|t l=>obtain⟨vs,h1,h2,h3⟩:=hi;simp only[refLtV,List.all_eq_true]at hr;exact⟨vs,h1,h2,λi y v hy hv=>(h3 i y v hy hv).cut hl (hr y (List.mem_of_getElem? hy))⟩
theorem Is.lt{ρ:Nat->Ad}{h:List VB}{y:SA}{v:Value}(hi:Is P ρ h y v):refLt h.length y=true:=by
 have pl:∀n,there h n->Nat.blt n h.length=true:=λn hp=>by
  have:n<h.length:=by cases hp with|row e=>exact(List.getElem?_eq_some_iff.1 e).1|one e=>exact(List.getElem?_eq_some_iff.1 e).1
  simp[Nat.blt];omega
 cases y with
 |w n=>exact pl n hi.2
 |p n o T=>obtain⟨_,_,t,h3,_⟩:=hi;exact pl n h3.there
 |l n=>exact IsL.lt (P:=P) hi
 |r D T ns=>obtain⟨D',h1,h2,h3⟩:=hi;simp only[refLt,List.all_eq_true];intro q hq;obtain⟨_,ad,l,c,_,q3⟩:=h3.refs _ _ (lookN_of h3.uniq hq);exact q3.lt
 |q n o T=>rcases hi with h3 | ⟨a,len,C,e,g,b,k,q,h3,_⟩<;>(have:=(List.getElem?_eq_some_iff.1 h3).1;simp[refLt,Nat.blt];omega)
 |c f ns=>simp only[refLt,List.all_eq_true];exact λn hn=>pl n (hi.2 n hn)
 |e n=>obtain⟨g,t,a,x,h3,_⟩:=hi;have:=(List.getElem?_eq_some_iff.1 h3).1;simp[refLt,Nat.blt];omega
 |m n=>obtain⟨_,E,c,h3⟩:=hi;have:=(List.getElem?_eq_some_iff.1 h3).1;simp[refLt,Nat.blt];omega
 |k n len cap e=>obtain⟨_,_,C,t,c,m,h3,_⟩:=hi;have:=(List.getElem?_eq_some_iff.1 h3).1;simp[refLt,Nat.blt];omega
 |_=>rfl
theorem AllIs.lt{ρ:Nat->Ad}{h:List VB}{l:List SA}{vs:List Value}(hi:AllIs P ρ h l vs):l.all (refLt h.length)=true:=by
 rw[List.all_eq_true];intro y hy;obtain⟨i,hi'⟩:=List.mem_iff_getElem?.1 hy;have hlt:i<vs.length:=by rw[<- hi.1];exact(List.getElem?_eq_some_iff.1 hi').1
 exact(hi.2 i y _ hi' (List.getElem?_eq_getElem hlt)).lt
theorem IsV.lt{ρ:Nat->Ad}{h:List VB}{y:SV}{v:Value}(hi:IsV P ρ h y v):refLtV h.length y=true:=by cases y with|a y=>exact Is.lt hi|t l=>obtain⟨vs,_,h2⟩:=hi;exact h2.lt
theorem BIs.cut{ρ:Nat->Ad}{h hs:List VB}{m:Nat}(hl:∀n,n<m->h[n]?=hs[n]?){w:World}{g:Ad}{b:VB}(hi:BIs P ρ hs w g b)(hr:refLtB m b=true):BIs P ρ h w g b:=by
 cases b with
 |no=>trivial
 |row C t=>exact hi
 |one y t=>obtain⟨v,h1,h2⟩:=hi;exact⟨v,h1.cut hl hr,h2⟩
 |sl a len C t=>exact hi
 |sp=>trivial
 |mp E c=>exact hi
 |gl g t a x=>exact hi
theorem HLeN.none{h h':List VB}{n:Nat}(e:h[n]?=.none):HLeN h h' n:=by refine⟨λC t k=> ?_,λy t k=> ?_,λ_ _ C _ k=> ?_,λk=> ?_,λ_ _ _ _ k=> ?_,λ_ _ k=> ?_⟩<;>rw[e]at k<;>cases k
theorem hle_take{h hs:List VB}{m:Nat}(hl:∀n,n<m->h[n]?=hs[n]?):HLe (hs.take m) h:=λn=>by
 by_cases hn:n<m
 ·exact .same (by rw[hl n hn,List.getElem?_take,if_pos hn])
 ·exact .none (by rw[List.getElem?_take,if_neg hn])
theorem present.lt{h:List VB}{k:Nat}(hp:present h k):k<h.length:=by cases hp with|row e=>exact(List.getElem?_eq_some_iff.1 e).1|one e=>exact(List.getElem?_eq_some_iff.1 e).1|mp e=>exact(List.getElem?_eq_some_iff.1 e).1|own e _ _=>exact(List.getElem?_eq_some_iff.1 e).1
theorem IsV.cutr{ρ ρ':Nat->Ad}{h hs:List VB}{m:Nat}(hl:∀n,n<m->h[n]?=hs[n]?)(hr:∀n,n<m->ρ' n=ρ n){y:SV}{v:Value}(hi:IsV P ρ hs y v)(href:refLtV m y=true):IsV P ρ' h y v:=
 (hi.cut (h:=hs.take m) (λn hn=>by rw[List.getElem?_take,if_pos hn]) href).mono (hle_take hl) λn hp=>hr n (by have:=hp.lt;rw[List.length_take]at this;omega)
theorem BIs.cutr{ρ ρ':Nat->Ad}{h hs:List VB}{m:Nat}(hl:∀n,n<m->h[n]?=hs[n]?)(hr:∀n,n<m->ρ' n=ρ n){w:World}{g:Ad}{b:VB}(hi:BIs P ρ hs w g b)(href:refLtB m b=true):BIs P ρ' h w g b:=
 (hi.cut (h:=hs.take m) (λn hn=>by rw[List.getElem?_take,if_pos hn]) href).mono (hle_take hl) λn hp=>hr n (by have:=hp.lt;rw[List.length_take]at this;omega)
theorem BIs.lt{ρ:Nat->Ad}{h:List VB}{w:World}{g:Ad}{b:VB}(hi:BIs P ρ h w g b):refLtB h.length b=true:=by
 cases b with
 |one y t=>obtain⟨v,h1,_⟩:=hi;exact h1.lt
 |_=>rfl
theorem getS_mem{s:List SV}{cs:List Nat}{i:Nat}(hi:i∈cs):s.getD i (.a .x)∈getS s cs:=by rw[getS_map];exact List.mem_map.2 ⟨i,hi,rfl⟩
theorem getH_mem{h:List VB}{cs:List Nat}{i:Nat}(hi:i∈cs):h.getD i .no∈getH h cs:=by rw[getH_map];exact List.mem_map.2 ⟨i,hi,rfl⟩
def actAsg:List (Nat×Nat)->Act->Act
 |[],a=>a
 |(d,p)::r,a=>actAsg r (a.put (some d) (a.eval (.tmp p)))
theorem RS.runAsg{ρ:Nat->Ad}{w:World}:∀(l:List (Nat×Nat)) {st:St} {a:Act},RS E P W0 n0 D ρ0 ρ st a w->RS E P W0 n0 D ρ0 ρ { st with s:=runAsg l st.s } (actAsg l a) w
 |[],st,a,hR=>hR
 |(d,p)::r,st,a,hR=>RS.runAsg r (hR.put (some d) (evO_is hR.slots (.tmp p)))
theorem RS.setPs{ρ:Nat->Ad}{w:World}:∀(ps:List Nat) (ys:List SA) (vs:List Value) {st:St} {a:Act},RS E P W0 n0 D ρ0 ρ st a w->ys.length=ps.length->AllIs P ρ st.h ys vs ->
  RS E P W0 n0 D ρ0 ρ { st with s:=setPs st.s ps ys } { a with tmps:=(ps.zip vs).foldl (λt (x:Nat×Value)=>t.setIfInBounds x.1 x.2) a.tmps } w
 |[],[],vs,st,a,hR,_,hA=>by
  have:vs=[]:=List.eq_nil_of_length_eq_zero (by have:=hA.1;simpa using this.symm);subst this;exact hR
 |p::ps,y::ys,[],st,a,hR,_,hA=>absurd hA.1 (by simp)
 |p::ps,y::ys,v::vs,st,a,hR,hlen,hA=>by
  have h0:=hA.2 0 y v rfl rfl;have:=RS.setPs ps ys vs (hR.put (some p) (v:=.a y) h0) (by simpa using hlen) ⟨by simpa using hA.1,λi z u hz hu=>hA.2 (i+1) z u (by simpa using hz) (by simpa using hu)⟩;exact this
 |p::ps,[],_,_,_,_,h,_=>absurd h (by simp)
 |[],y::ys,_,_,_,_,h,_=>absurd h (by simp)
theorem RS.grown{ρ:Nat->Ad}{st:St}{a:Act}{W W':World}(hR:RS E P W0 n0 D ρ0 ρ st a W){row:Option Nat}{B:Nat}(hg:W.grownBy W' row)(hrow:∀r,row=some r->B<=r/\∃o:Obj,W.heap[r]?=some o/\o.isCells=false)
  (hW0:W0.heap.size<=B) (hd:∀m,({ target:=.collected m,args:=#[] }:Deferred)∈a.defers->m<B) (hmp:∀(n:Nat) E c,st.h[n]?=some (.mp E c)->(ρ n).a<B):RS E P W0 n0 D ρ0 ρ st a W':=by
 have hcell:∀(k:Nat) C t fr,W.heap[k]?=some (Obj.cells C t fr)->W'.heap[k]?=some (Obj.cells C t fr):=λk C t fr hk=>by
  refine(hg.block k (Array.getElem?_eq_some_iff.1 hk).1 λe=> ?_).trans hk;obtain⟨_,o,ho,hc⟩:=hrow k e.symm;rw[hk]at ho;cases ho;cases hc
 refine⟨hR.len,hR.slots,⟨λk b hb=> ?_,hR.heap.inj,hR.heap.far⟩,hR.base,hR.fresh,⟨hg.os.trans hR.kept.os,hg.tape.trans hR.kept.tape,hg.output.trans hR.kept.output,Nat.le_trans hR.kept.size hg.size,λk hk he=> ?_⟩,hR.own0,⟨λd hd'=> ?_,hR.defers.diff⟩,hR.bound⟩
 ·have:=hR.heap.is k b hb;cases b with
  |no=>trivial
  |row C t=>exact⟨hcell _ _ _ _ this.1,this.2⟩
  |one y t=>obtain⟨v,h1,h2⟩:=this;exact⟨v,h1,hcell _ _ _ _ h2⟩
  |sl x len C t=>exact⟨this.1.cells hg.size hcell,λh1 h2=>let ⟨q1,C',t',q2,q3⟩:=this.2 h1 h2;⟨q1,C',t',hcell _ _ _ _ q2,q3⟩⟩
  |gl g t a x=>exact this.glCells hcell
  |mp E c=>have this:W.heap[(ρ k).a]?=_:=this;exact(hg.block _ (Array.getElem?_eq_some_iff.1 this).1 λe=>by have:=(hrow _ e.symm).1;have:=hmp k E c hb;omega).trans this
  |sp=>trivial
 ·rw[hg.block k (Nat.lt_of_lt_of_le hk hR.kept.size) λe=>by have:=(hrow k e.symm).1;omega];exact hR.kept.block k hk he
 ·obtain⟨m,rfl,h1,h2⟩:=hR.defers.all d hd';refine⟨m,rfl,h1,?_⟩;rw[hg.block m (Array.getElem?_eq_some_iff.1 h2).1 λe=>by have:=(hrow m e.symm).1;have:=hd m hd';omega];exact h2
theorem RS.root{ρ:Nat->Ad}{st:St}{a:Act}{w:World}(hR:RS E P W0 n0 D ρ0 ρ st a w){E':List Nat}(hno:∀(n len:Nat) (C:Array Value) (e:TypeId),st.h[n]?=some (.sl .own len C e)->len=0\/n∈E'):RS E' P w st.h.length [] ρ ρ { st with d:=[] } { a with defers:=[] } w:=
 ⟨hR.len,hR.slots,hR.heap,fun _ _=>rfl,fun k hk hp=>by
  exfalso;cases hp with
  |row e=>have:=(List.getElem?_eq_some_iff.1 e).1;dsimp only at this;omega
  |one e=>have:=(List.getElem?_eq_some_iff.1 e).1;dsimp only at this;omega
  |mp e=>have:=(List.getElem?_eq_some_iff.1 e).1;dsimp only at this;omega
  |own e _ _=>have:=(List.getElem?_eq_some_iff.1 e).1;dsimp only at this;omega,Kept.refl _ w,λn _ _ _ _=>hno n _ _ _,DefOk.nil _ _,Nat.le_refl _⟩
theorem next_headI{bs:List Nat}{st st2:St}{hb:BS}{ρ1 ρ2:Nat->Ad}{a a2:Act}{s1:List SV}{W W2:World}{ws:List Nat}(hbs:∀b∈bs,wrote st.h b)
  (hR:RS E P W0 n0 (st.d++D) ρ0 ρ1 { s:=st.s,h:=setMany st.h bs hb,d:=bs } a W) (hhl:HLe st.h (setMany st.h bs hb))
  (hR2:R P W st.h.length [] ρ1 ρ2 st2 a2 W2) (hE:Ext ws st.h.length ρ1 ρ2 { s:=s1,h:=setMany st.h bs hb,d:=[] } st2)
  (hd:dirtyOk st.h.length bs st2.d=true) (hrh:(getH st2.h bs).all (refLtB st.h.length)=true) :
  RS E P W0 n0 (st.d++D) ρ0 ρ2 { s:=st.s,h:=setMany st.h bs (getH st2.h bs),d:=bs } a W2/\HLe st.h (setMany st.h bs (getH st2.h bs)) /\
   (∀k,k<st.h.length->ρ2 k=ρ1 k)/\(∀(k:Nat) C t fr,W.heap[k]?=some (.cells C t fr)->(∀b∈bs,(ρ1 b).a≠k)->W2.heap[k]?=some (.cells C t fr))/\(∀k,k<W.heap.size->(∀b∈bs,(ρ1 b).a≠k)->W2.heap[k]?=W.heap[k]?)/\W.heap.size<=W2.heap.size:=by
 have hlen:(setMany st.h bs hb).length=st.h.length:=setMany_len _ _ _;have hlen2:(setMany st.h bs (getH st2.h bs)).length=st.h.length:=setMany_len _ _ _;have hdm:=dirtyOk_mem hd;have hh:∀k,k<st.h.length->(setMany st.h bs (getH st2.h bs))[k]?=st2.h[k]?:=λk hklt=>by
  have hk':k<st2.h.length:=by have:=hE.hlen;dsimp only at this;omega
  rw[setMany_get (g:=λc=>st2.h.getD c .no) bs _ _ k (getH_map _ _)]
  by_cases hb':k∈bs
  ·rw[if_pos ⟨hb',hklt⟩,List.getD_eq_getElem?_getD,List.getElem?_eq_getElem hk'];rfl
  ·rw[if_neg (λh=>hb' h.1)];have hnd:k ∉ st2.d:=λhkd=>hb' (hdm k hkd hklt)
   rw[hE.heap k (by omega) hnd];dsimp only;rw[setMany_other _ _ _ hb']
 have inlen:∀{k:Nat} {b:VB},(setMany st.h bs (getH st2.h bs))[k]?=some b->k<st.h.length:=λ{k b} h=>by rw[<- hlen2];exact(List.getElem?_eq_some_iff.1 h).1
 have prow:∀b∈bs,wrote (setMany st.h bs hb) b:=λb hb'=>(hbs b hb').hle hhl
 have hle12:HLe (setMany st.h bs hb) (setMany st.h bs (getH st2.h bs)):=λm=>by
  have key:=hE.hle m;dsimp only at key;refine⟨λC t e=> ?_,λy t e=> ?_,λa len C t e=> ?_,λe=> ?_,λg t a x e=> ?_,λE c e=> ?_⟩
  ·have hlt:=(List.getElem?_eq_some_iff.1 e).1;rw[hlen]at hlt;obtain⟨C',e'⟩:=key.row C t e;exact⟨C',by rw[hh m hlt];exact e'⟩
  ·have hlt:=(List.getElem?_eq_some_iff.1 e).1;rw[hlen]at hlt;obtain⟨y',e'⟩:=key.one y t e;exact⟨y',by rw[hh m hlt];exact e'⟩
  ·have hlt:=(List.getElem?_eq_some_iff.1 e).1;rw[hlen]at hlt;exact(key.sl a len C t e).imp (λ⟨C',e'⟩=>⟨C',by rw[hh m hlt];exact e'⟩) λ⟨q1,q2⟩=>⟨q1,by rw[hh m hlt];exact q2⟩
  ·have hlt:=(List.getElem?_eq_some_iff.1 e).1;rw[hlen]at hlt;rw[hh m hlt];exact key.sp e
  ·have hlt:=(List.getElem?_eq_some_iff.1 e).1;rw[hlen]at hlt;rw[hh m hlt];exact key.gl _ _ _ _ e
  ·have hlt:=(List.getElem?_eq_some_iff.1 e).1;rw[hlen]at hlt;obtain⟨E1,c1,e'⟩:=key.mp _ _ e;exact⟨E1,c1,by rw[hh m hlt];exact e'⟩
 have pback:∀k,present (setMany st.h bs (getH st2.h bs)) k->present (setMany st.h bs hb) k:=λk hp=>by
  by_cases hkb:k∈bs
  ·exact(prow k hkb).present
  ·cases hp with|row e=>rw[setMany_other _ _ _ hkb]at e;exact .row (by rw[setMany_other _ _ _ hkb];exact e)|one e=>rw[setMany_other _ _ _ hkb]at e;exact .one (by rw[setMany_other _ _ _ hkb];exact e)|mp e=>rw[setMany_other _ _ _ hkb]at e;exact .mp (by rw[setMany_other _ _ _ hkb];exact e)|own e hk h0=>rw[setMany_other _ _ _ hkb]at e;exact .own (by rw[setMany_other _ _ _ hkb];exact e) hk h0
 have pst2:∀k,present (setMany st.h bs (getH st2.h bs)) k->present st2.h k:=λk hp=>by
  cases hp with|row e=>exact .row (by rw[<- hh k (inlen e)];exact e)|one e=>exact .one (by rw[<- hh k (inlen e)];exact e)|mp e=>exact .mp (by rw[<- hh k (inlen e)];exact e)|own e hk h0=>exact .own (by rw[<- hh k (inlen e)];exact e) hk h0
 have ren':∀k,k<st.h.length->ρ2 k=ρ1 k:=λk hp=>hE.ren k hp
 have ren:∀k,present (setMany st.h bs hb) k->ρ2 k=ρ1 k:=λk hp=>ren' k (by
  rw[<- hlen];cases hp with|row e=>exact(List.getElem?_eq_some_iff.1 e).1|one e=>exact(List.getElem?_eq_some_iff.1 e).1|mp e=>exact(List.getElem?_eq_some_iff.1 e).1|own e _ _=>exact(List.getElem?_eq_some_iff.1 e).1)
 -- what the round may have turned: rows of the blocks of bs
 have hturn:∀k,(∃q,q<st.h.length/\(q∈st2.d\/q∈([]:List Nat)\/q∈([]:List Nat))/\(ρ1 q).a=k)->∃b∈bs,(ρ1 b).a=k:=λk ⟨q,h1,h2,h3⟩=>by
  rcases h2 with h2|h2|h2
  ·exact⟨q,hdm q h2 h1,h3⟩
  ·cases h2
  ·cases h2
 have hcells:∀b∈bs,∃C t,W.heap[(ρ1 b).a]?=some (.cells C t (0,0)):=λb hb'=>(prow b hb').cells hR.heap
 have hk2:Kept (λk=>∃b∈bs,(ρ1 b).a=k) W W2:=hR2.kept.mono λk _ he=>hturn k he
 have hbd:=hR.bound;dsimp only at hbd;rw[hlen]at hbd;refine⟨⟨hR.len,λi v hv=>(hR.slots i v hv).mono hle12 ren,⟨λk b hb'=> ?_,λk q hp hq=>hR2.heap.inj k q (pst2 k hp) (pst2 q hq),λk b x h1 h2 m hp=>hR2.heap.far k b x (by rw[<- hh k (inlen h1)];exact h1) h2 m (pst2 m hp)⟩,λk hk=> ?_,λk hk hp=> ?_,?_,λk len C e hk he=> ?_,?_,by dsimp only;rw[hlen2];exact hbd⟩,hhl.trans hle12,ren',λk C t fr hk hn=> ?_,λk hk ho=> ?_,hR2.kept.size⟩
 ·dsimp only at hb'|-
  have hk:=inlen hb';have hb2:=hb';rw[hh k hk]at hb2;refine(hR2.heap.is k b hb2).cut hh ?_
  by_cases hkb:k∈bs
  ·have hmem:=getH_mem (h:=st2.h) hkb;rw[List.all_eq_true]at hrh;rw[List.getD_eq_getElem?_getD,hb2]at hmem;exact hrh b hmem
  ·rw[setMany_other _ _ _ hkb]at hb';have:=(hR.heap.is k b (by dsimp only;rw[setMany_other _ _ _ hkb];exact hb')).lt;dsimp only at this;rw[hlen]at this;exact this
 ·rw[hR2.base k (by omega)];exact hR.base k hk
 ·have h1:=pback k hp;rw[ren k h1];exact hR.fresh k hk h1
 ·refine⟨hk2.os.trans hR.kept.os,hk2.tape.trans hR.kept.tape,hk2.output.trans hR.kept.output,Nat.le_trans hR.kept.size hk2.size,λk hk hne=> ?_⟩;rw[hk2.block k (Nat.lt_of_lt_of_le hk hR.kept.size) λ⟨b,hb',e⟩=> ?_]
  ·exact hR.kept.block k hk hne
  ·by_cases hb0:b<n0
   ·exact hne ⟨b,hb0,.inl hb',by rw[<- hR.base b hb0];exact e⟩
   ·rcases hR.fresh b (by omega) (prow b hb').present with h | ⟨q,h1,h2,h3⟩
    ·omega
    ·exact hne ⟨q,h2,.inr (.inr h1),h3.trans e⟩
 ·dsimp only at he
  by_cases hkb:k∈bs
  ·obtain⟨b,e2,-,q,-⟩:=((prow k hkb).hle hle12).cases;rw[e2]at he;cases he;exact absurd rfl (q _ _ _)
  ·rw[setMany_other _ _ _ hkb]at he;exact hR.own0 k len C e hk (by dsimp only;rw[setMany_other _ _ _ hkb];exact he)
 ·exact hR.defers.kept hk2 λk ⟨b,hb',e⟩=>by obtain⟨C,t,h⟩:=hcells b hb';rw[<- e];exact⟨_,_,_,h⟩
 ·rw[hk2.block k (Array.getElem?_eq_some_iff.1 hk).1 λ⟨b,hb',e⟩=>hn b hb' e];exact hk
 ·exact hk2.block k hk λ⟨b,hb',e⟩=>ho b hb' e
theorem vals_known{ρ:Nat->Ad}{h:List VB}{l:List SA}(hl:∀y∈l,known y=true/\Is P ρ h y (valOf y)){ρ':Nat->Ad}{h':List VB}:AllIs P ρ' h' l (l.map valOf):=
 ⟨by simp,fun i y v hy hv=>by
  rw[List.getElem?_map,hy]at hv;simp only[Option.map_some,Option.some.injEq]at hv;subst hv;obtain⟨h1,h2⟩:=hl y (List.mem_of_getElem? hy);cases y<;>first|exact h2|cases h1⟩
def exCode:Exit->Code
 |.ret=>.ret
 |.exit id=>.exit id
 |_=>.skip
theorem spend_get{h:List VB}(n:Nat):(h.map spendB)[n]?=(h[n]?).map spendB:=List.getElem?_map ..
theorem spend_back{h:List VB}{n:Nat}{b:VB}(e:(h.map spendB)[n]?=some b):b=.sp\/h[n]?=some b:=by
 rw[spend_get]at e;cases hn:h[n]? with
 |none=>rw[hn]at e;cases e
 |some c=>
  rw[hn]at e;cases Option.some.inj e;unfold spendB;split
  ·exact .inl rfl
  ·exact .inr rfl
theorem spend_present{h:List VB}{n:Nat}(hp:present (h.map spendB) n):present h n:=by
 cases hp with
 |row e=>rcases spend_back e with h|h;cases h;exact .row h
 |one e=>rcases spend_back e with h|h;cases h;exact .one h
 |mp e=>rcases spend_back e with h|h;cases h;exact .mp h
 |own e hk h0=>rcases spend_back e with h|h;cases h;exact .own h hk h0
theorem spend_hle(h:List VB):HLe h (h.map spendB):=λn=>
 ⟨fun C t e=>⟨C,by rw [spend_get,e];rfl⟩,fun y t e=>⟨y,by rw [spend_get,e];rfl⟩,fun a len C t e=>by
  rw[spend_get,e];cases a<;>first|exact .inr ⟨rfl,rfl⟩|exact .inl ⟨C,rfl⟩,λe=>by rw[spend_get,e];rfl,λg t a x e=>by rw[spend_get,e];rfl,λE c e=>⟨E,c,by rw[spend_get,e];rfl⟩⟩
theorem own_ix:∀(h:List VB) (i n:Nat),i+n ∉ ownIx h i->(h.map spendB)[n]?=h[n]?
 |[],_,_,_=>rfl
 | b::r,i,0,hn=>by
  cases b with
  |sl k len C e=>cases k with|own=>exact absurd (List.mem_cons_self) hn|_=>rfl
  |_=>rfl
 |b::r,i,n+1,hn=>by
  rw[List.map_cons,List.getElem?_cons_succ,List.getElem?_cons_succ];refine own_ix r (i+1) n λhm=>hn ?_
  have hm:i+(n+1)∈ownIx r (i+1):=by rw[show i+(n+1)=i+1+n by omega];exact hm
  unfold ownIx;split
  ·exact List.mem_cons_of_mem _ hm
  ·exact hm
theorem RS.spend{W0:World}{n0:Nat}{D E:List Nat}{ρ0 ρ:Nat->Ad}{st:St}{a:Act}{w:World}(hR:RS E P W0 n0 D ρ0 ρ st a w)(W:List Nat)(b:Nat):RS E P W0 n0 D ρ0 ρ (spendSt st) a w/\Ext W b ρ ρ st (spendSt st):=by
 have hl:=spend_hle st.h;refine⟨⟨hR.len,λi v hv=>(hR.slots i v hv).mono hl λ_ _=>rfl,⟨λn b hb=> ?_,λn q hp hq=>hR.heap.inj n q (spend_present hp) (spend_present hq),λn b k h1 h2 m hp=> ?_⟩,hR.base,λn hn hp=>hR.fresh n hn (spend_present hp),
  hR.kept.mono λk _ ⟨m,e1,e2,e3⟩=>⟨m,e1,e2.imp (List.mem_append_right _) id,e3⟩,λn len C e hn he=> ?_,hR.defers,by have:=hR.bound;simp only[spendSt,List.length_map];exact this⟩,
  ⟨λ_ _=>rfl,rfl,λn _ hn=>own_ix st.h 0 n (by rw[Nat.zero_add];exact λhm=>hn (List.mem_append_left _ hm)),λn hn=>List.mem_append_right _ hn,by simp only[spendSt,List.length_map];exact Nat.le_refl _,hl,λ_ _=>rfl⟩⟩
 ·rcases spend_back hb with rfl|h
  ·trivial
  ·exact(hR.heap.is n b h).mono hl λ_ _=>rfl
 ·rcases spend_back h1 with rfl|h
  ·exact h2.elim
  ·exact hR.heap.far n b k h h2 m (spend_present hp)
 ·rcases spend_back he with h|h
  ·cases h
  ·exact hR.own0 n len C e hn h
end
end
section
set_option linter.unusedVariables false
section
variable {P:Program} {Γ:Cons} {F:Fence} {n N:Nat} {Q:Exit->Act->World->Prop} {W0:World} {n0:Nat} {D E:List Nat} {ρ0:Nat->Ad}
theorem next_head{W cs bs:List Nat}{st st':St}{s:List SV×List VB}{ρ ρ':Nat->Ad}{a a':Act}{w w':World}(hR:RS E P W0 n0 D ρ0 ρ (head W cs bs st s) a w)(hR':RS E P W0 n0 D ρ0 ρ' st' a' w')
  (hE:Ext W (head W cs bs st s).h.length ρ ρ' (head W cs bs st s) st') (hhl:HLe st.h (head W cs bs st s).h) (hd:dirtyOk st.h.length bs st'.d=true) (hrs:(getS st'.s cs).all (refLtV st.h.length)=true) (hrh:(getH st'.h bs).all (refLtB st.h.length)=true) :
  RS E P W0 n0 D ρ0 ρ' (head W cs bs st (getS st'.s cs,getH st'.h bs)) a' w'/\HLe st.h (head W cs bs st (getS st'.s cs,getH st'.h bs)).h:=by
 have hlen:(head W cs bs st s).h.length=st.h.length:=setMany_len _ _ _;have hslen:(head W cs bs st s).s.length=st.s.length:=by simp only[head];rw[setMany_len,forget_len]
 have hh:∀k,k<st.h.length->(head W cs bs st (getS st'.s cs,getH st'.h bs)).h[k]?=st'.h[k]?:=λk hklt=>by
  have hk':k<st'.h.length:=by have:=hE.hlen;omega
  simp only[head];rw[setMany_get (g:=λc=>st'.h.getD c .no) bs _ _ k (getH_map _ _)]
  by_cases hb:k∈bs
  ·rw[if_pos ⟨hb,hklt⟩,List.getD_eq_getElem?_getD,List.getElem?_eq_getElem hk'];rfl
  ·rw[if_neg (λh=>hb h.1)];have hnd:k ∉ st'.d:=λhkd=>hb (dirtyOk_mem hd k hkd hklt)
   rw[hE.heap k (by omega) hnd];simp only[head];rw[setMany_other _ _ _ hb]
 have hlen2:(head W cs bs st (getS st'.s cs,getH st'.h bs)).h.length=st.h.length:=setMany_len _ _ _;have inlen:∀{k:Nat} {b:VB},(head W cs bs st (getS st'.s cs,getH st'.h bs)).h[k]?=some b->k<st.h.length:=λ{k b} h=>by rw[<- hlen2];exact(List.getElem?_eq_some_iff.1 h).1
 have pres:∀k,present (head W cs bs st (getS st'.s cs,getH st'.h bs)).h k->present st'.h k:=λk hp=>by
  cases hp with|row e=>exact .row (by rw[<- hh k (inlen e)];exact e)|one e=>exact .one (by rw[<- hh k (inlen e)];exact e)|mp e=>exact .mp (by rw[<- hh k (inlen e)];exact e)|own e hk h0=>exact .own (by rw[<- hh k (inlen e)];exact e) hk h0
 refine⟨⟨?_,λi v hv=> ?_,⟨λk b hb=> ?_,λk q hp hq=>hR'.heap.inj k q (pres k hp) (pres q hq),λk b x h1 h2 m hp=>hR'.heap.far k b x (by rw[<- hh k (inlen h1)];exact h1) h2 m (pres m hp)⟩,hR'.base,λk hk hp=>hR'.fresh k hk (pres k hp),?_,λk len C e hk he=>hR'.own0 k len C e hk (by rw[<- hh k (inlen he)];exact he),hR'.defers,?_⟩,?_⟩
 ·simp only[head];rw[setMany_len,forget_len,<- hR'.len,hE.len,hslen]
 ·simp only[head]at hv;rw[setMany_get (g:=λc=>st'.s.getD c (.a .x)) cs _ _ i (getS_map _ _)]at hv;have hilt:i<st.s.length:=by
   by_cases h:i<st.s.length
   ·exact h
   ·exfalso;rw[if_neg (λhc=>h (by have:=hc.2;rwa [forget_len]at this)),List.getElem?_eq_none (by rw[forget_len];omega)]at hv;cases hv
  have hi':i<st'.s.length:=by rw[hE.len,hslen];exact hilt
  by_cases hc:i∈cs
  ·rw[if_pos ⟨hc,by rw[forget_len];exact hilt⟩]at hv;simp only[Option.some.injEq]at hv;have hmem:=getS_mem (s:=st'.s) hc;rw[hv]at hmem;rw[List.all_eq_true]at hrs;have hs':st'.s[i]?=some v:=by
    rw[List.getD_eq_getElem?_getD,List.getElem?_eq_getElem hi']at hv;rw[List.getElem?_eq_getElem hi'];exact congrArg some hv
   exact(hR'.slots i v hs').cut hh (hrs v hmem)
  ·rw [if_neg (fun h=>hc h.1),forget_get,Nat.zero_add] at hv;cases hu:st.s[i]? with
   |none=>rw[hu]at hv;cases hv
   | some u=>
    rw[hu]at hv;simp only[Option.map_some,Option.some.injEq]at hv;cases he:elemN i W with
    |true=>rw[he]at hv;simp only[cond_true]at hv;rw[<- hv];trivial
    | false=>
     rw[he]at hv;simp only[cond_false]at hv;subst hv;have hnW:i ∉ W:=λh=>by rw[elemN_mem.2 h]at he;cases he
     have h1:(head W cs bs st s).s[i]?=some u:=by simp only[head];rw[setMany_other _ _ _ hc,forget_get,Nat.zero_add,hu,he];rfl
     have h2:=hE.slots i hnW;rw[h1]at h2;have h3:=(hR.slots i u h1).lt;rw[hlen]at h3;exact(hR'.slots i u h2).cut hh h3
 ·have hk:=inlen hb;rw[hh k hk]at hb;refine(hR'.heap.is k b hb).cut hh ?_
  by_cases hbs:k∈bs
  ·have hmem:=getH_mem (h:=st'.h) hbs;rw[List.all_eq_true]at hrh;rw[List.getD_eq_getElem?_getD,hb]at hmem;exact hrh b hmem
  ·have hnd:k ∉ st'.d:=λhkd=>hbs (dirtyOk_mem hd k hkd hk)
   rw[hE.heap k (by omega) hnd]at hb;have:=(hR.heap.is k b hb).lt;rw[hlen]at this;exact this
 ·refine hR'.kept.mono λk _ ⟨m,h1,h2,h3⟩=>⟨m,h1,h2.imp (λh2=> ?_) (λh=>h),h3⟩
  have:=hR.bound;exact dirtyOk_mem hd m h2 (by omega)
 ·rw[hlen2];have:=hR.bound;omega
 ·intro m;have key:=hhl.trans hE.hle;refine⟨λC t e=> ?_,λy t e=> ?_,λa len C t e=> ?_,λe=> ?_,λg t a x e=> ?_,λE c e=> ?_⟩
  ·have hlt:=(List.getElem?_eq_some_iff.1 e).1;obtain⟨C',e'⟩:=(key m).row C t e;exact⟨C',by rw[hh m hlt];exact e'⟩
  ·have hlt:=(List.getElem?_eq_some_iff.1 e).1;obtain⟨y',e'⟩:=(key m).one y t e;exact⟨y',by rw[hh m hlt];exact e'⟩
  ·have hlt:=(List.getElem?_eq_some_iff.1 e).1;exact((key m).sl a len C t e).imp (λ⟨C',e'⟩=>⟨C',by rw[hh m hlt];exact e'⟩) λ⟨q1,q2⟩=>⟨q1,by rw[hh m hlt];exact q2⟩
  ·have hlt:=(List.getElem?_eq_some_iff.1 e).1;rw[hh m hlt];exact(key m).sp e
  ·have hlt:=(List.getElem?_eq_some_iff.1 e).1;rw[hh m hlt];exact(key m).gl _ _ _ _ e
  ·have hlt:=(List.getElem?_eq_some_iff.1 e).1;obtain⟨E1,c1,e'⟩:=(key m).mp _ _ e;exact⟨E1,c1,by rw[hh m hlt];exact e'⟩
theorem left_loop{W cs bs:List Nat}{st:St}{s:LS}{ρs ρ':Nat->Ad}{a':Act}{w':World}(hcs:cs.all (elemN · W)=true)(hR:RS E P W0 n0 (st.d++D) ρ0 ρ' (head W cs bs st s) a' w')
  (hhl:HLe st.h (head W cs bs st s).h) (hren:∀k,k<st.h.length->ρ' k=ρs k) :
  RS E P W0 n0 D ρ0 ρ' (left W cs bs st s) a' w'/\Ext W st.h.length ρs ρ' st (left W cs bs st s):=by
 refine⟨⟨hR.len,hR.slots,hR.heap,hR.base,hR.fresh,hR.kept.mono λk _ ⟨m,h1,h2,h3⟩=>⟨m,h1,?_,h3⟩,hR.own0,hR.defers,hR.bound⟩,⟨λi hi=> ?_,?_,λm hm hd=> ?_,λm hm=>List.mem_append_right _ hm,?_,hhl,hren⟩⟩
 ·simp only[head,left,List.mem_append]at h2|-
  rcases h2 with h2 | (h2|h2)|h2
  ·exact .inl (.inl h2)
  ·exact .inl (.inr h2)
  ·exact .inr (.inl h2)
  ·exact .inr (.inr h2)
 ·have hc:i ∉ cs:=λhc=>by
   rw[List.all_eq_true]at hcs;exact hi (elemN_mem.1 (hcs i hc))
  simp only[left];rw[setMany_other _ _ _ hc,forget_get,Nat.zero_add];have:elemN i W=false:=by cases h:elemN i W with|false=>rfl|true=>exact absurd (elemN_mem.1 h) hi
  rw[this];cases st.s[i]?<;>rfl
 ·simp only[left];rw[setMany_len,forget_len]
 ·simp only[left]at hd|-
  exact setMany_other _ _ _ λhb=>hd (List.mem_append_left _ hb)
 ·simp only[left];rw[setMany_len];exact Nat.le_refl _
theorem fix_ext{W cs bs:List Nat}{st st':St}{s:LS}{ρ ρ':Nat->Ad}{b:Nat}(hE:Ext W (head W cs bs st s).h.length ρ ρ' (head W cs bs st s) st')(hb:b<=(head W cs bs st s).h.length):Ext W b ρ ρ' (left W cs bs st s) (fixR bs st st'):=
 ⟨hE.slots,hE.len,λn hn hd=>hE.heap n (by omega) λh=>hd (List.mem_append_left _ h),λn hn=>List.mem_append_right _ hn,hE.hlen,hE.hle,λn hn=>hE.ren n (by omega)⟩
theorem fix_R{bs:List Nat}{st st':St}{ρ:Nat->Ad}{a:Act}{w:World}(hR:RS E P W0 n0 (st.d++D) ρ0 ρ st' a w):RS E P W0 n0 D ρ0 ρ (fixR bs st st') a w:=
 ⟨hR.len,hR.slots,hR.heap,hR.base,hR.fresh,hR.kept.mono fun k _ ⟨m,h1,h2,h3⟩=>⟨m,h1,(by
  simp only[fixR,List.mem_append]at h2|-
  rcases h2 with h2 | (h2|h2)|h2
  ·exact .inl (.inl h2)
  ·exact .inl (.inr (.inr h2))
  ·exact .inr (.inl h2)
  ·exact .inr (.inr h2)),h3⟩,hR.own0,hR.defers,hR.bound⟩
theorem ext_seq{W1 W2:List Nat}{ρ ρ1 ρ2:Nat->Ad}{a b c:St}(h:Ext W1 a.h.length ρ ρ1 a b)(k:Ext W2 b.h.length ρ1 ρ2 b c):Ext (W1++W2) a.h.length ρ ρ2 a c:=
 (h.mono (λ_ h=>List.mem_append_left _ h) (Nat.le_refl _)).trans (k.mono (λ_ h=>List.mem_append_right _ h) h.hlen)
theorem first_head{W cs bs:List Nat}{st:St}{ρ:Nat->Ad}{a:Act}{w:World}(hR:RS E P W0 n0 D ρ0 ρ st a w):
  RS E P W0 n0 (st.d++D) ρ0 ρ (head W cs bs st (getS st.s cs,getH st.h bs)) a w/\HLe st.h (head W cs bs st (getS st.s cs,getH st.h bs)).h:=by
 have hh:(head W cs bs st (getS st.s cs,getH st.h bs)).h=st.h:=by
  refine List.ext_getElem? λi=> ?_
  simp only[head];rw[setMany_get (g:=λc=>st.h.getD c .no) bs _ _ i (getH_map _ _)];split
  ·rename_i h;rw[List.getD_eq_getElem?_getD,List.getElem?_eq_getElem h.2];rfl
  ·rfl
 refine⟨⟨by simp only[head];rw[setMany_len,forget_len];exact hR.len,λi v hv=> ?_,by rw[hh];exact hR.heap,hR.base,by rw[hh];exact hR.fresh,hR.kept.mono λk _ ⟨m,h1,h2,h3⟩=>⟨m,h1,.inr (by simp only[List.mem_append];exact or_assoc.2 h2),h3⟩,by rw[hh];exact hR.own0,hR.defers,by rw[hh];exact hR.bound⟩,by rw[hh];exact HLe.refl _⟩;rw[hh];simp only[head]at hv;rw[setMany_get (g:=λc=>st.s.getD c (.a .x)) cs _ _ i (getS_map _ _)]at hv;split at hv
 ·rename_i h;rw[forget_len]at h;simp only[Option.some.injEq]at hv;rw[List.getD_eq_getElem?_getD,List.getElem?_eq_getElem h.2]at hv;exact hR.slots i v (by rw[List.getElem?_eq_getElem h.2];exact congrArg some hv)
 ·rw[forget_get,Nat.zero_add]at hv;cases hu:st.s[i]? with
  |none=>rw[hu]at hv;cases hv
  | some u=>rw[hu]at hv;simp only[Option.map_some,Option.some.injEq]at hv;cases he:elemN i W with|true=>rw[he]at hv;simp only[cond_true]at hv;rw[<- hv];trivial|false=>rw[he]at hv;simp only[cond_false]at hv;subst hv;exact hR.slots i u hu
theorem ownV_sound{ρ:Nat->Ad}{h:List VB}{w:World}{e:TypeId}{y:SA}{v:Value}{k:Option Nat}{len:Nat}{C:Array Value}(ho:ownV h e y=some (k,len,C))(hi:Is P ρ h y v)(hH:HIs P ρ h w):
  ∃(g:Ad) (sb:Option Addr) (cap:Nat),v=.slice sb len cap/\OwnIs g sb len cap/\BIs P ρ h w g (.sl .own len C e)/\(len≠0->∃j,k=some j/\present h j/\g.a=(ρ j).a)/\(∀j,k=some j->h[j]?=some (.sl .own len C e)):=by
 unfold ownV at ho;split at ho
 ·rename_i n;split at ho
  ·rename_i len' C' e' hn;cases hee:Nat.beq e e' with
   |false=>rw[hee]at ho;cases ho
   |true=>rw[hee]at ho;obtain rfl:=Nat.eq_of_beq_eq_true hee;cases ho;obtain⟨ad,cap,rfl,had,hc⟩:=Is.l_of hi hn;exact⟨ρ n,ad,cap,rfl,⟨(hc rfl).1,λh=>⟨had h,(hc rfl).2 h⟩⟩,hH.is _ _ hn,λh=>⟨n,rfl,.own hn rfl h,rfl⟩,λj hj=>by cases hj;exact hn⟩
  ·cases ho
 ·cases ho;obtain rfl:v=_:=hi;exact⟨⟨0,0⟩,none,0,rfl,⟨λ_=>rfl,λh=>absurd rfl h⟩,⟨⟨by simp,λk hk=>absurd hk (by omega),by omega,.inl rfl⟩,λ_ h=>absurd rfl h⟩,λh=>absurd rfl h,λj hj=>by cases hj⟩
 ·cases ho
theorem prep_sound{g:Nat}{e:TypeId}{st st1:St}{ρ:Nat->Ad}{a:Act}{w:World}(hR:RS E P W0 n0 D ρ0 ρ st a w)(hp:prepG g e st=some st1):
  ∃ρ',RS E P W0 n0 D ρ0 ρ' st1 a w/\st1.s=st.s.set g (.a (.l st.h.length))/\st1.h.length=st.h.length+1/\HLe st.h st1.h/\(∀n,n<st.h.length->n ∉ st1.d->st1.h[n]?=st.h[n]?)/\(∀n,n<st.h.length->st1.h[n]?=st.h[n]?\/st1.h[n]?=some .sp)/\(∀n∈st.d,n∈st1.d)/\∀n,n<st.h.length->ρ' n=ρ n:=by
 unfold prepG at hp;split at hp
 ·rename_i k len C ho;cases hp;have hv:=asA_is (evO_is hR.slots (.tmp g));simp only[evO]at hv;obtain⟨gg,sb,cap,h1,h2,h3,h4,h5⟩:=ownV_sound ho hv hR.heap;obtain⟨hR1,hl1⟩:=hR.room 1;have hk:∀j,k=some j->j<st.h.length:=λj hj=>(List.getElem?_eq_some_iff.1 (h5 j hj)).1
  have old:∀{n:Nat} {b:VB},st.h[n]?=some b->(st.h++List.replicate 1 VB.no)[n]?=some b:=λ{n b} h=>by
   rw[List.getElem?_append_left (List.getElem?_eq_some_iff.1 h).1];exact h
  have pr:∀{n:Nat},present st.h n->present (st.h++List.replicate 1 VB.no) n:=λ{n} hp=>by
   cases hp with|row e=>exact .row (old e)|one e=>exact .one (old e)|mp e=>exact .mp (old e)|own e hk h0=>exact .own (old e) hk h0
  have hE:EffPost P ρ (st.h++List.replicate 1 VB.no) w (.a .x) (.app k len C e) (a.tmps.getD g undef) w:=
   ⟨gg,sb,cap,rfl,h1,h2,h3.mono hl1 λ_ _=>rfl,Kept.refl _ w,λh0=>.inr (let ⟨j,q1,q2,q3⟩:=h4 h0;⟨j,q1,pr q2,q3⟩),λj hj=>⟨_,_,old (h5 j hj)⟩⟩
  have hid:(st.h++List.replicate 1 VB.no)[st.h.length]?=some .no:=by rw[List.getElem?_append_right (Nat.le_refl _)];simp
  obtain⟨ρ',hR2,hren⟩:=RS.applyApp hR1 hid hR.bound (dst:=some g) hE;have ha:a.put (some g) (a.tmps.getD g undef)=a:=by
   cases a with
   | mk tmps defers=>
    simp only[Act.put];congr 1;refine Array.ext_getElem? λi=> ?_
    rw[Array.getElem?_setIfInBounds];split
    ·rename_i hgi;subst hgi;split
     ·rename_i hlt;rw[Array.getElem?_eq_getElem hlt];simp
     ·rename_i hlt;rw[Array.getElem?_eq_none (by omega)]
    ·rfl
  have hh:((spend k (st.h++List.replicate 1 VB.no)).set st.h.length (.sl .own len C e))=spend k st.h++[.sl .own len C e]:=by
   refine List.ext_getElem? λi=> ?_
   by_cases hi:i=st.h.length
   ·subst hi;rw[List.getElem?_set_self (by rw[spend_len];simp),List.getElem?_append_right (by rw[spend_len];exact Nat.le_refl _),spend_len];simp
   ·rw[List.getElem?_set_ne (by omega)]
    by_cases hlt:i<st.h.length
    ·rw[List.getElem?_append_left (by rw[spend_len];exact hlt)]
     by_cases hki:k=some i
     ·subst hki;simp only[spend];rw[List.getElem?_set_self (by simp;omega),List.getElem?_set_self hlt]
     ·rw[spend_ne hki,spend_ne hki,List.getElem?_append_left hlt]
    ·rw[List.getElem?_eq_none (by rw[spend_len];simp;omega),List.getElem?_eq_none (by simp[spend_len];omega)]
  simp only[applyE,putS,ha,hh]at hR2;have hlow:∀n,n<st.h.length->k≠some n->(spend k st.h++[VB.sl .own len C e])[n]?=st.h[n]?:=λn hn hkn=>by
   rw[List.getElem?_append_left (by rw[spend_len];exact hn),spend_ne hkn]
  have hsp:∀n,k=some n->(spend k st.h++[VB.sl .own len C e])[n]?=some .sp:=λn hkn=>by
   have:=hk n hkn;rw[List.getElem?_append_left (by rw[spend_len];exact this),hkn];exact List.getElem?_set_self this
  refine⟨ρ',hR2,rfl,by simp[spend_len],λn=> ?_,λn hn hnd=> ?_,λn hn=> ?_,λn hn=>List.mem_append_right _ hn,λn hn=>hren n (by omega)⟩
  ·by_cases hn:n<st.h.length
   ·by_cases hkn:k=some n
    ·have h6:=h5 n hkn;refine⟨λC t k=> ?_,λy t k=> ?_,λ_ _ C _ k=>.inr ?_,λk=> ?_,λ_ _ _ _ k=> ?_,λ_ _ k=> ?_⟩<;>rw[h6]at k<;>cases k
     exact⟨rfl,hsp n hkn⟩
    ·exact .same (hlow n hn hkn)
   ·exact .none (List.getElem?_eq_none (by omega))
  ·exact hlow n hn λhkn=>hnd (List.mem_append_left _ (by rw[hkn];simp))
  ·by_cases hkn:k=some n
   ·exact .inr (hsp n hkn)
   ·exact .inl (hlow n hn hkn)
 ·cases hp
theorem next_headG{W cs bs:List Nat}{g:Nat}{e:TypeId}{st st1 st':St}{s:List SV×List VB}{ρ ρ':Nat->Ad}{a a':Act}{w w':World}(hs1:st1.s=st.s.set g (.a (.l st.h.length)))(hl1:st1.h.length=st.h.length+1)(hgW:g∈W)(hgc:g ∉ cs)(hbs:∀b∈bs,b<st.h.length)
  (hlow:∀(i:Nat) (u:SV),st.s[i]?=some u->refLtV st.h.length u=true) (hlowB:∀(k:Nat) (b:VB),k<st.h.length->st1.h[k]?=some b->refLtB st.h.length b=true) (hn0:n0<=st.h.length)
  (hR:RS E P W0 n0 D ρ0 ρ (head W (cs++[g]) (bs++[st.h.length]) st1 s) a w) (hR':RS E P W0 n0 D ρ0 ρ' st' a' w')
  (hE:Ext W (head W (cs++[g]) (bs++[st.h.length]) st1 s).h.length ρ ρ' (head W (cs++[g]) (bs++[st.h.length]) st1 s) st') (hhl:HLe st.h (head W (cs++[g]) (bs++[st.h.length]) st1 s).h)
  {n len:Nat} {C:Array Value} (hg:asA (st'.s.getD g (.a .x))=.l n) (hown:st'.h[n]?=some (.sl .own len C e)) (hmn:st.h.length<=n)
  (hd:dirtyOk st.h.length bs st'.d=true) (hrs:(getS st'.s cs).all (refLtV st.h.length)=true) (hrh:(getH st'.h bs).all (refLtB st.h.length)=true) :
  RS E P W0 n0 D ρ0 (λk=>if k=st.h.length then ρ' n else ρ' k) (head W (cs++[g]) (bs++[st.h.length]) st1 (getS st'.s cs++[.a (.l st.h.length)],getH st'.h bs++[.sl .own len C e])) a' w' /\
   HLe st.h (head W (cs++[g]) (bs++[st.h.length]) st1 (getS st'.s cs++[.a (.l st.h.length)],getH st'.h bs++[.sl .own len C e])).h:=by
 generalize hm:st.h.length=m at *;have hlen:(head W (cs++[g]) (bs++[m]) st1 s).h.length=m+1:=by rw[<- hl1];exact setMany_len _ _ _
 have hslen:(head W (cs++[g]) (bs++[m]) st1 s).s.length=st.s.length:=by simp only[head];rw[setMany_len,forget_len,hs1,List.length_set]
 generalize hs2:(getS st'.s cs++[SV.a (.l m)],getH st'.h bs++[VB.sl .own len C e])=s2;have hs2h:s2.2=(bs++[m]).map λk=>if k=m then VB.sl .own len C e else st'.h.getD k .no:=by
  rw[<- hs2];simp only[List.map_append,List.map_cons,List.map_nil,if_true,getH_map];congr 1;refine List.map_congr_left λb hb=> ?_
  rw[if_neg (by have:=hbs b hb;omega)]
 have hs2s:s2.1=(cs++[g]).map λc=>if c=g then SV.a (.l m) else st'.s.getD c (.a .x):=by
  rw[<- hs2];simp only[List.map_append,List.map_cons,List.map_nil,if_true,getS_map];congr 1;refine List.map_congr_left λc hc=> ?_
  rw[if_neg (by rintro rfl;exact hgc hc)]
 have hlen2:(head W (cs++[g]) (bs++[m]) st1 s2).h.length=m+1:=by rw[<- hl1];exact setMany_len _ _ _
 have hh:∀k,k<m->(head W (cs++[g]) (bs++[m]) st1 s2).h[k]?=st'.h[k]?:=λk hk=>by
  have hk':k<st'.h.length:=by have:=hE.hlen;omega
  simp only[head];rw[setMany_get _ _ _ k hs2h]
  by_cases hb:k∈bs
  ·rw[if_pos ⟨List.mem_append_left _ hb,by omega⟩,if_neg (by omega),List.getD_eq_getElem?_getD,List.getElem?_eq_getElem hk'];rfl
  ·have hb1:k ∉ bs++[m]:=λh=>by rcases List.mem_append.1 h with h|h;exact hb h;simp at h;omega
   rw[if_neg (λh=>hb1 h.1)];have hnd:k ∉ st'.d:=λhkd=>hb (dirtyOk_mem hd k hkd hk)
   rw[hE.heap k (by omega) hnd];simp only[head];rw[setMany_other _ _ _ hb1]
 have hhm:(head W (cs++[g]) (bs++[m]) st1 s2).h[m]?=some (.sl .own len C e):=by simp only[head];rw[setMany_get _ _ _ m hs2h,if_pos ⟨List.mem_append_right _ (by simp),by omega⟩,if_pos rfl]
 have inlen:∀{k:Nat} {b:VB},(head W (cs++[g]) (bs++[m]) st1 s2).h[k]?=some b->k<m+1:=λ{k b} h=>by rw[<- hlen2];exact(List.getElem?_eq_some_iff.1 h).1
 have hφ:∀{k:Nat},k<m+1->(head W (cs++[g]) (bs++[m]) st1 s2).h[k]?=st'.h[if k=m then n else k]?:=λ{k} hk=>by
  by_cases e:k=m
  ·rw[if_pos e,e,hhm,hown]
  ·rw[if_neg e,hh k (by omega)]
 have hρ:∀k,(if k=m then ρ' n else ρ' k)=ρ' (if k=m then n else k):=λk=>by by_cases e:k=m<;>simp[e]
 have hρlt:∀k,k<m->(if k=m then ρ' n else ρ' k)=ρ' k:=λk hk=>if_neg (by omega)
 have pres:∀k,present (head W (cs++[g]) (bs++[m]) st1 s2).h k->present st'.h (if k=m then n else k):=λk hp=>by
  cases hp with|row e=>exact .row (by rw[<- hφ (inlen e)];exact e)|one e=>exact .one (by rw[<- hφ (inlen e)];exact e)|mp e=>exact .mp (by rw[<- hφ (inlen e)];exact e)|own e hk h0=>exact .own (by rw[<- hφ (inlen e)];exact e) hk h0
 have hgn:Is P ρ' st'.h (.l n) (a'.tmps.getD g undef):=by have:=asA_is (evO_is hR'.slots (.tmp g));simp only[evO]at this;rw[hg]at this;exact this
 refine⟨⟨?_,λi v hv=> ?_,⟨λk b hb=> ?_,λk q hp hq he=> ?_,λk b x h1 h2 q hp=> ?_⟩,λk hk=> ?_,λk hk hp=> ?_,?_,λk len C e hk he=> ?_,hR'.defers,?_⟩,?_⟩
 ·simp only[head];rw[setMany_len,forget_len,hs1,List.length_set,<- hR'.len,hE.len,hslen]
 ·simp only[head]at hv;rw[setMany_get _ _ _ i hs2s]at hv;have hilt:i<st1.s.length:=by
   by_cases h:i<st1.s.length
   ·exact h
   ·exfalso;rw[if_neg (λhc=>h (by have:=hc.2;rwa [forget_len]at this)),List.getElem?_eq_none (by rw[forget_len];omega)]at hv;cases hv
  have hst:st1.s.length=st.s.length:=by rw[hs1,List.length_set]
  have hi':i<st'.s.length:=by rw[hE.len,hslen];omega
  by_cases hc:i∈cs++[g]
  ·rw[if_pos ⟨hc,by rw[forget_len];exact hilt⟩]at hv;simp only[Option.some.injEq]at hv
   by_cases hig:i=g
   ·rw[if_pos hig]at hv;subst hv;subst hig;obtain⟨ad,cap,h1,h2,h3⟩:=Is.l_of hgn hown;refine .inr ⟨.own,len,C,e,ad,cap,hhm,h1,λh0=> ?_,λ_=>⟨(h3 rfl).1,λh0=> ?_⟩⟩
    ·simp only[adOf,if_true];exact h2 h0
    ·simp only[if_true];exact(h3 rfl).2 h0
   ·rw[if_neg hig]at hv;have hcs:i∈cs:=by rcases List.mem_append.1 hc with h|h;exact h;simp at h;exact absurd h hig
    have hmem:=getS_mem (s:=st'.s) hcs;rw[hv]at hmem;rw[List.all_eq_true]at hrs;have hs':st'.s[i]?=some v:=by rw[List.getD_eq_getElem?_getD,List.getElem?_eq_getElem hi']at hv;rw[List.getElem?_eq_getElem hi'];exact congrArg some hv
    exact(hR'.slots i v hs').cutr hh hρlt (hrs v hmem)
  ·rw [if_neg (fun h=>hc h.1),forget_get,Nat.zero_add] at hv;cases hu:st1.s[i]? with
   |none=>rw[hu]at hv;cases hv
   | some u=>
    rw[hu]at hv;simp only[Option.map_some,Option.some.injEq]at hv;cases he:elemN i W with
    |true=>rw[he]at hv;simp only[cond_true]at hv;rw[<- hv];trivial
    | false=>
     rw[he]at hv;simp only[cond_false]at hv;subst hv;have hnW:i ∉ W:=λh=>by rw[elemN_mem.2 h]at he;cases he
     have h1:(head W (cs++[g]) (bs++[m]) st1 s).s[i]?=some u:=by simp only[head];rw[setMany_other _ _ _ hc,forget_get,Nat.zero_add,hu,he];rfl
     have h2:=hE.slots i hnW;rw[h1]at h2;have h3:st.s[i]?=some u:=by rw[hs1,List.getElem?_set_ne (by rintro rfl;exact hnW hgW)]at hu;exact hu
     exact(hR'.slots i u h2).cutr hh hρlt (hlow i u h3)
 ·have hk:=inlen hb;rw[hρ k];rw[hφ hk]at hb;have hi:=hR'.heap.is _ b hb
  by_cases hkm:k=m
  ·subst hkm;simp only[if_true]at hb hi|-
   rw[hown]at hb;cases hb;exact hi
  ·rw[if_neg hkm]at hb hi|-
   refine hi.cutr hh hρlt ?_
   by_cases hbs':k∈bs
   ·have hmem:=getH_mem (h:=st'.h) hbs';rw[List.all_eq_true]at hrh;rw[List.getD_eq_getElem?_getD,hb]at hmem;exact hrh b hmem
   ·have hnd:k ∉ st'.d:=λhkd=>hbs' (dirtyOk_mem hd k hkd (by omega))
    rw[hE.heap k (by omega) hnd]at hb;simp only[head]at hb;rw[setMany_other _ _ _ (λh=>by rcases List.mem_append.1 h with h|h;exact hbs' h;simp at h;omega)]at hb;exact hlowB k b (by omega) hb
 ·rw[hρ k,hρ q]at he;have:=hR'.heap.inj _ _ (pres k hp) (pres q hq) he;have hk:=hp.lt;have hq':=hq.lt
  by_cases e1:k=m
  ·by_cases e2:q=m
   ·omega
   ·rw[if_pos e1,if_neg e2]at this;omega
  ·by_cases e2:q=m
   ·rw[if_neg e1,if_pos e2]at this;omega
   ·rw[if_neg e1,if_neg e2]at this;exact this
 ·rw[hρ q];exact hR'.heap.far (if k=m then n else k) b x (by rw[<- hφ (inlen h1)];exact h1) h2 _ (pres q hp)
 ·show (if k=m then ρ' n else ρ' k)=ρ0 k
  rw[if_neg (by omega)];exact hR'.base k hk
 ·show W0.heap.size<=(if k=m then ρ' n else ρ' k).a\/∃q∈E,q<n0/\(ρ0 q).a=(if k=m then ρ' n else ρ' k).a
  rw[hρ k];refine hR'.fresh _ ?_ (pres k hp);split<;>omega
 ·refine hR'.kept.mono λk _ ⟨q,h1,h2,h3⟩=>⟨q,h1,h2.imp (λh2=> ?_) (λh=>h),h3⟩
  exact List.mem_append_left _ (dirtyOk_mem hd q h2 (by omega))
 ·rw[hφ (inlen he),if_neg (by omega)]at he;exact hR'.own0 k len C e hk he
 ·rw[hlen2];omega
 ·intro k;have key:=(hhl.trans hE.hle) k
  by_cases hk:k<m
  ·have e:=hh k hk;refine⟨λC t h=>let ⟨C',h'⟩:=key.row C t h;⟨C',by rw[e];exact h'⟩,λy t h=>let ⟨C',h'⟩:=key.one y t h;⟨C',by rw[e];exact h'⟩,λa len C t h=>(key.sl a len C t h).imp (λ⟨C',h'⟩=>⟨C',by rw[e];exact h'⟩) λ⟨q1,q2⟩=>⟨q1,by rw[e];exact q2⟩,λh=>by rw[e];exact key.sp h,λ_ _ _ _ h=>by rw[e];exact key.gl _ _ _ _ h,λ_ _ h=>let ⟨E1,c1,h1⟩:=key.mp _ _ h;⟨E1,c1,by rw[e];exact h1⟩⟩
  ·exact .none (List.getElem?_eq_none (by omega))
theorem left_loopG{W cs bs:List Nat}{g:Nat}{st st1:St}{s:LS}{ρs ρ':Nat->Ad}{a':Act}{w':World}(hs1:st1.s=st.s.set g (.a (.l st.h.length)))(hl1:st1.h.length=st.h.length+1)(hd1:∀n∈st.d,n∈st1.d)(hst:∀n,n<st.h.length->n ∉ st1.d->st1.h[n]?=st.h[n]?)
  (hgW:g∈W) (hcs:∀c∈cs,c∈W) (hR:RS E P W0 n0 (st1.d++D) ρ0 ρ' (head W (cs++[g]) (bs++[st.h.length]) st1 s) a' w')
  (hhl:HLe st.h (head W (cs++[g]) (bs++[st.h.length]) st1 s).h) (hren:∀k,k<st.h.length->ρ' k=ρs k) :
  RS E P W0 n0 D ρ0 ρ' (left W (cs++[g]) (bs++[st.h.length]) st1 s) a' w'/\Ext W st.h.length ρs ρ' st (left W (cs++[g]) (bs++[st.h.length]) st1 s):=by
 refine⟨⟨hR.len,hR.slots,hR.heap,hR.base,hR.fresh,hR.kept.mono λk _ ⟨m,h1,h2,h3⟩=>⟨m,h1,?_,h3⟩,hR.own0,hR.defers,hR.bound⟩,⟨λi hi=> ?_,?_,λm hm hd=> ?_,λm hm=>List.mem_append_right _ (hd1 m hm),?_,hhl,hren⟩⟩
 ·simp only[head,left,List.mem_append]at h2|-
  rcases h2 with h2 | (h2|h2)|h2
  ·exact .inl (.inl h2)
  ·exact .inl (.inr h2)
  ·exact .inr (.inl h2)
  ·exact .inr (.inr h2)
 ·have hc:i ∉ cs++[g]:=λhc=>by
   rcases List.mem_append.1 hc with h|h
   ·exact hi (hcs i h)
   ·simp at h;subst h;exact hi hgW
  simp only[left];rw[setMany_other _ _ _ hc,forget_get,Nat.zero_add];have:elemN i W=false:=by cases h:elemN i W with|false=>rfl|true=>exact absurd (elemN_mem.1 h) hi
  rw[this,hs1,List.getElem?_set_ne (by rintro rfl;exact hi hgW)];cases st.s[i]?<;>rfl
 ·simp only[left];rw[setMany_len,forget_len,hs1,List.length_set]
 ·simp only[left]at hd|-
  rw[setMany_other _ _ _ λhb=>hd (List.mem_append_left _ hb)];exact hst m hm λh=>hd (List.mem_append_right _ h)
 ·simp only[left];rw[setMany_len,hl1];omega
theorem afterL_is{l:Nat}{y z:Code}(h:afterL l y=some z):y=.seq (.label l) z:=by
 unfold afterL at h;split at h
 ·rename_i l' z';cases hb:Nat.beq l' l with
  |false=>rw[hb]at h;cases h
  |true=>rw[hb]at h;cases h;rw[Nat.eq_of_beq_eq_true hb]
 ·cases h
theorem jd_find:∀{c:Code} {p:Plan} {j:JD},jd c p=some j->findLabel c j.l=some (.seq .skip j.z)
 | .seq x y,.two p q,j,h=>by
  simp only[jd]at h;split at h
  ·rename_i j' hj;cases hb:(findLabel x j'.l).isNone with
   |false=>rw[hb]at h;cases h
   |true=>rw[hb]at h;cases h;rw[Option.isNone_iff_eq_none]at hb;rw[findLabel,hb];exact jd_find hj
  ·cases h
 | .seq x y,.jump l cs bs p q,j,h=>by
  simp only[jd]at h;split at h
  ·rename_i z hz;cases hb:(findLabel x l).isNone with
   |false=>rw[hb]at h;cases h
   |true=>rw[hb]at h;cases h;rw[Option.isNone_iff_eq_none]at hb;rw[findLabel,hb,afterL_is hz];simp[findLabel]
  ·cases h
 |.seq x y,.one,_,h | .seq x y,.loop _ _ _,_,h | .seq x y,.loopG _ _ _ _ _,_,h | .seq x y,.loopR _ _ _,_,h | .seq x y,.loopGR _ _ _ _ _,_,h | .seq x y,.iter _ _,_,h | .seq x y,.sc _,_,h=>by simp[jd]at h
 |.skip,_,_,h | .region _ _ _,_,_,h | .cond _ _ _,_,_,h | .block _ _,_,_,h | .loop _,_,_,h | .rangeFunc _ _ _ _,_,_,h | .exit _,_,_,h | .scope _,_,_,h | .label _,_,_,h | .goto _,_,_,h | .ret,_,_,h | .refuse _,_,_,h=>by simp[jd]at h
def Exit.hop(l:Nat)(J:Act->World->Prop)(Q:Exit->Act->World->Prop):Exit->Act->World->Prop
 |.goto l',a,w=>l'=l/\J a w
 |e,a,w=>Q e a w
theorem tail_good{m:Nat}{cs bs:List Nat}{st':St}{s':LS}(h:tail m cs bs st'=some s'):s'=(getS st'.s cs,getH st'.h bs)/\dirtyOk m bs st'.d=true/\(getS st'.s cs).all (refLtV m)=true/\(getH st'.h bs).all (refLtB m)=true:=by
 unfold tail at h;cases hok:dirtyOk m bs st'.d&&((getS st'.s cs).all (refLtV m)&&(getH st'.h bs).all (refLtB m)) with
 |false=>rw[hok]at h;cases h
 |true=>rw[hok]at h;simp only[cond_true,Option.some.injEq]at h;simp only[Bool.and_eq_true]at hok;exact⟨h.symm,hok.1,hok.2.1,hok.2.2⟩
abbrev HopQ(E:List Nat)(P:Program)(W0:World)(n0:Nat)(D:List Nat)(ρ0:Nat->Ad){α:Type}(K:Exit->St->Option α)(r:α)(Wt:List Nat)(ρt:Nat->Ad)(stt:St)(e:Exit)(a':Act)(w':World):Prop:=
 ∃ρ' st',K e st'=some r/\RS E P W0 n0 D ρ0 ρ' st' a' w'/\Ext Wt stt.h.length ρt ρ' stt st'
theorem kScope_is{α:Type}{K:Exit->St->Option α}{e:Exit}{st:St}{r:α}(h:kScope K e st=some r):K e st=some r:=by cases e<;>first|exact h|cases h
end
end
section
set_option linter.unusedVariables false
section
variable {P:Program} {W0:World} {n0:Nat} {D E:List Nat} {ρ0:Nat->Ad}
theorem RS.rebox{ρ:Nat->Ad}{st:St}{a:Act}{w:World}(hR:RS E P W0 n0 D ρ0 ρ st a w){g:Nat}{T:TypeId}{y y1:SA}{v:Value}(hg:st.h[g]?=some (.one y T))(hv:Is P ρ st.h y1 v)(hc:w.heap[(ρ g).a]?=some (.cells (oneC y1 v) T (0,0))):
  RS E P W0 n0 D ρ0 ρ { s:=st.s,h:=st.h.set g (.one y1 T),d:=g::st.d } a w/\HLe st.h (st.h.set g (.one y1 T)):=by
 have hkp:Keeps st.h g (.one y1 T):=.inr (.inr (.inl ⟨y,T,y1,hg,rfl⟩));have hl2:=hkp.hle;have hlt:=hkp.lt;have hback:∀n,present (st.h.set g (.one y1 T)) n->present st.h n:=λn hp=>by
  by_cases e:n=g
  ·subst e;exact hkp.present
  ·exact hp.back e
 refine⟨⟨hR.len,λi u hu=>(hR.slots i u hu).mono hl2 λ_ _=>rfl,⟨λn c hc'=> ?_,λn q hp hq e=>hR.heap.inj n q (hback n hp) (hback q hq) e,apart_set hR.heap hkp.nfar (λ_ _=>rfl) λ_ n b' x h1 h2=>hR.heap.far n b' x h1 h2 g hkp.present⟩,hR.base,λn hn hp=>hR.fresh n hn (hback n hp),
  hR.kept.mono λk _ ⟨q,e1,e2,e3⟩=>⟨q,e1,e2.imp (List.mem_cons_of_mem _) id,e3⟩,hkp.own0 hR.own0,hR.defers,by simp;exact hR.bound⟩,hl2⟩
 dsimp only at hc'
 by_cases e:n=g
 ·subst e;rw[List.getElem?_set_self hlt]at hc';cases hc';exact⟨v,hv.mono hl2 λ_ _=>rfl,hc⟩
 ·rw[List.getElem?_set_ne (by omega)]at hc';exact(hR.heap.is n c hc').mono hl2 λ_ _=>rfl
/-- A box's value, and the same with another slice. -/
inductive BoxR (m n:Nat):SA->SA->Prop
 |l:BoxR m n (.l m) (.l n)
 |r (D:Array Value) (T:TypeId) (o:Nat):BoxR m n (.r D T [(o,m)]) (.r D T [(o,n)])
theorem BoxR.oneC{m n:Nat}{y y':SA}(h:BoxR m n y y')(v:Value):oneC y v=oneC y' v:=by cases h<;>rfl
theorem rowR_one{ρ ρ1:Nat->Ad}{h h1:List VB}{D D':Array Value}{o n m:Nat}(hl:∀v,Is P ρ h (.l n) v->Is P ρ1 h1 (.l m) v)(hr:RowR P ρ h D [(o,n)] D'):RowR P ρ1 h1 D [(o,m)] D':=by
 refine⟨hr.size,λi hi=>hr.same i ?_,λi k hi=> ?_,by simp⟩
 ·simp only[lookN]at hi|-
  cases hb:Nat.beq o i with
  |true=>rw[hb]at hi;cases hi
  |false=>rfl
 ·simp only[lookN]at hi;cases hb:Nat.beq o i with
  |false=>rw[hb]at hi;cases hi
  |true=>rw[hb]at hi;cases hi;obtain⟨h1,ad,l,c,h2,h3⟩:=hr.refs i n (by simp[lookN,hb]);exact⟨h1,ad,l,c,h2,hl _ h3⟩
theorem BoxR.is{ρ ρ1:Nat->Ad}{h h1:List VB}{m n:Nat}{y y':SA}(hb:BoxR m n y y')(hl:∀v,Is P ρ h (.l n) v->Is P ρ1 h1 (.l m) v){v:Value}(hi:Is P ρ h y' v):Is P ρ1 h1 y v:=by cases hb with|l=>exact hl v hi|r D T o=>obtain⟨D',rfl,h2,h3⟩:=hi;exact⟨D',rfl,h2,rowR_one hl h3⟩
theorem nilAt_is:∀{l:List Value} {i o:Nat},nilAt l i=some o->i<=o/\l[o - i]?=some nilS
 |[],i,o,h=>by cases h
 | v::r,i,o,h=>by
  simp only[nilAt]at h;split at h
  ·cases h;exact⟨Nat.le_refl _,by simp[nilS]⟩
  ·obtain⟨h1,h2⟩:=nilAt_is h;refine⟨by omega,?_⟩;rw[show o - i=(o - (i+1))+1 by omega,List.getElem?_cons_succ];exact h2
theorem boxIn_sound{ρ:Nat->Ad}{h:List VB}{y z:SA}{f:Nat->SA}{v:Value}(hb:boxIn y=some (z,f))(hi:Is P ρ h y v):
  ∃sl,Is P ρ h z sl/\(∀m,BoxR m m (f m) (f m))/\(∀m ρ1 h1,Is P ρ1 h1 (.l m) sl->Is P ρ1 h1 (f m) v)/\∀m,oneC (f m) v=oneC y v:=by
 unfold boxIn at hb;split at hb
 ·cases hb;exact⟨v,hi,λ_=>.l,λ_ _ _ h=>h,λ_=>rfl⟩
 ·cases hb;exact⟨v,hi,λ_=>.l,λ_ _ _ h=>h,λ_=>rfl⟩
 ·rename_i D T;split at hb
  case h_2=>cases hb
  rename_i o ho;cases hb;obtain⟨-,h2⟩:=nilAt_is ho;obtain⟨D',rfl,hw,hr⟩:=hi;have hDo:D[o]?=some nilS:=by rw[<- Array.getElem?_toList];simpa using h2
  refine⟨nilS,rfl,λ_=>.r _ _ _,λm ρ1 h1 hl=>⟨D',rfl,hw,hr.size,λi hi=>hr.same i rfl,λi k hik=> ?_,by simp⟩,λ_=>rfl⟩;simp only[lookN]at hik;cases hb:Nat.beq o i with
  |false=>rw[hb]at hik;cases hik
  |true=>rw[hb]at hik;cases hik;obtain rfl:=Nat.eq_of_beq_eq_true hb;exact⟨hDo,none,0,0,by rw[hr.same o rfl,hDo];rfl,hl⟩
 ·rename_i D T o n;cases hb;obtain⟨D',rfl,hw,hr⟩:=hi;obtain⟨h1,ad,l,c,h2,h3⟩:=hr.refs o n (by simp[lookN]);refine⟨.slice ad l c,h3,λ_=>.r _ _ _,λm ρ1 hh1 hl=>⟨D',rfl,hw,hr.size,λi hi=>hr.same i ?_,λi k hik=> ?_,by simp⟩,λ_=>rfl⟩
  ·simp only[lookN]at hi|-
   cases hb:Nat.beq o i with
   |true=>rw[hb]at hi;cases hi
   |false=>rfl
  ·simp only[lookN]at hik;cases hb:Nat.beq o i with
   |false=>rw[hb]at hik;cases hik
   |true=>rw[hb]at hik;cases hik;obtain rfl:=Nat.eq_of_beq_eq_true hb;exact⟨h1,ad,l,c,h2,hl⟩
 ·cases hb
theorem prepB_sound{g:Nat}{e:TypeId}{st st1:St}{ρ:Nat->Ad}{a:Act}{w:World}(hR:RS E P W0 n0 D ρ0 ρ st a w)(hp:prepB g e st=some st1):
  ∃ρ' T len C y1,RS E P W0 n0 D ρ0 ρ' st1 a w/\st1.s=st.s/\st1.h.length=st.h.length+1/\HLe st.h st1.h/\st1.h[g]?=some (.one y1 T)/\BoxR st.h.length st.h.length y1 y1/\g<st.h.length/\st1.h[st.h.length]?=some (.sl .own len C e)/\g∈st1.d /\
   (∀n,n<st.h.length->n ∉ st1.d->st1.h[n]?=st.h[n]?)/\(∀n,n<st.h.length->n≠g->st1.h[n]?=st.h[n]?\/st1.h[n]?=some .sp)/\(∀n∈st.d,n∈st1.d)/\∀n,n<st.h.length->ρ' n=ρ n:=by
 unfold prepB at hp;split at hp
 case h_2=>cases hp
 rename_i T f k len C hbx;cases hp;unfold boxV at hbx;split at hbx
 case h_2=>cases hbx
 rename_i y T' hg;split at hbx
 case h_2=>cases hbx
 rename_i z f' hin;split at hbx
 case h_2=>cases hbx
 rename_i n' len' C' ho;cases hbx;have hglt:g<st.h.length:=(List.getElem?_eq_some_iff.1 hg).1;obtain⟨v,hv,hc⟩:=hR.heap.is g _ hg;obtain⟨sl,hz,hbR,hre,hoc⟩:=boxIn_sound hin hv;obtain⟨gg,sb,cap,h1,h2,h3,h4,h5⟩:=ownV_sound ho hz hR.heap;obtain⟨hR1,hl1⟩:=hR.room 1;have hk:∀j,k=some j->j<st.h.length:=λj hj=>(List.getElem?_eq_some_iff.1 (h5 j hj)).1
 have hkg:k≠some g:=λe=>by have:=h5 g e;rw[hg]at this;cases this
 have old:∀{n:Nat} {b:VB},st.h[n]?=some b->(st.h++List.replicate 1 VB.no)[n]?=some b:=λ{n b} h=>by
  rw[List.getElem?_append_left (List.getElem?_eq_some_iff.1 h).1];exact h
 have pr:∀{n:Nat},present st.h n->present (st.h++List.replicate 1 VB.no) n:=λ{n} hp=>by
  cases hp with|row e=>exact .row (old e)|one e=>exact .one (old e)|mp e=>exact .mp (old e)|own e hk h0=>exact .own (old e) hk h0
 have hE:EffPost P ρ (st.h++List.replicate 1 VB.no) w (.a .x) (.app k len C e) sl w:=
  ⟨gg,sb,cap,rfl,h1,h2,h3.mono hl1 λ_ _=>rfl,Kept.refl _ w,λh0=>.inr (let ⟨j,q1,q2,q3⟩:=h4 h0;⟨j,q1,pr q2,q3⟩),λj hj=>⟨_,_,old (h5 j hj)⟩⟩
 have hid:(st.h++List.replicate 1 VB.no)[st.h.length]?=some .no:=by rw[List.getElem?_append_right (Nat.le_refl _)];simp
 obtain⟨ρ',hR2,hren,his⟩:=RS.applyApp' hR1 hid hR.bound (dst:=none) hE;have hh:((spend k (st.h++List.replicate 1 VB.no)).set st.h.length (.sl .own len C e))=spend k st.h++[.sl .own len C e]:=by
  refine List.ext_getElem? λi=> ?_
  by_cases hi:i=st.h.length
  ·subst hi;rw[List.getElem?_set_self (by rw[spend_len];simp),List.getElem?_append_right (by rw[spend_len];exact Nat.le_refl _),spend_len];simp
  ·rw[List.getElem?_set_ne (by omega)]
   by_cases hlt:i<st.h.length
   ·rw[List.getElem?_append_left (by rw[spend_len];exact hlt)]
    by_cases hki:k=some i
    ·subst hki;simp only[spend];rw[List.getElem?_set_self (by simp;omega),List.getElem?_set_self hlt]
    ·rw[spend_ne hki,spend_ne hki,List.getElem?_append_left hlt]
   ·rw[List.getElem?_eq_none (by rw[spend_len];simp;omega),List.getElem?_eq_none (by simp[spend_len];omega)]
 have ha:a.put none sl=a:=rfl;simp only[applyE,putS,ha,hh]at hR2 his;have hlow:∀n,n<st.h.length->k≠some n->(spend k st.h++[VB.sl .own len C e])[n]?=st.h[n]?:=λn hn hkn=>by
  rw[List.getElem?_append_left (by rw[spend_len];exact hn),spend_ne hkn]
 have hsp:∀n,k=some n->(spend k st.h++[VB.sl .own len C e])[n]?=some .sp:=λn hkn=>by
  have:=hk n hkn;rw[List.getElem?_append_left (by rw[spend_len];exact this),hkn];exact List.getElem?_set_self this
 have hle1:HLe st.h (spend k st.h++[VB.sl .own len C e]):=λn=>by
  by_cases hn:n<st.h.length
  ·by_cases hkn:k=some n
   ·have h6:=h5 n hkn;refine⟨λC t k=> ?_,λy t k=> ?_,λ_ _ C _ k=>.inr ?_,λk=> ?_,λ_ _ _ _ k=> ?_,λ_ _ k=> ?_⟩<;>rw[h6]at k<;>cases k
    exact⟨rfl,hsp n hkn⟩
   ·exact .same (hlow n hn hkn)
  ·exact .none (List.getElem?_eq_none (by omega))
 have hgr:ρ' g=ρ g:=hren g (by omega);obtain⟨hR3,hl3⟩:=hR2.rebox (g:=g) (T:=T) (y:=y) (y1:=f st.h.length) (by dsimp only;rw[hlow g hglt hkg];exact hg) (hre _ _ _ his) (by
  rw[hgr,hoc];exact hc)
 have hset:(spend k st.h++[VB.sl .own len C e]).set g (.one (f st.h.length) T)=(spend k st.h).set g (.one (f st.h.length) T)++[VB.sl .own len C e]:=by rw[List.set_append_left _ _ (by rw[spend_len];exact hglt)]
 dsimp only at hR3 hl3;rw[hset]at hR3 hl3;have hgl:((spend k st.h).set g (VB.one (f st.h.length) T)++[VB.sl .own len C e])[g]?=some (.one (f st.h.length) T):=by rw[List.getElem?_append_left (by simp[spend_len];exact hglt),List.getElem?_set_self (by rw[spend_len];exact hglt)]
 have hne:∀n,n<st.h.length->n≠g->((spend k st.h).set g (VB.one (f st.h.length) T)++[VB.sl .own len C e])[n]?=(spend k st.h)[n]?:=λn hn hng=>by
  rw[List.getElem?_append_left (by simp[spend_len];exact hn),List.getElem?_set_ne (by omega)]
 refine⟨ρ',T,len,C,f st.h.length,hR3,rfl,by simp[spend_len],hle1.trans hl3,hgl,hbR _,hglt,by rw[List.getElem?_append_right (by simp[spend_len])];simp[spend_len],List.mem_cons_self ..,λn hn hnd=> ?_,λn hn hng=> ?_,λn hn=>List.mem_cons_of_mem _ (List.mem_append_right _ hn),λn hn=>hren n (by omega)⟩
 ·simp only[List.mem_cons,List.mem_append,not_or]at hnd;dsimp only;rw[hne n hn hnd.1,spend_ne λhkn=>hnd.2.1 (by rw[hkn];simp)]
 ·dsimp only;rw[hne n hn hng]
  by_cases hkn:k=some n
  ·subst hkn;exact .inr (List.getElem?_set_self hn)
  ·exact .inl (spend_ne hkn)
theorem grownB_is{q:Array Value->Array Value->Bool}(hq:∀a b,q a b=true ↔ a=b){y1:SA}{m g:Nat}(hy:BoxR m m y1 y1){e:TypeId}{h:List VB}{b:VB}(hb:grownB q y1 m g e h=some b):∃n T len C y',h[g]?=some (.one y' T)/\BoxR m n y1 y'/\h[n]?=some (.sl .own len C e)/\m<=n/\b=.sl .own len C e:=by
 unfold grownB at hb;split at hb
 case h_2=>cases hb
 rename_i y T hg;split at hb
 case h_2=>cases hb
 rename_i n ok hs;cases ok with
 |false=>cases hb
 |true=>
 simp only[cond_true]at hb;split at hb
 case h_2=>cases hb
 rename_i len C e' hn;cases hok:Nat.beq e e'&&Nat.ble m n with
 |false=>rw[hok]at hb;cases hb
 | true=>
  rw[hok]at hb;simp only[Bool.and_eq_true]at hok;obtain rfl:=Nat.eq_of_beq_eq_true hok.1;cases hb;refine⟨n,T,len,C,y,hg,?_,hn,Nat.le_of_ble_eq_true hok.2,rfl⟩;cases hy with
  | l=>
   unfold sameBox at hs;split at hs
   ·rename_i h1;cases h1;cases hs;exact .l
   ·rename_i h1;cases h1
   ·cases hs
  | r D T o=>
   unfold sameBox at hs;split at hs
   ·rename_i h1;cases h1
   ·rename_i D0 T0 o0 _ D' T' o' n' h1;cases h1;cases hc:Nat.beq T T'&&Nat.beq o o' with
    |false=>rw[hc]at hs;cases hs
    |true=>rw[hc]at hs;simp only[cond_true,Option.some.injEq,Prod.mk.injEq]at hs;simp only[Bool.and_eq_true]at hc;obtain rfl:=Nat.eq_of_beq_eq_true hc.1;obtain rfl:=Nat.eq_of_beq_eq_true hc.2;obtain⟨rfl,h2⟩:=hs;obtain rfl:=(hq _ _).1 h2;exact .r _ _ _
   ·cases hs
theorem next_headB{W cs bs:List Nat}{g:Nat}{y1 y':SA}{e T:TypeId}{st st1 st':St}{s:List SV×List VB}{ρ ρ':Nat->Ad}{a a':Act}{w w':World}(hs1:st1.s=st.s)(hl1:st1.h.length=st.h.length+1)(hg1:st1.h[g]?=some (.one y1 T))(hgl:g<st.h.length)(hgb:g ∉ bs)(hbs:∀b∈bs,b<st.h.length)
  (hlow:∀(i:Nat) (u:SV),st.s[i]?=some u->refLtV st.h.length u=true) (hlowB:∀(k:Nat) (b:VB),k<st.h.length->k≠g->st1.h[k]?=some b->refLtB st.h.length b=true) (hn0:n0<=st.h.length)
  (hR:RS E P W0 n0 D ρ0 ρ (head W cs (bs++[st.h.length]) st1 s) a w) (hR':RS E P W0 n0 D ρ0 ρ' st' a' w') (hgD:g∈D)
  (hE:Ext W (head W cs (bs++[st.h.length]) st1 s).h.length ρ ρ' (head W cs (bs++[st.h.length]) st1 s) st') (hhl:HLe st.h (head W cs (bs++[st.h.length]) st1 s).h)
  {n len:Nat} {T':TypeId} {C:Array Value} (hg:st'.h[g]?=some (.one y' T')) (hbR:BoxR st.h.length n y1 y') (hown:st'.h[n]?=some (.sl .own len C e)) (hmn:st.h.length<=n)
  (hd:dirtyOk st.h.length (g::bs) st'.d=true) (hrs:(getS st'.s cs).all (refLtV st.h.length)=true) (hrh:(getH st'.h bs).all (refLtB st.h.length)=true) :
  RS E P W0 n0 D ρ0 (λk=>if k=st.h.length then ρ' n else ρ' k) (head W cs (bs++[st.h.length]) st1 (getS st'.s cs,getH st'.h bs++[.sl .own len C e])) a' w' /\
   HLe st.h (head W cs (bs++[st.h.length]) st1 (getS st'.s cs,getH st'.h bs++[.sl .own len C e])).h:=by
 generalize hm:st.h.length=m at *;have hlen:(head W cs (bs++[m]) st1 s).h.length=m+1:=by rw[<- hl1];exact setMany_len _ _ _
 have hslen:(head W cs (bs++[m]) st1 s).s.length=st.s.length:=by simp only[head];rw[setMany_len,forget_len,hs1]
 generalize hs2:(getS st'.s cs,getH st'.h bs++[VB.sl .own len C e])=s2;have hs2h:s2.2=(bs++[m]).map λk=>if k=m then VB.sl .own len C e else st'.h.getD k .no:=by
  rw[<- hs2];simp only[List.map_append,List.map_cons,List.map_nil,if_true,getH_map];congr 1;refine List.map_congr_left λb hb=> ?_
  rw[if_neg (by have:=hbs b hb;omega)]
 have hs2s:s2.1=cs.map λc=>st'.s.getD c (.a .x):=by rw[<- hs2];exact getS_map _ _
 have hlen2:(head W cs (bs++[m]) st1 s2).h.length=m+1:=by rw[<- hl1];exact setMany_len _ _ _
 have hgm:g ∉ bs++[m]:=λh=>by rcases List.mem_append.1 h with h|h;exact hgb h;simp at h;omega
 have hh:∀k,k<m->k≠g->(head W cs (bs++[m]) st1 s2).h[k]?=st'.h[k]?:=λk hk hkg=>by
  have hk':k<st'.h.length:=by have:=hE.hlen;omega
  simp only[head];rw[setMany_get _ _ _ k hs2h]
  by_cases hb:k∈bs
  ·rw[if_pos ⟨List.mem_append_left _ hb,by omega⟩,if_neg (by omega),List.getD_eq_getElem?_getD,List.getElem?_eq_getElem hk'];rfl
  ·have hb1:k ∉ bs++[m]:=λh=>by rcases List.mem_append.1 h with h|h;exact hb h;simp at h;omega
   rw[if_neg (λh=>hb1 h.1)];have hnd:k ∉ st'.d:=λhkd=>by
    rcases List.mem_cons.1 (dirtyOk_mem hd k hkd hk) with h|h
    ·exact hkg h
    ·exact hb h
   rw[hE.heap k (by omega) hnd];simp only[head];rw[setMany_other _ _ _ hb1]
 have hhg:(head W cs (bs++[m]) st1 s2).h[g]?=some (.one y1 T):=by simp only[head];rw[setMany_other _ _ _ hgm];exact hg1
 have hhg0:(head W cs (bs++[m]) st1 s).h[g]?=some (.one y1 T):=by simp only[head];rw[setMany_other _ _ _ hgm];exact hg1
 obtain rfl:T'=T:=by obtain⟨y',e'⟩:=(hE.hle g).one _ _ hhg0;rw[hg]at e';cases e';rfl
 have hhm:(head W cs (bs++[m]) st1 s2).h[m]?=some (.sl .own len C e):=by simp only[head];rw[setMany_get _ _ _ m hs2h,if_pos ⟨List.mem_append_right _ (by simp),by omega⟩,if_pos rfl]
 have inlen:∀{k:Nat} {b:VB},(head W cs (bs++[m]) st1 s2).h[k]?=some b->k<m+1:=λ{k b} h=>by rw[<- hlen2];exact(List.getElem?_eq_some_iff.1 h).1
 have hφ:∀{k:Nat},k<m+1->k≠g->(head W cs (bs++[m]) st1 s2).h[k]?=st'.h[if k=m then n else k]?:=λ{k} hk hkg=>by
  by_cases e:k=m
  ·rw[if_pos e,e,hhm,hown]
  ·rw[if_neg e,hh k (by omega) hkg]
 have hρ:∀k,(if k=m then ρ' n else ρ' k)=ρ' (if k=m then n else k):=λk=>by by_cases e:k=m<;>simp[e]
 have hρlt:∀k,k<m->(if k=m then ρ' n else ρ' k)=ρ' k:=λk hk=>if_neg (by omega)
 have pres:∀k,present (head W cs (bs++[m]) st1 s2).h k->present st'.h (if k=m then n else k):=λk hp=>by
  by_cases hkg:k=g
  ·subst hkg;rw[if_neg (by omega)];exact .one hg
  ·cases hp with|row e=>exact .row (by rw[<- hφ (inlen e) hkg];exact e)|one e=>exact .one (by rw[<- hφ (inlen e) hkg];exact e)|mp e=>exact .mp (by rw[<- hφ (inlen e) hkg];exact e)|own e hk h0=>exact .own (by rw[<- hφ (inlen e) hkg];exact e) hk h0
 have hgn:∀{v:Value},Is P ρ' st'.h (.l n) v->Is P (λk=>if k=m then ρ' n else ρ' k) (head W cs (bs++[m]) st1 s2).h (.l m) v:=λ{v} hi=>by
  obtain⟨ad,cap,h1,h2,h3⟩:=Is.l_of hi hown;refine .inr ⟨.own,len,C,e,ad,cap,hhm,h1,λh0=> ?_,λ_=>⟨(h3 rfl).1,λh0=> ?_⟩⟩
  ·simp only[adOf,if_true];exact h2 h0
  ·simp only[if_true];exact(h3 rfl).2 h0
 -- what looks at nothing new is as it was, but for the box
 let h3:List VB:=(head W cs (bs++[m]) st1 s2).h
 have hle3:HLe (st'.h.take m) (head W cs (bs++[m]) st1 s2).h:=λk=>by
  by_cases hkm:k<m
  ·by_cases hkg:k=g
   ·subst hkg;refine⟨λC t e=> ?_,λy t e=> ?_,λa len C t e=> ?_,λe=> ?_,λg t a x e=> ?_,λE c e=> ?_⟩<;>rw[List.getElem?_take,if_pos hkm,hg]at e<;>cases e
    exact⟨_,hhg⟩
   ·exact .same (by rw[hh k hkm hkg,List.getElem?_take,if_pos hkm])
  ·exact .none (by rw[List.getElem?_take,if_neg hkm])
 have hcutV:∀{y:SV} {v:Value},IsV P ρ' st'.h y v->refLtV m y=true->IsV P (λk=>if k=m then ρ' n else ρ' k) (head W cs (bs++[m]) st1 s2).h y v:=λ{y v} hi hr=>
  (hi.cut (h:=st'.h.take m) (λq hq=>by rw[List.getElem?_take,if_pos hq]) hr).mono hle3 λq hp=>hρlt q (by have:=hp.lt;rw[List.length_take]at this;omega)
 have hcutB:∀{ww:World} {gg:Ad} {b:VB},BIs P ρ' st'.h ww gg b->refLtB m b=true->BIs P (λk=>if k=m then ρ' n else ρ' k) (head W cs (bs++[m]) st1 s2).h ww gg b:=λ{ww gg b} hi hr=>
  (hi.cut (h:=st'.h.take m) (λq hq=>by rw[List.getElem?_take,if_pos hq]) hr).mono hle3 λq hp=>hρlt q (by have:=hp.lt;rw[List.length_take]at this;omega)
 refine⟨⟨?_,λi v hv=> ?_,⟨λk b hb=> ?_,λk q hp hq he=> ?_,λk b x h1 h2 q hp=> ?_⟩,λk hk=> ?_,λk hk hp=> ?_,?_,λk len C e hk he=> ?_,hR'.defers,?_⟩,?_⟩
 ·simp only[head];rw[setMany_len,forget_len,hs1,<- hR'.len,hE.len,hslen]
 ·simp only[head]at hv;rw[setMany_get _ _ _ i hs2s]at hv;have hilt:i<st1.s.length:=by
   by_cases h:i<st1.s.length
   ·exact h
   ·exfalso;rw[if_neg (λhc=>h (by have:=hc.2;rwa [forget_len]at this)),List.getElem?_eq_none (by rw[forget_len];omega)]at hv;cases hv
  have hi':i<st'.s.length:=by rw[hE.len,hslen,<- hs1];omega
  by_cases hc:i∈cs
  ·rw[if_pos ⟨hc,by rw[forget_len];exact hilt⟩]at hv;simp only[Option.some.injEq]at hv;have hmem:=getS_mem (s:=st'.s) hc;rw[hv]at hmem;rw[List.all_eq_true]at hrs;have hs':st'.s[i]?=some v:=by
    rw[List.getD_eq_getElem?_getD,List.getElem?_eq_getElem hi']at hv;rw[List.getElem?_eq_getElem hi'];exact congrArg some hv
   exact hcutV (hR'.slots i v hs') (hrs v hmem)
  ·rw [if_neg (fun h=>hc h.1),forget_get,Nat.zero_add] at hv;cases hu:st1.s[i]? with
   |none=>rw[hu]at hv;cases hv
   | some u=>
    rw[hu]at hv;simp only[Option.map_some,Option.some.injEq]at hv;cases he:elemN i W with
    |true=>rw[he]at hv;simp only[cond_true]at hv;rw[<- hv];trivial
    | false=>
     rw[he]at hv;simp only[cond_false]at hv;subst hv;have hnW:i ∉ W:=λh=>by rw[elemN_mem.2 h]at he;cases he
     have h1:(head W cs (bs++[m]) st1 s).s[i]?=some u:=by simp only[head];rw[setMany_other _ _ _ hc,forget_get,Nat.zero_add,hu,he];rfl
     have h2:=hE.slots i hnW;rw[h1]at h2;exact hcutV (hR'.slots i u h2) (hlow i u (by rw[<- hs1];exact hu))
 ·have hk:=inlen hb
  by_cases hkg:k=g
  ·subst hkg;rw[hhg]at hb;cases hb;obtain⟨v,hv,hc⟩:=hR'.heap.is _ _ hg;have e1:(if k=m then ρ' n else ρ' k)=ρ' k:=if_neg (by omega);rw[e1];exact⟨v,hbR.is (λ_=>hgn) hv,by rw[hbR.oneC];exact hc⟩
  ·rw [hρ k];rw[hφ hk hkg]at hb;have hi:=hR'.heap.is _ b hb
   by_cases hkm:k=m
   ·subst hkm;simp only[if_true]at hb hi|-
    rw[hown]at hb;cases hb;exact hi
   ·rw[if_neg hkm]at hb hi|-
    refine hcutB hi ?_
    by_cases hbs':k∈bs
    ·have hmem:=getH_mem (h:=st'.h) hbs';rw[List.all_eq_true]at hrh;rw[List.getD_eq_getElem?_getD,hb]at hmem;exact hrh b hmem
    ·have hnd:k ∉ st'.d:=λhkd=>by
      rcases List.mem_cons.1 (dirtyOk_mem hd k hkd (by omega)) with h|h
      ·exact hkg h
      ·exact hbs' h
     rw[hE.heap k (by omega) hnd]at hb;simp only[head]at hb;rw[setMany_other _ _ _ (λh=>by rcases List.mem_append.1 h with h|h;exact hbs' h;simp at h;omega)]at hb;exact hlowB k b (by omega) hkg hb
 ·rw[hρ k,hρ q]at he;have:=hR'.heap.inj _ _ (pres k hp) (pres q hq) he;have hk:=hp.lt;have hq':=hq.lt
  by_cases e1:k=m
  ·by_cases e2:q=m
   ·omega
   ·rw[if_pos e1,if_neg e2]at this;omega
  ·by_cases e2:q=m
   ·rw[if_neg e1,if_pos e2]at this;omega
   ·rw[if_neg e1,if_neg e2]at this;exact this
 ·have hkg:k≠g:=λe=>by subst e;rw[hhg]at h1;cases h1;exact h2
  rw[hρ q];exact hR'.heap.far (if k=m then n else k) b x (by rw[<- hφ (inlen h1) hkg];exact h1) h2 _ (pres q hp)
 ·show (if k=m then ρ' n else ρ' k)=ρ0 k
  rw[if_neg (by omega)];exact hR'.base k hk
 ·show W0.heap.size<=(if k=m then ρ' n else ρ' k).a\/∃q∈E,q<n0/\(ρ0 q).a=(if k=m then ρ' n else ρ' k).a
  rw[hρ k];refine hR'.fresh _ ?_ (pres k hp);split<;>omega
 ·refine hR'.kept.mono λk _ ⟨q,h1,h2,h3⟩=>⟨q,h1,?_,h3⟩
  rcases h2 with h2|h2
  ·rcases List.mem_cons.1 (dirtyOk_mem hd q h2 (by omega)) with h|h
   ·exact .inr (.inl (h ▸ hgD))
   ·exact .inl (List.mem_append_left _ h)
  ·exact .inr h2
 ·have hkg:k≠g:=λe=>by subst e;rw[hhg]at he;cases he
  rw[hφ (inlen he) hkg,if_neg (by omega)]at he;exact hR'.own0 k len C e hk he
 ·rw[hlen2];omega
 ·intro k;have key:=(hhl.trans hE.hle) k
  by_cases hk:k<m
  ·by_cases hkg:k=g
   ·subst hkg;refine⟨λC t h=> ?_,λy t h=> ?_,λa len C t h=> ?_,λh=> ?_,λ_ _ _ _ h=> ?_,λ_ _ h=> ?_⟩
    ·obtain⟨C',h'⟩:=key.row C t h;rw[hg]at h';cases h'
    ·obtain⟨y',h'⟩:=key.one y t h;rw[hg]at h';cases h';exact⟨_,hhg⟩
    ·rcases key.sl a len C t h with ⟨C',h'⟩ | ⟨_,h'⟩<;>rw[hg]at h'<;>cases h'
    ·have h':=key.sp h;rw[hg]at h';cases h'
    ·have h':=key.gl _ _ _ _ h;rw[hg]at h';cases h'
    ·obtain⟨_,_,h'⟩:=key.mp _ _ h;rw[hg]at h';cases h'
   ·have e:=hh k hk hkg;refine⟨λC t h=>let ⟨C',h'⟩:=key.row C t h;⟨C',by rw[e];exact h'⟩,λy t h=>let ⟨C',h'⟩:=key.one y t h;⟨C',by rw[e];exact h'⟩,λa len C t h=>(key.sl a len C t h).imp (λ⟨C',h'⟩=>⟨C',by rw[e];exact h'⟩) λ⟨q1,q2⟩=>⟨q1,by rw[e];exact q2⟩,λh=>by rw[e];exact key.sp h,λ_ _ _ _ h=>by rw[e];exact key.gl _ _ _ _ h,λ_ _ h=>let ⟨E1,c1,h1⟩:=key.mp _ _ h;⟨E1,c1,by rw[e];exact h1⟩⟩
  ·exact .none (List.getElem?_eq_none (by omega))
theorem left_loopB{W cs bs:List Nat}{st st1:St}{s:LS}{ρs ρ':Nat->Ad}{a':Act}{w':World}(hs1:st1.s=st.s)(hl1:st1.h.length=st.h.length+1)(hd1:∀n∈st.d,n∈st1.d)(hst:∀n,n<st.h.length->n ∉ st1.d->st1.h[n]?=st.h[n]?)
  (hcs:∀c∈cs,c∈W) (hR:RS E P W0 n0 (st1.d++D) ρ0 ρ' (head W cs (bs++[st.h.length]) st1 s) a' w')
  (hhl:HLe st.h (head W cs (bs++[st.h.length]) st1 s).h) (hren:∀k,k<st.h.length->ρ' k=ρs k) :
  RS E P W0 n0 D ρ0 ρ' (left W cs (bs++[st.h.length]) st1 s) a' w'/\Ext W st.h.length ρs ρ' st (left W cs (bs++[st.h.length]) st1 s):=by
 refine⟨⟨hR.len,hR.slots,hR.heap,hR.base,hR.fresh,hR.kept.mono λk _ ⟨m,h1,h2,h3⟩=>⟨m,h1,?_,h3⟩,hR.own0,hR.defers,hR.bound⟩,⟨λi hi=> ?_,?_,λm hm hd=> ?_,λm hm=>List.mem_append_right _ (hd1 m hm),?_,hhl,hren⟩⟩
 ·simp only[head,left,List.mem_append]at h2|-
  rcases h2 with h2 | (h2|h2)|h2
  ·exact .inl (.inl h2)
  ·exact .inl (.inr h2)
  ·exact .inr (.inl h2)
  ·exact .inr (.inr h2)
 ·have hc:i ∉ cs:=λhc=>hi (hcs i hc)
  simp only[left];rw[setMany_other _ _ _ hc,forget_get,Nat.zero_add];have:elemN i W=false:=by cases h:elemN i W with|false=>rfl|true=>exact absurd (elemN_mem.1 h) hi
  rw[this,hs1];cases st.s[i]?<;>rfl
 ·simp only[left];rw[setMany_len,forget_len,hs1]
 ·simp only[left]at hd|-
  rw[setMany_other _ _ _ λhb=>hd (List.mem_append_left _ hb)];exact hst m hm λh=>hd (List.mem_append_right _ h)
 ·simp only[left];rw[setMany_len,hl1];omega
theorem prepM_sound:∀{gs:List (Nat×TypeId)} {st st1:St} {ρ:Nat->Ad} {a:Act} {w:World} (hR:RS E P W0 n0 D ρ0 ρ st a w) (hp:prepM gs st=some st1),
  ∃ρ',RS E P W0 n0 D ρ0 ρ' st1 a w/\(∀i,i ∉ gs.map (·.1)->st1.s[i]?=st.s[i]?)/\st1.s.length=st.s.length/\st1.h.length=st.h.length+gs.length/\HLe st.h st1.h/\(∀n,n<st.h.length->n ∉ st1.d->st1.h[n]?=st.h[n]?)/\(∀n,n<st.h.length->st1.h[n]?=st.h[n]?\/st1.h[n]?=some .sp)/\(∀n∈st.d,n∈st1.d) /\ ∀n,n<st.h.length->ρ' n=ρ n
 |[],st,st1,ρ,a,w,hR,hp=>by
  cases hp;exact⟨ρ,hR,λ_ _=>rfl,rfl,rfl,.refl _,λ_ _ _=>rfl,λ_ _ => .inl rfl,λ_ h=>h,λ_ _=>rfl⟩
 | (g, e) :: r, st, st1, ρ, a, w, hR, hp => by
  rw[prepM]at hp;split at hp
  ·rename_i st2 hp2;obtain⟨ρ2,hR2,a1,a2,a3,a4,a5,a6,a7⟩:=prep_sound hR hp2;obtain⟨ρ3,hR3,b1,b2,b3,b4,b5,b6,b7,b8⟩:=prepM_sound hR2 hp;refine⟨ρ3,hR3,λi hi => ?_,by rw[b2,a1,List.length_set],by rw[b3,a2,List.length_cons]; omega,a3.trans b4,λn hn hd => ?_,λn hn => ?_,λn hn=>b7 n (a6 n hn),λn hn=>(b8 n (by omega)).trans (a7 n hn)⟩
   ·simp only[List.map_cons,List.mem_cons,not_or]at hi;rw[b1 i hi.2,a1,List.getElem?_set_ne (Ne.symm hi.1)]
   ·exact(b5 n (by omega) hd).trans (a4 n hn λh=>hd (b7 n h))
   ·rcases b6 n (by omega) with h|h
    ·rw[h]; exact a5 n hn
    ·exact .inr h
  ·cases hp
theorem grownM_is{m:Nat}{st:St}:∀{gs:List (Nat×TypeId)} {q:List Nat×List VB},grownM m st gs=some q->q.1.length=gs.length/\q.2.length=gs.length /\ ∀(j:Nat) (g:Nat) (e:TypeId),gs[j]?=some (g,e)->∃n len C,q.1[j]?=some n/\asA (st.s.getD g (.a .x))=.l n/\st.h[n]?=some (.sl .own len C e)/\m<=n/\q.2[j]?=some (.sl .own len C e)
 |[],q,h=>by
  cases h;exact⟨rfl,rfl,λj g e h=>by simp at h⟩
 | (g, e) :: r, q, h => by
  rw[grownM]at h;split at h
  ·rename_i n hg;split at h
   ·rename_i len C e' hown;cases hb:Nat.beq e e'&&Nat.ble m n with
    |false=>rw[hb]at h; cases h
    | true =>
     rw[hb,cond_true]at h;rw[Bool.and_eq_true]at hb;obtain rfl:=Nat.eq_of_beq_eq_true hb.1;split at h
     ·rename_i q' hq';obtain⟨l1,l2,l3⟩:=grownM_is hq';cases h;refine⟨by simp[l1],by simp[l2],λj g' e' hj => ?_⟩;cases j with
      |zero =>simp only[List.getElem?_cons_zero,Option.some.injEq,Prod.mk.injEq]at hj;obtain⟨rfl,rfl⟩:=hj;exact⟨n,len,C,rfl,hg,hown,Nat.le_of_ble_eq_true hb.2,rfl⟩
      |succ j =>
       simp only[List.getElem?_cons_succ]at hj |-
       exact l3 j g' e' hj
     ·cases h
   ·cases h
  ·cases h
def posN(g:Nat):List Nat->Nat
 |[]=>0
 |a::r=>if a=g then 0 else posN g r+1
theorem posN_get{g:Nat}:∀{l:List Nat},g∈l->l[posN g l]?=some g
 | a::r,h=>by
  rw[posN]
  by_cases e:a=g
  ·rw[if_pos e,e];rfl
  ·rw[if_neg e];rcases List.mem_cons.1 h with h|h
   ·exact absurd h.symm e
   ·simpa using posN_get h
theorem nodup_inj:∀{l:List Nat},l.Nodup->∀{i j g:Nat},l[i]?=some g->l[j]?=some g->i=j
 |[],h,i,j,g,hi,_=>by simp at hi
 |a::r,h,0,0,g,_,_=>rfl
 |a::r,h,0,j+1,g,hi,hj=>by
  rw[List.getElem?_cons_zero]at hi;rw[List.getElem?_cons_succ]at hj;cases hi;exact absurd (List.mem_of_getElem? hj) (List.nodup_cons.1 h).1
 |a::r,h,i+1,0,g,hi,hj=>by
  rw[List.getElem?_cons_zero]at hj;rw[List.getElem?_cons_succ]at hi;cases hj;exact absurd (List.mem_of_getElem? hi) (List.nodup_cons.1 h).1
 |a::r,h,i+1,j+1,g,hi,hj=>by
  rw[List.getElem?_cons_succ]at hi hj;rw[nodup_inj (List.nodup_cons.1 h).2 hi hj]
theorem posN_at{l:List Nat}(hn:l.Nodup){j g:Nat}(h:l[j]?=some g):posN g l=j:=by exact nodup_inj hn (posN_get (List.mem_of_getElem? h)) h
theorem next_headM{W cs bs:List Nat}{gs:List (Nat×TypeId)}{st st1 st':St}{s:List SV×List VB}{ρ ρ':Nat->Ad}{a':Act}{w':World}(hs1:∀i,i ∉ gs.map (·.1)->st1.s[i]?=st.s[i]?)(hs1l:st1.s.length=st.s.length)(hl1:st1.h.length=st.h.length+gs.length)(hgW:∀g∈gs.map (·.1),g∈W)(hgc:∀g∈gs.map (·.1),g ∉ cs)(hgn:(gs.map (·.1)).Nodup)(hbs:∀b∈bs,b<st.h.length)
  (hlow:∀(i:Nat) (u:SV),st.s[i]?=some u->refLtV st.h.length u=true) (hlowB:∀(k:Nat) (b:VB),k<st.h.length->st1.h[k]?=some b->refLtB st.h.length b=true) (hn0:n0<=st.h.length)
  (hR':RS E P W0 n0 D ρ0 ρ' st' a' w')
  (hE:Ext W (head W (cs++gs.map (·.1)) (bs++List.range' st.h.length gs.length) st1 s).h.length ρ ρ' (head W (cs++gs.map (·.1)) (bs++List.range' st.h.length gs.length) st1 s) st') (hhl:HLe st.h (head W (cs++gs.map (·.1)) (bs++List.range' st.h.length gs.length) st1 s).h)
  {q:List Nat×List VB} (hgr:grownM st.h.length st' gs=some q) (hnd:q.1.Nodup)
  (hd:dirtyOk st.h.length bs st'.d=true) (hrs:(getS st'.s cs).all (refLtV st.h.length)=true) (hrh:(getH st'.h bs).all (refLtB st.h.length)=true) :
  RS E P W0 n0 D ρ0 (λk=>if k<st.h.length then ρ' k else ρ' (q.1.getD (k - st.h.length) 0)) (head W (cs++gs.map (·.1)) (bs++List.range' st.h.length gs.length) st1 (getS st'.s cs++mS st.h.length gs.length,getH st'.h bs++q.2)) a' w' /\
   HLe st.h (head W (cs++gs.map (·.1)) (bs++List.range' st.h.length gs.length) st1 (getS st'.s cs++mS st.h.length gs.length,getH st'.h bs++q.2)).h:=by
 generalize hm:st.h.length=m at *;obtain⟨l1,l2,l3⟩:=grownM_is hgr;generalize hL:gs.length=L at *;generalize hG:gs.map (·.1)=G at *;have hGL:G.length=L:=by rw[<- hG,<- hL,List.length_map]
 have l4:∀j,j<L->∃g e n len C,G[j]?=some g/\q.1[j]?=some n/\asA (st'.s.getD g (.a .x))=.l n/\st'.h[n]?=some (.sl .own len C e)/\m<=n/\q.2[j]?=some (.sl .own len C e):=λj hj=>by
  obtain⟨⟨g,e⟩,hge⟩:∃x,gs[j]?=some x:=⟨_,List.getElem?_eq_getElem (by omega)⟩;obtain⟨n,len,C,h1,h2,h3,h4,h5⟩:=l3 j g e hge;exact⟨g,e,n,len,C,by rw[<- hG,List.getElem?_map,hge];rfl,h1,h2,h3,h4,h5⟩
 have hlen:(head W (cs++G) (bs++List.range' m L) st1 s).h.length=m+L:=by rw[<- hl1];exact setMany_len _ _ _
 have hslen:(head W (cs++G) (bs++List.range' m L) st1 s).s.length=st.s.length:=by simp only[head];rw[setMany_len,forget_len,hs1l]
 let φ:Nat->Nat:=λk=>if k<m then k else q.1.getD (k - m) 0
 have hφl:∀k,k<m->φ k=k:=λk hk=>if_pos hk
 have hφg:∀j,φ (m+j)=q.1.getD j 0:=λj=>by
  show (if m+j<m then m+j else q.1.getD (m+j - m) 0)=_
  rw[if_neg (by omega),Nat.add_sub_cancel_left]
 generalize hs2:(getS st'.s cs++mS m L,getH st'.h bs++q.2)=s2;have hs2h:s2.2=(bs++List.range' m L).map λk=>st'.h.getD (φ k) .no:=by
  rw[<- hs2];simp only[List.map_append,getH_map];congr 1
  ·refine List.map_congr_left λb hb=> ?_
   rw[hφl b (hbs b hb)]
  ·refine List.ext_getElem? λj=> ?_
   by_cases hj:j<L
   ·obtain⟨g,e,n,len,C,h1,h2,h3,h4,h5,h6⟩:=l4 j hj;rw[h6,List.getElem?_map,List.getElem?_range' (by omega)];simp only[Option.map_some,Nat.one_mul,hφg];rw[List.getD_eq_getElem?_getD,List.getD_eq_getElem?_getD,h2,Option.getD_some,h4];rfl
   ·rw[List.getElem?_eq_none (by omega),List.getElem?_eq_none (by simp;omega)]
 have hs2s:s2.1=(cs++G).map λc=>if c∈G then SV.a (.l (m+posN c G)) else st'.s.getD c (.a .x):=by
  rw[<- hs2];simp only[List.map_append,getS_map];congr 1
  ·refine List.map_congr_left λc hc=> ?_
   rw[if_neg (λh=>hgc c h hc)]
  ·refine List.ext_getElem? λj=> ?_
   unfold mS
   by_cases hj:j<L
   ·obtain⟨g,e,n,len,C,h1,h2,h3,h4,h5,h6⟩:=l4 j hj;rw[List.getElem?_map,List.getElem?_map,List.getElem?_range' (by omega),h1];simp only[Option.map_some,Nat.one_mul];rw[if_pos (List.mem_of_getElem? h1),posN_at hgn h1]
   ·rw[List.getElem?_eq_none (by simp;omega),List.getElem?_eq_none (by simp;omega)]
 have hlen2:(head W (cs++G) (bs++List.range' m L) st1 s2).h.length=m+L:=by rw[<- hl1];exact setMany_len _ _ _
 have hnlt:∀j,j<L->∃e len C,st'.h[φ (m+j)]?=some (.sl .own len C e)/\m<=φ (m+j)/\q.1[j]?=some (φ (m+j)):=λj hj=>by
  obtain⟨g,e,n,len,C,h1,h2,h3,h4,h5,h6⟩:=l4 j hj;have:φ (m+j)=n:=by rw[hφg,List.getD_eq_getElem?_getD,h2];rfl
  rw[this];exact⟨e,len,C,h4,h5,h2⟩
 have hh:∀k,k<m+L->(head W (cs++G) (bs++List.range' m L) st1 s2).h[k]?=st'.h[φ k]?:=λk hk=>by
  simp only[head];rw[setMany_get _ _ _ k hs2h]
  by_cases hkm:k<m
  ·have hk':k<st'.h.length:=by have:=hE.hlen;omega
   rw[hφl k hkm]
   by_cases hb:k∈bs
   ·rw[if_pos ⟨List.mem_append_left _ hb,by omega⟩,List.getD_eq_getElem?_getD,List.getElem?_eq_getElem hk'];rfl
   ·have hb1:k ∉ bs++List.range' m L:=λh=>by rcases List.mem_append.1 h with h|h;exact hb h;rw[List.mem_range'_1]at h;omega
    rw[if_neg (λh=>hb1 h.1)];have hnd:k ∉ st'.d:=λhkd=>hb (dirtyOk_mem hd k hkd hkm)
    rw[hE.heap k (by omega) hnd];simp only[head];rw[setMany_other _ _ _ hb1]
  ·obtain⟨e,len,C,h1,-,-⟩:=hnlt (k - m) (by omega);rw[show m+(k - m)=k by omega]at h1;rw[if_pos ⟨List.mem_append_right _ (List.mem_range'_1.2 ⟨by omega,by omega⟩),by omega⟩,List.getD_eq_getElem?_getD,h1];rfl
 have hhl0:∀k,k<m->(head W (cs++G) (bs++List.range' m L) st1 s2).h[k]?=st'.h[k]?:=λk hk=>by rw[hh k (by omega),hφl k hk]
 have inlen:∀{k:Nat} {b:VB},(head W (cs++G) (bs++List.range' m L) st1 s2).h[k]?=some b->k<m+L:=λ{k b} h=>by rw[<- hlen2];exact(List.getElem?_eq_some_iff.1 h).1
 have hρ:∀k,(if k<m then ρ' k else ρ' (q.1.getD (k - m) 0))=ρ' (φ k):=λk=>by
  show _=ρ' (if k<m then k else q.1.getD (k - m) 0)
  by_cases e:k<m
  ·rw[if_pos e,if_pos e]
  ·rw[if_neg e,if_neg e]
 have hρlt:∀k,k<m->(if k<m then ρ' k else ρ' (q.1.getD (k - m) 0))=ρ' k:=λk hk=>if_pos hk
 have pres:∀k,present (head W (cs++G) (bs++List.range' m L) st1 s2).h k->k<m+L/\present st'.h (φ k):=λk hp=>by
  cases hp with|row e=>exact⟨inlen e,.row (by rw[<- hh k (inlen e)];exact e)⟩|one e=>exact⟨inlen e,.one (by rw[<- hh k (inlen e)];exact e)⟩|mp e=>exact⟨inlen e,.mp (by rw[<- hh k (inlen e)];exact e)⟩|own e hk h0=>exact⟨inlen e,.own (by rw[<- hh k (inlen e)];exact e) hk h0⟩
 have hφinj:∀k k',k<m+L->k'<m+L->φ k=φ k'->k=k':=λk k' hk hk' e=>by
  by_cases h1:k<m
  ·by_cases h2:k'<m
   ·rw[hφl k h1,hφl k' h2]at e;exact e
   ·obtain⟨_,_,_,_,h3,_⟩:=hnlt (k' - m) (by omega);rw[show m+(k' - m)=k' by omega]at h3;rw[hφl k h1]at e;omega
  ·obtain⟨_,_,_,_,h3,h4⟩:=hnlt (k - m) (by omega);rw[show m+(k - m)=k by omega]at h3 h4
   by_cases h2:k'<m
   ·rw[hφl k' h2]at e;omega
   ·obtain⟨_,_,_,_,h5,h6⟩:=hnlt (k' - m) (by omega);rw[show m+(k' - m)=k' by omega]at h5 h6;rw[<- e]at h6;have:=posN_at hnd h4;have:=posN_at hnd h6;omega
 refine⟨⟨?_,λi v hv=> ?_,⟨λk b hb=> ?_,λk k' hp hq he=> ?_,λk b x h1 h2 k' hp=> ?_⟩,λk hk=> ?_,λk hk hp=> ?_,?_,λk len C e hk he=> ?_,hR'.defers,?_⟩,?_⟩
 ·simp only[head];rw[setMany_len,forget_len,hs1l,<- hR'.len,hE.len,hslen]
 ·simp only[head]at hv;rw[setMany_get _ _ _ i hs2s]at hv;have hilt:i<st1.s.length:=by
   by_cases h:i<st1.s.length
   ·exact h
   ·exfalso;rw[if_neg (λhc=>h (by have:=hc.2;rwa [forget_len]at this)),List.getElem?_eq_none (by rw[forget_len];omega)]at hv;cases hv
  have hi':i<st'.s.length:=by rw[hE.len,hslen];omega
  by_cases hc:i∈cs++G
  ·rw[if_pos ⟨hc,by rw[forget_len];exact hilt⟩]at hv;simp only[Option.some.injEq]at hv
   by_cases hig:i∈G
   ·rw[if_pos hig]at hv;subst hv;have hp:=posN_get hig;have hpl:posN i G<L:=by rw[<- hGL];exact(List.getElem?_eq_some_iff.1 hp).1
    obtain⟨g,e,n,len,C,h1,h2,h3,h4,h5,h6⟩:=l4 _ hpl;rw[hp]at h1;cases h1;have hφn:φ (m+posN i G)=n:=by rw[hφg,List.getD_eq_getElem?_getD,h2];rfl
    have hgn:Is P ρ' st'.h (.l n) (a'.tmps.getD i undef):=by have:=asA_is (evO_is hR'.slots (.tmp i));simp only[evO]at this;rw[h3]at this;exact this
    obtain⟨ad,cap,q1,q2,q3⟩:=Is.l_of hgn h4;have hr2:(if m+posN i G<m then ρ' (m+posN i G) else ρ' (q.1.getD (m+posN i G - m) 0))=ρ' n:=by rw[hρ,hφn]
    refine .inr ⟨.own,len,C,e,ad,cap,by rw[hh _ (by omega),hφn];exact h4,q1,λh0=> ?_,λ_=>⟨(q3 rfl).1,λh0=> ?_⟩⟩
    ·simp only[adOf,hr2];exact q2 h0
    ·simp only[hr2];exact(q3 rfl).2 h0
   ·rw[if_neg hig]at hv;have hcs:i∈cs:=by rcases List.mem_append.1 hc with h|h;exact h;exact absurd h hig
    have hmem:=getS_mem (s:=st'.s) hcs;rw[hv]at hmem;rw[List.all_eq_true]at hrs;have hs':st'.s[i]?=some v:=by rw[List.getD_eq_getElem?_getD,List.getElem?_eq_getElem hi']at hv;rw[List.getElem?_eq_getElem hi'];exact congrArg some hv
    exact(hR'.slots i v hs').cutr hhl0 hρlt (hrs v hmem)
  ·rw [if_neg (fun h=>hc h.1),forget_get,Nat.zero_add] at hv;cases hu:st1.s[i]? with
   |none=>rw[hu]at hv;cases hv
   | some u=>
    rw[hu]at hv;simp only[Option.map_some,Option.some.injEq]at hv;cases he:elemN i W with
    |true=>rw[he]at hv;simp only[cond_true]at hv;rw[<- hv];trivial
    | false=>
     rw[he]at hv;simp only[cond_false]at hv;subst hv;have hnW:i ∉ W:=λh=>by rw[elemN_mem.2 h]at he;cases he
     have h1:(head W (cs++G) (bs++List.range' m L) st1 s).s[i]?=some u:=by simp only[head];rw[setMany_other _ _ _ hc,forget_get,Nat.zero_add,hu,he];rfl
     have h2:=hE.slots i hnW;rw[h1]at h2;have h3:st.s[i]?=some u:=by rw[hs1 i (λh=>hnW (hgW i h))]at hu;exact hu
     exact(hR'.slots i u h2).cutr hhl0 hρlt (hlow i u h3)
 ·have hk:=inlen hb;rw[hρ k];rw[hh k hk]at hb;have hi:=hR'.heap.is _ b hb
  by_cases hkm:k<m
  ·refine hi.cutr hhl0 hρlt ?_;rw[hφl k hkm]at hb
   by_cases hbs':k∈bs
   ·have hmem:=getH_mem (h:=st'.h) hbs';rw[List.all_eq_true]at hrh;rw[List.getD_eq_getElem?_getD,hb]at hmem;exact hrh b hmem
   ·have hnd:k ∉ st'.d:=λhkd=>hbs' (dirtyOk_mem hd k hkd hkm)
    rw[hE.heap k (by omega) hnd]at hb;simp only[head]at hb;rw[setMany_other _ _ _ (λh=>by rcases List.mem_append.1 h with h|h;exact hbs' h;rw[List.mem_range'_1]at h;omega)]at hb;exact hlowB k b hkm hb
  ·obtain⟨e,len,C,h1,-,-⟩:=hnlt (k - m) (by omega);rw[show m+(k - m)=k by omega]at h1;rw[h1]at hb;cases hb;exact hi
 ·rw[hρ k,hρ k']at he;exact hφinj k k' (pres k hp).1 (pres k' hq).1 (hR'.heap.inj _ _ (pres k hp).2 (pres k' hq).2 he)
 ·rw[hρ k'];exact hR'.heap.far (φ k) b x (by rw[<- hh k (inlen h1)];exact h1) h2 _ (pres k' hp).2
 ·show (if k<m then ρ' k else _)=ρ0 k
  rw[if_pos (by omega)];exact hR'.base k hk
 ·show W0.heap.size<=(if k<m then ρ' k else ρ' (q.1.getD (k - m) 0)).a\/∃q'∈E,q'<n0/\(ρ0 q').a=(if k<m then ρ' k else ρ' (q.1.getD (k - m) 0)).a
  rw[hρ k];refine hR'.fresh _ ?_ (pres k hp).2
  by_cases hkm:k<m
  ·rw[hφl k hkm];exact hk
  ·obtain⟨_,_,_,_,h3,_⟩:=hnlt (k - m) (by have:=(pres k hp).1;omega);rw[show m+(k - m)=k by omega]at h3;omega
 ·refine hR'.kept.mono λk _ ⟨q',h1,h2,h3⟩=>⟨q',h1,h2.imp (λh2=> ?_) (λh=>h),h3⟩
  exact List.mem_append_left _ (dirtyOk_mem hd q' h2 (by omega))
 ·rw[hh k (inlen he),hφl k (by omega)]at he;exact hR'.own0 k len C e hk he
 ·rw[hlen2];omega
 ·intro k;have key:=(hhl.trans hE.hle) k
  by_cases hk:k<m
  ·have e:=hhl0 k hk;refine⟨λC t h=>let ⟨C',h'⟩:=key.row C t h;⟨C',by rw[e];exact h'⟩,λy t h=>let ⟨C',h'⟩:=key.one y t h;⟨C',by rw[e];exact h'⟩,λa len C t h=>(key.sl a len C t h).imp (λ⟨C',h'⟩=>⟨C',by rw[e];exact h'⟩) λ⟨q1,q2⟩=>⟨q1,by rw[e];exact q2⟩,λh=>by rw[e];exact key.sp h,λ_ _ _ _ h=>by rw[e];exact key.gl _ _ _ _ h,λ_ _ h=>let ⟨E1,c1,h1⟩:=key.mp _ _ h;⟨E1,c1,by rw[e];exact h1⟩⟩
  ·exact .none (List.getElem?_eq_none (by omega))
theorem grownF_is{m:Nat}{st:St}:∀{gs:List (Nat×TypeId)} {q:List Nat×List VB},grownF m st gs=some q->q.1.length=gs.length/\q.2.length=gs.length /\ ∀(j:Nat) (g:Nat) (e:TypeId),gs[j]?=some (g,e)->∃n C,q.1[j]?=some n/\asA (st.s.getD g (.a .x))=.w n/\st.h[n]?=some (.row C e)/\m<=n/\q.2[j]?=some (.row C e)
 |[],q,h=>by
  cases h;exact⟨rfl,rfl,λj g e h=>by simp at h⟩
 | (g, e) :: r, q, h => by
  rw[grownF]at h;split at h
  ·rename_i n hg;split at h
   ·rename_i C e' hown;cases hb:Nat.beq e e'&&Nat.ble m n with
    |false=>rw[hb]at h; cases h
    | true =>
     rw[hb,cond_true]at h;rw[Bool.and_eq_true]at hb;obtain rfl:=Nat.eq_of_beq_eq_true hb.1;split at h
     ·rename_i q' hq';obtain⟨l1,l2,l3⟩:=grownF_is hq';cases h;refine⟨by simp[l1],by simp[l2],λj g' e' hj => ?_⟩;cases j with
      |zero =>simp only[List.getElem?_cons_zero,Option.some.injEq,Prod.mk.injEq]at hj;obtain⟨rfl,rfl⟩:=hj;exact⟨n,C,rfl,hg,hown,Nat.le_of_ble_eq_true hb.2,rfl⟩
      |succ j =>
       simp only[List.getElem?_cons_succ]at hj |-
       exact l3 j g' e' hj
     ·cases h
   ·cases h
  ·cases h
theorem next_headF{W cs bs:List Nat}{gs:List (Nat×TypeId)}{st st1 st':St}{ρ':Nat->Ad}{a':Act}{w':World}(hs1:∀i,i ∉ gs.map (·.1)->st1.s[i]?=st.s[i]?)(hs1l:st1.s.length=st.s.length)(hl1:st1.h.length=st.h.length+gs.length)(hgW:∀g∈gs.map (·.1),g∈W)(hgc:∀g∈gs.map (·.1),g ∉ cs)(hgn:(gs.map (·.1)).Nodup)(hbs:∀b∈bs,b<st.h.length)
  (hlow:∀(i:Nat) (u:SV),st.s[i]?=some u->refLtV st.h.length u=true) (hlowB:∀(k:Nat) (b:VB),k<st.h.length->st1.h[k]?=some b->refLtB st.h.length b=true) (hn0:n0<=st.h.length)
  (hR':RS E P W0 n0 D ρ0 ρ' st' a' w') (hE1:st'.s.length=st.s.length) (hE2:∀k,k<st.h.length->k ∉ st'.d->k ∉ bs->st'.h[k]?=st1.h[k]?) (hE3:∀i,i ∉ W->st'.s[i]?=st.s[i]?) (hE4:HLe st.h st'.h) (hE5:st.h.length<=st'.h.length)
  {q:List Nat×List VB} (hgr:grownF st.h.length st' gs=some q) (hnd:q.1.Nodup)
  (hd:dirtyOk st.h.length bs st'.d=true) (hrs:(getS st'.s cs).all (refLtV st.h.length)=true) (hrh:(getH st'.h bs).all (refLtB st.h.length)=true) :
  RS E P W0 n0 D ρ0 (λk=>if k<st.h.length then ρ' k else ρ' (q.1.getD (k - st.h.length) 0)) (head W (cs++gs.map (·.1)) (bs++List.range' st.h.length gs.length) st1 (getS st'.s cs++mW st.h.length gs.length,getH st'.h bs++q.2)) a' w' /\
   HLe st.h (head W (cs++gs.map (·.1)) (bs++List.range' st.h.length gs.length) st1 (getS st'.s cs++mW st.h.length gs.length,getH st'.h bs++q.2)).h:=by
 generalize hm:st.h.length=m at *;obtain⟨l1,l2,l3⟩:=grownF_is hgr;generalize hL:gs.length=L at *;generalize hG:gs.map (·.1)=G at *;have hGL:G.length=L:=by rw[<- hG,<- hL,List.length_map]
 have l4:∀j,j<L->∃g e n C,G[j]?=some g/\q.1[j]?=some n/\asA (st'.s.getD g (.a .x))=.w n/\st'.h[n]?=some (.row C e)/\m<=n/\q.2[j]?=some (.row C e):=λj hj=>by
  obtain⟨⟨g,e⟩,hge⟩:∃x,gs[j]?=some x:=⟨_,List.getElem?_eq_getElem (by omega)⟩;obtain⟨n,C,h1,h2,h3,h4,h5⟩:=l3 j g e hge;exact⟨g,e,n,C,by rw[<- hG,List.getElem?_map,hge];rfl,h1,h2,h3,h4,h5⟩
 let φ:Nat->Nat:=λk=>if k<m then k else q.1.getD (k - m) 0
 have hφl:∀k,k<m->φ k=k:=λk hk=>if_pos hk
 have hφg:∀j,φ (m+j)=q.1.getD j 0:=λj=>by
  show (if m+j<m then m+j else q.1.getD (m+j - m) 0)=_
  rw[if_neg (by omega),Nat.add_sub_cancel_left]
 generalize hs2:(getS st'.s cs++mW m L,getH st'.h bs++q.2)=s2;have hs2h:s2.2=(bs++List.range' m L).map λk=>st'.h.getD (φ k) .no:=by
  rw[<- hs2];simp only[List.map_append,getH_map];congr 1
  ·refine List.map_congr_left λb hb=> ?_
   rw[hφl b (hbs b hb)]
  ·refine List.ext_getElem? λj=> ?_
   by_cases hj:j<L
   ·obtain⟨g,e,n,C,h1,h2,h3,h4,h5,h6⟩:=l4 j hj;rw[h6,List.getElem?_map,List.getElem?_range' (by omega)];simp only[Option.map_some,Nat.one_mul,hφg];rw[List.getD_eq_getElem?_getD,List.getD_eq_getElem?_getD,h2,Option.getD_some,h4];rfl
   ·rw[List.getElem?_eq_none (by omega),List.getElem?_eq_none (by simp;omega)]
 have hs2s:s2.1=(cs++G).map λc=>if c∈G then SV.a (.w (m+posN c G)) else st'.s.getD c (.a .x):=by
  rw[<- hs2];simp only[List.map_append,getS_map];congr 1
  ·refine List.map_congr_left λc hc=> ?_
   rw[if_neg (λh=>hgc c h hc)]
  ·refine List.ext_getElem? λj=> ?_
   unfold mW
   by_cases hj:j<L
   ·obtain⟨g,e,n,C,h1,h2,h3,h4,h5,h6⟩:=l4 j hj;rw[List.getElem?_map,List.getElem?_map,List.getElem?_range' (by omega),h1];simp only[Option.map_some,Nat.one_mul];rw[if_pos (List.mem_of_getElem? h1),posN_at hgn h1]
   ·rw[List.getElem?_eq_none (by simp;omega),List.getElem?_eq_none (by simp;omega)]
 have hlen2:(head W (cs++G) (bs++List.range' m L) st1 s2).h.length=m+L:=by rw[<- hl1];exact setMany_len _ _ _
 have hnlt:∀j,j<L->∃e C,st'.h[φ (m+j)]?=some (.row C e)/\m<=φ (m+j)/\q.1[j]?=some (φ (m+j)):=λj hj=>by
  obtain⟨g,e,n,C,h1,h2,h3,h4,h5,h6⟩:=l4 j hj;have:φ (m+j)=n:=by rw[hφg,List.getD_eq_getElem?_getD,h2];rfl
  rw[this];exact⟨e,C,h4,h5,h2⟩
 have hh:∀k,k<m+L->(head W (cs++G) (bs++List.range' m L) st1 s2).h[k]?=st'.h[φ k]?:=λk hk=>by
  simp only[head];rw[setMany_get _ _ _ k hs2h]
  by_cases hkm:k<m
  ·have hk':k<st'.h.length:=by omega
   rw[hφl k hkm]
   by_cases hb:k∈bs
   ·rw[if_pos ⟨List.mem_append_left _ hb,by omega⟩,List.getD_eq_getElem?_getD,List.getElem?_eq_getElem hk'];rfl
   ·have hb1:k ∉ bs++List.range' m L:=λh=>by rcases List.mem_append.1 h with h|h;exact hb h;rw[List.mem_range'_1]at h;omega
    rw[if_neg (λh=>hb1 h.1)];have hnd:k ∉ st'.d:=λhkd=>hb (dirtyOk_mem hd k hkd hkm)
    exact(hE2 k hkm hnd hb).symm
  ·obtain⟨e,C,h1,-,-⟩:=hnlt (k - m) (by omega);rw[show m+(k - m)=k by omega]at h1;rw[if_pos ⟨List.mem_append_right _ (List.mem_range'_1.2 ⟨by omega,by omega⟩),by omega⟩,List.getD_eq_getElem?_getD,h1];rfl
 have hhl0:∀k,k<m->(head W (cs++G) (bs++List.range' m L) st1 s2).h[k]?=st'.h[k]?:=λk hk=>by rw[hh k (by omega),hφl k hk]
 have inlen:∀{k:Nat} {b:VB},(head W (cs++G) (bs++List.range' m L) st1 s2).h[k]?=some b->k<m+L:=λ{k b} h=>by rw[<- hlen2];exact(List.getElem?_eq_some_iff.1 h).1
 have hρ:∀k,(if k<m then ρ' k else ρ' (q.1.getD (k - m) 0))=ρ' (φ k):=λk=>by
  show _=ρ' (if k<m then k else q.1.getD (k - m) 0)
  by_cases e:k<m
  ·rw[if_pos e,if_pos e]
  ·rw[if_neg e,if_neg e]
 have hρlt:∀k,k<m->(if k<m then ρ' k else ρ' (q.1.getD (k - m) 0))=ρ' k:=λk hk=>if_pos hk
 have pres:∀k,present (head W (cs++G) (bs++List.range' m L) st1 s2).h k->k<m+L/\present st'.h (φ k):=λk hp=>by
  cases hp with|row e=>exact⟨inlen e,.row (by rw[<- hh k (inlen e)];exact e)⟩|one e=>exact⟨inlen e,.one (by rw[<- hh k (inlen e)];exact e)⟩|mp e=>exact⟨inlen e,.mp (by rw[<- hh k (inlen e)];exact e)⟩|own e hk h0=>exact⟨inlen e,.own (by rw[<- hh k (inlen e)];exact e) hk h0⟩
 have hφinj:∀k k',k<m+L->k'<m+L->φ k=φ k'->k=k':=λk k' hk hk' e=>by
  by_cases h1:k<m
  ·by_cases h2:k'<m
   ·rw[hφl k h1,hφl k' h2]at e;exact e
   ·obtain⟨_,_,_,h3,_⟩:=hnlt (k' - m) (by omega);rw[show m+(k' - m)=k' by omega]at h3;rw[hφl k h1]at e;omega
  ·obtain⟨_,_,_,h3,h4⟩:=hnlt (k - m) (by omega);rw[show m+(k - m)=k by omega]at h3 h4
   by_cases h2:k'<m
   ·rw[hφl k' h2]at e;omega
   ·obtain⟨_,_,_,h5,h6⟩:=hnlt (k' - m) (by omega);rw[show m+(k' - m)=k' by omega]at h5 h6;rw[<- e]at h6;have:=posN_at hnd h4;have:=posN_at hnd h6;omega
 refine⟨⟨?_,λi v hv=> ?_,⟨λk b hb=> ?_,λk k' hp hq he=> ?_,λk b x h1 h2 k' hp=> ?_⟩,λk hk=> ?_,λk hk hp=> ?_,?_,λk len C e hk he=> ?_,hR'.defers,?_⟩,?_⟩
 ·simp only[head];rw[setMany_len,forget_len,hs1l,<- hR'.len,hE1]
 ·simp only[head]at hv;rw[setMany_get _ _ _ i hs2s]at hv;have hilt:i<st1.s.length:=by
   by_cases h:i<st1.s.length
   ·exact h
   ·exfalso;rw[if_neg (λhc=>h (by have:=hc.2;rwa [forget_len]at this)),List.getElem?_eq_none (by rw[forget_len];omega)]at hv;cases hv
  have hi':i<st'.s.length:=by rw[hE1];omega
  by_cases hc:i∈cs++G
  ·rw[if_pos ⟨hc,by rw[forget_len];exact hilt⟩]at hv;simp only[Option.some.injEq]at hv
   by_cases hig:i∈G
   ·rw[if_pos hig]at hv;subst hv;have hp:=posN_get hig;have hpl:posN i G<L:=by rw[<- hGL];exact(List.getElem?_eq_some_iff.1 hp).1
    obtain⟨g,e,n,C,h1,h2,h3,h4,h5,h6⟩:=l4 _ hpl;rw[hp]at h1;cases h1;have hφn:φ (m+posN i G)=n:=by rw[hφg,List.getD_eq_getElem?_getD,h2];rfl
    have hgn:Is P ρ' st'.h (.w n) (a'.tmps.getD i undef):=by have:=asA_is (evO_is hR'.slots (.tmp i));simp only[evO]at this;rw[h3]at this;exact this
    have hr2:(if m+posN i G<m then ρ' (m+posN i G) else ρ' (q.1.getD (m+posN i G - m) 0))=ρ' n:=by rw[hρ,hφn]
    refine⟨?_,.row (C:=C) (t:=e) (by rw[hh _ (by omega),hφn];exact h4)⟩;exact(hgn.1).trans (by dsimp only;rw[hr2])
   ·rw[if_neg hig]at hv;have hcs:i∈cs:=by rcases List.mem_append.1 hc with h|h;exact h;exact absurd h hig
    have hmem:=getS_mem (s:=st'.s) hcs;rw[hv]at hmem;rw[List.all_eq_true]at hrs;have hs':st'.s[i]?=some v:=by rw[List.getD_eq_getElem?_getD,List.getElem?_eq_getElem hi']at hv;rw[List.getElem?_eq_getElem hi'];exact congrArg some hv
    exact(hR'.slots i v hs').cutr hhl0 hρlt (hrs v hmem)
  ·rw [if_neg (fun h=>hc h.1),forget_get,Nat.zero_add] at hv;cases hu:st1.s[i]? with
   |none=>rw[hu]at hv;cases hv
   | some u=>
    rw[hu]at hv;simp only[Option.map_some,Option.some.injEq]at hv;cases he:elemN i W with
    |true=>rw[he]at hv;simp only[cond_true]at hv;rw[<- hv];trivial
    | false=>
     rw[he]at hv;simp only[cond_false]at hv;subst hv;have hnW:i ∉ W:=λh=>by rw[elemN_mem.2 h]at he;cases he
     have h2:=hE3 i hnW;have h3:st.s[i]?=some u:=by rw[hs1 i (λh=>hnW (hgW i h))]at hu;exact hu
     exact(hR'.slots i u (h2.trans h3)).cutr hhl0 hρlt (hlow i u h3)
 ·have hk:=inlen hb;rw[hρ k];rw[hh k hk]at hb;have hi:=hR'.heap.is _ b hb
  by_cases hkm:k<m
  ·refine hi.cutr hhl0 hρlt ?_;rw[hφl k hkm]at hb
   by_cases hbs':k∈bs
   ·have hmem:=getH_mem (h:=st'.h) hbs';rw[List.all_eq_true]at hrh;rw[List.getD_eq_getElem?_getD,hb]at hmem;exact hrh b hmem
   ·have hnd:k ∉ st'.d:=λhkd=>hbs' (dirtyOk_mem hd k hkd hkm)
    rw[hE2 k hkm hnd hbs']at hb;exact hlowB k b hkm hb
  ·obtain⟨e,C,h1,-,-⟩:=hnlt (k - m) (by omega);rw[show m+(k - m)=k by omega]at h1;rw[h1]at hb;cases hb;exact hi
 ·rw[hρ k,hρ k']at he;exact hφinj k k' (pres k hp).1 (pres k' hq).1 (hR'.heap.inj _ _ (pres k hp).2 (pres k' hq).2 he)
 ·rw[hρ k'];exact hR'.heap.far (φ k) b x (by rw[<- hh k (inlen h1)];exact h1) h2 _ (pres k' hp).2
 ·show (if k<m then ρ' k else _)=ρ0 k
  rw[if_pos (by omega)];exact hR'.base k hk
 ·show W0.heap.size<=(if k<m then ρ' k else ρ' (q.1.getD (k - m) 0)).a\/∃q'∈E,q'<n0/\(ρ0 q').a=(if k<m then ρ' k else ρ' (q.1.getD (k - m) 0)).a
  rw[hρ k];refine hR'.fresh _ ?_ (pres k hp).2
  by_cases hkm:k<m
  ·rw[hφl k hkm];exact hk
  ·obtain⟨_,_,_,h3,_⟩:=hnlt (k - m) (by have:=(pres k hp).1;omega);rw[show m+(k - m)=k by omega]at h3;omega
 ·refine hR'.kept.mono λk _ ⟨q',h1,h2,h3⟩=>⟨q',h1,h2.imp (λh2=> ?_) (λh=>h),h3⟩
  exact List.mem_append_left _ (dirtyOk_mem hd q' h2 (by omega))
 ·rw[hh k (inlen he),hφl k (by omega)]at he;exact hR'.own0 k len C e hk he
 ·rw[hlen2];omega
 ·intro k;have key:=hE4 k
  by_cases hk:k<m
  ·have e:=hhl0 k hk;refine⟨λC t h=>let ⟨C',h'⟩:=key.row C t h;⟨C',by rw[e];exact h'⟩,λy t h=>let ⟨C',h'⟩:=key.one y t h;⟨C',by rw[e];exact h'⟩,λa len C t h=>(key.sl a len C t h).imp (λ⟨C',h'⟩=>⟨C',by rw[e];exact h'⟩) λ⟨q1,q2⟩=>⟨q1,by rw[e];exact q2⟩,λh=>by rw[e];exact key.sp h,λ_ _ _ _ h=>by rw[e];exact key.gl _ _ _ _ h,λ_ _ h=>let ⟨E1,c1,h1⟩:=key.mp _ _ h;⟨E1,c1,by rw[e];exact h1⟩⟩
  ·exact .none (List.getElem?_eq_none (by omega))
theorem left_loopM{W cs bs:List Nat}{gs:List (Nat×TypeId)}{st st1:St}{s:LS}{ρs ρ':Nat->Ad}{a':Act}{w':World}(hs1:∀i,i ∉ gs.map (·.1)->st1.s[i]?=st.s[i]?)(hs1l:st1.s.length=st.s.length)(hl1:st1.h.length=st.h.length+gs.length)(hd1:∀n∈st.d,n∈st1.d)(hst:∀n,n<st.h.length->n ∉ st1.d->st1.h[n]?=st.h[n]?)
  (hgW:∀g∈gs.map (·.1),g∈W) (hcs:∀c∈cs,c∈W) (hR:RS E P W0 n0 (st1.d++D) ρ0 ρ' (head W (cs++gs.map (·.1)) (bs++List.range' st.h.length gs.length) st1 s) a' w')
  (hhl:HLe st.h (head W (cs++gs.map (·.1)) (bs++List.range' st.h.length gs.length) st1 s).h) (hren:∀k,k<st.h.length->ρ' k=ρs k) :
  RS E P W0 n0 D ρ0 ρ' (left W (cs++gs.map (·.1)) (bs++List.range' st.h.length gs.length) st1 s) a' w'/\Ext W st.h.length ρs ρ' st (left W (cs++gs.map (·.1)) (bs++List.range' st.h.length gs.length) st1 s):=by
 refine⟨⟨hR.len,hR.slots,hR.heap,hR.base,hR.fresh,hR.kept.mono λk _ ⟨m,h1,h2,h3⟩=>⟨m,h1,?_,h3⟩,hR.own0,hR.defers,hR.bound⟩,⟨λi hi=> ?_,?_,λm hm hd=> ?_,λm hm=>List.mem_append_right _ (hd1 m hm),?_,hhl,hren⟩⟩
 ·simp only[head,left,List.mem_append]at h2|-
  rcases h2 with h2 | (h2|h2)|h2
  ·exact .inl (.inl h2)
  ·exact .inl (.inr h2)
  ·exact .inr (.inl h2)
  ·exact .inr (.inr h2)
 ·have hc:i ∉ cs++gs.map (·.1):=λhc=>by
   rcases List.mem_append.1 hc with h|h
   ·exact hi (hcs i h)
   ·exact hi (hgW i h)
  simp only[left];rw[setMany_other _ _ _ hc,forget_get,Nat.zero_add];have:elemN i W=false:=by cases h:elemN i W with|false=>rfl|true=>exact absurd (elemN_mem.1 h) hi
  rw[this,hs1 i (λh=>hi (hgW i h))];cases st.s[i]?<;>rfl
 ·simp only[left];rw[setMany_len,forget_len,hs1l]
 ·simp only[left]at hd|-
  rw[setMany_other _ _ _ λhb=>hd (List.mem_append_left _ hb)];exact hst m hm λh=>hd (List.mem_append_right _ h)
 ·simp only[left];rw[setMany_len,hl1];omega
def LO(h h':List VB):Prop:=∀n:Nat,h'[n]?=h[n]? \/ ∃k k' len C e,h[n]?=some (VB.sl k len C e)/\h'[n]?=some (VB.sl k' len C e)/\SlK.mine k=true/\SlK.mine k'=true
theorem LO.symm{h h':List VB}(hl:LO h h'):LO h' h:=λn=>(hl n).imp (·.symm) λ⟨k,k',len,C,e,q1,q2,q3,q4⟩=>⟨k',k,len,C,e,q2,q1,q4,q3⟩
theorem LO.same{h h':List VB}(hl:LO h h'){n:Nat}{b:VB}(hb:h[n]?=some b)(hn:∀k len C e,b=.sl k len C e->k.mine=false):h'[n]?=some b:=by
 rcases hl n with q | ⟨k,k',len,C,e,q1,-,q3,-⟩
 ·rw[q,hb]
 ·rw[hb]at q1;rw[hn _ _ _ _ (Option.some.inj q1)]at q3;cases q3
theorem adK_mine{k:SlK}(h:k.mine=true)(g:Nat):adK g k=some ⟨g,0,none⟩:=by cases k<;>first|rfl|cases h
theorem there.lo{h h':List VB}(hl:LO h h'){n:Nat}(ht:there h n):there h' n:=by cases ht with|row e=>exact .row (hl.same e λ_ _ _ _ q=>nomatch q)|one e=>exact .one (hl.same e λ_ _ _ _ q=>nomatch q)
theorem present.lo{h h':List VB}(hl:LO h h'){n:Nat}(ht:present h n):present h' n:=by
 cases ht with
 |row e=>exact .row (hl.same e λ_ _ _ _ q=>nomatch q)
 |one e=>exact .one (hl.same e λ_ _ _ _ q=>nomatch q)
 |mp e=>exact .mp (hl.same e λ_ _ _ _ q=>nomatch q)
 | own e hk h0=>
  rcases hl n with q | ⟨k,k',len,C,t,q1,q2,q3,q4⟩
  ·exact .own (q.trans e) hk h0
  ·rw[e]at q1;cases q1;exact .own q2 (mine_here q4) h0
theorem isL_lo{ρ:Nat->Ad}{h h':List VB}(hl:LO h h'){n:Nat}{v:Value}(hi:IsL P ρ h n v):IsL P ρ h' n v:=by
 rcases hi with hi | ⟨a,len,C,e,ad,cap,h1,h2,h3,h4⟩
 ·exact .inl (hl.same hi λ_ _ _ _ q=>nomatch q)
 ·rcases hl n with q | ⟨k,k',len',C',t,q1,q2,q3,q4⟩
  ·exact .inr ⟨a,len,C,e,ad,cap,q.trans h1,h2,h3,h4⟩
  ·rw[h1]at q1;cases q1;exact .inr ⟨k',len,C,e,ad,cap,q2,h2,λh0=>(h3 h0).trans (by show adK _ _=adK _ _;rw[adK_mine q3,adK_mine q4]),λ_=>h4 (mine_here q3)⟩
theorem is_lo{ρ:Nat->Ad}{h h':List VB}(hl:LO h h'){y:SA}{v:Value}(hi:Is P ρ h y v):Is P ρ h' y v:=by
 cases y with
 |p n o T=>
  obtain⟨h1,h2,t,h3,h4⟩:=hi;refine⟨h1,h2,t,?_,h4⟩;rcases h3 with ⟨C,h3⟩ | ⟨y,h3⟩
  ·exact .inl ⟨C,hl.same h3 λ_ _ _ _ q=>nomatch q⟩
  ·exact .inr ⟨y,hl.same h3 λ_ _ _ _ q=>nomatch q⟩
 |w n=>exact⟨hi.1,hi.2.lo hl⟩
 |c f ns=>exact⟨hi.1,λn hn=>(hi.2 n hn).lo hl⟩
 |l n=>exact isL_lo (P:=P) hl hi
 |r D T ns=>obtain⟨D',h1,h2,h3⟩:=hi;exact⟨D',h1,h2,h3.size,h3.same,λi m hm=>let ⟨q1,ad,l,c,q2,q3⟩:=h3.refs i m hm;⟨q1,ad,l,c,q2,isL_lo (P:=P) hl q3⟩,h3.uniq⟩
 |e n=>obtain⟨g,t,a,x,h1,h2⟩:=hi;exact⟨g,t,a,x,hl.same h1 (λ_ _ _ _ q=>nomatch q),h2⟩
 |m n=>obtain⟨h1,E,c,h2⟩:=hi;exact⟨h1,E,c,hl.same h2 λ_ _ _ _ q=>nomatch q⟩
 |k n len cap e=>obtain⟨h1,h0,C,t,c,m,h2,h3⟩:=hi;exact⟨h1,h0,C,t,c,m,hl.same h2 (λ_ _ _ _ q=>nomatch q),h3⟩
 | q n o T=>
  rcases hi with hi | ⟨a,len,C,e,g,b,k,q,h1,h2,h3⟩
  ·exact .inl (hl.same hi λ_ _ _ _ q=>nomatch q)
  ·rcases hl n with q' | ⟨k1,k',len',C',t,q1,q2,q3,q4⟩
   ·exact .inr ⟨a,len,C,e,g,b,k,q,q'.trans h1,h2,h3⟩
   ·rw[h1]at q1;cases q1;exact .inr ⟨k',len,C,e,g,b,k,q,q2,by rw[adOf,adK_mine q4,<- adK_mine q3];exact h2,h3⟩
 |_=>exact hi
theorem isV_lo{ρ:Nat->Ad}{h h':List VB}(hl:LO h h'){y:SV}{v:Value}(hi:IsV P ρ h y v):IsV P ρ h' y v:=by cases y with|a y=>exact is_lo hl hi|t l=>obtain⟨vs,h1,h2,h3⟩:=hi;exact⟨vs,h1,h2,λi y v hy hv=>is_lo hl (h3 i y v hy hv)⟩
theorem RS.lo{ρ:Nat->Ad}{st:St}{a:Act}{w:World}(hR:RS E P W0 n0 D ρ0 ρ st a w){h':List VB}(hl:LO st.h h')(hlen:h'.length=st.h.length)(h0:∀(n len:Nat) (C:Array Value) (e:TypeId),n<n0->h'[n]?=some (.sl .own len C e)->len=0\/n∈E):RS E P W0 n0 D ρ0 ρ { s:=st.s,h:=h',d:=st.d } a w:=by
 refine⟨hR.len,λi v hv=>isV_lo hl (hR.slots i v hv),⟨λn b hb=> ?_,λn m hn hm=>hR.heap.inj n m (hn.lo hl.symm) (hm.lo hl.symm),λn b k hb hf m hm=> ?_⟩,hR.base,λn hn hp=>hR.fresh n hn (hp.lo hl.symm),hR.kept,h0,hR.defers,by rw[hlen];exact hR.bound⟩
 ·rcases hl n with q | ⟨k,k',len,C,e,q1,q2,q3,q4⟩
  ·rw[q]at hb;have hi:=hR.heap.is n b hb;cases b with
   |one y T=>obtain⟨v,h1,h2⟩:=hi;exact⟨v,is_lo hl h1,h2⟩
   |_=>exact hi
  ·rw[q2]at hb;cases hb;obtain⟨h1,h2⟩:=hR.heap.is n _ q1;exact⟨by rw[adK_mine q4,<- adK_mine q3];exact h1,λ_ h0=>h2 q3 h0⟩
 ·have:st.h[n]?=some b:=hl.symm.same hb λk len C e e'=>by
   subst e';cases k with|came c=>rfl|own=>exact hf.elim|lent=>exact hf.elim
  exact hR.heap.far n b k this hf m (hm.lo hl.symm)
theorem lend_get(h:List VB)(n:Nat):(h.map lendV)[n]?=(h[n]?).map lendV:=List.getElem?_map ..
theorem lend_lo(h:List VB):LO h (h.map lendV):=λn=>by
 rw[lend_get];cases hb:h[n]? with
 |none=>exact .inl rfl
 | some b=>
  cases b with
  |sl k len C e=>cases k with|own=>exact .inr ⟨.own,.lent,len,C,e,rfl,rfl,rfl,rfl⟩|_=>exact .inl rfl
  |_=>exact .inl rfl
theorem lend_no(h:List VB)(n len:Nat)(C:Array Value)(e:TypeId):(h.map lendV)[n]?≠some (.sl .own len C e):=λhb=>by
 rw[lend_get]at hb;obtain⟨b,-,hb⟩:=Option.map_eq_some_iff.1 hb;cases b with
 |sl k len C e=>cases k<;>cases hb
 |_=>cases hb
theorem reown_get:∀(h h':List VB) (n:Nat),(reown h h')[n]?=(h'[n]?).map λb=>match h[n]?,b with|some (.sl .own _ _ _),.sl .lent len C e=>.sl .own len C e|_,b=>b
 |[],h',n=>by cases h'<;>simp[reown]
 |a::r,[],n=>by simp[reown]
 |a::r,b::r',0=>by
  simp only[reown,List.getElem?_cons_zero,Option.map_some];cases a with
  |sl k len C e=>cases k<;>cases b<;>first|rfl | (rename_i k' _ _ _;cases k'<;>rfl)
  |_=>cases b<;>rfl
 |a::r,b::r',n+1=>by
  simp only[reown,List.getElem?_cons_succ];exact reown_get r r' n
theorem reown_len:∀(h h':List VB),(reown h h').length=h'.length
 |[],h'=>by cases h'<;>rfl
 |a::r,[]=>rfl
 |a::r,b::r'=>by simp only[reown,List.length_cons,reown_len r r']
theorem reown_lo(h h':List VB):LO h' (reown h h'):=λn=>by
 rw[reown_get];cases hb:h'[n]? with
 |none=>exact .inl rfl
 |some b=>
  rw[Option.map_some];split
  ·exact .inr ⟨.lent,.own,_,_,_,rfl,rfl,rfl,rfl⟩
  ·exact .inl rfl
theorem reown_own{h h':List VB}{n len:Nat}{C:Array Value}{e:TypeId}(hb:(reown h h')[n]?=some (.sl .own len C e)):(∃len C e,h[n]?=some (VB.sl .own len C e))\/h'[n]?=some (.sl .own len C e):=by
 rw[reown_get]at hb;obtain⟨b,h1,h2⟩:=Option.map_eq_some_iff.1 hb;split at h2
 ·exact .inl ⟨_,_,_,by assumption⟩
 ·subst h2;exact .inr h1
theorem setMany_two{α:Type}:∀(bs:List Nat) (l l' hb:List α) (n:Nat),l'.length=l.length->((setMany l bs hb)[n]?=l[n]?/\(setMany l' bs hb)[n]?=l'[n]?)\/(n∈bs/\(setMany l bs hb)[n]?=(setMany l' bs hb)[n]?)
 |[],l,l',hb,n,_=>.inl (by cases hb<;>exact⟨rfl,rfl⟩)
 |b::bs,l,l',[],n,_=>.inl ⟨rfl,rfl⟩
 | b::bs,l,l',v::vs,n,hl=>by
  simp only[setMany];rcases setMany_two bs (l.set b v) (l'.set b v) vs n (by simpa using hl) with ⟨h1,h2⟩ | ⟨h1,h2⟩
  ·rw[h1,h2,List.getElem?_set,List.getElem?_set]
   by_cases e:b=n
   ·subst e;refine .inr ⟨List.mem_cons_self ..,?_⟩;rw[hl];simp
   ·rw[if_neg e,if_neg e];exact .inl ⟨rfl,rfl⟩
  ·exact .inr ⟨List.mem_cons_of_mem _ h1,h2⟩
theorem reown_left{h:List VB}{bs:List Nat}(hb:BS)(hr:∀b∈bs,celled (h.map lendV) b):reown h (setMany (h.map lendV) bs hb)=setMany h bs hb:=by
 refine List.ext_getElem? λn=> ?_
 rw[reown_get];rcases setMany_two bs h (h.map lendV) hb n (by simp) with ⟨h1,h2⟩ | ⟨h1,h2⟩
 ·rw[h1,h2,lend_get];cases hx:h[n]? with
  |none=>rfl
  |some x=>
   cases x with
   |sl k len C e=>cases k<;>rfl
   |_=>rfl
 ·have e:∃b,(h.map lendV)[n]?=some b/\∀k len C e,b ≠ .sl k len C e:=by
   rcases hr n h1 with ⟨C,t,e⟩ | ⟨y,t,e⟩
   ·exact⟨_,e,λ_ _ _ _ q=>nomatch q⟩
   ·exact⟨_,e,λ_ _ _ _ q=>nomatch q⟩
  obtain⟨b,e,hb'⟩:=e;rw[lend_get]at e;obtain⟨x,hx,h2'⟩:=Option.map_eq_some_iff.1 e;rw[<- h2,hx];cases x with
  |sl k len C e=>subst h2';cases k<;>exact absurd rfl (hb' _ _ _ _)
  |_=>cases (setMany h bs hb)[n]?<;>rfl
theorem RS.reown{ρ:Nat->Ad}{st:St}{a:Act}{w:World}(hR:RS E P W0 n0 D ρ0 ρ st a w){m:Nat}{C:Array Value}{e:TypeId}(hm:st.h[m]?=some (.sl .own 0 C e))(hn:n0<=m)(x:Ad):RS E P W0 n0 D ρ0 (λk=>if k=m then x else ρ k) st a w:=by
 have hne:∀n,present st.h n->n≠m:=λn hp e'=>by
  subst e';cases hp with
  |row e=>rw[hm]at e;cases e
  |one e=>rw[hm]at e;cases e
  |mp e=>rw[hm]at e;cases e
  |own e _ h0=>rw[hm]at e;cases e;exact h0 rfl
 have hr:∀n,present st.h n->(λk=>if k=m then x else ρ k) n=ρ n:=λn hp=>if_neg (hne n hp)
 refine⟨hR.len,λi v hv=>(hR.slots i v hv).mono (HLe.refl _) hr,⟨λn b hb=> ?_,λn q hp hq he=> ?_,λn b k h1 h2 q hp=> ?_⟩,λn h=> ?_,λn h hp=> ?_,hR.kept,hR.own0,hR.defers,hR.bound⟩
 ·by_cases e':n=m
  ·subst e';rw[hm]at hb;cases hb;have:=hR.heap.is _ _ hm;exact⟨⟨this.1.1,this.1.2.1,this.1.2.2.1,.inl rfl⟩,λ_ h=>absurd rfl h⟩
  ·show BIs P _ st.h w (if n=m then x else ρ n) b
   rw[if_neg e'];exact(hR.heap.is n b hb).mono (HLe.refl _) hr
 ·try dsimp only at he
  rw[if_neg (hne n hp),if_neg (hne q hq)]at he;exact hR.heap.inj n q hp hq he
 ·try dsimp only
  rw[if_neg (hne q hp)];exact hR.heap.far n b k h1 h2 q hp
 ·try dsimp only
  rw[if_neg (by omega)];exact hR.base n h
 ·try dsimp only
  rw[if_neg (hne n hp)];exact hR.fresh n h hp
theorem next_headIB{bs ws E':List Nat}{g m n len len2:Nat}{y1 y':SA}{e T T2:TypeId}{C C2:Array Value}{h0:List VB}{st st2:St}{hb:BS}{ρ1 ρ2:Nat->Ad}{a a2:Act}{s1:List SV}{W W2:World}(hl0:h0.length=m)(hl1:st.h.length=m+1)(hg1:st.h[g]?=some (.one y1 T))(hgl:g<m)(hgd:g∈st.d)(hbs:∀b∈bs,(∃C t,st.h[b]?=some (.row C t))/\b<m)
  (hlow:∀(i:Nat) (u:SV),st.s[i]?=some u->refLtV m u=true) (hno:∀(k len:Nat) (C:Array Value) (e:TypeId),k<m->st.h[k]?≠some (.sl .own len C e)) (hn0:n0<=m)
  (hlowB:∀(k:Nat) (b:VB),k<m->k≠g->st.h[k]?=some b->refLtB m b=true)
  (hown1:(setMany st.h (bs++[m]) hb)[m]?=some (.sl .own len C e)) (hhl:HLe h0 (setMany st.h (bs++[m]) hb)) (hhl1:∀k,k<m->HLeN st.h (setMany st.h (bs++[m]) hb) k)
  (hR:RS E P W0 n0 (st.d++D) ρ0 ρ1 { s:=st.s,h:=setMany st.h (bs++[m]) hb,d:=bs++[m] } a W) (hz:len=0->W.heap.size<=(ρ1 m).a) (hE':∀q∈E',q=m/\len≠0)
  (hR2:RS E' P W (m+1) [] ρ1 ρ2 st2 a2 W2) (hE:Ext ws (m+1) ρ1 ρ2 { s:=s1,h:=setMany st.h (bs++[m]) hb,d:=[] } st2)
  (hg:st2.h[g]?=some (.one y' T2)) (hbR:BoxR m n y1 y') (hown:st2.h[n]?=some (.sl .own len2 C2 e)) (hmn:m<=n)
  (hd:dirtyOk m (g::bs) st2.d=true) (hrh:(getH st2.h bs).all (refLtB m)=true) :
  RS E P W0 n0 (st.d++D) ρ0 (λk=>if k=m then ρ2 n else ρ2 k) { s:=st.s,h:=setMany st.h (bs++[m]) (getH st2.h bs++[.sl .own len2 C2 e]),d:=bs++[m] } a W2 /\
   HLe h0 (setMany st.h (bs++[m]) (getH st2.h bs++[.sl .own len2 C2 e]))/\(∀k,k<m->HLeN st.h (setMany st.h (bs++[m]) (getH st2.h bs++[.sl .own len2 C2 e])) k)/\(setMany st.h (bs++[m]) (getH st2.h bs++[.sl .own len2 C2 e]))[m]?=some (.sl .own len2 C2 e)/\(∀k,k<m->ρ2 k=ρ1 k) /\
   (∀k,k<W.heap.size->(∀b∈g::bs,(ρ1 b).a≠k)->(len≠0->(ρ1 m).a≠k)->W2.heap[k]?=W.heap[k]?)/\W.heap.size<=W2.heap.size:=by
 generalize hH:setMany st.h (bs++[m]) hb=H at *;have hlen:H.length=m+1:=by rw[<- hH,setMany_len];exact hl1
 generalize hH2:setMany st.h (bs++[m]) (getH st2.h bs++[.sl .own len2 C2 e])=H2;have hs2h:getH st2.h bs++[VB.sl .own len2 C2 e]=(bs++[m]).map λk=>if k=m then VB.sl .own len2 C2 e else st2.h.getD k .no:=by
  simp only[List.map_append,List.map_cons,List.map_nil,if_true,getH_map];congr 1;refine List.map_congr_left λb hb=> ?_
  rw[if_neg (by have:=(hbs b hb).2;omega)]
 have hlen2:H2.length=m+1:=by rw[<- hH2,setMany_len];exact hl1
 have hgb:g ∉ bs:=λh=>by obtain⟨⟨C',t,e'⟩,_⟩:=hbs g h;rw[hg1]at e';cases e'
 have hgm:g ∉ bs++[m]:=λh=>by rcases List.mem_append.1 h with h|h;exact hgb h;simp at h;omega
 have hHk:∀k,k ∉ bs->k<m->H[k]?=st.h[k]?:=λk hk hlt=>by
  rw[<- hH,setMany_other _ _ _ (λh=>by rcases List.mem_append.1 h with h|h;exact hk h;simp at h;omega)]
 have hH2k:∀k,k ∉ bs->k<m->H2[k]?=st.h[k]?:=λk hk hlt=>by
  rw[<- hH2,setMany_other _ _ _ (λh=>by rcases List.mem_append.1 h with h|h;exact hk h;simp at h;omega)]
 have hhg:H2[g]?=some (.one y1 T):=by rw[hH2k g hgb hgl];exact hg1
 have hhg0:H[g]?=some (.one y1 T):=by rw[hHk g hgb hgl];exact hg1
 have hElen:=hE.hlen;dsimp only at hElen;have hEle:=hE.hle;dsimp only at hEle;obtain rfl:T2=T:=by obtain⟨y',e'⟩:=(hEle g).one _ _ hhg0;rw[hg]at e';cases e';rfl
 have hdm:∀k,k<m->k∈st2.d->k∈g::bs:=λk hk h=>dirtyOk_mem hd k h hk
 have hh:∀k,k<m->k≠g->H2[k]?=st2.h[k]?:=λk hk hkg=>by
  have hk':k<st2.h.length:=by omega
  by_cases hb':k∈bs
  ·rw[<- hH2,setMany_get _ _ _ k hs2h,if_pos ⟨List.mem_append_left _ hb',by omega⟩,if_neg (by omega),List.getD_eq_getElem?_getD,List.getElem?_eq_getElem hk'];rfl
  ·rw[hH2k k hb' hk];have hnd:k ∉ st2.d:=λhkd=>by
    rcases List.mem_cons.1 (hdm k hk hkd) with h|h
    ·exact hkg h
    ·exact hb' h
   rw[hE.heap k (by omega) hnd];dsimp only;rw[hHk k hb' hk]
 have hhm:H2[m]?=some (.sl .own len2 C2 e):=by rw[<- hH2,setMany_get _ _ _ m hs2h,if_pos ⟨List.mem_append_right _ (by simp),by omega⟩,if_pos rfl]
 have inlen:∀{k:Nat} {b:VB},H2[k]?=some b->k<m+1:=λ{k b} h=>by rw[<- hlen2];exact(List.getElem?_eq_some_iff.1 h).1
 have hφ:∀{k:Nat},k<m+1->k≠g->H2[k]?=st2.h[if k=m then n else k]?:=λ{k} hk hkg=>by
  by_cases e':k=m
  ·rw[if_pos e',e',hhm,hown]
  ·rw[if_neg e',hh k (by omega) hkg]
 have hρ:∀k,(if k=m then ρ2 n else ρ2 k)=ρ2 (if k=m then n else k):=λk=>by by_cases e':k=m<;>simp[e']
 have hρlt:∀k,k<m->(if k=m then ρ2 n else ρ2 k)=ρ2 k:=λk hk=>if_neg (by omega)
 have ren:∀k,k<m+1->ρ2 k=ρ1 k:=λk hk=>hE.ren k hk
 have pres:∀k,present H2 k->present st2.h (if k=m then n else k):=λk hp=>by
  by_cases hkg:k=g
  ·subst hkg;rw[if_neg (by omega)];exact .one hg
  ·cases hp with|row e'=>exact .row (by rw[<- hφ (inlen e') hkg];exact e')|one e'=>exact .one (by rw[<- hφ (inlen e') hkg];exact e')|mp e'=>exact .mp (by rw[<- hφ (inlen e') hkg];exact e')|own e' hk h0=>exact .own (by rw[<- hφ (inlen e') hkg];exact e') hk h0
 have hgn:∀{v:Value},Is P ρ2 st2.h (.l n) v->Is P (λk=>if k=m then ρ2 n else ρ2 k) H2 (.l m) v:=λ{v} hi=>by
  obtain⟨ad,cap,h1,h2,h3⟩:=Is.l_of hi hown;refine .inr ⟨.own,len2,C2,e,ad,cap,hhm,h1,λh0=> ?_,λ_=>⟨(h3 rfl).1,λh0=> ?_⟩⟩
  ·simp only[adOf,if_true];exact h2 h0
  ·simp only[if_true];exact(h3 rfl).2 h0
 have prow:∀b∈bs,∃C t,H[b]?=some (.row C t):=λb hb'=>by
  obtain⟨⟨C',t,e'⟩,hlt⟩:=hbs b hb';obtain⟨C2',e2⟩:=(hhl1 b hlt).row C' t e';exact⟨C2',t,e2⟩
 have hle3:HLe (st2.h.take m) H2:=λk=>by
  by_cases hkm:k<m
  ·by_cases hkg:k=g
   ·subst hkg;refine⟨λC t e=> ?_,λy t e=> ?_,λa len C t e=> ?_,λe=> ?_,λg t a x e=> ?_,λE c e=> ?_⟩<;>rw[List.getElem?_take,if_pos hkm,hg]at e<;>cases e
    exact⟨_,hhg⟩
   ·exact .same (by rw[hh k hkm hkg,List.getElem?_take,if_pos hkm])
  ·exact .none (by rw[List.getElem?_take,if_neg hkm])
 have hcutB:∀{ww:World} {gg:Ad} {b:VB},BIs P ρ2 st2.h ww gg b->refLtB m b=true->BIs P (λk=>if k=m then ρ2 n else ρ2 k) H2 ww gg b:=λ{ww gg b} hi hr=>
  (hi.cut (h:=st2.h.take m) (λq hq=>by rw[List.getElem?_take,if_pos hq]) hr).mono hle3 λq hp=>hρlt q (by have:=hp.lt;rw[List.length_take]at this;omega)
 -- the same from the round's head
 have hle1:∀k,k<m->HLeN H H2 k:=λk hk=>by
  by_cases hkg:k=g
  ·subst hkg;exact .same (by rw[hhg,hhg0])
  ·have key:=hEle k;have e':=hh k hk hkg;exact⟨λC t h=>let ⟨C',h'⟩:=key.row C t h;⟨C',by rw[e'];exact h'⟩,λy t h=>let ⟨C',h'⟩:=key.one y t h;⟨C',by rw[e'];exact h'⟩,λa len C t h=>(key.sl a len C t h).imp (λ⟨C',h'⟩=>⟨C',by rw[e'];exact h'⟩) λ⟨q1,q2⟩=>⟨q1,by rw[e'];exact q2⟩,λh=>by rw[e'];exact key.sp h,λ_ _ _ _ h=>by rw[e'];exact key.gl _ _ _ _ h,λ_ _ h=>let ⟨E1,c1,h1⟩:=key.mp _ _ h;⟨E1,c1,by rw[e'];exact h1⟩⟩
 have hleT:HLe (H.take m) H2:=λk=>by
  by_cases hkm:k<m
  ·have key:=hle1 k hkm;have e':(H.take m)[k]?=H[k]?:=by rw[List.getElem?_take,if_pos hkm]
   exact⟨λC t h=>key.row C t (by rw[<- e'];exact h),λy t h=>key.one y t (by rw[<- e'];exact h),λa len C t h=>key.sl a len C t (by rw[<- e'];exact h),λh=>key.sp (by rw[<- e'];exact h),λ_ _ _ _ h=>key.gl _ _ _ _ (by rw[<- e'];exact h),λ_ _ h=>key.mp _ _ (by rw[<- e'];exact h)⟩
  ·exact .none (by rw[List.getElem?_take,if_neg hkm])
 have hcutV:∀{y:SV} {v:Value},IsV P ρ1 H y v->refLtV m y=true->IsV P (λk=>if k=m then ρ2 n else ρ2 k) H2 y v:=λ{y v} hi hr=>
  (hi.cut (h:=H.take m) (λq hq=>by rw[List.getElem?_take,if_pos hq]) hr).mono hleT λq hp=>(hρlt q (by have:=hp.lt;rw[List.length_take]at this;omega)).trans (ren q (by have:=hp.lt;rw[List.length_take]at this;omega))
 have pback:∀k,k<m->present H2 k->present H k:=λk hk hp=>by
  by_cases hkb:k∈bs
  ·obtain⟨C',t,e'⟩:=prow k hkb;exact .row e'
  ·have e2:=(hH2k k hkb hk).trans (hHk k hkb hk).symm;cases hp with|row e'=>exact .row (by rw[<- e2];exact e')|one e'=>exact .one (by rw[<- e2];exact e')|mp e'=>exact .mp (by rw[<- e2];exact e')|own e' hk h0=>exact .own (by rw[<- e2];exact e') hk h0
 have pm:len≠0->present H m:=λh0=>.own hown1 rfl h0
 have hcellsB:∀b∈g::bs,∃C t,W.heap[(ρ1 b).a]?=some (.cells C t (0,0)):=λb hb'=>by
  rcases List.mem_cons.1 hb' with rfl|hb'
  ·obtain⟨v,_,h2⟩:=hR.heap.is _ _ hhg0;exact⟨_,_,h2⟩
  ·obtain⟨C',t,e'⟩:=prow b hb';exact⟨C',t,(hR.heap.is b _ e').1⟩
 have hcellM:len≠0->∃C t,W.heap[(ρ1 m).a]?=some (.cells C t (0,0)):=λh0=>by
  obtain⟨_,C',t',h2,_⟩:=(hR.heap.is m _ hown1).2 rfl h0;exact⟨_,_,h2⟩
 have hk2:Kept (λk=>(∃b∈g::bs,(ρ1 b).a=k)\/(len≠0/\(ρ1 m).a=k)) W W2:=hR2.kept.mono λk hk ⟨q,h1,h2,h3⟩=>by
  by_cases hqm:q=m
  ·subst hqm
   by_cases h0:len=0
   ·exfalso;have:=hz h0;omega
   ·exact .inr ⟨h0,h3⟩
  ·rcases h2 with h2|h2|h2
   ·exact .inl ⟨q,hdm q (by omega) h2,h3⟩
   ·cases h2
   ·exact absurd (hE' q h2).1 hqm
 have hsz:=hR.kept.size;have freshM:len≠0->W0.heap.size<=(ρ1 m).a\/∃q∈E,q<n0/\(ρ0 q).a=(ρ1 m).a:=λh0=>hR.fresh m hn0 (pm h0)
 refine⟨⟨hR.len,λi v hv=>hcutV (hR.slots i v hv) (hlow i v hv),⟨λk b hb'=> ?_,λk q hp hq he=> ?_,λk b x h1 h2 q hp=> ?_⟩,λk hk=> ?_,λk hk hp=> ?_,?_,λk len C e hk he=> ?_,?_,by dsimp only;rw[hlen2];omega⟩,λk=> ?_,λk hk=> ?_,hhm,λk hk=>ren k (by omega),λk hk h1 h2=> ?_,hR2.kept.size⟩
 ·dsimp only at hb'|-
  have hk:=inlen hb'
  by_cases hkg:k=g
  ·subst hkg;rw[hhg]at hb';cases hb';obtain⟨v,hv,hc⟩:=hR2.heap.is _ _ hg;rw[if_neg (by omega)];exact⟨v,hbR.is (λ_=>hgn) hv,by rw[hbR.oneC];exact hc⟩
  ·rw[hρ k];have hb2:=hb';rw[hφ hk hkg]at hb2;have hi:=hR2.heap.is _ b hb2
   by_cases hkm:k=m
   ·subst hkm;simp only[if_true]at hb2 hi|-
    rw[hown]at hb2;cases hb2;exact hi
   ·rw[if_neg hkm]at hb2 hi|-
    refine hcutB hi ?_
    by_cases hbs':k∈bs
    ·have hmem:=getH_mem (h:=st2.h) hbs';rw[List.all_eq_true]at hrh;rw[List.getD_eq_getElem?_getD,hb2]at hmem;exact hrh b hmem
    ·rw[hH2k k hbs' (by omega)]at hb';exact hlowB k b (by omega) hkg hb'
 ·try dsimp only at he
  rw[hρ k,hρ q]at he;have:=hR2.heap.inj _ _ (pres k hp) (pres q hq) he;have hk:=hp.lt;have hq':=hq.lt
  by_cases e1:k=m
  ·by_cases e2:q=m
   ·omega
   ·rw[if_pos e1,if_neg e2]at this;dsimp only at hq';omega
  ·by_cases e2:q=m
   ·rw[if_neg e1,if_pos e2]at this;dsimp only at hk;omega
   ·rw[if_neg e1,if_neg e2]at this;exact this
 ·dsimp only at h1 hp|-
  have hkg:k≠g:=λe'=>by subst e';rw[hhg]at h1;cases h1;exact h2
  rw[hρ q];exact hR2.heap.far (if k=m then n else k) b x (by rw[<- hφ (inlen h1) hkg];exact h1) h2 _ (pres q hp)
 ·try dsimp only
  rw[if_neg (by omega),ren k (by omega)];exact hR.base k hk
 ·dsimp only at hp|-
  by_cases hkm:k=m
  ·subst hkm;rw[if_pos rfl];have h20:len2≠0:=by
    cases hp with
    |row e'=>rw[hhm]at e';cases e'
    |one e'=>rw[hhm]at e';cases e'
    |mp e'=>rw[hhm]at e';cases e'
    |own e' _ h0=>rw[hhm]at e';cases e';exact h0
   by_cases hnm:n=k
   ·subst hnm;have h0:len≠0:=by
     rcases(hEle n).sl _ _ _ _ hown1 with ⟨C',h'⟩ | ⟨_,h'⟩
     ·rw[hown]at h';cases h';exact h20
     ·rw[hown]at h';cases h'
    rw[ren n (by omega)];exact freshM h0
   ·rcases hR2.fresh n (by omega) (.own hown rfl h20) with h | ⟨q,q1,q2,q3⟩
    ·exact .inl (Nat.le_trans hsz h)
    ·obtain⟨rfl,h0⟩:=hE' q q1;rw[<- q3];exact freshM h0
  ·have hkm':k<m:=by have:=hp.lt;omega
   rw[if_neg hkm,ren k (by omega)];exact hR.fresh k hk (pback k hkm' hp)
 ·refine⟨hk2.os.trans hR.kept.os,hk2.tape.trans hR.kept.tape,hk2.output.trans hR.kept.output,Nat.le_trans hR.kept.size hk2.size,λk hk hne=> ?_⟩;rw[hk2.block k (Nat.lt_of_lt_of_le hk hR.kept.size) λhe=> ?_]
  ·exact hR.kept.block k hk hne
  ·have viaF:∀q,n0<=q->present H q->(ρ1 q).a=k->False:=λq hq hp e'=>by
    rcases hR.fresh q hq hp with h | ⟨q',h1,h2,h3⟩
    ·omega
    ·exact hne ⟨q',h2,.inr (.inr h1),h3.trans e'⟩
   rcases he with ⟨b,hb',e'⟩ | ⟨h0,e'⟩
   ·by_cases hb0:b<n0
    ·refine hne ⟨b,hb0,?_,by rw[<- hR.base b hb0];exact e'⟩;rcases List.mem_cons.1 hb' with rfl|hb'
     ·exact .inr (.inl (List.mem_append_left _ hgd))
     ·exact .inl (List.mem_append_left _ hb')
    ·refine viaF b (by omega) ?_ e';rcases List.mem_cons.1 hb' with rfl|hb'
     ·exact .one hhg0
     ·obtain⟨C',t,e'⟩:=prow b hb';exact .row e'
   ·exact viaF m hn0 (pm h0) e'
 ·exfalso;dsimp only at he;have hkm:k<m:=by omega
  by_cases hkg:k=g
  ·subst hkg;rw[hhg]at he;cases he
  ·by_cases hkb:k∈bs
   ·obtain⟨C',t,e1⟩:=prow k hkb;obtain⟨C2',e2⟩:=(hle1 k hkm).row _ _ e1;rw[e2]at he;cases he
   ·rw[hH2k k hkb hkm]at he;exact hno k _ _ _ hkm he
 ·refine hR.defers.kept hk2 λk he=> ?_
  rcases he with ⟨b,hb',e'⟩ | ⟨h0,e'⟩
  ·obtain⟨C',t,h⟩:=hcellsB b hb';rw[<- e'];exact⟨_,_,_,h⟩
  ·obtain⟨C',t,h⟩:=hcellM h0;rw[<- e'];exact⟨_,_,_,h⟩
 ·by_cases hkm:k<m
  ·have a1:=hhl k;have a2:=hle1 k hkm;exact⟨λC t h=>let ⟨C',h'⟩:=a1.row C t h;a2.row C' t h',λy t h=>let ⟨C',h'⟩:=a1.one y t h;a2.one C' t h',λa len C t h=>by
    rcases a1.sl a len C t h with ⟨C',h'⟩ | ⟨q,h'⟩
    ·exact a2.sl a len C' t h'
    ·exact .inr ⟨q,a2.sp h'⟩,λh=>a2.sp (a1.sp h),λ_ _ _ _ h=>a2.gl _ _ _ _ (a1.gl _ _ _ _ h),λ_ _ h=>let ⟨E1,c1,h1⟩:=a1.mp _ _ h;a2.mp E1 c1 h1⟩
  ·exact .none (List.getElem?_eq_none (by omega))
 ·have a1:=hhl1 k hk;have a2:=hle1 k hk;exact⟨λC t h=>let ⟨C',h'⟩:=a1.row C t h;a2.row C' t h',λy t h=>let ⟨C',h'⟩:=a1.one y t h;a2.one C' t h',λa len C t h=>by
   rcases a1.sl a len C t h with ⟨C',h'⟩ | ⟨q,h'⟩
   ·exact a2.sl a len C' t h'
   ·exact .inr ⟨q,a2.sp h'⟩,λh=>a2.sp (a1.sp h),λ_ _ _ _ h=>a2.gl _ _ _ _ (a1.gl _ _ _ _ h),λ_ _ h=>let ⟨E1,c1,h1⟩:=a1.mp _ _ h;a2.mp E1 c1 h1⟩
 ·exact hk2.block k hk λhe=>by
   rcases he with ⟨b,hb',e'⟩ | ⟨h0,e'⟩
   ·exact h1 b hb' e'
   ·exact h2 h0 e'
end
end
section
set_option linter.unusedVariables false
def resOne(P:Program)(st:St):ResultVar->Option SA
 |.tmp t=>some (asA (st.s.getD t (.a .x)))
 | .cell t T=>(match asA (st.s.getD t (.a .x)) with
  |.w m=>(match st.h[m]? with
   |some (.row C t')=>rdW P T C t'
   |some (.one r t)=>ldOne P T t r
   |_=>none)
  |_=>none)
def resAll(P:Program)(st:St):List ResultVar->Option (List SA)
 |[]=>some []
 |r::l=>(match resOne P st r,resAll P st l with
  |some y,some m=>some (y::m)
  |_,_=>none)
def pack:List SA->SV
 |[y]=>.a y
 |l=>.t l
def cleanD(n0:Nat):List Nat->Bool
 |[]=>true
 |k::d=> !Nat.blt k n0&&cleanD n0 d
def oneD(n0 m:Nat):List Nat->Bool
 |[]=>true
 |k::d=>(!Nat.blt k n0||Nat.beq k m)&&oneD n0 m d
def firstD(n0:Nat):List Nat->Option Nat
 |[]=>none
 |k::d=>bif Nat.blt k n0 then some k else firstD n0 d
def firstL(n0:Nat):List SA->Nat->Option (Nat×Nat)
 |[],_=>none
 |y::r,i=>(match y with | .l m=>bif Nat.ble n0 m then some (i,m) else firstL n0 r (i+1)|_=>firstL n0 r (i+1))
def bigN(n0:Nat):List (Nat×Nat)->Option Nat
 |[]=>none
 |q::r=>bif Nat.ble n0 q.2 then some q.2 else bigN n0 r
def firstR(n0:Nat):List SA->Option Nat
 |[]=>none
 |y::r=>(match y with | .r _ _ ns=>(match bigN n0 ns with|some m=>some m|none=>firstR n0 r)|_=>firstR n0 r)
def holeN(m k:Nat):Nat:=bif Nat.beq k m then HOLE else k
def holeA(m:Nat):SA->SA
 |.r D T ns=>.r D T (ns.map λq=>(q.1,holeN m q.2))
 |y=>y
def okH(n0 m:Nat):SA->Bool
 |.r _ _ ns=>ns.all (λq=>Nat.beq q.2 m||Nat.blt q.2 n0)
 |y=>refLt n0 y
def newHole(n0:Nat)(st:St)(l:List SA):Option (SV×Eff×Bool):=
 match firstR n0 l with
 |some m=>(match st.h[m]? with
  |some (.sl .own len C e)=>bif Nat.ble n0 1000000&&l.all (okH n0 m) then some (pack (l.map (holeA m)),.newS (some 1000000) len C e,true) else none
  |_=>none)
 |none=>none
theorem bigN_get{n0 m:Nat}:∀{ns:List (Nat×Nat)},bigN n0 ns=some m->n0<=m/\∃i,(i,m)∈ns
 |[],h=>by cases h
 |q::r,h=>by
  simp only[bigN]at h;cases hb:Nat.ble n0 q.2 with
  |true=>rw[hb]at h;cases h;exact⟨Nat.le_of_ble_eq_true hb,q.1,List.mem_cons_self ..⟩
  |false=>rw[hb]at h;obtain⟨h1,i,h2⟩:=bigN_get (ns:=r) h;exact⟨h1,i,List.mem_cons_of_mem _ h2⟩
theorem firstR_get{n0 m:Nat}:∀{l:List SA},firstR n0 l=some m->n0<=m/\∃(j:Nat) (D:Array Value) (T:TypeId) (ns:List (Nat×Nat)) (i:Nat),l[j]?=some (SA.r D T ns)/\(i,m)∈ns
 |[],h=>by cases h
 | y::r,h=>by
  have tl:firstR n0 r=some m->n0<=m/\∃(j:Nat) (D:Array Value) (T:TypeId) (ns:List (Nat×Nat)) (i:Nat),(y::r)[j]?=some (SA.r D T ns)/\(i,m)∈ns:=λh=>by
   obtain⟨h1,j,D,T,ns,i,h2,h3⟩:=firstR_get (l:=r) h;exact⟨h1,j+1,D,T,ns,i,h2,h3⟩
  unfold firstR at h;split at h
  ·rename_i D T ns;split at h
   ·rename_i m' hm;cases h;obtain⟨h1,i,h2⟩:=bigN_get hm;exact⟨h1,0,D,T,ns,i,rfl,h2⟩
   ·exact tl h
  ·exact tl h
def newRes(n0:Nat)(st:St)(l:List SA):Option (SV×Eff×Bool):=
 match firstL n0 l 0 with
 |some (i,m)=>(match st.h[m]? with
  |some (.sl .own len C e)=>bif Nat.beq l.length 1 then some (.a .x,.newS none len C e,true) else bif (l.set i .x).all (refLt n0) && !Nat.ble 1000000 i then some (.t (l.set i .x),.newS (some i) len C e,true) else none
  |_=>none)
 |none=>newHole n0 st l
theorem firstL_get{n0:Nat}:∀{l:List SA} {k i m:Nat},firstL n0 l k=some (i,m)->k<=i/\l[i - k]?=some (.l m)/\n0<=m
 |[],k,i,m,h=>by cases h
 | y::r,k,i,m,h=>by
  have rec1:firstL n0 r (k+1)=some (i,m)->k<=i/\(y::r)[i - k]?=some (.l m)/\n0<=m:=λh=>by
   obtain⟨h1,h2,h3⟩:=firstL_get h;refine⟨by omega,?_,h3⟩;rw[show i - k=(i - (k+1))+1 by omega];exact h2
  unfold firstL at h;split at h
  ·rename_i m';cases hb:Nat.ble n0 m' with|false=>rw[hb]at h;exact rec1 h|true=>rw[hb]at h;simp only[cond_true,Option.some.injEq,Prod.mk.injEq]at h;obtain⟨rfl,rfl⟩:=h;exact⟨Nat.le_refl _,by simp,Nat.le_of_ble_eq_true hb⟩
  ·exact rec1 h
def dataR:SA->Bool
 |.i _ _=>true
 |.b _=>true
 |.s _=>true
 |.g _ _=>true
 |_=>false
def ansW(P:Program)(st:St):List ResultVar->Option SV
 |[]=>some (.a .u)
 |r::l=>(match resAll P st (r::l) with|some ys=>bif ys.all dataR then some (pack ys) else none|none=>none)
def newK(P:Program)(n0:Nat)(st:St):List SA->Option (SV×Eff×Bool)
 | [.k m len cap e]=>(match st.h[m]? with
  |some (.row C t)=>(match arrOf P t with
   |some (c,e',q)=>bif Nat.ble n0 m&&Nat.beq e e'&&softT P t&&Nat.ble c 16777216 then some (.a .x,.newS none len (C.extract 0 (len*q)) e,Nat.beq len cap && !Nat.beq len 0) else none
   |none=>none)
  |_=>none)
 |_=>none
theorem newK_sound{P:Program}{ρ':Nat->Ad}{st:St}{w wx:World}{n0:Nat}{l:List SA}{v:SV}{e:Eff}(hk:newK P n0 st l=some (v,e,true))(hH:HIs P ρ' st.h wx)(hfresh:∀m,n0<=m->present st.h m->w.heap.size<=(ρ' m).a)(hkept:Kept (λ_=>False) w wx)
  {vs:List Value} (hall:AllIs P ρ' st.h l vs) (ρ:Nat->Ad) (h:List VB):∃y vv,l=[y]/\vs=[vv]/\EffPost P ρ h w v e vv wx:=by
 unfold newK at hk;split at hk
 case h_2=>cases hk
 rename_i m len cap e';split at hk
 case h_2=>cases hk
 rename_i C t hm;split at hk
 case h_2=>cases hk
 rename_i c e2 q hA;cases hb:Nat.ble n0 m&&Nat.beq e' e2&&softT P t&&Nat.ble c 16777216 with
 |false=>rw[hb]at hk;cases hk
 |true=>
 rw[hb]at hk;simp only[Bool.and_eq_true]at hb;obtain⟨⟨⟨hn,he⟩,hst⟩,hc⟩:=hb;have hc:=Nat.le_of_ble_eq_true hc;obtain rfl:=Nat.eq_of_beq_eq_true he;simp only[cond_true,Option.some.injEq,Prod.mk.injEq]at hk;obtain⟨rfl,rfl,hb2⟩:=hk;simp only[Bool.and_eq_true,Bool.not_eq_true']at hb2;obtain⟨h1,h2⟩:=hb2;obtain rfl:=Nat.eq_of_beq_eq_true h1;have hl0:len≠0:=λh=>by rw[h]at h2;cases h2
 obtain⟨-,hq,hsub,hq0,hz⟩:=arrOf_sound hA;obtain⟨hmem,hW⟩:=hH.is m _ hm
 match vs,hall with
 | [vv],hall=>
  obtain⟨hv,hlc,C2,t2,c2,m2,h3,h4,h5⟩:=hall.2 0 _ vv rfl rfl;rw[hm]at h3;cases h3;rw[hA]at h4;cases h4;have hle:len*q<=C.size:=by
   have:=(hsub (len - 1) (by omega)).le hq0;rw[hW.layLen];have e1:(len - 1)*q+q=len*q:=by rw[<- Nat.succ_mul];congr 1;omega
   omega
  refine⟨_,vv,rfl,rfl,⟨(ρ' m).a,len⟩,some ⟨(ρ' m).a,0,none⟩,len,hv,⟨λh=>h,λ_=>⟨rfl,rfl⟩⟩,λ_=>hfresh m (Nat.le_of_ble_eq_true hn) (.row hm),hkept,⟨⟨?_,λk hk=> ?_,by omega,.inr ⟨(ρ' m).a,0,rfl,λj u hj=> ?_,(Array.getElem?_eq_some_iff.1 hmem).1⟩⟩,λ_ _=>⟨Nat.le_refl _,C,t,hmem,.inl ⟨rfl,hst⟩⟩⟩⟩
  ·rw[Array.size_extract,<- hq];omega
  ·have hs:=hsub k (by omega);have h6:=hW.sub hs hq0;have e1:(C.extract 0 (len*q)).extract (k*(lay P e').length) (k*(lay P e').length+(lay P e').length)=C.extract (k*q) (k*q+(zc P e').size):=by
    rw[<- lay_len,<- hq];refine arr_ext λi=> ?_
    have h7:(k+1)*q<=len*q:=Nat.mul_le_mul_right _ hk;rw[Nat.add_mul]at h7;rw[Array.getElem?_extract,Array.getElem?_extract,Array.size_extract]
    by_cases hi:i<q
    ·rw[if_pos (by omega),if_pos (by omega),Array.getElem?_extract,if_pos (by omega),Nat.zero_add]
    ·rw[if_neg (by omega),Array.getElem?_extract,if_neg (by omega)]
   rw[e1];exact h6
  ·rw[Array.getElem?_toList,Array.getElem?_extract]at hj;split at hj
   ·rw[Nat.zero_add]at hj;rw[Nat.zero_add,cell_of_row wx _ j C t (0,0) hmem];exact hj
   ·cases hj
 |[],hall=>exact absurd hall.1 (by simp)
 |_::_::_,hall=>exact absurd hall.1 (by simp)
def finA(P:Program)(h0:List VB)(res:List ResultVar)(st:St):Option (SV×Eff×Bool):=
 bif cleanD h0.length st.d then (match resAll P st res with|some l=>bif l.all (refLt h0.length) then some (pack l,.none,true) else (match newK P h0.length st l with|some r=>bif r.2.2 then some (r.1,r.2.1,true) else none|none=>newRes h0.length st l)|none=>none) else (match ansW P st res,firstD h0.length st.d with
  |some v,some m=>bif oneD h0.length m st.d then (match st.h[m]?,h0[m]? with
   |some (.row C t),some (.row _ t0)=>bif Nat.beq t t0 then some (v,.set m (.row C t),true) else none
   |some (.sl .lent len C e),some (.sl .lent _ _ _)=>bif Nat.blt 0 len then some (v,.set m (.sl .lent len C e),true) else none
   |_,_=>none) else none
  |_,_=>none)
def finK(P:Program)(h0:List VB)(res:List ResultVar)(e:Exit)(st:St):Option (SV×Eff×Bool):=
 match e with|.normal=>finA P h0 res st|.ret=>finA P h0 res st|_=>none
def entry(ntmps:Nat)(args:List SA)(h:List VB):St:={ s:=args.map SV.a++List.replicate (ntmps - args.length) (.a .u),h:=h,d:=[] }
def funV(P:Program)(Γ:Cons)(N:Nat)(res:List ResultVar)(ntmps:Nat)(c:Code)(p:Plan)(args:List SA)(h:List VB):Option (SV×Eff×Bool):=
 veT P Γ N c p (SV×Eff×Bool) (entry ntmps args h) (finK P h res)
def growOf:List Nat->List Nat×Option (Nat×TypeId)
 |[]=>([],none)
 |k::r=>bif Nat.ble 1000000 k then ([],match r with|e::_=>some (k - 1000000,e) | []=>none) else (k::(growOf r).1,(growOf r).2)
def pairsOf:List Nat->List (Nat×TypeId)
 |k::e::r=>(k - 1000000,e)::pairsOf r
 |_=>[]
def growsOf:List Nat->List Nat×List (Nat×TypeId)
 |[]=>([],[])
 |k::r=>bif Nat.ble 1000000 k then ([],pairsOf (k::r)) else (k::(growsOf r).1,(growsOf r).2)
def hasGo:Code->Bool
 |.goto _=>true
 |.seq x y=>hasGo x||hasGo y
 |.scope x=>hasGo x
 |.cond _ x y=>hasGo x||hasGo y
 |.block _ x=>hasGo x
 |.loop x=>hasGo x
 |.rangeFunc _ _ x y=>hasGo x||hasGo y
 |_=>false
def mkPlan:Code->List (List Nat×List Nat)->Plan×List (List Nat×List Nat)
 |.seq x (.seq (.label lb) z),l=>bif hasGo z then (match (mkPlan x l).2 with
  |(cs,bs)::l2=>(.jump lb cs bs (mkPlan x l).1 (mkPlan z l2).1,(mkPlan z l2).2)
  |[]=>(.one,[])) else (.two (mkPlan x l).1 (.two .one (mkPlan z (mkPlan x l).2).1),(mkPlan z (mkPlan x l).2).2)
 |.seq x y,l=>(.two (mkPlan x l).1 (mkPlan y (mkPlan x l).2).1,(mkPlan y (mkPlan x l).2).2)
 |.scope x,l=>bif hasGo x then mkPlan x l else (.ng (mkPlan x l).1,(mkPlan x l).2)
 |.cond _ x y,l=>(.two (mkPlan x l).1 (mkPlan y (mkPlan x l).2).1,(mkPlan y (mkPlan x l).2).2)
 |.block _ x,l=>mkPlan x l
 |.loop x,(7000000000::cs,bs)::l=>(.loopF cs (growsOf bs).1 (growsOf bs).2 (mkPlan x l).1,(mkPlan x l).2)
 |.loop x,(5000000000::cs,bs)::l=>(.loopM cs (growsOf bs).1 (growsOf bs).2 (mkPlan x l).1,(mkPlan x l).2)
 |.loop x,(4000000000::cs,bs)::l=>((match growOf bs with | (b,some (g,e))=>.loopGR cs b g e (mkPlan x l).1 | (b,none)=>.loopR cs b (mkPlan x l).1),(mkPlan x l).2)
 |.loop x,(cs,bs)::l=>((match growOf bs with | (b,some (g,e))=>(bif Nat.ble 1000000 g then .loopB cs b (g - 1000000) e (mkPlan x l).1 else .loopG cs b g e (mkPlan x l).1) | (b,none)=>.loop cs b (mkPlan x l).1),(mkPlan x l).2)
 |.rangeFunc _ _ (.seq _ _) x,(6000000000::_,bs)::l=>(.iterA bs (mkPlan x l).1,(mkPlan x l).2)
 |.rangeFunc _ _ _ x,(8000000000::_,bs)::l=>(.iterW bs (mkPlan x l).1,(mkPlan x l).2)
 |.rangeFunc _ _ _ x,(6000000000::_,bs)::l=>(.iterL bs (mkPlan x l).1,(mkPlan x l).2)
 |.rangeFunc _ _ _ x,(_,bs)::l=>((match growOf bs with | (b,some (g,e))=>.iterB b (g - 1000000) e (mkPlan x l).1 | (b,none)=>.iter b (mkPlan x l).1),(mkPlan x l).2)
 |_,l=>(.one,l)
def codeOf(fn:Func):Code:=match fn.body with|some c=>c|none=>.skip
def hasSc:Code->Bool
 |.seq _ y=>hasSc y
 |.scope _=>true
 |_=>false
def planOf(c:Code)(l:List (List Nat×List Nat)):Plan:=bif hasSc c&&hasGo c then .sc (mkPlan c l).1 else (mkPlan c l).1
def ansV(P:Program)(Γ:Cons)(N:Nat)(fn:Func)(l:List (List Nat×List Nat))(args:List SA)(h:List VB):Option (SV×Eff×Bool):=
 funV P Γ N fn.results.toList fn.ntmps (codeOf fn) (planOf (codeOf fn) l) args h
section
variable {P:Program} {Γ:Cons} {N:Nat}
theorem resOne_sound{ρ:Nat->Ad}{st:St}{a:Act}{w:World}(hs:∀(i:Nat) (v:SV),st.s[i]?=some v->IsV P ρ st.h v (a.tmps.getD i undef))(hH:HIs P ρ st.h w){r:ResultVar}{y:SA}(hr:resOne P st r=some y):
  ∃v,((match r with | .tmp t=>pure (a.tmps.getD t undef) | .cell p t=>do loadVar t (<- asAddr (a.tmps.getD p undef))):Sem Value).run P w=.ok v w/\Is P ρ st.h y v:=by
 have ev:=λ(t:Nat)=>asA_is (evO_is hs (.tmp t))
 cases r with
 |tmp t=>simp only[resOne,Option.some.injEq]at hr;subst hr;exact⟨a.tmps.getD t undef,rfl,ev t⟩
 | cell t T=>
  simp only[resOne]at hr;have hv:=ev t;simp only[evO]at hv;split at hr
  ·rename_i m hm;rw[hm]at hv;obtain⟨hp,_⟩:=hv;split at hr
   ·rename_i C t' hb;have hB:=(hH.is m _ hb).row;obtain⟨v,hrun,hi⟩:=rdW_load (ρ:=ρ) (h:=st.h) hr hB.2 hB.1;refine⟨v,?_,hi⟩;have hp:a.tmps.getD t undef=.pointer (some ⟨ρ m,0,none⟩):=hp;simp only[hp,asAddr,Sem.run_bind,Sem.run_pure,Result.andThen_ok,hrun]
   ·rename_i r t' hb;obtain⟨v,hrun,hi⟩:=ldOne_load hr (hH.is m _ hb);refine⟨v,?_,hi⟩;have hp:a.tmps.getD t undef=.pointer (some ⟨ρ m,0,none⟩):=hp;simp only[hp,asAddr,Sem.run_bind,Sem.run_pure,Result.andThen_ok,hrun]
   ·cases hr
  ·cases hr
theorem resAll_sound{ρ:Nat->Ad}{st:St}{a:Act}{w:World}(hs:∀(i:Nat) (v:SV),st.s[i]?=some v->IsV P ρ st.h v (a.tmps.getD i undef))(hH:HIs P ρ st.h w):∀(l:List ResultVar) (ys:List SA),resAll P st l=some ys ->
  ∃vs:List Value,(l.mapM λr=>((match r with | .tmp t=>pure (a.tmps.getD t undef) | .cell p t=>do loadVar t (<- asAddr (a.tmps.getD p undef))):Sem Value)).run P w=.ok vs w/\AllIs P ρ st.h ys vs
 |[],ys,h=>by
  simp only[resAll,Option.some.injEq]at h;subst h;exact⟨[],rfl,rfl,λi y v hy=>by simp at hy⟩
 | r::l,ys,h=>by
  simp only[resAll]at h;split at h
  ·rename_i y m hy hm;simp only[Option.some.injEq]at h;subst h;obtain⟨v,h1,h2⟩:=resOne_sound hs hH hy;obtain⟨vs,h3,h4⟩:=resAll_sound hs hH l m hm;refine⟨v::vs,?_,by simp[h4.1],λi y' v' hy' hv'=> ?_⟩
   ·simp only[List.mapM_cons,Sem.run_bind,h1,Result.andThen_ok,h3,Sem.run_pure]
   ·cases i with|zero=>simp only[List.getElem?_cons_zero,Option.some.injEq]at hy' hv';subst hy';subst hv';exact h2|succ i=>exact h4.2 i y' v' (by simpa using hy') (by simpa using hv')
  ·cases h
theorem results_of{fn:Func}{res:List ResultVar}(hres:fn.results.toList=res){tmps:Array Value}{w:World}{vs:List Value}
  (hrun:(res.mapM λr=>((match r with | .tmp t=>pure (tmps.getD t undef) | .cell p t=>do loadVar t (<- asAddr (tmps.getD p undef))):Sem Value)).run P w=.ok vs w) :
  (results fn tmps).run P w=.ok (if h:vs.toArray.size=1 then vs.toArray[0] else .tuple vs.toArray) w:=by
 unfold results;rw[Sem.run_bind,Array.mapM_eq_mapM_toList,hres];have:(List.toArray <$> res.mapM λr=>((match r with | .tmp t=>pure (tmps.getD t undef) | .cell p t=>do loadVar t (<- asAddr (tmps.getD p undef))):Sem Value)).run P w=.ok vs.toArray w:=by rw[map_eq_pure_bind,Sem.run_bind,hrun];rfl
 exact congrArg (λz:Result (Array Value)=>z.andThen λa w'=>((pure (if h:a.size=1 then a[0] else .tuple a)):Sem Value).run P w') this
theorem resAll_results{ρ:Nat->Ad}{st:St}{a:Act}{w:World}(hs:∀(i:Nat) (v:SV),st.s[i]?=some v->IsV P ρ st.h v (a.tmps.getD i undef))(hH:HIs P ρ st.h w){fn:Func}{ys:List SA}(hr:resAll P st fn.results.toList=some ys):
  ∃vs:List Value,(results fn a.tmps).run P w=.ok (if h:vs.toArray.size=1 then vs.toArray[0] else .tuple vs.toArray) w/\AllIs P ρ st.h ys vs:=by
 obtain⟨vs,h1,h2⟩:=resAll_sound hs hH _ ys hr;exact⟨vs,results_of rfl h1,h2⟩
theorem BIs.world'{ρ:Nat->Ad}{h:List VB}{w w':World}{g:Ad}{b:VB}(hi:BIs P ρ h w g b)(hsz:w.heap.size<=w'.heap.size)(hw0:∀(g:Nat) c t fr,w.heap[g]?=some (Obj.cells c t fr)->w'.heap[g]?=some (Obj.cells c t fr))(hw:∀c t fr,w.heap[g.a]?=some (Obj.cells c t fr)->w'.heap[g.a]?=some (Obj.cells c t fr))(hw1:∀E c,w.heap[g.a]?=some (Obj.map E c)->w'.heap[g.a]?=some (Obj.map E c)):BIs P ρ h w' g b:=by
 cases b with
 |no=>trivial
 |row C T=>exact⟨hw _ _ _ hi.1,hi.2⟩
 |one y T=>obtain⟨v,h1,h2⟩:=hi;exact⟨v,h1,hw _ _ _ h2⟩
 |sl x len C t=>exact⟨hi.1.cells hsz hw0,λh1 h2=>let ⟨q1,C',t',q2,q3⟩:=hi.2 h1 h2;⟨q1,C',t',hw _ _ _ q2,q3⟩⟩
 |sp=>trivial
 |mp E c=>exact hw1 _ _ hi
 |gl g t a x=>exact hi.glCells hw0
theorem present_lt{h:List VB}{k:Nat}(hp:present h k):k<h.length:=by cases hp with|row e=>exact(List.getElem?_eq_some_iff.1 e).1|one e=>exact(List.getElem?_eq_some_iff.1 e).1|mp e=>exact(List.getElem?_eq_some_iff.1 e).1|own e _ _=>exact(List.getElem?_eq_some_iff.1 e).1
theorem cleanD_mem{n0:Nat}:∀{d:List Nat},cleanD n0 d=true->∀k∈d,n0<=k
 |[],_,k,hk=>by cases hk
 | a::d,h,k,hk=>by
  simp only[cleanD,Bool.and_eq_true,Bool.not_eq_true']at h;rcases List.mem_cons.1 hk with rfl|hk
  ·by_cases hlt:k<n0
   ·have:Nat.blt k n0=true:=by simp[Nat.blt];omega
    rw[this]at h;cases h.1
   ·omega
  ·exact cleanD_mem h.2 k hk
theorem firstD_lt{n0 m:Nat}:∀{d:List Nat},firstD n0 d=some m->m<n0
 |[],h=>by cases h
 |k::d,h=>by
  simp only[firstD]at h;cases hb:Nat.blt k n0 with
  |true=>rw[hb]at h;cases h;simp[Nat.blt]at hb;omega
  |false=>rw[hb]at h;exact firstD_lt h
theorem oneD_mem{n0 m:Nat}:∀{d:List Nat},oneD n0 m d=true->∀k∈d,k<n0->k=m
 |[],_,k,hk,_=>by cases hk
 | a::d,h,k,hk,hlt=>by
  simp only[oneD,Bool.and_eq_true,Bool.or_eq_true,Bool.not_eq_true']at h;rcases List.mem_cons.1 hk with rfl|hk
  ·rcases h.1 with h1|h1
   ·have:Nat.blt k n0=true:=by simp[Nat.blt];omega
    rw[this]at h1;cases h1
   ·exact Nat.eq_of_beq_eq_true h1
  ·exact oneD_mem h.2 k hk hlt
theorem lookN_map(f:Nat->Nat)(i:Nat):∀(ns:List (Nat×Nat)),lookN (ns.map λq=>(q.1,f q.2)) i=(lookN ns i).map f
 |[]=>rfl
 |(j,n)::r=>by
  simp only[List.map_cons,lookN];cases Nat.beq j i with|true=>rfl|false=>exact lookN_map f i r
theorem IsL.ad{ρ:Nat->Ad}{h:List VB}{n len cap:Nat}{ad ad':Option Addr}(hi:IsL P ρ h n (.slice ad len cap))(he:len≠0->ad'=ad):IsL P ρ h n (.slice ad' len cap):=by
 rcases hi with hi | ⟨a,l,C,e,ad2,cap2,h1,h2,h3,h4⟩
 ·exact .inl hi
 ·cases h2;exact .inr ⟨a,len,C,e,ad',cap,h1,rfl,λh0=>(he h0).trans (h3 h0),h4⟩
theorem hole_all{ρ ρ' ρ2:Nat->Ad}{h hs h2:List VB}{m id len l0 c0:Nat}{C:Array Value}{e:TypeId}{ad:Option Addr}(hm:hs[m]?=some (.sl .own len C e))(hh:∀k,k<h.length->h[k]?=hs[k]?)(hren:∀k,present h k->ρ k=ρ' k)
  (hsm:h.length<=1000000) (hml:h.length<=m) {l:List SA} {vs:List Value} (hok:l.all (okH h.length m)=true) (hall:AllIs P ρ' hs l vs) (hIL:IsL P ρ' hs m (.slice ad l0 c0))
  (hle:HLe h h2) (hren2:∀n,present h n->ρ2 n=ρ n) (hid:IsL P ρ2 h2 id (.slice ad l0 c0)):AllIs P ρ2 h2 ((l.map (holeA m)).map (plugA id)) vs:=by
 refine⟨by simpa using hall.1,λi y v hy hv=> ?_⟩;rw[List.getElem?_map,List.getElem?_map]at hy;cases hl:l[i]? with
 |none=>rw[hl]at hy;cases hy
 | some y0=>
  rw[hl]at hy;simp only[Option.map_some,Option.some.injEq]at hy;subst hy;have hi:=hall.2 i y0 v hl hv;rw[List.all_eq_true]at hok;have ho:=hok y0 (List.mem_of_getElem? hl);have plain:refLt h.length y0=true->Is P ρ2 h2 y0 v:=λhr=>((hi.cut hh hr).mono (HLe.refl _) hren).mono hle hren2
  cases y0 with
  | r D T ns=>
   obtain⟨D',rfl,hW,hR⟩:=hi;have hmap:(ns.map λq=>(q.1,holeN m q.2)).map (λq=>(q.1,plugN id q.2))=ns.map λq=>(q.1,plugN id (holeN m q.2)):=by rw[List.map_map];rfl
   refine⟨D',rfl,hW,hR.size,λj hj=> ?_,λj k hj=> ?_,by rw[List.map_map,List.map_map];exact hR.uniq⟩
   ·rw[hmap,lookN_map λk=>plugN id (holeN m k)]at hj;refine hR.same j ?_;cases hq:lookN ns j with|none=>rfl|some k=>rw[hq]at hj;cases hj
   ·rw [hmap,lookN_map fun k=>plugN id (holeN m k)] at hj;cases hq:lookN ns j with
    |none=>rw[hq]at hj;cases hj
    | some k0=>
     rw[hq]at hj;simp only[Option.map_some,Option.some.injEq]at hj;obtain⟨q1,ad1,l1,c1,q2,q3⟩:=hR.refs j k0 hq;refine⟨q1,ad1,l1,c1,q2,?_⟩;simp only[okH,List.all_eq_true,Bool.or_eq_true]at ho;have hk0:=ho (j,k0) (lookN_mem hq)
     by_cases hkm:k0=m
     ·subst hkm;have:plugN id (holeN k0 k0)=id:=by simp[holeN,plugN]
      rw[this]at hj;subst hj;obtain⟨a3,c3,r1,r2,r3⟩:=Is.l_of (P:=P) q3 hm;obtain⟨a4,c4,t1,t2,t3⟩:=Is.l_of (P:=P) hIL hm;cases r1;cases t1;have hcc:c1=c0:=by
       by_cases hl0:len=0
       ·rw[(r3 rfl).1 hl0,(t3 rfl).1 hl0]
       ·rw[(r3 rfl).2 hl0,(t3 rfl).2 hl0]
      rw[hcc];exact hid.ad λh0=>(r2 h0).trans (t2 h0).symm
     ·have hlt:k0<h.length:=by
       rcases hk0 with h|h
       ·exact absurd (Nat.eq_of_beq_eq_true h) hkm
       ·exact blt_iff.1 h
      have hne:Nat.beq k0 m=false:=by cases hb:Nat.beq k0 m with|false=>rfl|true=>exact absurd (Nat.eq_of_beq_eq_true hb) hkm
      have hne2:Nat.beq k0 HOLE=false:=by cases hb:Nat.beq k0 HOLE with|false=>rfl|true=>have:=Nat.eq_of_beq_eq_true hb;simp only[HOLE]at this;omega
      have:plugN id (holeN m k0)=k0:=by simp only[holeN,plugN,hne,hne2,cond_false]
      rw[this]at hj;subst hj;exact((IsL.cut (P:=P) (hh k0 hlt) q3).mono (HLe.refl _) hren).mono hle hren2
  | l k=>
   have hk:k<h.length:=by have:refLt h.length (.l k)=true:=ho;simp only[refLt]at this;exact blt_iff.1 this
   have hne2:Nat.beq k HOLE=false:=by cases hb:Nat.beq k HOLE with|false=>rfl|true=>have:=Nat.eq_of_beq_eq_true hb;simp only[HOLE]at this;omega
   have:plugA id (holeA m (.l k))=.l k:=by simp only[holeA,plugA,plugN,hne2,cond_false]
   rw[this];exact plain ho
  |_=>exact plain ho
theorem hole_pack{ρ:Nat->Ad}{h:List VB}{id m:Nat}{l:List SA}{vs:List Value}(hA:AllIs P ρ h ((l.map (holeA m)).map (plugA id)) vs):
  IsV P ρ h (plugH id (pack (l.map (holeA m)))) (if h:vs.toArray.size=1 then vs.toArray[0] else .tuple vs.toArray):=by
 match l,vs,hA with|[],[],h2=>exact⟨[],rfl,h2⟩|[y],[v],h2=>exact h2.2 0 _ v rfl rfl|y::z::l,v::u::vs,h2=>refine⟨v::u::vs,?_,h2⟩;rw[dif_neg (by simp)]|[],v::vs,h2=>exact absurd h2.1 (by simp)|[y],[],h2=>exact absurd h2.1 (by simp)|[y],v::u::vs,h2=>exact absurd h2.1 (by simp)|y::z::l,[],h2=>exact absurd h2.1 (by simp)|y::z::l,[v],h2=>exact absurd h2.1 (by simp)
def look{α:Type 1}:List (FuncId×α)->FuncId->Option α
 |[],_=>none
 |(g,F)::r,f=>bif Nat.beq f g then some F else look r f
def look0{α:Type}:List (FuncId×α)->FuncId->Option α
 |[],_=>none
 |(g,F)::r,f=>bif Nat.beq f g then some F else look0 r f
noncomputable def sameB(a b:Array Value):Bool:=@decide (a=b) (Classical.propDecidable _)
theorem sameB_iff{a b:Array Value}:sameB a b=true ↔ a=b:=by unfold sameB;exact @decide_eq_true_iff _ (Classical.propDecidable _)
noncomputable def mkΓw(s:List (FuncId×SCon))(c:List (FuncId×Con))(n:List (FuncId×NCon))(i:List (FuncId×ICon)):Cons:=⟨look0 c,look0 n,look i,sameB,look0 s,λ_=>none,λ_=>none,false⟩
noncomputable abbrev mkΓx(c:List (FuncId×Con))(n:List (FuncId×NCon))(i:List (FuncId×ICon)):Cons:=mkΓw [] c n i
noncomputable def mkΓ(c:List (FuncId×Con)):Cons:=mkΓx c [] []
end
end
end Go.Proofs.Ytnhilgpdgicgfaa.Ve
