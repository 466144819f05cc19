/- Code: what is known behind it. -/
import Derived.LoopNIn
import Derived.RangeFuncLeaves
import Derived.RangeFuncRecord
import Derived.Test.YtefjogahegolbaaGreatDoorVeB
set_option linter.unusedVariables false
set_option linter.unusedSimpArgs false
open _root_.List renaming getElem?_eq_some_iff->jB,replicate->jD,all_eq_true->jE,getElem?_take->jF,getElem?_eq_getElem->jG,getD_eq_getElem?_getD->jH,mem_append->jI,mem_cons->jJ,getElem?_eq_none->jK,getElem?_append_left->jL,mem_append_right->jM,getElem?_set_ne->jN,mem_append_left->jO,getElem?_set_self->jP,map_cons->jT,length_take->jU,mem_cons_of_mem->jW,getElem?_append_right->jX,length_set->jY,getElem?_cons_succ->jZ,mem_cons_self->jA1,map_congr_left->jB1
open _root_.Array renaming getElem?_eq_some_iff->jC1
open _root_.Nat renaming beq->jA,blt->jC,eq_of_beq_eq_true->jQ,zero_add->jR,le_refl->jS
open _root_.Option renaming map_some->jV
open _root_.Go renaming World->QB,Value->QC,Program->QD,TypeId->QE,FuncId->QF,Code->QOq
namespace Go.Proofs.YtefjogahegolbaaGreatDoor.Ve
open Go.RowKit
section
inductive Stp (S α:Type) where
 |more (s:S)
 |done (r:α)
def Uab{S α:Type}(f:S->Option (Stp S α)):Nat->S->Option α
 |0,_=>none
 |n+1,s=>match f s with|some (.more s')=>Uab f n s'|some (.done r)=>some r|none=>none
def Uat{S α X:Type}(f:X->S->Option (Stp S α)):List X->S->Option (Stp S α)
 |[],s=>some (.more s)
 |x::r,s=>match f x s with|some (.more s')=>Uat f r s'|some (.done a)=>some (.done a)|none=>none
inductive Plan where
 |one
 |two (p q:Plan)
 |loop (cs bs:List Nat) (p:Plan)
 |loopG (cs bs:List Nat) (g:Nat) (e:QE) (p:Plan)
 |iter (bs:List Nat) (p:Plan)
 |jump (l:Nat) (cs bs:List Nat) (p q:Plan)
 |sc (p:Plan)
 |loopR (cs bs:List Nat) (p:Plan)
 |loopGR (cs bs:List Nat) (g:Nat) (e:QE) (p:Plan)
 |loopB (cs bs:List Nat) (g:Nat) (e:QE) (p:Plan)
 |iterB (bs:List Nat) (g:Nat) (e:QE) (p:Plan)
 |loopM (cs bs:List Nat) (gs:List (Nat×QE)) (p:Plan)
 |iterL (bs:List Nat) (p:Plan)
 |loopF (cs bs:List Nat) (gs:List (Nat×QE)) (p:Plan)
def Uay:Plan->Bool
 |.one=>true
 |.two p q=>Uay p&&Uay q
 |.loop _ _ p=>Uay p
 |.loopG _ _ _ _ p=>Uay p
 |.loopR _ _ p=>Uay p
 |.loopGR _ _ _ _ p=>Uay p
 |.loopB _ _ _ _ p=>Uay p
 |.loopM _ _ _ p=>Uay p
 |.loopF _ _ _ p=>Uay p
 |.iter _ _=>false
 |.iterB _ _ _ _=>false
 |.iterL _ _=>false
 |.jump _ _ _ p q=>Uay p&&Uay q
 |.sc p=>Uay p
def tupSl(P:QD)(T:QE):Bool:=match P.underlying T with|some (.tuple ts)=>ts.toList.any (λt=>(Ucq P t).isSome||iX P t)|_=>false
def wa(P:QD):List Oper->Bool
 |[]=>false
 |o::r=>(match o.op with | .alloc _=>true | .box _ _=>true | .makeSlice _ _ _=>true | .buildSlice _ _ _=>true | .call _=>(Ucq P o.type).isSome||(tupSl P o.type||iX P o.type)|_=>false)||wa P r
def eV(Γ:Cons):List Oper->Bool
 |[]=>false
 |o::r=>(match o.op with | .call c=>(match c.callee with | .value (.func f)=>(match Γ.n f with|some _=>true|none=>false)|_=>false)|_=>false)||eV Γ r
def mc (P:QD) (Γ:Cons) (ops:Array Oper) (draw:Bool) {α:Type} (st:St) (K:St→Option α):Option α:=
  bif draw then
    (bif il ops.toList 0 then jj P Γ ops.toList (befs ops.toList []) st.h.length { st with h:=st.h++jD ops.size .no } K ops.toList 0 [] else none)
  else
    (bif eV Γ ops.toList then bS P Γ ops st.h.length ops.toList 0 { st with h:=st.h++jD (4*ops.size) .no } K else bif wa P ops.toList then bS P Γ ops st.h.length ops.toList 0 { st with h:=st.h++jD ops.size .no } K else bS P Γ ops st.h.length ops.toList 0 st K)
def writes:QOq->List Nat
 |.region _ ops _=>wrL ops.toList
 |.seq x y=>writes x++writes y
 |.cond _ x y=>writes x++writes y
 |.block _ x=>writes x
 |.loop x=>writes x
 |.scope x=>writes x
 |_=>[]
def forget(W:List Nat):List SV->Nat->List SV
 |[],_=>[]
 |v::r,i=>(bif Uan i W then .a .x else v)::forget W r (i+1)
def setMany{α:Type}:List α->List Nat->List α->List α
 |l,c::cs,v::vs=>setMany (l.set c v) cs vs
 |l,_,_=>l
def head(W cs bs:List Nat)(st:St)(s:List SV×List VB):St:={ s:=setMany (forget W st.s 0) cs s.1,h:=setMany st.h bs s.2,d:=bs }
def Ub3(m:Nat):SA->Bool
 |.p n _ _=>jC n m
 |.w n=>jC n m
 |.c _ ns=>ns.all (jC · m)
 |.l n=>jC n m
 |.q n _ _=>jC n m
 |.e n=>jC n m
 |.r _ _ ns=>ns.all (λq=>jC q.2 m)
 |_=>true
def Ua3(m:Nat):SV->Bool
 |.a y=>Ub3 m y
 |.t l=>l.all (Ub3 m)
def Uas(m:Nat):VB->Bool
 |.one y _=>Ub3 m y
 |_=>true
def getS(s:List SV):List Nat->List SV
 |[]=>[]
 |c::cs=>s.getD c (.a .x)::getS s cs
def Uav(m:Nat)(bs:List Nat):List Nat->Bool
 |[]=>true
 |n::r=>(Uan n bs || !Nat.blt n m)&&Uav m bs r
def tail(m:Nat)(cs bs:List Nat)(st:St):Option (List SV×List VB):=
 bif Uav m bs st.d&&((getS st.s cs).all (Ua3 m)&&(getH st.h bs).all (Uas m)) then some (getS st.s cs,getH st.h bs) else none
def cx{S X:Type}:Option S->Option (Stp S X)
 |some s=>some (.more s)
 |none=>none
def bZ{S:Type}(e:Exit):Option S->Option (Stp S (Exit×S))
 |some s=>some (.done (e,s))
 |none=>none
abbrev LS:=List SV×List VB
def Ufb(m:Nat)(cs bs:List Nat)(e:Exit)(st':St):Option (Stp LS (Exit×LS)):=match e with|.normal=>cx (tail m cs bs st')|.panic _=>none|.outgrown=>none|e=>bZ e (tail m cs bs st')
def eW(g:Nat)(e:QE)(st:St):Option St:=match cW st.h e (asA (st.s.getD g (.a .x))) with|some (n,len,C)=>some { s:=st.s.set g (.a (.l st.h.length)),h:=spend n st.h++[.sl .own len C e],d:=n.toList++st.d }|none=>none
def Ug9(m:Nat)(cs bs:List Nat)(g:Nat)(e:QE)(st:St):Option LS:=match asA (st.s.getD g (.a .x)) with
 |.l n=>(match st.h[n]? with
  |some (.sl .own len C e')=>bif jA e e'&&(Nat.ble m n&&(Uav m bs st.d&&((getS st.s cs).all (Ua3 m)&&(getH st.h bs).all (Uas m)))) then some (getS st.s cs++[.a (.l m)],getH st.h bs++[.sl .own len C e]) else none
  |_=>none)
 |_=>none
def cO:List QC->Nat->Option Nat
 |[],_=>none
 |v::r,i=>match v with|.slice none 0 0=>some i|_=>cO r (i+1)
def eY:SA->Option (SA×(Nat->SA))
 |.l n=>some (.l n,λm=>.l m)
 |.v x=>some (.v x,λm=>.l m)
 |.r D T []=>(match cO D.toList 0 with|some o=>some (.v bL,λm=>.r D T [(o,m)])|none=>none)
 |.r D T [(o,n)]=>some (.l n,λm=>.r D T [(o,m)])
 |_=>none
def ob(h:List VB)(e:QE)(g:Nat):Option (QE×(Nat->SA)×Option Nat×Nat×QA):=match h[g]? with
 |some (.one y T)=>(match eY y with
  |some (z,f)=>(match cW h e z with|some (n,len,C)=>some (T,f,n,len,C)|none=>none)
  |none=>none)
 |_=>none
def cP(g:Nat)(e:QE)(st:St):Option St:=match ob st.h e g with|some (T,f,n,len,C)=>some { s:=st.s,h:=(spend n st.h).set g (.one (f st.h.length) T)++[.sl .own len C e],d:=g::(n.toList++st.d) }|none=>none
def boxY(st:St)(g:Nat):SA:=match st.h[g]? with|some (.one y _)=>y|_=>.x
def aO(q:QA->QA->Bool):SA->SA->Option (Nat×Bool)
 |.l _,.l n=>some (n,true)
 |.r D T [(o,_)],.r D' T' [(A,n)]=>bif jA T T'&&jA o A then some (n,q D' D) else none
 |_,_=>none
def la(q:QA->QA->Bool)(y1:SA)(m g:Nat)(e:QE)(h:List VB):Option VB:=match h[g]? with
 | some (.one y _)=>(match aO q y1 y with
  |some (n,ok)=>bif ok then (match h[n]? with
   |some (.sl .own len C e')=>bif jA e e'&&Nat.ble m n then some (.sl .own len C e) else none
   |_=>none) else none
  |none=>none)
 |_=>none
def Ue8(q:QA->QA->Bool)(y1:SA)(m:Nat)(cs bs:List Nat)(g:Nat)(e:QE)(st:St):Option LS:=match la q y1 m g e st.h with|some b=>bif Uav m (g::bs) st.d&&((getS st.s cs).all (Ua3 m)&&(getH st.h bs).all (Uas m)) then some (getS st.s cs,getH st.h bs++[b]) else none|none=>none
def wb(q:QA->QA->Bool)(y1:SA)(m:Nat)(cs bs:List Nat)(g:Nat)(t:QE)(e:Exit)(st':St):Option (Stp LS (Exit×LS)):=match e with|.normal=>cx (Ue8 q y1 m cs bs g t st')|.panic _=>none|.outgrown=>none|e=>bZ e (Ue8 q y1 m cs bs g t st')
def jk(q:QA->QA->Bool)(y1:SA)(g:Nat)(h:List VB):Bool:=match h[g]? with
 |some (.one y _)=>(match aO q y1 y with
  |some (_,ok)=>ok
  |none=>false)
 |_=>false
def Ubz(q:QA->QA->Bool)(y1:SA)(m:Nat)(cs bs:List Nat)(g:Nat)(t:QE)(e:Exit)(st':St):Option (Stp LS (Exit×LS)):=match e with|.panic _=>none|.outgrown=>none|e=>bif jk q y1 g st'.h then wb (λ_ _=>true) y1 m cs bs g t e st' else none
theorem lc{q:QA->QA->Bool}{y1 y:SA}{n:Nat}{ok:Bool}(h:aO (λ_ _=>true) y1 y=some (n,ok)):∃ok',aO q y1 y=some (n,ok'):=by
 unfold aO at h;split at h
 ·cases h;exact⟨true,rfl⟩
 ·rename_i D T o _ D' T' J n';unfold aO;dsimp only;cases A:(jA T T'&&jA o J) with
  |false=>rw[A]at h;cases h
  |true=>rw[A]at h;cases h;exact⟨_,rfl⟩
 ·cases h
theorem zU{q:QA->QA->Bool}{y1:SA}{m g:Nat}{e:QE}{h:List VB}(h0:jk q y1 g h=true):la (λ_ _=>true) y1 m g e h=la q y1 m g e h:=by
 unfold jk at h0;unfold la;split at h0
 case h_2=>cases h0
 rename_i y T hg
 try rw[hg]
 try dsimp only
 cases hs:aO (λ_ _=>true) y1 y with
 | none=>
  split at h0
  case h_2=>cases h0
  rename_i n ok hs2;exfalso;unfold aO at hs hs2;split at hs2
  ·cases hs
  ·rename_i D T o _ D' T' o' n';dsimp only at hs;cases hb:(jA T T'&&jA o o') with
   |false=>rw[hb]at hs2;cases hs2
   |true=>rw[hb]at hs;cases hs
  ·cases hs2
 | some x=>
  obtain⟨n,ok⟩:=x;obtain⟨ok',hs'⟩:=lc (q:=q) hs;have hk:ok=true:=by
   unfold aO at hs;split at hs
   ·cases hs;rfl
   ·rename_i D T o _ D' T' o' n';cases hb:(jA T T'&&jA o o') with
    |false=>rw[hb]at hs;cases hs
    |true=>rw[hb]at hs;cases hs;rfl
   ·cases hs
  rw[hs']at h0|-
  dsimp only at h0|-
  rw[h0,hk]
theorem zV{q:QA->QA->Bool}{y1:SA}{m:Nat}{cs bs:List Nat}{g:Nat}{t:QE}{e:Exit}{st':St}{r:Stp LS (Exit×LS)}(h:Ubz q y1 m cs bs g t e st'=some r):wb q y1 m cs bs g t e st'=some r:=by
 have key:jk q y1 g st'.h=true->Ue8 (λ_ _=>true) y1 m cs bs g t st'=Ue8 q y1 m cs bs g t st':=λh0=>by unfold Ue8;rw[zU h0]
 unfold Ubz at h;split at h
 ·cases h
 ·cases h
 ·cases hk:jk q y1 g st'.h with
  |false=>rw[hk]at h;cases h
  |true=>
   rw[hk,Q1]at h;unfold wb at h|-
   rw[key hk]at h;exact h
def Uco(m:Nat)(cs bs:List Nat)(g:Nat)(t:QE)(e:Exit)(st':St):Option (Stp LS (Exit×LS)):=match e with|.normal=>cx (Ug9 m cs bs g t st')|.panic _=>none|.outgrown=>none|e=>bZ e (Ug9 m cs bs g t st')
def Udv(l m:Nat)(cs bs:List Nat)(e:Exit)(st':St):Option (Stp LS (Exit×LS)):=match e with|.goto l'=>bif jA l' l then cx (tail m cs bs st') else none|.panic _=>none|.outgrown=>none|e=>bZ e (tail m cs bs st')
def Ubv{α:Type}(K:Exit->St->Option α)(e:Exit)(st':St):Option α:=match e with|.goto _=>none|e=>K e st'
def pY(l:Nat):QOq->Option QOq
 |.seq (.label l') z=>bif jA l' l then some z else none
 |_=>none
def kSeq{α:Type}(f:St->(Exit->St->Option α)->Option α)(K:Exit->St->Option α)(e:Exit)(st':St):Option α:=match e with|.normal=>f st' K|e=>K e st'
def Uac{α:Type}(id:Nat)(K:Exit->St->Option α)(e:Exit)(st':St):Option α:=match e with|.exit id'=>bif jA id' id then K .normal st' else K (.exit id') st'|e=>K e st'
abbrev BS:=List VB
def Ubb(h:List VB):List Nat->Bool
 |[]=>true
 |n::r=>(match h[n]? with|some (.row _ _)=>true|_=>false)&&Ubb h r
def Uc7:List VB->Bool
 |[]=>true
 |b::r=>(match b with | .sl .own _ _ _=>false|_=>true)&&Uc7 r
theorem Yjh:∀{h:List VB},Uc7 h=true->∀(n len:Nat) (C:QA) (e:QE),h[n]?≠some (.sl .own len C e)
 |[],_,n,_,_,_,A=>by simp at A
 |b::r,J,0,len,C,e,A=>by
  simp only[List.getElem?_cons_zero,Q8]at A;subst A;simp[Uc7]at J
 |b::r,J,n+1,len,C,e,A=>by
  simp only[Uc7,Q7]at J;exact Yjh J.2 n len C e (by simpa using A)
def apart(ns:List Nat):List Nat->Bool
 |[]=>true
 |b::r=> !Uan b ns&&apart ns r
def eZ:List Oper->Option (List (Nat×Nat))
 |[]=>some []
 |⟨some d,.assign (.tmp p),_,_,_,none⟩::r=>(match eZ r with|some l=>some ((d,p)::l)|none=>none)
 |_=>none
def me:QOq->Option (List (Nat×Nat))
 |.skip=>some []
 |.region _ ops false=>eZ ops.toList
 |_=>none
def runAsg:List (Nat×Nat)->List SV->List SV
 |[],s=>s
 |(d,p)::r,s=>runAsg r (s.set d (s.getD p (.a .x)))
def setPs:List SV->List Nat->List SA->List SV
 |s,p::ps,y::ys=>setPs (s.set p (.a y)) ps ys
 |s,_,_=>s
def Ucf(bs ps:List Nat)(l:List (Nat×Nat))(st:St)(ys:List SA)(A:BS):St:={ s:=runAsg l (setPs st.s ps ys),h:=setMany st.h bs A,d:=[] }
def Ug5(m:Nat)(bs:List Nat)(st:St):Option BS:=
 bif Uav m bs st.d&&(getH st.h bs).all (Uas m) then some (getH st.h bs) else none
def Uct(m:Nat)(bs:List Nat)(e:Exit)(st':St):Option (Stp BS (Exit×BS)):=match e with|.normal=>cx (Ug5 m bs st')|.ret=>bZ .ret (Ug5 m bs st')|.exit id=>bZ (.exit id) (Ug5 m bs st')|_=>none
def Ucp(q:QA->QA->Bool)(y1:SA)(m:Nat)(bs:List Nat)(g:Nat)(e:QE)(st:St):Option BS:=match la q y1 m g e st.h with|some b=>bif Uav m (g::bs) st.d&&(getH st.h bs).all (Uas m) then some (getH st.h bs++[b]) else none|none=>none
def wc(q:QA->QA->Bool)(y1:SA)(m:Nat)(bs:List Nat)(g:Nat)(t:QE)(e:Exit)(st':St):Option (Stp BS (Exit×BS)):=match e with|.normal=>cx (Ucp q y1 m bs g t st')|.ret=>bZ .ret (Ucp q y1 m bs g t st')|.exit id=>bZ (.exit id) (Ucp q y1 m bs g t st')|_=>none
def Ubq(q:QA->QA->Bool)(y1:SA)(m:Nat)(bs:List Nat)(g:Nat)(t:QE)(e:Exit)(st':St):Option (Stp BS (Exit×BS)):=match e with|.panic _=>none|.outgrown=>none|e=>bif jk q y1 g st'.h then wc (λ_ _=>true) y1 m bs g t e st' else none
theorem KV{q:QA->QA->Bool}{y1:SA}{m:Nat}{bs:List Nat}{g:Nat}{t:QE}{e:Exit}{st':St}{r:Stp BS (Exit×BS)}(h:Ubq q y1 m bs g t e st'=some r):wc q y1 m bs g t e st'=some r:=by
 have key:jk q y1 g st'.h=true->Ucp (λ_ _=>true) y1 m bs g t st'=Ucp q y1 m bs g t st':=λh0=>by unfold Ucp;rw[zU h0]
 unfold Ubq at h;split at h
 ·cases h
 ·cases h
 ·cases hk:jk q y1 g st'.h with
  |false=>rw[hk]at h;cases h
  |true=>
   rw[hk,Q1]at h;unfold wc at h|-
   rw[key hk]at h;exact h
def Udl(P:QD)(e:QE):Bool:= !(leq (lay P e) [3]||leq (lay P e) [11])
def Ua2(bs:List Nat)(st:St)(A:BS):St:={ s:=st.s,h:=setMany st.h bs A,d:=bs++st.d }
def fb{α:Type}(o:Option (Stp BS (Exit×BS)))(A:BS->Option α)(J:Exit->BS->Option α):Option α:=match o with|some (.more hb)=>A hb|some (.done x)=>J x.1 x.2|none=>none
def jl:VB->VB
 |.sl .own _ _ _=>.sp
 |b=>b
def mf:List VB->Nat->List Nat
 |[],_=>[]
 |b::r,i=>match b with|.sl .own _ _ _=>i::mf r (i+1)|_=>mf r (i+1)
def Ubw(st:St):St:={ s:=st.s,h:=st.h.map jl,d:=mf st.h 0++st.d }
def mg(Γ:Cons)(h:List VB):SA->Option (List Nat×Yields)
 |.c f ns=>(match Γ.i f with
  |some I=>(match I (getH h ns) h with|some Y=>some (ns,Y)|none=>none)
  |none=>none)
 |_=>none
def left(W cs bs:List Nat)(st:St)(s:LS):St:={ s:=setMany (forget W st.s 0) cs s.1,h:=setMany st.h bs s.2,d:=bs++st.d }
def au{α:Type}(o:Option (Exit×LS))(K:Exit->LS->Option α):Option α:=match o with|some r=>K r.1 r.2|none=>none
def veC (P:QD) (Γ:Cons) (N:Nat):QOq→Plan→(α:Type)→St→(Exit→St→Option α)→Option α
 |.skip,_,_,st,K=>K .normal st
 |.region _ ops draw,_,_,st,K=>mc P Γ ops draw st (K .normal)
 |.seq x y,.two p q,α,st,K=>veC P Γ N x p α st (kSeq (veC P Γ N y q α) K)
 |.cond c x y,.two p q,α,st,K=>(match asA (evO st.s c) with
  |.b t=>bif t then veC P Γ N x p α st K else veC P Γ N y q α st K
  |_=>none)
 |.block id x,p,α,st,K=>veC P Γ N x p α st (Uac id K)
 | .loop x,.loop cs bs p,α,st,K=>
  bif cs.all (Uan · (writes x)) then
   au (Uab (λs=>veC P Γ N x p (Stp LS (Exit×LS)) (head (writes x) cs bs st s) (Ufb st.h.length cs bs)) N (getS st.s cs,getH st.h bs)) λe s=>K e (left (writes x) cs bs st s) else none
 | .loop x,.loopG cs bs g e p,α,st,K=>(match eW g e st with
  | some st1=>
   bif cs.all (Uan · (writes x))&&(Uan g (writes x)&&(!Uan g cs&&bs.all (jC · st.h.length))) then
    au (Uab (λs=>veC P Γ N x p (Stp LS (Exit×LS)) (head (writes x) (cs++[g]) (bs++[st.h.length]) st1 s) (Uco st.h.length cs bs g e)) N (getS st1.s (cs++[g]),getH st1.h (bs++[st.h.length]))) λe s=>K e (left (writes x) (cs++[g]) (bs++[st.h.length]) st1 s) else none
  |none=>none)
 | .loop x,.loopB cs bs g e p,α,st,K=>(match cP g e st with
  | some st1=>
   bif cs.all (Uan · (writes x))&&(jC g st.h.length&&(!Uan g bs&&bs.all (jC · st.h.length))) then
    au (Uab (λs=>veC P Γ N x p (Stp LS (Exit×LS)) (head (writes x) cs (bs++[st.h.length]) st1 s) (Ubz Γ.e (boxY st1 g) st.h.length cs bs g e)) N (getS st1.s cs,getH st1.h (bs++[st.h.length]))) λe s=>K e (left (writes x) cs (bs++[st.h.length]) st1 s) else none
  |none=>none)
 | .rangeFunc g0 ps as x,.iterB bs g e p,_,st0,K=>(match cP g e st0 with
  | some st=>(match mg Γ st.h (asA (evO st.s g0)),me as with
   | some (ns,Y),some l=>
    bif Y.ok then (bif Ubb st.h ns&&(Ubb st.h bs&&(apart ns bs&&(Uay p&&(Udl P e&&(Uc7 (st.h.take st0.h.length)&&(bs.all (jC · st0.h.length)&&jC g st0.h.length)))))) then
     fb (Uat (λy hb=>bif jA (Y.enc y).length ps.toList.length then veC P Γ N x p (Stp BS (Exit×BS)) (Ucf (bs++[st0.h.length]) ps.toList l st (Y.enc y) hb) (Ubq Γ.e (boxY st g) st0.h.length bs g e) else none) Y.xs (getH st.h (bs++[st0.h.length]))) (λhb=>K .normal (Ua2 (bs++[st0.h.length]) st hb)) (λe hb=>K e (Ua2 (bs++[st0.h.length]) st hb)) else none) else none
   |_,_=>none)
  |none=>none)
 | .rangeFunc g ps as x,.iter bs p,_,st0,K=>let st:=Ubw st0;(match mg Γ st.h (asA (evO st.s g)),me as with
  | some (ns,Y),some l=>
   bif Y.ok then (bif Ubb st.h ns&&Ubb st.h bs&&apart ns bs&&Uay p&&Uc7 st.h then
    fb (Uat (λy hb=>bif jA (Y.enc y).length ps.toList.length then veC P Γ N x p (Stp BS (Exit×BS)) (Ucf bs ps.toList l st (Y.enc y) hb) (Uct st.h.length bs) else none) Y.xs (getH st.h bs)) (λhb=>K .normal (Ua2 bs st hb)) (λe hb=>K e (Ua2 bs st hb)) else none) else none
  |_,_=>none)
 |.exit id,_,_,st,K=>K (.exit id) st
 |.label _,_,_,st,K=>K .normal st
 |.goto l,_,_,st,K=>K (.goto l) st
 |.ret,_,_,st,K=>K .ret st
 |_,_,_,_,_=>none
def Uaf(P:QD)(Γ:Cons)(N:Nat)(x:QOq)(p:Plan)(cs bs:List Nat)(st:St)(s:LS):Option (Stp LS (Exit×LS)):=
 veC P Γ N x p (Stp LS (Exit×LS)) (head (writes x) cs bs st s) (Ufb st.h.length cs bs)
def Ub1(P:QD)(Γ:Cons)(N:Nat)(z:QOq)(q:Plan)(l:Nat)(cs bs:List Nat)(st:St)(s:LS):Option (Stp LS (Exit×LS)):=
 veC P Γ N z q (Stp LS (Exit×LS)) (head (writes z) cs bs st s) (Udv l st.h.length cs bs)
def veSc (P:QD) (Γ:Cons) (N:Nat):QOq→Plan→(α:Type)→St→(Exit→St→Option α)→Option α
 |.seq x y,.two p q,α,st,K=>veC P Γ N x p α st (kSeq (veSc P Γ N y q α) K)
 |.seq x y,.jump l cs bs p q,α,st,K=>(match pY l y with
  | some z=>bif cs.all (Uan · (writes z)) then
    veC P Γ N x p α st (kSeq (λst1 K1=>au (Uab (Ub1 P Γ N z q l cs bs st1) N (getS st1.s cs,getH st1.h bs)) λe s=>K1 e (left (writes z) cs bs st1 s)) K) else none
  |none=>none)
 |_,_,_,_,_=>none
structure JD where
 l:Nat
 z:QOq
 cs:List Nat
 bs:List Nat
 q:Plan
def jd:QOq->Plan->Option JD
 |.seq x y,.two _ q=>(match jd y q with|some j=>bif (findLabel x j.l).isNone then some j else none|none=>none)
 |.seq x y,.jump l cs bs _ q=>(match pY l y with|some z=>bif (findLabel x l).isNone then some ⟨l,z,cs,bs,q⟩ else none|none=>none)
 |_,_=>none
def veF(P:QD)(Γ:Cons)(N:Nat):QOq->Plan->(α:Type)->St->(Exit->St->Option α)->Option α
 |.seq x y,.two p q,α,st,K=>veC P Γ N x p α st (kSeq (veF P Γ N y q α) K)
 |.scope x,p,α,st,K=>(match jd x p with|some _=>veSc P Γ N x p α st (Ubv K)|none=>none)
 |_,_,_,_,_=>none
def zW(P:QD)(Γ:Cons)(N:Nat)(c:QOq):Plan->(α:Type)->St->(Exit->St->Option α)->Option α
 |.sc p,α,st,K=>veF P Γ N c p α st K
 |p,α,st,K=>veC P Γ N c p α st K
def Ubi(P:QD)(Γ:Cons)(N:Nat)(x:QOq)(p:Plan)(cs bs:List Nat)(g:Nat)(e:QE)(m:Nat)(st:St)(s:LS):Option (Stp LS (Exit×LS)):=
 veC P Γ N x p (Stp LS (Exit×LS)) (head (writes x) (cs++[g]) (bs++[m]) st s) (Uco m cs bs g e)
def Ug1(P:QD)(Γ:Cons)(N:Nat)(x:QOq)(p:Plan)(cs bs:List Nat)(g:Nat)(e:QE)(m:Nat)(st:St)(s:LS):Option (Stp LS (Exit×LS)):=
 veC P Γ N x p (Stp LS (Exit×LS)) (head (writes x) cs (bs++[m]) st s) (Ubz Γ.e (boxY st g) m cs bs g e)
theorem fe(W:List Nat):∀(l:List SV) (q i:Nat),(forget W l q)[i]?=(l[i]?).map λv=>bif Uan (q+i) W then .a .x else v
 |[],q,i=>by simp[forget]
 |v::r,q,0=>by simp[forget]
 |v::r,q,i+1=>by
  simp only[forget,jZ];rw[fe W r (q+1) i,show q+1+i=q+(i+1) by omega]
theorem ci(W:List Nat):∀(l:List SV) (q:Nat),(forget W l q).length=l.length
 |[],q=>rfl
 |v::r,q=>by simp[forget,ci W r]
theorem bJ{α:Type}:∀(l:List α) (cs:List Nat) (vs:List α),(setMany l cs vs).length=l.length
 |l,c::cs,v::vs=>by rw[setMany,bJ];simp
 |l,[],_=>by cases ‹List α›<;>rfl
 |l,_::_,[]=>rfl
theorem cy{α:Type}{g:Nat->α}:∀(cs:List Nat) (l:List α) (vs:List α) (i:Nat),vs=cs.map g->(setMany l cs vs)[i]?=if i∈cs/\i<l.length then some (g i) else l[i]?
 |[],l,vs,i,h=>by cases vs<;>simp[setMany]
 | c::cs,l,vs,i,h=>by
  subst h;simp only[jT,setMany];rw[cy cs _ _ i rfl];simp only[jY,jJ]
  by_cases hlt:i<l.length
  ·by_cases hc:i∈cs
   ·rw[if_pos ⟨hc,hlt⟩,if_pos ⟨.inr hc,hlt⟩]
   ·rw[if_neg (λh=>hc h.1)]
    by_cases hic:i=c
    ·subst hic;rw[if_pos ⟨.inl rfl,hlt⟩,jP hlt]
    ·rw[if_neg (by rintro⟨h|h,_⟩;exact hic h;exact hc h),jN (by omega)]
  ·rw[if_neg (λh=>hlt h.2),if_neg (λh=>hlt h.2)];rw[jK (by simp;omega),jK (by omega)]
theorem bD{α:Type}{i:Nat}:∀(l:List α) (cs:List Nat) (vs:List α),i ∉ cs->(setMany l cs vs)[i]?=l[i]?
 |l,c::cs,v::vs,h=>by
  rw[setMany,bD _ cs vs λA=>h (jW _ A),jN (by rintro rfl;exact h (jA1 ..))]
 |l,[],vs,_=>by cases vs<;>rfl
 |l,_::_,[],_=>rfl
theorem Zw4(s:List SV):∀(cs:List Nat),getS s cs=cs.map λc=>s.getD c (.a .x)
 |[]=>rfl
 |c::cs=>by simp[getS,Zw4 s cs]
theorem Zoh(h:List VB):∀(cs:List Nat),getH h cs=cs.map λc=>h.getD c .no
 |[]=>rfl
 |c::cs=>by simp[getH,Zoh h cs]
theorem Zex{m:Nat}{bs:List Nat}:∀{d:List Nat},Uav m bs d=true->∀n∈d,n<m->n∈bs
 |[],_,n,hn,_=>by cases hn
 | a::d,h,n,hn,hm=>by
  simp only[Uav,Q7,Bool.or_eq_true,Bool.not_eq_true']at h;rcases jJ.1 hn with rfl|hn
  ·rcases h.1 with h1|h1
   ·exact cm.1 h1
   ·have h2:jC n m=true:=by simp[jC];omega
    rw[h2]at h1;cases h1
  ·exact Zex h.2 n hn hm
section
variable {P:QD} {Γ:Cons} {F:Fence} {n:Nat} {Q:Exit->Act->QB->Prop} {W0:QB} {n0:Nat} {D E:List Nat} {ρ0:Nat->Ad}
theorem RS.room{ρ:Nat->Ad}{st:St}{a:Act}{w:QB}(A:RS E P W0 n0 D ρ0 ρ st a w)(m:Nat):RS E P W0 n0 D ρ0 ρ { st with h:=st.h++jD m .no } a w/\HLe st.h (st.h++jD m .no):=by
 have old:∀{n:Nat} {b:VB},st.h[n]?=some b->(st.h++jD m .no)[n]?=some b:=λ{n b} h=>by
  rw[jL (jB.1 h).1];exact h
 have back:∀{n:Nat} {b:VB},(st.h++jD m .no)[n]?=some b->st.h[n]?=some b\/b=.no:=λ{n b} h=>by
  by_cases L:n<st.h.length
  ·rw[jL L]at h;exact .inl h
  ·rw[jX (by omega),List.getElem?_replicate]at h;split at h
   ·cases h;exact .inr rfl
   ·cases h
 have hl:HLe st.h (st.h++jD m .no):=λn=>⟨λC t e=>⟨C,old e⟩,λy t e=>⟨y,old e⟩,λ_ _ C _ e=>.inl ⟨C,old e⟩,λe=>old e,λ_ _ _ _ e=>old e⟩
 have pb:∀n,present (st.h++jD m .no) n->present st.h n:=λn J=>by
  cases J with
  |row e=>rcases back e with h|h;exact .row h;cases h
  |one e=>rcases back e with h|h;exact .one h;cases h
  |own e hk h0=>rcases back e with h|h;exact .own h hk h0;cases h
 refine⟨⟨A.len,λi v O=>(A.slots i v O).mono hl λ_ _=>rfl,⟨λn b U=> ?_,λn q J V=>A.heap.inj n q (pb n J) (pb q V),λn b k Z h2 m J=>by
  rcases back Z with h|rfl
  ·exact A.heap.far n b k h h2 m (pb m J)
  ·exact h2.elim⟩,A.base,λn L J=>A.fresh n L (pb n J),A.kept,λn len C e L he=>(back he).elim (A.own0 n len C e L) (λh=>by cases h),A.defers,by simp;have:=A.bound;omega⟩,hl⟩
 rcases back U with h|rfl
 ·exact(A.heap.is n b h).mono hl λ_ _=>rfl
 ·trivial
theorem zX{base:Nat}{B:Nat->Bool}(W:List Nat){b:Nat}(hb:b<=base):∀(l:List ac) (q:Nat) (st:St),(∀(j:Nat) (x:ac),l[j]?=some x->∀d,x.1=some d->d∈W) ->
  (∀(i:Nat),i ∉ W->(Uaj base B l q st).s[i]?=st.s[i]?)/\(∀(m:Nat),m<b->m ∉ (Uaj base B l q st).d->(Uaj base B l q st).h[m]?=st.h[m]?)/\(∀m,m∈st.d->m∈(Uaj base B l q st).d)
 |[],q,st,_=>⟨λ_ _=>rfl,λ_ _ _=>rfl,λ_ h=>h⟩
 | (d, v, e) :: r, q, st, hW => by
  simp only[Uaj];obtain⟨h1,h2,h3⟩:=zX (base:=base) (B:=B) W hb r (q+1) (bif B q then Uai st (base+q) d v e else st) λj x hj=>hW (j+1) x (by simpa using hj)
  cases hB:B q with
  |false=>rw[hB]at h1 h2 h3; exact⟨h1,h2,h3⟩
  | true =>
   rw[hB]at h1 h2 h3;simp only[Q1]at h1 h2 h3 |-
   have hd:∀(i:Nat) (u:SV),i ∉ W->(putS st.s d u)[i]?=st.s[i]?:=λi u hi=>by
    cases hdd:d with|none=>rfl|some dd=>exact jN λe'=>hi (by rw[<- e']; exact hW 0 (d,v,e) rfl dd hdd)
   refine⟨λi hi=>(h1 i hi).trans ?_,λm hm hmd=>(h2 m hm hmd).trans ?_,λm hm=>h3 m ?_⟩
   ·cases e<;>exact hd i _ hi
   ·cases e with
    |none=>rfl
    |new bb=>exact jN (by omega)
    |newS _ _ _ _=>exact jN (by omega)
    |app k _ _ _ =>refine(jN (by omega)).trans (Zhd λe'=>hmd (h3 m ?_));subst e';simp[Uai]
    |set k bb =>
     refine jN λe'=>hmd (h3 m ?_)
     subst e';simp[Uai]
   ·cases e with|none=>exact hm|new bb=>exact hm|newS _ _ _ _=>exact hm|app _ _ _ _=>exact jM _ hm|set k bb=>exact jW _ hm
theorem im{l:List Oper}{j:Nat}{o:Oper}(ho:l[j]?=some o){d:Nat}(A:o.dst=some d):d∈wrL l:=by induction l generalizing j with|nil=>simp at ho| cons x r J=>cases j with|zero=>simp only[List.getElem?_cons_zero,Q8]at ho;subst ho;exact ij d (by rw[A];exact List.mem_singleton.2 rfl)|succ j=>exact vQ d (J (by simpa using ho))
end
end
section
theorem io{S α X:Type}(f:X->S->Option (Stp S α)):∀(l m:List X) (s:S),Uat f (l++m) s=match Uat f l s with|some (.more s')=>Uat f m s'|o=>o
 |[],m,s=>rfl
 | x::l,m,s=>by
  simp only[List.cons_append,Uat];cases f x s with|none=>rfl|some r=>cases r with|more s'=>exact io f l m s'|done a=>rfl
theorem oc{h:List VB}:∀{l:List Nat},Ubb h l=true->∀n∈l,∃C t,h[n]?=some (.row C t)
 |[],_,n,hn=>by cases hn
 | a::l,hl,n,hn=>by
  simp only[Ubb,Q7]at hl;rcases jJ.1 hn with rfl|hn
  ·have:=hl.1;split at this
   ·exact⟨_,_,by assumption⟩
   ·cases this
  ·exact oc hl.2 n hn
theorem we{ns:List Nat}:∀{bs:List Nat},apart ns bs=true->∀b∈bs,b ∉ ns
 |[],_,n,A=>by cases A
 | a::l,hl,n,A=>by
  simp only[apart,Q7,Bool.not_eq_true']at hl;rcases jJ.1 A with rfl|A
  ·intro h;rw[cm.2 h]at hl;cases hl.1
  ·exact we hl.2 n A
section
variable {P:QD} {Γ:Cons} {F:Fence} {n N:Nat} {Q:Exit->Act->QB->Prop} {W0:QB} {n0:Nat} {D E:List Nat} {ρ0:Nat->Ad}
theorem IsL.cut{ρ:Nat->Ad}{h A:List VB}{n:Nat}{v:QC}(e:h[n]?=A[n]?)(hi:IsL P ρ A n v):IsL P ρ h n v:=by
 unfold IsL at hi|-
 rw[e];exact hi
theorem IsL.lt{ρ:Nat->Ad}{h:List VB}{n:Nat}{v:QC}(hi:IsL P ρ h n v):jC n h.length=true:=by rcases hi with A | ⟨a,len,C,e,ad,cap,A,_⟩<;>(have:=(jB.1 A).1;simp[jC];omega)
theorem Is.cut{ρ:Nat->Ad}{h hs:List VB}{m:Nat}(hl:∀n,n<m->h[n]?=hs[n]?){y:SA}{v:QC}(hi:Is P ρ hs y v)(hr:Ub3 m y=true):Is P ρ h y v:=by
 have pres:∀n,n<m->there hs n->there h n:=λn hn hp=>by
  cases hp with|row e=>exact .row (by rw[hl n hn];exact e)|one e=>exact .one (by rw[hl n hn];exact e)
 have lt:∀{n},jC n m=true->n<m:=λ{n} h=>by simp[jC]at h;omega
 cases y with
 |i k n=>exact hi
 |b t=>exact hi
 |s t=>exact hi
 |g D T=>exact hi
 |v y=>exact hi
 |u=>exact hi
 |x=>trivial
 |e n=>obtain⟨g,t,a,x,h1,h2⟩:=hi;exact⟨g,t,a,x,by rw[hl n (lt hr)];exact h1,h2⟩
 |w n=>exact⟨hi.1,pres n (lt hr) hi.2⟩
 |p n o T=>obtain⟨h1,h2,t,h3,h4⟩:=hi;exact⟨h1,h2,t,by unfold blkT;rw[hl n (lt hr)];exact h3,h4⟩
 |c f ns=>simp only[Ub3,jE]at hr;exact⟨hi.1,λn hn=>pres n (lt (hr n hn)) (hi.2 n hn)⟩
 |l n=>exact IsL.cut (P:=P) (hl n (lt hr)) hi
 | r D T ns=>
  obtain⟨D',h1,h2,h3⟩:=hi;simp only[Ub3,jE]at hr;exact⟨D',h1,h2,h3.size,h3.same,λi k hk=>by
   obtain⟨q1,ad,l,c,q2,q3⟩:=h3.refs i k hk;exact⟨q1,ad,l,c,q2,q3.cut (P:=P) (hl k (lt (hr (i,k) (Ybt hk))))⟩,h3.uniq⟩
 |q n o T=>exact hi.imp (λh3=>by rw[hl n (lt hr)];exact h3) λ⟨a,len,C,e,g,b,k,q,h3,h4⟩=>⟨a,len,C,e,g,b,k,q,by rw[hl n (lt hr)];exact h3,h4⟩
theorem IsV.cut{ρ:Nat->Ad}{h J:List VB}{m:Nat}(hl:∀n,n<m->h[n]?=J[n]?){y:SV}{v:QC}(hi:IsV P ρ J y v)(A:Ua3 m y=true):IsV P ρ h y v:=by cases y with|a y=>exact Is.cut hl hi A|t l=>obtain⟨vs,O,h2,U⟩:=hi;simp only[Ua3,jE]at A;exact⟨vs,O,h2,λi y v L V=>(U i y v L V).cut hl (A y (List.mem_of_getElem? L))⟩
theorem Is.lt{ρ:Nat->Ad}{h:List VB}{y:SA}{v:QC}(hi:Is P ρ h y v):Ub3 h.length y=true:=by
 have pl:∀n,there h n->jC n h.length=true:=λn J=>by
  have:n<h.length:=by cases J with|row e=>exact(jB.1 e).1|one e=>exact(jB.1 e).1
  simp[jC];omega
 cases y with
 |w n=>exact pl n hi.2
 |p n o T=>obtain⟨_,_,t,A,_⟩:=hi;exact pl n A.there
 |l n=>exact IsL.lt (P:=P) hi
 |r D T ns=>obtain⟨D',V,h2,A⟩:=hi;simp only[Ub3,jE];intro q L;obtain⟨_,ad,l,c,_,O⟩:=A.refs _ _ (Yph A.uniq L);exact O.lt
 |q n o T=>rcases hi with A | ⟨a,len,C,e,g,b,k,q,A,_⟩<;>(have:=(jB.1 A).1;simp[Ub3,jC];omega)
 |c f ns=>simp only[Ub3,jE];exact λn U=>pl n (hi.2 n U)
 |e n=>obtain⟨g,t,a,x,A,_⟩:=hi;have:=(jB.1 A).1;simp[Ub3,jC];omega
 |_=>rfl
theorem Uap.lt{ρ:Nat->Ad}{h:List VB}{l:List SA}{vs:List QC}(hi:Uap P ρ h l vs):l.all (Ub3 h.length)=true:=by
 rw[jE];intro y L;obtain⟨i,A⟩:=List.mem_iff_getElem?.1 L;have J:i<vs.length:=by rw[<- hi.1];exact(jB.1 A).1
 exact(hi.2 i y _ A (jG J)).lt
theorem IsV.lt{ρ:Nat->Ad}{h:List VB}{y:SV}{v:QC}(hi:IsV P ρ h y v):Ua3 h.length y=true:=by cases y with|a y=>exact Is.lt hi|t l=>obtain⟨vs,_,h2⟩:=hi;exact h2.lt
theorem BIs.cut{ρ:Nat->Ad}{h A:List VB}{m:Nat}(hl:∀n,n<m->h[n]?=A[n]?){w:QB}{g:Ad}{b:VB}(hi:BIs P ρ A w g b)(J:Uas m b=true):BIs P ρ h w g b:=by
 cases b with
 |no=>trivial
 |row C t=>exact hi
 |one y t=>obtain⟨v,L,h2⟩:=hi;exact⟨v,L.cut hl J,h2⟩
 |sl a len C t=>exact hi
 |sp=>trivial
 |gl g t a x=>exact hi
theorem HLeN.none{h h':List VB}{n:Nat}(e:h[n]?=.none):HLeN h h' n:=by refine⟨λC t k=> ?_,λy t k=> ?_,λ_ _ C _ k=> ?_,λk=> ?_,λ_ _ _ _ k=> ?_⟩<;>rw[e]at k<;>cases k
theorem Yum{h J:List VB}{m:Nat}(hl:∀n,n<m->h[n]?=J[n]?):HLe (J.take m) h:=λn=>by
 by_cases A:n<m
 ·exact .same (by rw[hl n A,jF,if_pos A])
 ·exact .none (by rw[jF,if_neg A])
theorem present.lt{h:List VB}{k:Nat}(A:present h k):k<h.length:=by cases A with|row e=>exact(jB.1 e).1|one e=>exact(jB.1 e).1|own e _ _=>exact(jB.1 e).1
theorem IsV.cutr{ρ ρ':Nat->Ad}{h J:List VB}{m:Nat}(hl:∀n,n<m->h[n]?=J[n]?)(L:∀n,n<m->ρ' n=ρ n){y:SV}{v:QC}(hi:IsV P ρ J y v)(A:Ua3 m y=true):IsV P ρ' h y v:=
 (hi.cut (h:=J.take m) (λn O=>by rw[jF,if_pos O]) A).mono (Yum hl) λn U=>L n (by have:=U.lt;rw[jU]at this;omega)
theorem BIs.cutr{ρ ρ':Nat->Ad}{h J:List VB}{m:Nat}(hl:∀n,n<m->h[n]?=J[n]?)(L:∀n,n<m->ρ' n=ρ n){w:QB}{g:Ad}{b:VB}(hi:BIs P ρ J w g b)(A:Uas m b=true):BIs P ρ' h w g b:=
 (hi.cut (h:=J.take m) (λn O=>by rw[jF,if_pos O]) A).mono (Yum hl) λn U=>L n (by have:=U.lt;rw[jU]at this;omega)
theorem BIs.lt{ρ:Nat->Ad}{h:List VB}{w:QB}{g:Ad}{b:VB}(hi:BIs P ρ h w g b):Uas h.length b=true:=by
 cases b with
 |one y t=>obtain⟨v,A,_⟩:=hi;exact A.lt
 |_=>rfl
theorem wg{s:List SV}{cs:List Nat}{i:Nat}(hi:i∈cs):s.getD i (.a .x)∈getS s cs:=by rw[Zw4];exact List.mem_map.2 ⟨i,hi,rfl⟩
theorem od{h:List VB}{cs:List Nat}{i:Nat}(hi:i∈cs):h.getD i .no∈getH h cs:=by rw[Zoh];exact List.mem_map.2 ⟨i,hi,rfl⟩
def Ubm:List (Nat×Nat)->Act->Act
 |[],a=>a
 |(d,p)::r,a=>Ubm r (a.put (some d) (a.eval (.tmp p)))
theorem RS.runAsg{ρ:Nat->Ad}{w:QB}:∀(l:List (Nat×Nat)) {st:St} {a:Act},RS E P W0 n0 D ρ0 ρ st a w->RS E P W0 n0 D ρ0 ρ { st with s:=runAsg l st.s } (Ubm l a) w
 |[],st,a,A=>A
 |(d,p)::r,st,a,A=>RS.runAsg r (A.put (some d) (Zq6 A.slots (.tmp p)))
theorem RS.setPs{ρ:Nat->Ad}{w:QB}:∀(ps:List Nat) (ys:List SA) (vs:List QC) {st:St} {a:Act},RS E P W0 n0 D ρ0 ρ st a w->ys.length=ps.length->Uap P ρ st.h ys vs ->
  RS E P W0 n0 D ρ0 ρ { st with s:=setPs st.s ps ys } { a with tmps:=(ps.zip vs).foldl (λt (x:Nat×QC)=>t.setIfInBounds x.1 x.2) a.tmps } w
 |[],[],vs,st,a,J,_,A=>by
  have:vs=[]:=List.eq_nil_of_length_eq_zero (by have:=A.1;simpa using this.symm);subst this;exact J
 |p::ps,y::ys,[],st,a,J,_,A=>absurd A.1 (by simp)
 |p::ps,y::ys,v::vs,st,a,J,hlen,A=>by
  have h0:=A.2 0 y v rfl rfl;have:=RS.setPs ps ys vs (J.put (some p) (v:=.a y) h0) (by simpa using hlen) ⟨by simpa using A.1,λi z u L O=>A.2 (i+1) z u (by simpa using L) (by simpa using O)⟩;exact this
 |p::ps,[],_,_,_,_,h,_=>absurd h (by simp)
 |[],y::ys,_,_,_,_,h,_=>absurd h (by simp)
theorem RS.grown{ρ:Nat->Ad}{st:St}{a:Act}{W W':QB}(J:RS E P W0 n0 D ρ0 ρ st a W){row:Option Nat}{B:Nat}(O:W.grownBy W' row)(L:∀r,row=some r->B<=r/\∃o:Obj,W.heap[r]?=some o/\o.isCells=false)
  (Z:W0.heap.size<=B) (hd:∀m,({ target:=.collected m,args:=#[] }:Deferred)∈a.defers->m<B):RS E P W0 n0 D ρ0 ρ st a W':=by
 have A:∀(k:Nat) C t fr,W.heap[k]?=some (Obj.cells C t fr)->W'.heap[k]?=some (Obj.cells C t fr):=λk C t fr hk=>by
  refine(O.block k (jC1.1 hk).1 λe=> ?_).trans hk;obtain⟨_,o,ho,hc⟩:=L k e.symm;rw[hk]at ho;cases ho;cases hc
 refine⟨J.len,J.slots,⟨λk b hb=> ?_,J.heap.inj,J.heap.far⟩,J.base,J.fresh,⟨O.os.trans J.kept.os,O.tape.trans J.kept.tape,O.output.trans J.kept.output,Nat.le_trans J.kept.size O.size,λk hk he=> ?_⟩,J.own0,⟨λd U=> ?_,J.defers.diff⟩,J.bound⟩
 ·have:=J.heap.is k b hb;cases b with
  |no=>trivial
  |row C t=>exact⟨A _ _ _ _ this.1,this.2⟩
  |one y t=>obtain⟨v,V,h2⟩:=this;exact⟨v,V,A _ _ _ _ h2⟩
  |sl x len C t=>exact⟨this.1.cells O.size A,λV h2=>let ⟨q1,C',q2,q3⟩:=this.2 V h2;⟨q1,C',A _ _ _ _ q2,q3⟩⟩
  |gl g t a x=>exact this.glCells A
  |sp=>trivial
 ·rw[O.block k (Nat.lt_of_lt_of_le hk J.kept.size) λe=>by have:=(L k e.symm).1;omega];exact J.kept.block k hk he
 ·obtain⟨m,rfl,V,h2⟩:=J.defers.all d U;refine⟨m,rfl,V,?_⟩;rw[O.block m (jC1.1 h2).1 λe=>by have:=(L m e.symm).1;have:=hd m U;omega];exact h2
theorem RS.root{ρ:Nat->Ad}{st:St}{a:Act}{w:QB}(hR:RS E P W0 n0 D ρ0 ρ st a w){E':List Nat}(hno:∀(n len:Nat) (C:QA) (e:QE),st.h[n]?=some (.sl .own len C e)->len=0\/n∈E'):RS E' P w st.h.length [] ρ ρ { st with d:=[] } { a with defers:=[] } w:=
 ⟨hR.len,hR.slots,hR.heap,fun _ _=>rfl,fun k hk hp=>by
  exfalso;cases hp with
  |row e=>have:=(jB.1 e).1;dsimp only at this;omega
  |one e=>have:=(jB.1 e).1;dsimp only at this;omega
  |own e _ _=>have:=(jB.1 e).1;dsimp only at this;omega,Kept.refl _ w,λn _ _ _ _=>hno n _ _ _,DefOk.nil _ _,jS _⟩
theorem KW{bs:List Nat}{st st2:St}{hb:BS}{ρ1 ρ2:Nat->Ad}{a a2:Act}{s1:List SV}{W W2:QB}{ws:List Nat}(hbs:∀b∈bs,∃C t,st.h[b]?=some (.row C t))
  (O:RS E P W0 n0 (st.d++D) ρ0 ρ1 { s:=st.s,h:=setMany st.h bs hb,d:=bs } a W) (hhl:HLe st.h (setMany st.h bs hb))
  (Z:R P W st.h.length [] ρ1 ρ2 st2 a2 W2) (hE:Ext ws st.h.length ρ1 ρ2 { s:=s1,h:=setMany st.h bs hb,d:=[] } st2)
  (hd:Uav st.h.length bs st2.d=true) (hrh:(getH st2.h bs).all (Uas st.h.length)=true) :
  RS E P W0 n0 (st.d++D) ρ0 ρ2 { s:=st.s,h:=setMany st.h bs (getH st2.h bs),d:=bs } a W2/\HLe st.h (setMany st.h bs (getH st2.h bs)) /\
   (∀k,k<st.h.length->ρ2 k=ρ1 k)/\(∀(k:Nat) C t fr,W.heap[k]?=some (.cells C t fr)->(∀b∈bs,(ρ1 b).a≠k)->W2.heap[k]?=some (.cells C t fr))/\(∀k,k<W.heap.size->(∀b∈bs,(ρ1 b).a≠k)->W2.heap[k]?=W.heap[k]?)/\W.heap.size<=W2.heap.size:=by
 have hlen:(setMany st.h bs hb).length=st.h.length:=bJ _ _ _;have hlen2:(setMany st.h bs (getH st2.h bs)).length=st.h.length:=bJ _ _ _;have hdm:=Zex hd;have hh:∀k,k<st.h.length->(setMany st.h bs (getH st2.h bs))[k]?=st2.h[k]?:=λk hklt=>by
  have hk':k<st2.h.length:=by have:=hE.hlen;dsimp only at this;omega
  rw[cy (g:=λc=>st2.h.getD c .no) bs _ _ k (Zoh _ _)]
  by_cases A:k∈bs
  ·rw[if_pos ⟨A,hklt⟩,jH,jG hk'];rfl
  ·rw[if_neg (λh=>A h.1)];have hnd:k ∉ st2.d:=λhkd=>A (hdm k hkd hklt)
   rw[hE.heap k (by omega) hnd];dsimp only;rw[bD _ _ _ A]
 have inlen:∀{k:Nat} {b:VB},(setMany st.h bs (getH st2.h bs))[k]?=some b->k<st.h.length:=λ{k b} h=>by rw[<- hlen2];exact(jB.1 h).1
 have prow:∀b∈bs,∃C t,(setMany st.h bs hb)[b]?=some (.row C t):=λb A=>by
  obtain⟨C,t,e⟩:=hbs b A;obtain⟨C',e'⟩:=(hhl b).row C t e;exact⟨C',t,e'⟩
 have V:HLe (setMany st.h bs hb) (setMany st.h bs (getH st2.h bs)):=λm=>by
  have key:=hE.hle m;dsimp only at key;refine⟨λC t e=> ?_,λy t e=> ?_,λa len C t e=> ?_,λe=> ?_,λg t a x e=> ?_⟩
  ·have J:=(jB.1 e).1;rw[hlen]at J;obtain⟨C',e'⟩:=key.row C t e;exact⟨C',by rw[hh m J];exact e'⟩
  ·have J:=(jB.1 e).1;rw[hlen]at J;obtain⟨y',e'⟩:=key.one y t e;exact⟨y',by rw[hh m J];exact e'⟩
  ·have J:=(jB.1 e).1;rw[hlen]at J;exact(key.sl a len C t e).imp (λ⟨C',e'⟩=>⟨C',by rw[hh m J];exact e'⟩) λ⟨q1,q2⟩=>⟨q1,by rw[hh m J];exact q2⟩
  ·have J:=(jB.1 e).1;rw[hlen]at J;rw[hh m J];exact key.sp e
  ·have J:=(jB.1 e).1;rw[hlen]at J;rw[hh m J];exact key.gl _ _ _ _ e
 have pback:∀k,present (setMany st.h bs (getH st2.h bs)) k->present (setMany st.h bs hb) k:=λk hp=>by
  by_cases L:k∈bs
  ·obtain⟨C,t,e⟩:=prow k L;exact .row e
  ·cases hp with|row e=>rw[bD _ _ _ L]at e;exact .row (by rw[bD _ _ _ L];exact e)|one e=>rw[bD _ _ _ L]at e;exact .one (by rw[bD _ _ _ L];exact e)|own e hk h0=>rw[bD _ _ _ L]at e;exact .own (by rw[bD _ _ _ L];exact e) hk h0
 have pst2:∀k,present (setMany st.h bs (getH st2.h bs)) k->present st2.h k:=λk hp=>by
  cases hp with|row e=>exact .row (by rw[<- hh k (inlen e)];exact e)|one e=>exact .one (by rw[<- hh k (inlen e)];exact e)|own e hk h0=>exact .own (by rw[<- hh k (inlen e)];exact e) hk h0
 have ren':∀k,k<st.h.length->ρ2 k=ρ1 k:=λk hp=>hE.ren k hp
 have ren:∀k,present (setMany st.h bs hb) k->ρ2 k=ρ1 k:=λk hp=>ren' k (by
  rw[<- hlen];cases hp with|row e=>exact(jB.1 e).1|one e=>exact(jB.1 e).1|own e _ _=>exact(jB.1 e).1)
 -- what the round may have turned: rows of the blocks of bs
 have hturn:∀k,(∃q,q<st.h.length/\(q∈st2.d\/q∈([]:List Nat)\/q∈([]:List Nat))/\(ρ1 q).a=k)->∃b∈bs,(ρ1 b).a=k:=λk ⟨q,h1,h2,h3⟩=>by
  rcases h2 with h2|h2|h2
  ·exact⟨q,hdm q h2 h1,h3⟩
  ·cases h2
  ·cases h2
 have hcells:∀b∈bs,∃C t,W.heap[(ρ1 b).a]?=some (.cells C t (0,0)):=λb A=>by
  obtain⟨C,t,e⟩:=prow b A;exact⟨C,t,(O.heap.is b _ e).1⟩
 have U:Kept (λk=>∃b∈bs,(ρ1 b).a=k) W W2:=Z.kept.mono λk _ he=>hturn k he
 have hbd:=O.bound;dsimp only at hbd;rw[hlen]at hbd;refine⟨⟨O.len,λi v hv=>(O.slots i v hv).mono V ren,⟨λk b A=> ?_,λk q hp hq=>Z.heap.inj k q (pst2 k hp) (pst2 q hq),λk b x h1 h2 m hp=>Z.heap.far k b x (by rw[<- hh k (inlen h1)];exact h1) h2 m (pst2 m hp)⟩,λk hk=> ?_,λk hk hp=> ?_,?_,λk len C e hk he=> ?_,?_,by dsimp only;rw[hlen2];exact hbd⟩,hhl.trans V,ren',λk C t fr hk hn=> ?_,λk hk ho=> ?_,Z.kept.size⟩
 ·dsimp only at A|-
  have hk:=inlen A;have hb2:=A;rw[hh k hk]at hb2;refine(Z.heap.is k b hb2).cut hh ?_
  by_cases L:k∈bs
  ·have hmem:=od (h:=st2.h) L;rw[jE]at hrh;rw[jH,hb2]at hmem;exact hrh b hmem
  ·rw[bD _ _ _ L]at A;have:=(O.heap.is k b (by dsimp only;rw[bD _ _ _ L];exact A)).lt;dsimp only at this;rw[hlen]at this;exact this
 ·rw[Z.base k (by omega)];exact O.base k hk
 ·have h1:=pback k hp;rw[ren k h1];exact O.fresh k hk h1
 ·refine⟨U.os.trans O.kept.os,U.tape.trans O.kept.tape,U.output.trans O.kept.output,Nat.le_trans O.kept.size U.size,λk hk hne=> ?_⟩;rw[U.block k (Nat.lt_of_lt_of_le hk O.kept.size) λ⟨b,A,e⟩=> ?_]
  ·exact O.kept.block k hk hne
  ·by_cases hb0:b<n0
   ·exact hne ⟨b,hb0,.inl A,by rw[<- O.base b hb0];exact e⟩
   ·obtain⟨C,t,e'⟩:=prow b A;rcases O.fresh b (by omega) (.row e') with h | ⟨q,h1,h2,h3⟩
    ·omega
    ·exact hne ⟨q,h2,.inr (.inr h1),h3.trans e⟩
 ·dsimp only at he
  by_cases L:k∈bs
  ·obtain⟨C',t,e1⟩:=prow k L;obtain⟨C2,e2⟩:=(V k).row _ _ e1;rw[e2]at he;cases he
  ·rw[bD _ _ _ L]at he;exact O.own0 k len C e hk (by dsimp only;rw[bD _ _ _ L];exact he)
 ·exact O.defers.kept U λk ⟨b,A,e⟩=>by obtain⟨C,t,h⟩:=hcells b A;rw[<- e];exact⟨_,_,_,h⟩
 ·rw[U.block k (jC1.1 hk).1 λ⟨b,A,e⟩=>hn b A e];exact hk
 ·exact U.block k hk λ⟨b,A,e⟩=>ho b A e
theorem zY{ρ:Nat->Ad}{h:List VB}{l:List SA}(hl:∀y∈l,known y=true/\Is P ρ h y (valOf y)){ρ':Nat->Ad}{h':List VB}:Uap P ρ' h' l (l.map valOf):=
 ⟨by simp,fun i y v hy hv=>by
  rw[List.getElem?_map,hy]at hv;simp only[jV,Q8]at hv;subst hv;obtain⟨h1,h2⟩:=hl y (List.mem_of_getElem? hy);cases y<;>first|exact h2|cases h1⟩
def ff:Exit->QOq
 |.ret=>.ret
 |.exit id=>.exit id
 |_=>.skip
theorem mh{h:List VB}(n:Nat):(h.map jl)[n]?=(h[n]?).map jl:=List.getElem?_map ..
theorem mi{h:List VB}{n:Nat}{b:VB}(e:(h.map jl)[n]?=some b):b=.sp\/h[n]?=some b:=by
 rw[mh]at e;cases A:h[n]? with
 |none=>rw[A]at e;cases e
 |some c=>
  rw[A]at e;cases Q5 e;unfold jl;split
  ·exact .inl rfl
  ·exact .inr rfl
theorem Zp8{h:List VB}{n:Nat}(A:present (h.map jl) n):present h n:=by
 cases A with
 |row e=>rcases mi e with h|h;cases h;exact .row h
 |one e=>rcases mi e with h|h;cases h;exact .one h
 |own e hk h0=>rcases mi e with h|h;cases h;exact .own h hk h0
theorem KX(h:List VB):HLe h (h.map jl):=λn=>
 ⟨fun C t e=>⟨C,by rw [mh,e];rfl⟩,fun y t e=>⟨y,by rw [mh,e];rfl⟩,fun a len C t e=>by
  rw[mh,e];cases a<;>first|exact .inr ⟨rfl,rfl⟩|exact .inl ⟨C,rfl⟩,λe=>by rw[mh,e];rfl,λg t a x e=>by rw[mh,e];rfl⟩
theorem fg:∀(h:List VB) (i n:Nat),i+n ∉ mf h i->(h.map jl)[n]?=h[n]?
 |[],_,_,_=>rfl
 | b::r,i,0,J=>by
  cases b with
  |sl k len C e=>cases k with|own=>exact absurd (jA1) J|_=>rfl
  |_=>rfl
 |b::r,i,n+1,J=>by
  rw[jT,jZ,jZ];refine fg r (i+1) n λA=>J ?_
  have A:i+(n+1)∈mf r (i+1):=by rw[show i+(n+1)=i+1+n by omega];exact A
  unfold mf;split
  ·exact jW _ A
  ·exact A
theorem RS.spend{W0:QB}{n0:Nat}{D E:List Nat}{ρ0 ρ:Nat->Ad}{st:St}{a:Act}{w:QB}(A:RS E P W0 n0 D ρ0 ρ st a w)(W:List Nat)(b:Nat):RS E P W0 n0 D ρ0 ρ (Ubw st) a w/\Ext W b ρ ρ st (Ubw st):=by
 have hl:=KX st.h;refine⟨⟨A.len,λi v O=>(A.slots i v O).mono hl λ_ _=>rfl,⟨λn b U=> ?_,λn q L V=>A.heap.inj n q (Zp8 L) (Zp8 V),λn b k Z h2 m L=> ?_⟩,A.base,λn J L=>A.fresh n J (Zp8 L),
  A.kept.mono λk _ ⟨m,e1,e2,e3⟩=>⟨m,e1,e2.imp (jM _) id,e3⟩,λn len C e J he=> ?_,A.defers,by have:=A.bound;simp only[Ubw,List.length_map];exact this⟩,
  ⟨λ_ _=>rfl,rfl,λn _ J=>fg st.h 0 n (by rw[jR];exact λhm=>J (jO _ hm)),λn J=>jM _ J,by simp only[Ubw,List.length_map];exact jS _,hl,λ_ _=>rfl⟩⟩
 ·rcases mi U with rfl|h
  ·trivial
  ·exact(A.heap.is n b h).mono hl λ_ _=>rfl
 ·rcases mi Z with rfl|h
  ·exact h2.elim
  ·exact A.heap.far n b k h h2 m (Zp8 L)
 ·rcases mi he with h|h
  ·cases h
  ·exact A.own0 n len C e J h
end
end
section
section
variable {P:QD} {Γ:Cons} {F:Fence} {n N:Nat} {Q:Exit->Act->QB->Prop} {W0:QB} {n0:Nat} {D E:List Nat} {ρ0:Nat->Ad}
theorem pZ{W cs bs:List Nat}{st st':St}{s:List SV×List VB}{ρ ρ':Nat->Ad}{a a':Act}{w w':QB}(hR:RS E P W0 n0 D ρ0 ρ (head W cs bs st s) a w)(hR':RS E P W0 n0 D ρ0 ρ' st' a' w')
  (hE:Ext W (head W cs bs st s).h.length ρ ρ' (head W cs bs st s) st') (hhl:HLe st.h (head W cs bs st s).h) (hd:Uav st.h.length bs st'.d=true) (hrs:(getS st'.s cs).all (Ua3 st.h.length)=true) (hrh:(getH st'.h bs).all (Uas st.h.length)=true) :
  RS E P W0 n0 D ρ0 ρ' (head W cs bs st (getS st'.s cs,getH st'.h bs)) a' w'/\HLe st.h (head W cs bs st (getS st'.s cs,getH st'.h bs)).h:=by
 have hlen:(head W cs bs st s).h.length=st.h.length:=bJ _ _ _;have hslen:(head W cs bs st s).s.length=st.s.length:=by simp only[head];rw[bJ,ci]
 have hh:∀k,k<st.h.length->(head W cs bs st (getS st'.s cs,getH st'.h bs)).h[k]?=st'.h[k]?:=λk hklt=>by
  have hk':k<st'.h.length:=by have:=hE.hlen;omega
  simp only[head];rw[cy (g:=λc=>st'.h.getD c .no) bs _ _ k (Zoh _ _)]
  by_cases hb:k∈bs
  ·rw[if_pos ⟨hb,hklt⟩,jH,jG hk'];rfl
  ·rw[if_neg (λh=>hb h.1)];have hnd:k ∉ st'.d:=λhkd=>hb (Zex hd k hkd hklt)
   rw[hE.heap k (by omega) hnd];simp only[head];rw[bD _ _ _ hb]
 have hlen2:(head W cs bs st (getS st'.s cs,getH st'.h bs)).h.length=st.h.length:=bJ _ _ _;have inlen:∀{k:Nat} {b:VB},(head W cs bs st (getS st'.s cs,getH st'.h bs)).h[k]?=some b->k<st.h.length:=λ{k b} h=>by rw[<- hlen2];exact(jB.1 h).1
 have pres:∀k,present (head W cs bs st (getS st'.s cs,getH st'.h bs)).h k->present st'.h k:=λk hp=>by
  cases hp with|row e=>exact .row (by rw[<- hh k (inlen e)];exact e)|one e=>exact .one (by rw[<- hh k (inlen e)];exact e)|own e hk h0=>exact .own (by rw[<- hh k (inlen e)];exact e) hk h0
 refine⟨⟨?_,λi v hv=> ?_,⟨λk b hb=> ?_,λk q hp hq=>hR'.heap.inj k q (pres k hp) (pres q hq),λk b x h1 h2 m hp=>hR'.heap.far k b x (by rw[<- hh k (inlen h1)];exact h1) h2 m (pres m hp)⟩,hR'.base,λk hk hp=>hR'.fresh k hk (pres k hp),?_,λk len C e hk he=>hR'.own0 k len C e hk (by rw[<- hh k (inlen he)];exact he),hR'.defers,?_⟩,?_⟩
 ·simp only[head];rw[bJ,ci,<- hR'.len,hE.len,hslen]
 ·simp only[head]at hv;rw[cy (g:=λc=>st'.s.getD c (.a .x)) cs _ _ i (Zw4 _ _)]at hv;have hilt:i<st.s.length:=by
   by_cases h:i<st.s.length
   ·exact h
   ·exfalso;rw[if_neg (λhc=>h (by have:=hc.2;rwa [ci]at this)),jK (by rw[ci];omega)]at hv;cases hv
  have hi':i<st'.s.length:=by rw[hE.len,hslen];exact hilt
  by_cases hc:i∈cs
  ·rw[if_pos ⟨hc,by rw[ci];exact hilt⟩]at hv;simp only[Q8]at hv;have hmem:=wg (s:=st'.s) hc;rw[hv]at hmem;rw[jE]at hrs;have hs':st'.s[i]?=some v:=by
    rw[jH,jG hi']at hv;rw[jG hi'];exact congrArg some hv
   exact(hR'.slots i v hs').cut hh (hrs v hmem)
  ·rw [if_neg (fun h=>hc h.1),fe,jR] at hv;cases hu:st.s[i]? with
   |none=>rw[hu]at hv;cases hv
   | some u=>
    rw[hu]at hv;simp only[jV,Q8]at hv;cases he:Uan i W with
    |true=>rw[he]at hv;simp only[Q1]at hv;rw[<- hv];trivial
    | false=>
     rw[he]at hv;simp only[Q2]at hv;subst hv;have hnW:i ∉ W:=λh=>by rw[cm.2 h]at he;cases he
     have h1:(head W cs bs st s).s[i]?=some u:=by simp only[head];rw[bD _ _ _ hc,fe,jR,hu,he];rfl
     have h2:=hE.slots i hnW;rw[h1]at h2;have h3:=(hR.slots i u h1).lt;rw[hlen]at h3;exact(hR'.slots i u h2).cut hh h3
 ·have hk:=inlen hb;rw[hh k hk]at hb;refine(hR'.heap.is k b hb).cut hh ?_
  by_cases hbs:k∈bs
  ·have hmem:=od (h:=st'.h) hbs;rw[jE]at hrh;rw[jH,hb]at hmem;exact hrh b hmem
  ·have hnd:k ∉ st'.d:=λhkd=>hbs (Zex hd k hkd hk)
   rw[hE.heap k (by omega) hnd]at hb;have:=(hR.heap.is k b hb).lt;rw[hlen]at this;exact this
 ·refine hR'.kept.mono λk _ ⟨m,h1,h2,h3⟩=>⟨m,h1,h2.imp (λh2=> ?_) (λh=>h),h3⟩
  have:=hR.bound;exact Zex hd m h2 (by omega)
 ·rw[hlen2];have:=hR.bound;omega
 ·intro m;have key:=hhl.trans hE.hle;refine⟨λC t e=> ?_,λy t e=> ?_,λa len C t e=> ?_,λe=> ?_,λg t a x e=> ?_⟩
  ·have hlt:=(jB.1 e).1;obtain⟨C',e'⟩:=(key m).row C t e;exact⟨C',by rw[hh m hlt];exact e'⟩
  ·have hlt:=(jB.1 e).1;obtain⟨y',e'⟩:=(key m).one y t e;exact⟨y',by rw[hh m hlt];exact e'⟩
  ·have hlt:=(jB.1 e).1;exact((key m).sl a len C t e).imp (λ⟨C',e'⟩=>⟨C',by rw[hh m hlt];exact e'⟩) λ⟨q1,q2⟩=>⟨q1,by rw[hh m hlt];exact q2⟩
  ·have hlt:=(jB.1 e).1;rw[hh m hlt];exact(key m).sp e
  ·have hlt:=(jB.1 e).1;rw[hh m hlt];exact(key m).gl _ _ _ _ e
theorem zZ{W cs bs:List Nat}{st:St}{s:LS}{ρs ρ':Nat->Ad}{V:Act}{w':QB}(J:cs.all (Uan · W)=true)(A:RS E P W0 n0 (st.d++D) ρ0 ρ' (head W cs bs st s) V w')
  (O:HLe st.h (head W cs bs st s).h) (L:∀k,k<st.h.length->ρ' k=ρs k) :
  RS E P W0 n0 D ρ0 ρ' (left W cs bs st s) V w'/\Ext W st.h.length ρs ρ' st (left W cs bs st s):=by
 refine⟨⟨A.len,A.slots,A.heap,A.base,A.fresh,A.kept.mono λk _ ⟨m,h1,h2,h3⟩=>⟨m,h1,?_,h3⟩,A.own0,A.defers,A.bound⟩,⟨λi hi=> ?_,?_,λm Z hd=> ?_,λm Z=>jM _ Z,?_,O,L⟩⟩
 ·simp only[head,left,jI]at h2|-
  rcases h2 with h2 | (h2|h2)|h2
  ·exact .inl (.inl h2)
  ·exact .inl (.inr h2)
  ·exact .inr (.inl h2)
  ·exact .inr (.inr h2)
 ·have U:i ∉ cs:=λU=>by
   rw[jE]at J;exact hi (cm.1 (J i U))
  simp only[left];rw[bD _ _ _ U,fe,jR];have:Uan i W=false:=by cases h:Uan i W with|false=>rfl|true=>exact absurd (cm.1 h) hi
  rw[this];cases st.s[i]?<;>rfl
 ·simp only[left];rw[bJ,ci]
 ·simp only[left]at hd|-
  exact bD _ _ _ λhb=>hd (jO _ hb)
 ·simp only[left];rw[bJ];exact jS _
theorem Aa{A J:List Nat}{ρ ρ1 ρ2:Nat->Ad}{a b c:St}(h:Ext A a.h.length ρ ρ1 a b)(k:Ext J b.h.length ρ1 ρ2 b c):Ext (A++J) a.h.length ρ ρ2 a c:=
 (h.mono (λ_ h=>jO _ h) (jS _)).trans (k.mono (λ_ h=>jM _ h) h.hlen)
theorem qa{W cs bs:List Nat}{st:St}{ρ:Nat->Ad}{a:Act}{w:QB}(J:RS E P W0 n0 D ρ0 ρ st a w):
  RS E P W0 n0 (st.d++D) ρ0 ρ (head W cs bs st (getS st.s cs,getH st.h bs)) a w/\HLe st.h (head W cs bs st (getS st.s cs,getH st.h bs)).h:=by
 have hh:(head W cs bs st (getS st.s cs,getH st.h bs)).h=st.h:=by
  refine List.ext_getElem? λi=> ?_
  simp only[head];rw[cy (g:=λc=>st.h.getD c .no) bs _ _ i (Zoh _ _)];split
  ·rename_i h;rw[jH,jG h.2];rfl
  ·rfl
 refine⟨⟨by simp only[head];rw[bJ,ci];exact J.len,λi v A=> ?_,by rw[hh];exact J.heap,J.base,by rw[hh];exact J.fresh,J.kept.mono λk _ ⟨m,U,h2,V⟩=>⟨m,U,.inr (by simp only[jI];exact or_assoc.2 h2),V⟩,by rw[hh];exact J.own0,J.defers,by rw[hh];exact J.bound⟩,by rw[hh];exact HLe.refl _⟩;rw[hh];simp only[head]at A;rw[cy (g:=λc=>st.s.getD c (.a .x)) cs _ _ i (Zw4 _ _)]at A;split at A
 ·rename_i h;rw[ci]at h;simp only[Q8]at A;rw[jH,jG h.2]at A;exact J.slots i v (by rw[jG h.2];exact congrArg some A)
 ·rw[fe,jR]at A;cases L:st.s[i]? with
  |none=>rw[L]at A;cases A
  | some u=>rw[L]at A;simp only[jV,Q8]at A;cases O:Uan i W with|true=>rw[O]at A;simp only[Q1]at A;rw[<- A];trivial|false=>rw[O]at A;simp only[Q2]at A;subst A;exact J.slots i u L
theorem Ab{ρ:Nat->Ad}{h:List VB}{w:QB}{e:QE}{y:SA}{v:QC}{k:Option Nat}{len:Nat}{C:QA}(ho:cW h e y=some (k,len,C))(hi:Is P ρ h y v)(V:HIs P ρ h w):
  ∃(g:Ad) (sb:Option Addr) (cap:Nat),v=.slice sb len cap/\lT g sb len cap/\BIs P ρ h w g (.sl .own len C e)/\(len≠0->∃j,k=some j/\present h j/\g.a=(ρ j).a)/\(∀j,k=some j->h[j]?=some (.sl .own len C e)):=by
 unfold cW at ho;split at ho
 ·rename_i n;split at ho
  ·rename_i len' C' Z J;cases A:jA e Z with
   |false=>rw[A]at ho;cases ho
   |true=>rw[A]at ho;obtain rfl:=jQ A;cases ho;obtain⟨ad,cap,rfl,L,U⟩:=Is.l_of hi J;exact⟨ρ n,ad,cap,rfl,⟨(U rfl).1,λh=>⟨L h,(U rfl).2 h⟩⟩,V.is _ _ J,λh=>⟨n,rfl,.own J rfl h,rfl⟩,λj O=>by cases O;exact J⟩
  ·cases ho
 ·cases ho;obtain rfl:v=_:=hi;exact⟨⟨0,0⟩,none,0,rfl,⟨λ_=>rfl,λh=>absurd rfl h⟩,⟨⟨by simp,λk hk=>absurd hk (by omega),by omega,.inl rfl⟩,λ_ h=>absurd rfl h⟩,λh=>absurd rfl h,λj O=>by cases O⟩
 ·cases ho
theorem KY{g:Nat}{e:QE}{st st1:St}{ρ:Nat->Ad}{a:Act}{w:QB}(hR:RS E P W0 n0 D ρ0 ρ st a w)(hp:eW g e st=some st1):
  ∃ρ',RS E P W0 n0 D ρ0 ρ' st1 a w/\st1.s=st.s.set g (.a (.l st.h.length))/\st1.h.length=st.h.length+1/\HLe st.h st1.h/\(∀n,n<st.h.length->n ∉ st1.d->st1.h[n]?=st.h[n]?)/\(∀n,n<st.h.length->st1.h[n]?=st.h[n]?\/st1.h[n]?=some .sp)/\(∀n∈st.d,n∈st1.d)/\∀n,n<st.h.length->ρ' n=ρ n:=by
 unfold eW at hp;split at hp
 ·rename_i k len C ho;cases hp;have hv:=Zcl (Zq6 hR.slots (.tmp g));simp only[evO]at hv;obtain⟨gg,sb,cap,h1,h2,h3,h4,h5⟩:=Ab ho hv hR.heap;obtain⟨hR1,hl1⟩:=hR.room 1;have hk:∀j,k=some j->j<st.h.length:=λj hj=>(jB.1 (h5 j hj)).1
  have old:∀{n:Nat} {b:VB},st.h[n]?=some b->(st.h++jD 1 VB.no)[n]?=some b:=λ{n b} h=>by
   rw[jL (jB.1 h).1];exact h
  have pr:∀{n:Nat},present st.h n->present (st.h++jD 1 VB.no) n:=λ{n} hp=>by
   cases hp with|row e=>exact .row (old e)|one e=>exact .one (old e)|own e hk h0=>exact .own (old e) hk h0
  have hE:Ua4 P ρ (st.h++jD 1 VB.no) w (.a .x) (.app k len C e) (a.tmps.getD g undef) w:=
   ⟨gg,sb,cap,rfl,h1,h2,h3.mono hl1 λ_ _=>rfl,Kept.refl _ w,λh0=>.inr (let ⟨j,q1,q2,q3⟩:=h4 h0;⟨j,q1,pr q2,q3⟩),λj hj=>⟨_,_,old (h5 j hj)⟩⟩
  have hid:(st.h++jD 1 VB.no)[st.h.length]?=some .no:=by rw[jX (jS _)];simp
  obtain⟨ρ',hR2,hren⟩:=RS.applyApp hR1 hid hR.bound (dst:=some g) hE;have ha:a.put (some g) (a.tmps.getD g undef)=a:=by
   cases a with
   | mk tmps defers=>
    simp only[Act.put];congr 1;refine Array.ext_getElem? λi=> ?_
    rw[Array.getElem?_setIfInBounds];split
    ·rename_i hgi;subst hgi;split
     ·rename_i hlt;rw[Array.getElem?_eq_getElem hlt];simp
     ·rename_i hlt;rw[Array.getElem?_eq_none (by omega)]
    ·rfl
  have hh:((spend k (st.h++jD 1 VB.no)).set st.h.length (.sl .own len C e))=spend k st.h++[.sl .own len C e]:=by
   refine List.ext_getElem? λi=> ?_
   by_cases hi:i=st.h.length
   ·subst hi;rw[jP (by rw[bM];simp),jX (by rw[bM];exact jS _),bM];simp
   ·rw[jN (by omega)]
    by_cases hlt:i<st.h.length
    ·rw[jL (by rw[bM];exact hlt)]
     by_cases hki:k=some i
     ·subst hki;simp only[spend];rw[jP (by simp;omega),jP hlt]
     ·rw[Zhd hki,Zhd hki,jL hlt]
    ·rw[jK (by rw[bM];simp;omega),jK (by simp[bM];omega)]
  simp only[Uai,putS,ha,hh]at hR2;have hlow:∀n,n<st.h.length->k≠some n->(spend k st.h++[VB.sl .own len C e])[n]?=st.h[n]?:=λn hn hkn=>by
   rw[jL (by rw[bM];exact hn),Zhd hkn]
  have hsp:∀n,k=some n->(spend k st.h++[VB.sl .own len C e])[n]?=some .sp:=λn hkn=>by
   have:=hk n hkn;rw[jL (by rw[bM];exact this),hkn];exact jP this
  refine⟨ρ',hR2,rfl,by simp[bM],λn=> ?_,λn hn hnd=> ?_,λn hn=> ?_,λn hn=>jM _ hn,λn hn=>hren n (by omega)⟩
  ·by_cases hn:n<st.h.length
   ·by_cases hkn:k=some n
    ·have h6:=h5 n hkn;refine⟨λC t k=> ?_,λy t k=> ?_,λ_ _ C _ k=>.inr ?_,λk=> ?_,λ_ _ _ _ k=> ?_⟩<;>rw[h6]at k<;>cases k
     exact⟨rfl,hsp n hkn⟩
    ·exact .same (hlow n hn hkn)
   ·exact .none (jK (by omega))
  ·exact hlow n hn λhkn=>hnd (jO _ (by rw[hkn];simp))
  ·by_cases hkn:k=some n
   ·exact .inr (hsp n hkn)
   ·exact .inl (hlow n hn hkn)
 ·cases hp
theorem KZ{W cs bs:List Nat}{g:Nat}{e:QE}{st st1 st':St}{s:List SV×List VB}{ρ ρ':Nat->Ad}{a a':Act}{w w':QB}(hs1:st1.s=st.s.set g (.a (.l st.h.length)))(hl1:st1.h.length=st.h.length+1)(hgW:g∈W)(hgc:g ∉ cs)(hbs:∀b∈bs,b<st.h.length)
  (hlow:∀(i:Nat) (u:SV),st.s[i]?=some u->Ua3 st.h.length u=true) (hlowB:∀(k:Nat) (b:VB),k<st.h.length->st1.h[k]?=some b->Uas st.h.length b=true) (hn0:n0<=st.h.length)
  (hR:RS E P W0 n0 D ρ0 ρ (head W (cs++[g]) (bs++[st.h.length]) st1 s) a w) (hR':RS E P W0 n0 D ρ0 ρ' st' a' w')
  (hE:Ext W (head W (cs++[g]) (bs++[st.h.length]) st1 s).h.length ρ ρ' (head W (cs++[g]) (bs++[st.h.length]) st1 s) st') (hhl:HLe st.h (head W (cs++[g]) (bs++[st.h.length]) st1 s).h)
  {n len:Nat} {C:QA} (hg:asA (st'.s.getD g (.a .x))=.l n) (hown:st'.h[n]?=some (.sl .own len C e)) (hmn:st.h.length<=n)
  (hd:Uav st.h.length bs st'.d=true) (hrs:(getS st'.s cs).all (Ua3 st.h.length)=true) (hrh:(getH st'.h bs).all (Uas st.h.length)=true) :
  RS E P W0 n0 D ρ0 (λk=>if k=st.h.length then ρ' n else ρ' k) (head W (cs++[g]) (bs++[st.h.length]) st1 (getS st'.s cs++[.a (.l st.h.length)],getH st'.h bs++[.sl .own len C e])) a' w' /\
   HLe st.h (head W (cs++[g]) (bs++[st.h.length]) st1 (getS st'.s cs++[.a (.l st.h.length)],getH st'.h bs++[.sl .own len C e])).h:=by
 generalize hm:st.h.length=m at *;have hlen:(head W (cs++[g]) (bs++[m]) st1 s).h.length=m+1:=by rw[<- hl1];exact bJ _ _ _
 have hslen:(head W (cs++[g]) (bs++[m]) st1 s).s.length=st.s.length:=by simp only[head];rw[bJ,ci,hs1,jY]
 generalize hs2:(getS st'.s cs++[SV.a (.l m)],getH st'.h bs++[VB.sl .own len C e])=s2;have hs2h:s2.2=(bs++[m]).map λk=>if k=m then VB.sl .own len C e else st'.h.getD k .no:=by
  rw[<- hs2];simp only[List.map_append,jT,List.map_nil,if_true,Zoh];congr 1;refine jB1 λb hb=> ?_
  rw[if_neg (by have:=hbs b hb;omega)]
 have hs2s:s2.1=(cs++[g]).map λc=>if c=g then SV.a (.l m) else st'.s.getD c (.a .x):=by
  rw[<- hs2];simp only[List.map_append,jT,List.map_nil,if_true,Zw4];congr 1;refine jB1 λc hc=> ?_
  rw[if_neg (by rintro rfl;exact hgc hc)]
 have hlen2:(head W (cs++[g]) (bs++[m]) st1 s2).h.length=m+1:=by rw[<- hl1];exact bJ _ _ _
 have hh:∀k,k<m->(head W (cs++[g]) (bs++[m]) st1 s2).h[k]?=st'.h[k]?:=λk hk=>by
  have hk':k<st'.h.length:=by have:=hE.hlen;omega
  simp only[head];rw[cy _ _ _ k hs2h]
  by_cases hb:k∈bs
  ·rw[if_pos ⟨jO _ hb,by omega⟩,if_neg (by omega),jH,jG hk'];rfl
  ·have hb1:k ∉ bs++[m]:=λh=>by rcases jI.1 h with h|h;exact hb h;simp at h;omega
   rw[if_neg (λh=>hb1 h.1)];have hnd:k ∉ st'.d:=λhkd=>hb (Zex hd k hkd hk)
   rw[hE.heap k (by omega) hnd];simp only[head];rw[bD _ _ _ hb1]
 have hhm:(head W (cs++[g]) (bs++[m]) st1 s2).h[m]?=some (.sl .own len C e):=by simp only[head];rw[cy _ _ _ m hs2h,if_pos ⟨jM _ (by simp),by omega⟩,if_pos rfl]
 have inlen:∀{k:Nat} {b:VB},(head W (cs++[g]) (bs++[m]) st1 s2).h[k]?=some b->k<m+1:=λ{k b} h=>by rw[<- hlen2];exact(jB.1 h).1
 have hφ:∀{k:Nat},k<m+1->(head W (cs++[g]) (bs++[m]) st1 s2).h[k]?=st'.h[if k=m then n else k]?:=λ{k} hk=>by
  by_cases e:k=m
  ·rw[if_pos e,e,hhm,hown]
  ·rw[if_neg e,hh k (by omega)]
 have hρ:∀k,(if k=m then ρ' n else ρ' k)=ρ' (if k=m then n else k):=λk=>by by_cases e:k=m<;>simp[e]
 have hρlt:∀k,k<m->(if k=m then ρ' n else ρ' k)=ρ' k:=λk hk=>if_neg (by omega)
 have pres:∀k,present (head W (cs++[g]) (bs++[m]) st1 s2).h k->present st'.h (if k=m then n else k):=λk hp=>by
  cases hp with|row e=>exact .row (by rw[<- hφ (inlen e)];exact e)|one e=>exact .one (by rw[<- hφ (inlen e)];exact e)|own e hk h0=>exact .own (by rw[<- hφ (inlen e)];exact e) hk h0
 have hgn:Is P ρ' st'.h (.l n) (a'.tmps.getD g undef):=by have:=Zcl (Zq6 hR'.slots (.tmp g));simp only[evO]at this;rw[hg]at this;exact this
 refine⟨⟨?_,λi v hv=> ?_,⟨λk b hb=> ?_,λk q hp hq he=> ?_,λk b x h1 h2 q hp=> ?_⟩,λk hk=> ?_,λk hk hp=> ?_,?_,λk len C e hk he=> ?_,hR'.defers,?_⟩,?_⟩
 ·simp only[head];rw[bJ,ci,hs1,jY,<- hR'.len,hE.len,hslen]
 ·simp only[head]at hv;rw[cy _ _ _ i hs2s]at hv;have hilt:i<st1.s.length:=by
   by_cases h:i<st1.s.length
   ·exact h
   ·exfalso;rw[if_neg (λhc=>h (by have:=hc.2;rwa [ci]at this)),jK (by rw[ci];omega)]at hv;cases hv
  have hst:st1.s.length=st.s.length:=by rw[hs1,jY]
  have hi':i<st'.s.length:=by rw[hE.len,hslen];omega
  by_cases hc:i∈cs++[g]
  ·rw[if_pos ⟨hc,by rw[ci];exact hilt⟩]at hv;simp only[Q8]at hv
   by_cases hig:i=g
   ·rw[if_pos hig]at hv;subst hv;subst hig;obtain⟨ad,cap,h1,h2,h3⟩:=Is.l_of hgn hown;refine .inr ⟨.own,len,C,e,ad,cap,hhm,h1,λh0=> ?_,λ_=>⟨(h3 rfl).1,λh0=> ?_⟩⟩
    ·simp only[adOf,if_true];exact h2 h0
    ·simp only[if_true];exact(h3 rfl).2 h0
   ·rw[if_neg hig]at hv;have hcs:i∈cs:=by rcases jI.1 hc with h|h;exact h;simp at h;exact absurd h hig
    have hmem:=wg (s:=st'.s) hcs;rw[hv]at hmem;rw[jE]at hrs;have hs':st'.s[i]?=some v:=by rw[jH,jG hi']at hv;rw[jG hi'];exact congrArg some hv
    exact(hR'.slots i v hs').cutr hh hρlt (hrs v hmem)
  ·rw [if_neg (fun h=>hc h.1),fe,jR] at hv;cases hu:st1.s[i]? with
   |none=>rw[hu]at hv;cases hv
   | some u=>
    rw[hu]at hv;simp only[jV,Q8]at hv;cases he:Uan i W with
    |true=>rw[he]at hv;simp only[Q1]at hv;rw[<- hv];trivial
    | false=>
     rw[he]at hv;simp only[Q2]at hv;subst hv;have hnW:i ∉ W:=λh=>by rw[cm.2 h]at he;cases he
     have h1:(head W (cs++[g]) (bs++[m]) st1 s).s[i]?=some u:=by simp only[head];rw[bD _ _ _ hc,fe,jR,hu,he];rfl
     have h2:=hE.slots i hnW;rw[h1]at h2;have h3:st.s[i]?=some u:=by rw[hs1,jN (by rintro rfl;exact hnW hgW)]at hu;exact hu
     exact(hR'.slots i u h2).cutr hh hρlt (hlow i u h3)
 ·have hk:=inlen hb;rw[hρ k];rw[hφ hk]at hb;have hi:=hR'.heap.is _ b hb
  by_cases hkm:k=m
  ·subst hkm;simp only[if_true]at hb hi|-
   rw[hown]at hb;cases hb;exact hi
  ·rw[if_neg hkm]at hb hi|-
   refine hi.cutr hh hρlt ?_
   by_cases hbs':k∈bs
   ·have hmem:=od (h:=st'.h) hbs';rw[jE]at hrh;rw[jH,hb]at hmem;exact hrh b hmem
   ·have hnd:k ∉ st'.d:=λhkd=>hbs' (Zex hd k hkd (by omega))
    rw[hE.heap k (by omega) hnd]at hb;simp only[head]at hb;rw[bD _ _ _ (λh=>by rcases jI.1 h with h|h;exact hbs' h;simp at h;omega)]at hb;exact hlowB k b (by omega) hb
 ·rw[hρ k,hρ q]at he;have:=hR'.heap.inj _ _ (pres k hp) (pres q hq) he;have hk:=hp.lt;have hq':=hq.lt
  by_cases e1:k=m
  ·by_cases e2:q=m
   ·omega
   ·rw[if_pos e1,if_neg e2]at this;omega
  ·by_cases e2:q=m
   ·rw[if_neg e1,if_pos e2]at this;omega
   ·rw[if_neg e1,if_neg e2]at this;exact this
 ·rw[hρ q];exact hR'.heap.far (if k=m then n else k) b x (by rw[<- hφ (inlen h1)];exact h1) h2 _ (pres q hp)
 ·show (if k=m then ρ' n else ρ' k)=ρ0 k
  rw[if_neg (by omega)];exact hR'.base k hk
 ·show W0.heap.size<=(if k=m then ρ' n else ρ' k).a\/∃q∈E,q<n0/\(ρ0 q).a=(if k=m then ρ' n else ρ' k).a
  rw[hρ k];refine hR'.fresh _ ?_ (pres k hp);split<;>omega
 ·refine hR'.kept.mono λk _ ⟨q,h1,h2,h3⟩=>⟨q,h1,h2.imp (λh2=> ?_) (λh=>h),h3⟩
  exact jO _ (Zex hd q h2 (by omega))
 ·rw[hφ (inlen he),if_neg (by omega)]at he;exact hR'.own0 k len C e hk he
 ·rw[hlen2];omega
 ·intro k;have key:=(hhl.trans hE.hle) k
  by_cases hk:k<m
  ·have e:=hh k hk;refine⟨λC t h=>let ⟨C',h'⟩:=key.row C t h;⟨C',by rw[e];exact h'⟩,λy t h=>let ⟨C',h'⟩:=key.one y t h;⟨C',by rw[e];exact h'⟩,λa len C t h=>(key.sl a len C t h).imp (λ⟨C',h'⟩=>⟨C',by rw[e];exact h'⟩) λ⟨q1,q2⟩=>⟨q1,by rw[e];exact q2⟩,λh=>by rw[e];exact key.sp h,λ_ _ _ _ h=>by rw[e];exact key.gl _ _ _ _ h⟩
  ·exact .none (jK (by omega))
theorem La{W cs bs:List Nat}{g:Nat}{st A:St}{s:LS}{ρs ρ':Nat->Ad}{a':Act}{w':QB}(L:A.s=st.s.set g (.a (.l st.h.length)))(V:A.h.length=st.h.length+1)(Z:∀n∈st.d,n∈A.d)(b5:∀n,n<st.h.length->n ∉ A.d->A.h[n]?=st.h[n]?)
  (O:g∈W) (b7:∀c∈cs,c∈W) (J:RS E P W0 n0 (A.d++D) ρ0 ρ' (head W (cs++[g]) (bs++[st.h.length]) A s) a' w')
  (b9:HLe st.h (head W (cs++[g]) (bs++[st.h.length]) A s).h) (U:∀k,k<st.h.length->ρ' k=ρs k) :
  RS E P W0 n0 D ρ0 ρ' (left W (cs++[g]) (bs++[st.h.length]) A s) a' w'/\Ext W st.h.length ρs ρ' st (left W (cs++[g]) (bs++[st.h.length]) A s):=by
 refine⟨⟨J.len,J.slots,J.heap,J.base,J.fresh,J.kept.mono λk _ ⟨m,h1,h2,h3⟩=>⟨m,h1,?_,h3⟩,J.own0,J.defers,J.bound⟩,⟨λi hi=> ?_,?_,λm hm hd=> ?_,λm hm=>jM _ (Z m hm),?_,b9,U⟩⟩
 ·simp only[head,left,jI]at h2|-
  rcases h2 with h2 | (h2|h2)|h2
  ·exact .inl (.inl h2)
  ·exact .inl (.inr h2)
  ·exact .inr (.inl h2)
  ·exact .inr (.inr h2)
 ·have hc:i ∉ cs++[g]:=λhc=>by
   rcases jI.1 hc with h|h
   ·exact hi (b7 i h)
   ·simp at h;subst h;exact hi O
  simp only[left];rw[bD _ _ _ hc,fe,jR];have:Uan i W=false:=by cases h:Uan i W with|false=>rfl|true=>exact absurd (cm.1 h) hi
  rw[this,L,jN (by rintro rfl;exact hi O)];cases st.s[i]?<;>rfl
 ·simp only[left];rw[bJ,ci,L,jY]
 ·simp only[left]at hd|-
  rw[bD _ _ _ λhb=>hd (jO _ hb)];exact b5 m hm λh=>hd (jM _ h)
 ·simp only[left];rw[bJ,V];omega
theorem Ac{l:Nat}{y z:QOq}(h:pY l y=some z):y=.seq (.label l) z:=by
 unfold pY at h;split at h
 ·rename_i l' J;cases A:jA l' l with
  |false=>rw[A]at h;cases h
  |true=>rw[A]at h;cases h;rw[jQ A]
 ·cases h
theorem Yx2:∀{c:QOq} {p:Plan} {j:JD},jd c p=some j->findLabel c j.l=some (.seq .skip j.z)
 | .seq x y,.two p q,j,h=>by
  simp only[jd]at h;split at h
  ·rename_i j' hj;cases hb:(findLabel x j'.l).isNone with
   |false=>rw[hb]at h;cases h
   |true=>rw[hb]at h;cases h;rw[Option.isNone_iff_eq_none]at hb;rw[findLabel,hb];exact Yx2 hj
  ·cases h
 | .seq x y,.jump l cs bs p q,j,h=>by
  simp only[jd]at h;split at h
  ·rename_i z hz;cases hb:(findLabel x l).isNone with
   |false=>rw[hb]at h;cases h
   |true=>rw[hb]at h;cases h;rw[Option.isNone_iff_eq_none]at hb;rw[findLabel,hb,Ac hz];simp[findLabel]
  ·cases h
 |.seq x y,.one,_,h | .seq x y,.loop _ _ _,_,h | .seq x y,.loopG _ _ _ _ _,_,h | .seq x y,.loopR _ _ _,_,h | .seq x y,.loopGR _ _ _ _ _,_,h | .seq x y,.iter _ _,_,h | .seq x y,.sc _,_,h=>by simp[jd]at h
 |.skip,_,_,h | .region _ _ _,_,_,h | .cond _ _ _,_,_,h | .block _ _,_,_,h | .loop _,_,_,h | .rangeFunc _ _ _ _,_,_,h | .exit _,_,_,h | .scope _,_,_,h | .label _,_,_,h | .goto _,_,_,h | .ret,_,_,h | .refuse _,_,_,h=>by simp[jd]at h
def Exit.hop(l:Nat)(J:Act->QB->Prop)(Q:Exit->Act->QB->Prop):Exit->Act->QB->Prop
 |.goto l',a,w=>l'=l/\J a w
 |e,a,w=>Q e a w
theorem Ae{m:Nat}{cs bs:List Nat}{st':St}{s':LS}(h:tail m cs bs st'=some s'):s'=(getS st'.s cs,getH st'.h bs)/\Uav m bs st'.d=true/\(getS st'.s cs).all (Ua3 m)=true/\(getH st'.h bs).all (Uas m)=true:=by
 unfold tail at h;cases A:Uav m bs st'.d&&((getS st'.s cs).all (Ua3 m)&&(getH st'.h bs).all (Uas m)) with
 |false=>rw[A]at h;cases h
 |true=>rw[A]at h;simp only[Q1,Q8]at h;simp only[Q7]at A;exact⟨h.symm,A.1,A.2.1,A.2.2⟩
abbrev HopQ(E:List Nat)(P:QD)(W0:QB)(n0:Nat)(D:List Nat)(ρ0:Nat->Ad){α:Type}(K:Exit->St->Option α)(r:α)(Wt:List Nat)(ρt:Nat->Ad)(stt:St)(e:Exit)(A:Act)(w':QB):Prop:=
 ∃ρ' st',K e st'=some r/\RS E P W0 n0 D ρ0 ρ' st' A w'/\Ext Wt stt.h.length ρt ρ' stt st'
theorem Lb{α:Type}{K:Exit->St->Option α}{e:Exit}{st:St}{r:α}(h:Ubv K e st=some r):K e st=some r:=by cases e<;>first|exact h|cases h
end
end
section
section
variable {P:QD} {W0:QB} {n0:Nat} {D E:List Nat} {ρ0:Nat->Ad}
theorem RS.rebox{ρ:Nat->Ad}{st:St}{a:Act}{w:QB}(L:RS E P W0 n0 D ρ0 ρ st a w){g:Nat}{T:QE}{y y1:SA}{v:QC}(hg:st.h[g]?=some (.one y T))(hv:Is P ρ st.h y1 v)(hc:w.heap[(ρ g).a]?=some (.cells (oneC y1 v) T (0,0))):
  RS E P W0 n0 D ρ0 ρ { s:=st.s,h:=st.h.set g (.one y1 T),d:=g::st.d } a w/\HLe st.h (st.h.set g (.one y1 T)):=by
 have J:Ub2 st.h g (.one y1 T):=.inr (.inr ⟨y,T,y1,hg,rfl⟩);have U:=J.hle;have Z:=J.lt;have A:∀n,present (st.h.set g (.one y1 T)) n->present st.h n:=λn V=>by
  by_cases e:n=g
  ·subst e;exact J.present
  ·exact V.back e
 refine⟨⟨L.len,λi u hu=>(L.slots i u hu).mono U λ_ _=>rfl,⟨λn c O=> ?_,λn q V hq e=>L.heap.inj n q (A n V) (A q hq) e,nR L.heap J.nfar (λ_ _=>rfl) λ_ n b' x h1 h2=>L.heap.far n b' x h1 h2 g J.present⟩,L.base,λn hn V=>L.fresh n hn (A n V),
  L.kept.mono λk _ ⟨q,e1,e2,e3⟩=>⟨q,e1,e2.imp (jW _) id,e3⟩,J.own0 L.own0,L.defers,by simp;exact L.bound⟩,U⟩
 dsimp only at O
 by_cases e:n=g
 ·subst e;rw[jP Z]at O;cases O;exact⟨v,hv.mono U λ_ _=>rfl,hc⟩
 ·rw[jN (by omega)]at O;exact(L.heap.is n c O).mono U λ_ _=>rfl
inductive BoxR (m n:Nat):SA->SA->Prop
 |l:BoxR m n (.l m) (.l n)
 |r (D:QA) (T:QE) (o:Nat):BoxR m n (.r D T [(o,m)]) (.r D T [(o,n)])
theorem BoxR.oneC{m n:Nat}{y A:SA}(h:BoxR m n y A)(v:QC):oneC y v=oneC A v:=by cases h<;>rfl
theorem fh{ρ ρ1:Nat->Ad}{h J:List VB}{D D':QA}{o n m:Nat}(hl:∀v,Is P ρ h (.l n) v->Is P ρ1 J (.l m) v)(L:RowR P ρ h D [(o,n)] D'):RowR P ρ1 J D [(o,m)] D':=by
 refine⟨L.size,λi hi=>L.same i ?_,λi k hi=> ?_,by simp⟩
 ·simp only[Uaz]at hi|-
  cases A:jA o i with
  |true=>rw[A]at hi;cases hi
  |false=>rfl
 ·simp only[Uaz]at hi;cases A:jA o i with
  |false=>rw[A]at hi;cases hi
  |true=>rw[A]at hi;cases hi;obtain⟨J,ad,l,c,h2,O⟩:=L.refs i n (by simp[Uaz,A]);exact⟨J,ad,l,c,h2,hl _ O⟩
theorem BoxR.is{ρ ρ1:Nat->Ad}{h A:List VB}{m n:Nat}{y J:SA}(L:BoxR m n y J)(hl:∀v,Is P ρ h (.l n) v->Is P ρ1 A (.l m) v){v:QC}(hi:Is P ρ h J v):Is P ρ1 A y v:=by cases L with|l=>exact hl v hi|r D T o=>obtain⟨D',rfl,h2,O⟩:=hi;exact⟨D',rfl,h2,fh hl O⟩
theorem Af:∀{l:List QC} {i o:Nat},cO l i=some o->i<=o/\l[o - i]?=some bL
 |[],i,o,h=>by cases h
 | v::r,i,o,h=>by
  simp only[cO]at h;split at h
  ·cases h;exact⟨jS _,by simp[bL]⟩
  ·obtain⟨A,h2⟩:=Af h;refine⟨by omega,?_⟩;rw[show o - i=(o - (i+1))+1 by omega,jZ];exact h2
theorem Lc{ρ:Nat->Ad}{h:List VB}{y z:SA}{f:Nat->SA}{v:QC}(J:eY y=some (z,f))(hi:Is P ρ h y v):
  ∃sl,Is P ρ h z sl/\(∀m,BoxR m m (f m) (f m))/\(∀m ρ1 O,Is P ρ1 O (.l m) sl->Is P ρ1 O (f m) v)/\∀m,oneC (f m) v=oneC y v:=by
 unfold eY at J;split at J
 ·cases J;exact⟨v,hi,λ_=>.l,λ_ _ _ h=>h,λ_=>rfl⟩
 ·cases J;exact⟨v,hi,λ_=>.l,λ_ _ _ h=>h,λ_=>rfl⟩
 ·rename_i D T;split at J
  case h_2=>cases J
  rename_i o ho;cases J;obtain⟨-,h2⟩:=Af ho;obtain⟨D',rfl,V,L⟩:=hi;have U:D[o]?=some bL:=by rw[<- Array.getElem?_toList];simpa using h2
  refine⟨bL,rfl,λ_=>.r _ _ _,λm ρ1 O hl=>⟨D',rfl,V,L.size,λi hi=>L.same i rfl,λi k A=> ?_,by simp⟩,λ_=>rfl⟩;simp only[Uaz]at A;cases J:jA o i with
  |false=>rw[J]at A;cases A
  |true=>rw[J]at A;cases A;obtain rfl:=jQ J;exact⟨U,none,0,0,by rw[L.same o rfl,U];rfl,hl⟩
 ·rename_i D T o n;cases J;obtain⟨D',rfl,V,L⟩:=hi;obtain⟨O,ad,l,c,h2,Z⟩:=L.refs o n (by simp[Uaz]);refine⟨.slice ad l c,Z,λ_=>.r _ _ _,λm ρ1 b5 hl=>⟨D',rfl,V,L.size,λi hi=>L.same i ?_,λi k A=> ?_,by simp⟩,λ_=>rfl⟩
  ·simp only[Uaz]at hi|-
   cases J:jA o i with
   |true=>rw[J]at hi;cases hi
   |false=>rfl
  ·simp only[Uaz]at A;cases J:jA o i with
   |false=>rw[J]at A;cases A
   |true=>rw[J]at A;cases A;obtain rfl:=jQ J;exact⟨O,ad,l,c,h2,hl⟩
 ·cases J
theorem Ag{g:Nat}{e:QE}{st A:St}{ρ:Nat->Ad}{a:Act}{w:QB}(hR:RS E P W0 n0 D ρ0 ρ st a w)(hp:cP g e st=some A):
  ∃ρ' T len C y1,RS E P W0 n0 D ρ0 ρ' A a w/\A.s=st.s/\A.h.length=st.h.length+1/\HLe st.h A.h/\A.h[g]?=some (.one y1 T)/\BoxR st.h.length st.h.length y1 y1/\g<st.h.length/\A.h[st.h.length]?=some (.sl .own len C e)/\g∈A.d /\
   (∀n,n<st.h.length->n ∉ A.d->A.h[n]?=st.h[n]?)/\(∀n,n<st.h.length->n≠g->A.h[n]?=st.h[n]?\/A.h[n]?=some .sp)/\(∀n∈st.d,n∈A.d)/\∀n,n<st.h.length->ρ' n=ρ n:=by
 unfold cP at hp;split at hp
 case h_2=>cases hp
 rename_i T f k len C L;cases hp;unfold ob at L;split at L
 case h_2=>cases L
 rename_i y T' hg;split at L
 case h_2=>cases L
 rename_i z f' hin;split at L
 case h_2=>cases L
 rename_i n' len' C' ho;cases L;have O:g<st.h.length:=(jB.1 hg).1;obtain⟨v,hv,hc⟩:=hR.heap.is g _ hg;obtain⟨sl,hz,hbR,hre,hoc⟩:=Lc hin hv;obtain⟨gg,sb,cap,h1,h2,h3,h4,h5⟩:=Ab ho hz hR.heap;obtain⟨hR1,hl1⟩:=hR.room 1;have hk:∀j,k=some j->j<st.h.length:=λj hj=>(jB.1 (h5 j hj)).1
 have hkg:k≠some g:=λe=>by have:=h5 g e;rw[hg]at this;cases this
 have old:∀{n:Nat} {b:VB},st.h[n]?=some b->(st.h++jD 1 VB.no)[n]?=some b:=λ{n b} h=>by
  rw[jL (jB.1 h).1];exact h
 have pr:∀{n:Nat},present st.h n->present (st.h++jD 1 VB.no) n:=λ{n} hp=>by
  cases hp with|row e=>exact .row (old e)|one e=>exact .one (old e)|own e hk h0=>exact .own (old e) hk h0
 have hE:Ua4 P ρ (st.h++jD 1 VB.no) w (.a .x) (.app k len C e) sl w:=
  ⟨gg,sb,cap,rfl,h1,h2,h3.mono hl1 λ_ _=>rfl,Kept.refl _ w,λh0=>.inr (let ⟨j,q1,q2,q3⟩:=h4 h0;⟨j,q1,pr q2,q3⟩),λj hj=>⟨_,_,old (h5 j hj)⟩⟩
 have hid:(st.h++jD 1 VB.no)[st.h.length]?=some .no:=by rw[jX (jS _)];simp
 obtain⟨ρ',hR2,V,his⟩:=RS.applyApp' hR1 hid hR.bound (dst:=none) hE;have hh:((spend k (st.h++jD 1 VB.no)).set st.h.length (.sl .own len C e))=spend k st.h++[.sl .own len C e]:=by
  refine List.ext_getElem? λi=> ?_
  by_cases hi:i=st.h.length
  ·subst hi;rw[jP (by rw[bM];simp),jX (by rw[bM];exact jS _),bM];simp
  ·rw[jN (by omega)]
   by_cases b5:i<st.h.length
   ·rw[jL (by rw[bM];exact b5)]
    by_cases b7:k=some i
    ·subst b7;simp only[spend];rw[jP (by simp;omega),jP b5]
    ·rw[Zhd b7,Zhd b7,jL b5]
   ·rw[jK (by rw[bM];simp;omega),jK (by simp[bM];omega)]
 have ha:a.put none sl=a:=rfl;simp only[Uai,putS,ha,hh]at hR2 his;have Z:∀n,n<st.h.length->k≠some n->(spend k st.h++[VB.sl .own len C e])[n]?=st.h[n]?:=λn U J=>by
  rw[jL (by rw[bM];exact U),Zhd J]
 have hsp:∀n,k=some n->(spend k st.h++[VB.sl .own len C e])[n]?=some .sp:=λn J=>by
  have:=hk n J;rw[jL (by rw[bM];exact this),J];exact jP this
 have hle1:HLe st.h (spend k st.h++[VB.sl .own len C e]):=λn=>by
  by_cases U:n<st.h.length
  ·by_cases J:k=some n
   ·have h6:=h5 n J;refine⟨λC t k=> ?_,λy t k=> ?_,λ_ _ C _ k=>.inr ?_,λk=> ?_,λ_ _ _ _ k=> ?_⟩<;>rw[h6]at k<;>cases k
    exact⟨rfl,hsp n J⟩
   ·exact .same (Z n U J)
  ·exact .none (jK (by omega))
 have hgr:ρ' g=ρ g:=V g (by omega);obtain⟨b9,c7⟩:=hR2.rebox (g:=g) (T:=T) (y:=y) (y1:=f st.h.length) (by dsimp only;rw[Z g O hkg];exact hg) (hre _ _ _ his) (by
  rw[hgr,hoc];exact hc)
 have hset:(spend k st.h++[VB.sl .own len C e]).set g (.one (f st.h.length) T)=(spend k st.h).set g (.one (f st.h.length) T)++[VB.sl .own len C e]:=by rw[List.set_append_left _ _ (by rw[bM];exact O)]
 dsimp only at b9 c7;rw[hset]at b9 c7;have hgl:((spend k st.h).set g (VB.one (f st.h.length) T)++[VB.sl .own len C e])[g]?=some (.one (f st.h.length) T):=by rw[jL (by simp[bM];exact O),jP (by rw[bM];exact O)]
 have hne:∀n,n<st.h.length->n≠g->((spend k st.h).set g (VB.one (f st.h.length) T)++[VB.sl .own len C e])[n]?=(spend k st.h)[n]?:=λn U hng=>by
  rw[jL (by simp[bM];exact U),jN (by omega)]
 refine⟨ρ',T,len,C,f st.h.length,b9,rfl,by simp[bM],hle1.trans c7,hgl,hbR _,O,by rw[jX (by simp[bM])];simp[bM],jA1 ..,λn U c8=> ?_,λn U hng=> ?_,λn U=>jW _ (jM _ U),λn U=>V n (by omega)⟩
 ·simp only[jJ,jI,not_or]at c8;dsimp only;rw[hne n U c8.1,Zhd λJ=>c8.2.1 (by rw[J];simp)]
 ·dsimp only;rw[hne n U hng]
  by_cases J:k=some n
  ·subst J;exact .inr (jP U)
  ·exact .inl (Zhd J)
theorem Ah{q:QA->QA->Bool}(hq:∀a b,q a b=true ↔ a=b){y1:SA}{m g:Nat}(hy:BoxR m m y1 y1){e:QE}{h:List VB}{b:VB}(hb:la q y1 m g e h=some b):∃n T len C y',h[g]?=some (.one y' T)/\BoxR m n y1 y'/\h[n]?=some (.sl .own len C e)/\m<=n/\b=.sl .own len C e:=by
 unfold la at hb;split at hb
 case h_2=>cases hb
 rename_i y T hg;split at hb
 case h_2=>cases hb
 rename_i n ok hs;cases ok with
 |false=>cases hb
 |true=>
 simp only[Q1]at hb;split at hb
 case h_2=>cases hb
 rename_i len C e' hn;cases hok:jA e e'&&Nat.ble m n with
 |false=>rw[hok]at hb;cases hb
 | true=>
  rw[hok]at hb;simp only[Q7]at hok;obtain rfl:=jQ hok.1;cases hb;refine⟨n,T,len,C,y,hg,?_,hn,Nat.le_of_ble_eq_true hok.2,rfl⟩;cases hy with
  | l=>
   unfold aO at hs;split at hs
   ·rename_i h1;cases h1;cases hs;exact .l
   ·rename_i h1;cases h1
   ·cases hs
  | r D T o=>
   unfold aO at hs;split at hs
   ·rename_i h1;cases h1
   ·rename_i D0 T0 o0 _ D' T' o' n' h1;cases h1;cases hc:jA T T'&&jA o o' with
    |false=>rw[hc]at hs;cases hs
    |true=>rw[hc]at hs;simp only[Q1,Q8,Q0]at hs;simp only[Q7]at hc;obtain rfl:=jQ hc.1;obtain rfl:=jQ hc.2;obtain⟨rfl,h2⟩:=hs;obtain rfl:=(hq _ _).1 h2;exact .r _ _ _
   ·cases hs
theorem Ld{W cs bs:List Nat}{g:Nat}{y1 y':SA}{e T:QE}{st st1 st':St}{s:List SV×List VB}{ρ ρ':Nat->Ad}{a a':Act}{w w':QB}(hs1:st1.s=st.s)(hl1:st1.h.length=st.h.length+1)(hg1:st1.h[g]?=some (.one y1 T))(hgl:g<st.h.length)(hgb:g ∉ bs)(hbs:∀b∈bs,b<st.h.length)
  (hlow:∀(i:Nat) (u:SV),st.s[i]?=some u->Ua3 st.h.length u=true) (hlowB:∀(k:Nat) (b:VB),k<st.h.length->k≠g->st1.h[k]?=some b->Uas st.h.length b=true) (hn0:n0<=st.h.length)
  (hR:RS E P W0 n0 D ρ0 ρ (head W cs (bs++[st.h.length]) st1 s) a w) (hR':RS E P W0 n0 D ρ0 ρ' st' a' w') (hgD:g∈D)
  (hE:Ext W (head W cs (bs++[st.h.length]) st1 s).h.length ρ ρ' (head W cs (bs++[st.h.length]) st1 s) st') (hhl:HLe st.h (head W cs (bs++[st.h.length]) st1 s).h)
  {n len:Nat} {T':QE} {C:QA} (hg:st'.h[g]?=some (.one y' T')) (hbR:BoxR st.h.length n y1 y') (hown:st'.h[n]?=some (.sl .own len C e)) (hmn:st.h.length<=n)
  (hd:Uav st.h.length (g::bs) st'.d=true) (hrs:(getS st'.s cs).all (Ua3 st.h.length)=true) (hrh:(getH st'.h bs).all (Uas st.h.length)=true) :
  RS E P W0 n0 D ρ0 (λk=>if k=st.h.length then ρ' n else ρ' k) (head W cs (bs++[st.h.length]) st1 (getS st'.s cs,getH st'.h bs++[.sl .own len C e])) a' w' /\
   HLe st.h (head W cs (bs++[st.h.length]) st1 (getS st'.s cs,getH st'.h bs++[.sl .own len C e])).h:=by
 generalize hm:st.h.length=m at *;have hlen:(head W cs (bs++[m]) st1 s).h.length=m+1:=by rw[<- hl1];exact bJ _ _ _
 have hslen:(head W cs (bs++[m]) st1 s).s.length=st.s.length:=by simp only[head];rw[bJ,ci,hs1]
 generalize hs2:(getS st'.s cs,getH st'.h bs++[VB.sl .own len C e])=s2;have hs2h:s2.2=(bs++[m]).map λk=>if k=m then VB.sl .own len C e else st'.h.getD k .no:=by
  rw[<- hs2];simp only[List.map_append,jT,List.map_nil,if_true,Zoh];congr 1;refine jB1 λb hb=> ?_
  rw[if_neg (by have:=hbs b hb;omega)]
 have hs2s:s2.1=cs.map λc=>st'.s.getD c (.a .x):=by rw[<- hs2];exact Zw4 _ _
 have hlen2:(head W cs (bs++[m]) st1 s2).h.length=m+1:=by rw[<- hl1];exact bJ _ _ _
 have hgm:g ∉ bs++[m]:=λh=>by rcases jI.1 h with h|h;exact hgb h;simp at h;omega
 have hh:∀k,k<m->k≠g->(head W cs (bs++[m]) st1 s2).h[k]?=st'.h[k]?:=λk hk hkg=>by
  have hk':k<st'.h.length:=by have:=hE.hlen;omega
  simp only[head];rw[cy _ _ _ k hs2h]
  by_cases hb:k∈bs
  ·rw[if_pos ⟨jO _ hb,by omega⟩,if_neg (by omega),jH,jG hk'];rfl
  ·have hb1:k ∉ bs++[m]:=λh=>by rcases jI.1 h with h|h;exact hb h;simp at h;omega
   rw[if_neg (λh=>hb1 h.1)];have hnd:k ∉ st'.d:=λhkd=>by
    rcases jJ.1 (Zex hd k hkd hk) with h|h
    ·exact hkg h
    ·exact hb h
   rw[hE.heap k (by omega) hnd];simp only[head];rw[bD _ _ _ hb1]
 have hhg:(head W cs (bs++[m]) st1 s2).h[g]?=some (.one y1 T):=by simp only[head];rw[bD _ _ _ hgm];exact hg1
 have hhg0:(head W cs (bs++[m]) st1 s).h[g]?=some (.one y1 T):=by simp only[head];rw[bD _ _ _ hgm];exact hg1
 obtain rfl:T'=T:=by obtain⟨y',e'⟩:=(hE.hle g).one _ _ hhg0;rw[hg]at e';cases e';rfl
 have hhm:(head W cs (bs++[m]) st1 s2).h[m]?=some (.sl .own len C e):=by simp only[head];rw[cy _ _ _ m hs2h,if_pos ⟨jM _ (by simp),by omega⟩,if_pos rfl]
 have inlen:∀{k:Nat} {b:VB},(head W cs (bs++[m]) st1 s2).h[k]?=some b->k<m+1:=λ{k b} h=>by rw[<- hlen2];exact(jB.1 h).1
 have hφ:∀{k:Nat},k<m+1->k≠g->(head W cs (bs++[m]) st1 s2).h[k]?=st'.h[if k=m then n else k]?:=λ{k} hk hkg=>by
  by_cases e:k=m
  ·rw[if_pos e,e,hhm,hown]
  ·rw[if_neg e,hh k (by omega) hkg]
 have hρ:∀k,(if k=m then ρ' n else ρ' k)=ρ' (if k=m then n else k):=λk=>by by_cases e:k=m<;>simp[e]
 have hρlt:∀k,k<m->(if k=m then ρ' n else ρ' k)=ρ' k:=λk hk=>if_neg (by omega)
 have pres:∀k,present (head W cs (bs++[m]) st1 s2).h k->present st'.h (if k=m then n else k):=λk hp=>by
  by_cases hkg:k=g
  ·subst hkg;rw[if_neg (by omega)];exact .one hg
  ·cases hp with|row e=>exact .row (by rw[<- hφ (inlen e) hkg];exact e)|one e=>exact .one (by rw[<- hφ (inlen e) hkg];exact e)|own e hk h0=>exact .own (by rw[<- hφ (inlen e) hkg];exact e) hk h0
 have hgn:∀{v:QC},Is P ρ' st'.h (.l n) v->Is P (λk=>if k=m then ρ' n else ρ' k) (head W cs (bs++[m]) st1 s2).h (.l m) v:=λ{v} hi=>by
  obtain⟨ad,cap,h1,h2,h3⟩:=Is.l_of hi hown;refine .inr ⟨.own,len,C,e,ad,cap,hhm,h1,λh0=> ?_,λ_=>⟨(h3 rfl).1,λh0=> ?_⟩⟩
  ·simp only[adOf,if_true];exact h2 h0
  ·simp only[if_true];exact(h3 rfl).2 h0
 -- what looks at nothing new is as it was, but for the box
 let h3:List VB:=(head W cs (bs++[m]) st1 s2).h
 have hle3:HLe (st'.h.take m) (head W cs (bs++[m]) st1 s2).h:=λk=>by
  by_cases hkm:k<m
  ·by_cases hkg:k=g
   ·subst hkg;refine⟨λC t e=> ?_,λy t e=> ?_,λa len C t e=> ?_,λe=> ?_,λg t a x e=> ?_⟩<;>rw[jF,if_pos hkm,hg]at e<;>cases e
    exact⟨_,hhg⟩
   ·exact .same (by rw[hh k hkm hkg,jF,if_pos hkm])
  ·exact .none (by rw[jF,if_neg hkm])
 have hcutV:∀{y:SV} {v:QC},IsV P ρ' st'.h y v->Ua3 m y=true->IsV P (λk=>if k=m then ρ' n else ρ' k) (head W cs (bs++[m]) st1 s2).h y v:=λ{y v} hi hr=>
  (hi.cut (h:=st'.h.take m) (λq hq=>by rw[jF,if_pos hq]) hr).mono hle3 λq hp=>hρlt q (by have:=hp.lt;rw[jU]at this;omega)
 have hcutB:∀{ww:QB} {gg:Ad} {b:VB},BIs P ρ' st'.h ww gg b->Uas m b=true->BIs P (λk=>if k=m then ρ' n else ρ' k) (head W cs (bs++[m]) st1 s2).h ww gg b:=λ{ww gg b} hi hr=>
  (hi.cut (h:=st'.h.take m) (λq hq=>by rw[jF,if_pos hq]) hr).mono hle3 λq hp=>hρlt q (by have:=hp.lt;rw[jU]at this;omega)
 refine⟨⟨?_,λi v hv=> ?_,⟨λk b hb=> ?_,λk q hp hq he=> ?_,λk b x h1 h2 q hp=> ?_⟩,λk hk=> ?_,λk hk hp=> ?_,?_,λk len C e hk he=> ?_,hR'.defers,?_⟩,?_⟩
 ·simp only[head];rw[bJ,ci,hs1,<- hR'.len,hE.len,hslen]
 ·simp only[head]at hv;rw[cy _ _ _ i hs2s]at hv;have hilt:i<st1.s.length:=by
   by_cases h:i<st1.s.length
   ·exact h
   ·exfalso;rw[if_neg (λhc=>h (by have:=hc.2;rwa [ci]at this)),jK (by rw[ci];omega)]at hv;cases hv
  have hi':i<st'.s.length:=by rw[hE.len,hslen,<- hs1];omega
  by_cases hc:i∈cs
  ·rw[if_pos ⟨hc,by rw[ci];exact hilt⟩]at hv;simp only[Q8]at hv;have hmem:=wg (s:=st'.s) hc;rw[hv]at hmem;rw[jE]at hrs;have hs':st'.s[i]?=some v:=by
    rw[jH,jG hi']at hv;rw[jG hi'];exact congrArg some hv
   exact hcutV (hR'.slots i v hs') (hrs v hmem)
  ·rw [if_neg (fun h=>hc h.1),fe,jR] at hv;cases hu:st1.s[i]? with
   |none=>rw[hu]at hv;cases hv
   | some u=>
    rw[hu]at hv;simp only[jV,Q8]at hv;cases he:Uan i W with
    |true=>rw[he]at hv;simp only[Q1]at hv;rw[<- hv];trivial
    | false=>
     rw[he]at hv;simp only[Q2]at hv;subst hv;have hnW:i ∉ W:=λh=>by rw[cm.2 h]at he;cases he
     have h1:(head W cs (bs++[m]) st1 s).s[i]?=some u:=by simp only[head];rw[bD _ _ _ hc,fe,jR,hu,he];rfl
     have h2:=hE.slots i hnW;rw[h1]at h2;exact hcutV (hR'.slots i u h2) (hlow i u (by rw[<- hs1];exact hu))
 ·have hk:=inlen hb
  by_cases hkg:k=g
  ·subst hkg;rw[hhg]at hb;cases hb;obtain⟨v,hv,hc⟩:=hR'.heap.is _ _ hg;have e1:(if k=m then ρ' n else ρ' k)=ρ' k:=if_neg (by omega);rw[e1];exact⟨v,hbR.is (λ_=>hgn) hv,by rw[hbR.oneC];exact hc⟩
  ·rw [hρ k];rw[hφ hk hkg]at hb;have hi:=hR'.heap.is _ b hb
   by_cases hkm:k=m
   ·subst hkm;simp only[if_true]at hb hi|-
    rw[hown]at hb;cases hb;exact hi
   ·rw[if_neg hkm]at hb hi|-
    refine hcutB hi ?_
    by_cases hbs':k∈bs
    ·have hmem:=od (h:=st'.h) hbs';rw[jE]at hrh;rw[jH,hb]at hmem;exact hrh b hmem
    ·have hnd:k ∉ st'.d:=λhkd=>by
      rcases jJ.1 (Zex hd k hkd (by omega)) with h|h
      ·exact hkg h
      ·exact hbs' h
     rw[hE.heap k (by omega) hnd]at hb;simp only[head]at hb;rw[bD _ _ _ (λh=>by rcases jI.1 h with h|h;exact hbs' h;simp at h;omega)]at hb;exact hlowB k b (by omega) hkg hb
 ·rw[hρ k,hρ q]at he;have:=hR'.heap.inj _ _ (pres k hp) (pres q hq) he;have hk:=hp.lt;have hq':=hq.lt
  by_cases e1:k=m
  ·by_cases e2:q=m
   ·omega
   ·rw[if_pos e1,if_neg e2]at this;omega
  ·by_cases e2:q=m
   ·rw[if_neg e1,if_pos e2]at this;omega
   ·rw[if_neg e1,if_neg e2]at this;exact this
 ·have hkg:k≠g:=λe=>by subst e;rw[hhg]at h1;cases h1;exact h2
  rw[hρ q];exact hR'.heap.far (if k=m then n else k) b x (by rw[<- hφ (inlen h1) hkg];exact h1) h2 _ (pres q hp)
 ·show (if k=m then ρ' n else ρ' k)=ρ0 k
  rw[if_neg (by omega)];exact hR'.base k hk
 ·show W0.heap.size<=(if k=m then ρ' n else ρ' k).a\/∃q∈E,q<n0/\(ρ0 q).a=(if k=m then ρ' n else ρ' k).a
  rw[hρ k];refine hR'.fresh _ ?_ (pres k hp);split<;>omega
 ·refine hR'.kept.mono λk _ ⟨q,h1,h2,h3⟩=>⟨q,h1,?_,h3⟩
  rcases h2 with h2|h2
  ·rcases jJ.1 (Zex hd q h2 (by omega)) with h|h
   ·exact .inr (.inl (h ▸ hgD))
   ·exact .inl (jO _ h)
  ·exact .inr h2
 ·have hkg:k≠g:=λe=>by subst e;rw[hhg]at he;cases he
  rw[hφ (inlen he) hkg,if_neg (by omega)]at he;exact hR'.own0 k len C e hk he
 ·rw[hlen2];omega
 ·intro k;have key:=(hhl.trans hE.hle) k
  by_cases hk:k<m
  ·by_cases hkg:k=g
   ·subst hkg;refine⟨λC t h=> ?_,λy t h=> ?_,λa len C t h=> ?_,λh=> ?_,λ_ _ _ _ h=> ?_⟩
    ·obtain⟨C',h'⟩:=key.row C t h;rw[hg]at h';cases h'
    ·obtain⟨y',h'⟩:=key.one y t h;rw[hg]at h';cases h';exact⟨_,hhg⟩
    ·rcases key.sl a len C t h with ⟨C',h'⟩ | ⟨_,h'⟩<;>rw[hg]at h'<;>cases h'
    ·have h':=key.sp h;rw[hg]at h';cases h'
    ·have h':=key.gl _ _ _ _ h;rw[hg]at h';cases h'
   ·have e:=hh k hk hkg;refine⟨λC t h=>let ⟨C',h'⟩:=key.row C t h;⟨C',by rw[e];exact h'⟩,λy t h=>let ⟨C',h'⟩:=key.one y t h;⟨C',by rw[e];exact h'⟩,λa len C t h=>(key.sl a len C t h).imp (λ⟨C',h'⟩=>⟨C',by rw[e];exact h'⟩) λ⟨q1,q2⟩=>⟨q1,by rw[e];exact q2⟩,λh=>by rw[e];exact key.sp h,λ_ _ _ _ h=>by rw[e];exact key.gl _ _ _ _ h⟩
  ·exact .none (jK (by omega))
theorem Le{W cs bs:List Nat}{st A:St}{s:LS}{ρs ρ':Nat->Ad}{a':Act}{w':QB}(L:A.s=st.s)(U:A.h.length=st.h.length+1)(V:∀n∈st.d,n∈A.d)(Z:∀n,n<st.h.length->n ∉ A.d->A.h[n]?=st.h[n]?)
  (b5:∀c∈cs,c∈W) (J:RS E P W0 n0 (A.d++D) ρ0 ρ' (head W cs (bs++[st.h.length]) A s) a' w')
  (b7:HLe st.h (head W cs (bs++[st.h.length]) A s).h) (O:∀k,k<st.h.length->ρ' k=ρs k) :
  RS E P W0 n0 D ρ0 ρ' (left W cs (bs++[st.h.length]) A s) a' w'/\Ext W st.h.length ρs ρ' st (left W cs (bs++[st.h.length]) A s):=by
 refine⟨⟨J.len,J.slots,J.heap,J.base,J.fresh,J.kept.mono λk _ ⟨m,h1,h2,h3⟩=>⟨m,h1,?_,h3⟩,J.own0,J.defers,J.bound⟩,⟨λi hi=> ?_,?_,λm hm hd=> ?_,λm hm=>jM _ (V m hm),?_,b7,O⟩⟩
 ·simp only[head,left,jI]at h2|-
  rcases h2 with h2 | (h2|h2)|h2
  ·exact .inl (.inl h2)
  ·exact .inl (.inr h2)
  ·exact .inr (.inl h2)
  ·exact .inr (.inr h2)
 ·have hc:i ∉ cs:=λhc=>hi (b5 i hc)
  simp only[left];rw[bD _ _ _ hc,fe,jR];have:Uan i W=false:=by cases h:Uan i W with|false=>rfl|true=>exact absurd (cm.1 h) hi
  rw[this,L];cases st.s[i]?<;>rfl
 ·simp only[left];rw[bJ,ci,L]
 ·simp only[left]at hd|-
  rw[bD _ _ _ λhb=>hd (jO _ hb)];exact Z m hm λh=>hd (jM _ h)
 ·simp only[left];rw[bJ,U];omega
theorem RS.reown{ρ:Nat->Ad}{st:St}{a:Act}{w:QB}(A:RS E P W0 n0 D ρ0 ρ st a w){m:Nat}{C:QA}{e:QE}(O:st.h[m]?=some (.sl .own 0 C e))(hn:n0<=m)(x:Ad):RS E P W0 n0 D ρ0 (λk=>if k=m then x else ρ k) st a w:=by
 have L:∀n,present st.h n->n≠m:=λn J U=>by
  subst U;cases J with
  |row e=>rw[O]at e;cases e
  |one e=>rw[O]at e;cases e
  |own e _ h0=>rw[O]at e;cases e;exact h0 rfl
 have hr:∀n,present st.h n->(λk=>if k=m then x else ρ k) n=ρ n:=λn J=>if_neg (L n J)
 refine⟨A.len,λi v hv=>(A.slots i v hv).mono (HLe.refl _) hr,⟨λn b V=> ?_,λn q J hq Z=> ?_,λn b k h1 h2 q J=> ?_⟩,λn h=> ?_,λn h J=> ?_,A.kept,A.own0,A.defers,A.bound⟩
 ·by_cases U:n=m
  ·subst U;rw[O]at V;cases V;have:=A.heap.is _ _ O;exact⟨⟨this.1.1,this.1.2.1,this.1.2.2.1,.inl rfl⟩,λ_ h=>absurd rfl h⟩
  ·show BIs P _ st.h w (if n=m then x else ρ n) b
   rw[if_neg U];exact(A.heap.is n b V).mono (HLe.refl _) hr
 ·try dsimp only at Z
  rw[if_neg (L n J),if_neg (L q hq)]at Z;exact A.heap.inj n q J hq Z
 ·try dsimp only
  rw[if_neg (L q J)];exact A.heap.far n b k h1 h2 q J
 ·try dsimp only
  rw[if_neg (by omega)];exact A.base n h
 ·try dsimp only
  rw[if_neg (L n J)];exact A.fresh n h J
theorem Lf{bs ws E':List Nat}{g m n len U:Nat}{y1 y':SA}{e T T2:QE}{C C2:QA}{h0:List VB}{st st2:St}{hb:BS}{ρ1 ρ2:Nat->Ad}{a a2:Act}{s1:List SV}{W W2:QB}(hl0:h0.length=m)(hl1:st.h.length=m+1)(hg1:st.h[g]?=some (.one y1 T))(hgl:g<m)(hgd:g∈st.d)(hbs:∀b∈bs,(∃C t,st.h[b]?=some (.row C t))/\b<m)
  (hlow:∀(i:Nat) (u:SV),st.s[i]?=some u->Ua3 m u=true) (hno:∀(k len:Nat) (C:QA) (e:QE),k<m->st.h[k]?≠some (.sl .own len C e)) (hn0:n0<=m)
  (hlowB:∀(k:Nat) (b:VB),k<m->k≠g->st.h[k]?=some b->Uas m b=true)
  (hown1:(setMany st.h (bs++[m]) hb)[m]?=some (.sl .own len C e)) (hhl:HLe h0 (setMany st.h (bs++[m]) hb)) (hhl1:∀k,k<m->HLeN st.h (setMany st.h (bs++[m]) hb) k)
  (hR:RS E P W0 n0 (st.d++D) ρ0 ρ1 { s:=st.s,h:=setMany st.h (bs++[m]) hb,d:=bs++[m] } a W) (hz:len=0->W.heap.size<=(ρ1 m).a) (hE':∀q∈E',q=m/\len≠0)
  (hR2:RS E' P W (m+1) [] ρ1 ρ2 st2 a2 W2) (hE:Ext ws (m+1) ρ1 ρ2 { s:=s1,h:=setMany st.h (bs++[m]) hb,d:=[] } st2)
  (hg:st2.h[g]?=some (.one y' T2)) (hbR:BoxR m n y1 y') (b5:st2.h[n]?=some (.sl .own U C2 e)) (hmn:m<=n)
  (hd:Uav m (g::bs) st2.d=true) (hrh:(getH st2.h bs).all (Uas m)=true) :
  RS E P W0 n0 (st.d++D) ρ0 (λk=>if k=m then ρ2 n else ρ2 k) { s:=st.s,h:=setMany st.h (bs++[m]) (getH st2.h bs++[.sl .own U C2 e]),d:=bs++[m] } a W2 /\
   HLe h0 (setMany st.h (bs++[m]) (getH st2.h bs++[.sl .own U C2 e]))/\(∀k,k<m->HLeN st.h (setMany st.h (bs++[m]) (getH st2.h bs++[.sl .own U C2 e])) k)/\(setMany st.h (bs++[m]) (getH st2.h bs++[.sl .own U C2 e]))[m]?=some (.sl .own U C2 e)/\(∀k,k<m->ρ2 k=ρ1 k) /\
   (∀k,k<W.heap.size->(∀b∈g::bs,(ρ1 b).a≠k)->(len≠0->(ρ1 m).a≠k)->W2.heap[k]?=W.heap[k]?)/\W.heap.size<=W2.heap.size:=by
 generalize hH:setMany st.h (bs++[m]) hb=H at *;have hlen:H.length=m+1:=by rw[<- hH,bJ];exact hl1
 generalize hH2:setMany st.h (bs++[m]) (getH st2.h bs++[.sl .own U C2 e])=H2;have hs2h:getH st2.h bs++[VB.sl .own U C2 e]=(bs++[m]).map λk=>if k=m then VB.sl .own U C2 e else st2.h.getD k .no:=by
  simp only[List.map_append,jT,List.map_nil,if_true,Zoh];congr 1;refine jB1 λb hb=> ?_
  rw[if_neg (by have:=(hbs b hb).2;omega)]
 have hlen2:H2.length=m+1:=by rw[<- hH2,bJ];exact hl1
 have hgb:g ∉ bs:=λh=>by obtain⟨⟨V,t,A⟩,_⟩:=hbs g h;rw[hg1]at A;cases A
 have hgm:g ∉ bs++[m]:=λh=>by rcases jI.1 h with h|h;exact hgb h;simp at h;omega
 have hHk:∀k,k ∉ bs->k<m->H[k]?=st.h[k]?:=λk hk hlt=>by
  rw[<- hH,bD _ _ _ (λh=>by rcases jI.1 h with h|h;exact hk h;simp at h;omega)]
 have hH2k:∀k,k ∉ bs->k<m->H2[k]?=st.h[k]?:=λk hk hlt=>by
  rw[<- hH2,bD _ _ _ (λh=>by rcases jI.1 h with h|h;exact hk h;simp at h;omega)]
 have hhg:H2[g]?=some (.one y1 T):=by rw[hH2k g hgb hgl];exact hg1
 have hhg0:H[g]?=some (.one y1 T):=by rw[hHk g hgb hgl];exact hg1
 have hElen:=hE.hlen;dsimp only at hElen;have hEle:=hE.hle;dsimp only at hEle;obtain rfl:T2=T:=by obtain⟨y',A⟩:=(hEle g).one _ _ hhg0;rw[hg]at A;cases A;rfl
 have hdm:∀k,k<m->k∈st2.d->k∈g::bs:=λk hk h=>Zex hd k h hk
 have hh:∀k,k<m->k≠g->H2[k]?=st2.h[k]?:=λk hk L=>by
  have hk':k<st2.h.length:=by omega
  by_cases J:k∈bs
  ·rw[<- hH2,cy _ _ _ k hs2h,if_pos ⟨jO _ J,by omega⟩,if_neg (by omega),jH,jG hk'];rfl
  ·rw[hH2k k J hk];have hnd:k ∉ st2.d:=λhkd=>by
    rcases jJ.1 (hdm k hk hkd) with h|h
    ·exact L h
    ·exact J h
   rw[hE.heap k (by omega) hnd];dsimp only;rw[hHk k J hk]
 have hhm:H2[m]?=some (.sl .own U C2 e):=by rw[<- hH2,cy _ _ _ m hs2h,if_pos ⟨jM _ (by simp),by omega⟩,if_pos rfl]
 have inlen:∀{k:Nat} {b:VB},H2[k]?=some b->k<m+1:=λ{k b} h=>by rw[<- hlen2];exact(jB.1 h).1
 have hφ:∀{k:Nat},k<m+1->k≠g->H2[k]?=st2.h[if k=m then n else k]?:=λ{k} hk L=>by
  by_cases A:k=m
  ·rw[if_pos A,A,hhm,b5]
  ·rw[if_neg A,hh k (by omega) L]
 have hρ:∀k,(if k=m then ρ2 n else ρ2 k)=ρ2 (if k=m then n else k):=λk=>by by_cases A:k=m<;>simp[A]
 have hρlt:∀k,k<m->(if k=m then ρ2 n else ρ2 k)=ρ2 k:=λk hk=>if_neg (by omega)
 have ren:∀k,k<m+1->ρ2 k=ρ1 k:=λk hk=>hE.ren k hk
 have pres:∀k,present H2 k->present st2.h (if k=m then n else k):=λk Z=>by
  by_cases L:k=g
  ·subst L;rw[if_neg (by omega)];exact .one hg
  ·cases Z with|row A=>exact .row (by rw[<- hφ (inlen A) L];exact A)|one A=>exact .one (by rw[<- hφ (inlen A) L];exact A)|own A hk h0=>exact .own (by rw[<- hφ (inlen A) L];exact A) hk h0
 have hgn:∀{v:QC},Is P ρ2 st2.h (.l n) v->Is P (λk=>if k=m then ρ2 n else ρ2 k) H2 (.l m) v:=λ{v} hi=>by
  obtain⟨ad,cap,h1,h2,h3⟩:=Is.l_of hi b5;refine .inr ⟨.own,U,C2,e,ad,cap,hhm,h1,λh0=> ?_,λ_=>⟨(h3 rfl).1,λh0=> ?_⟩⟩
  ·simp only[adOf,if_true];exact h2 h0
  ·simp only[if_true];exact(h3 rfl).2 h0
 have prow:∀b∈bs,∃C t,H[b]?=some (.row C t):=λb J=>by
  obtain⟨⟨V,t,A⟩,hlt⟩:=hbs b J;obtain⟨C2',e2⟩:=(hhl1 b hlt).row V t A;exact⟨C2',t,e2⟩
 have hle3:HLe (st2.h.take m) H2:=λk=>by
  by_cases O:k<m
  ·by_cases L:k=g
   ·subst L;refine⟨λC t e=> ?_,λy t e=> ?_,λa len C t e=> ?_,λe=> ?_,λg t a x e=> ?_⟩<;>rw[jF,if_pos O,hg]at e<;>cases e
    exact⟨_,hhg⟩
   ·exact .same (by rw[hh k O L,jF,if_pos O])
  ·exact .none (by rw[jF,if_neg O])
 have hcutB:∀{ww:QB} {gg:Ad} {b:VB},BIs P ρ2 st2.h ww gg b->Uas m b=true->BIs P (λk=>if k=m then ρ2 n else ρ2 k) H2 ww gg b:=λ{ww gg b} hi hr=>
  (hi.cut (h:=st2.h.take m) (λq hq=>by rw[jF,if_pos hq]) hr).mono hle3 λq Z=>hρlt q (by have:=Z.lt;rw[jU]at this;omega)
 -- the same from the round's head
 have hle1:∀k,k<m->HLeN H H2 k:=λk hk=>by
  by_cases L:k=g
  ·subst L;exact .same (by rw[hhg,hhg0])
  ·have key:=hEle k;have A:=hh k hk L;exact⟨λC t h=>let ⟨V,h'⟩:=key.row C t h;⟨V,by rw[A];exact h'⟩,λy t h=>let ⟨V,h'⟩:=key.one y t h;⟨V,by rw[A];exact h'⟩,λa len C t h=>(key.sl a len C t h).imp (λ⟨V,h'⟩=>⟨V,by rw[A];exact h'⟩) λ⟨q1,q2⟩=>⟨q1,by rw[A];exact q2⟩,λh=>by rw[A];exact key.sp h,λ_ _ _ _ h=>by rw[A];exact key.gl _ _ _ _ h⟩
 have hleT:HLe (H.take m) H2:=λk=>by
  by_cases O:k<m
  ·have key:=hle1 k O;have A:(H.take m)[k]?=H[k]?:=by rw[jF,if_pos O]
   exact⟨λC t h=>key.row C t (by rw[<- A];exact h),λy t h=>key.one y t (by rw[<- A];exact h),λa len C t h=>key.sl a len C t (by rw[<- A];exact h),λh=>key.sp (by rw[<- A];exact h),λ_ _ _ _ h=>key.gl _ _ _ _ (by rw[<- A];exact h)⟩
  ·exact .none (by rw[jF,if_neg O])
 have hcutV:∀{y:SV} {v:QC},IsV P ρ1 H y v->Ua3 m y=true->IsV P (λk=>if k=m then ρ2 n else ρ2 k) H2 y v:=λ{y v} hi hr=>
  (hi.cut (h:=H.take m) (λq hq=>by rw[jF,if_pos hq]) hr).mono hleT λq Z=>(hρlt q (by have:=Z.lt;rw[jU]at this;omega)).trans (ren q (by have:=Z.lt;rw[jU]at this;omega))
 have pback:∀k,k<m->present H2 k->present H k:=λk hk Z=>by
  by_cases hkb:k∈bs
  ·obtain⟨V,t,A⟩:=prow k hkb;exact .row A
  ·have e2:=(hH2k k hkb hk).trans (hHk k hkb hk).symm;cases Z with|row A=>exact .row (by rw[<- e2];exact A)|one A=>exact .one (by rw[<- e2];exact A)|own A hk h0=>exact .own (by rw[<- e2];exact A) hk h0
 have pm:len≠0->present H m:=λh0=>.own hown1 rfl h0
 have hcellsB:∀b∈g::bs,∃C t,W.heap[(ρ1 b).a]?=some (.cells C t (0,0)):=λb J=>by
  rcases jJ.1 J with rfl|J
  ·obtain⟨v,_,h2⟩:=hR.heap.is _ _ hhg0;exact⟨_,_,h2⟩
  ·obtain⟨V,t,A⟩:=prow b J;exact⟨V,t,(hR.heap.is b _ A).1⟩
 have hcellM:len≠0->∃C t,W.heap[(ρ1 m).a]?=some (.cells C t (0,0)):=λh0=>by
  obtain⟨_,V,h2,_⟩:=(hR.heap.is m _ hown1).2 rfl h0;exact⟨_,_,h2⟩
 have hk2:Kept (λk=>(∃b∈g::bs,(ρ1 b).a=k)\/(len≠0/\(ρ1 m).a=k)) W W2:=hR2.kept.mono λk hk ⟨q,h1,h2,h3⟩=>by
  by_cases hqm:q=m
  ·subst hqm
   by_cases h0:len=0
   ·exfalso;have:=hz h0;omega
   ·exact .inr ⟨h0,h3⟩
  ·rcases h2 with h2|h2|h2
   ·exact .inl ⟨q,hdm q (by omega) h2,h3⟩
   ·cases h2
   ·exact absurd (hE' q h2).1 hqm
 have hsz:=hR.kept.size;have freshM:len≠0->W0.heap.size<=(ρ1 m).a\/∃q∈E,q<n0/\(ρ0 q).a=(ρ1 m).a:=λh0=>hR.fresh m hn0 (pm h0)
 refine⟨⟨hR.len,λi v hv=>hcutV (hR.slots i v hv) (hlow i v hv),⟨λk b J=> ?_,λk q Z hq he=> ?_,λk b x h1 h2 q Z=> ?_⟩,λk hk=> ?_,λk hk Z=> ?_,?_,λk len C e hk he=> ?_,?_,by dsimp only;rw[hlen2];omega⟩,λk=> ?_,λk hk=> ?_,hhm,λk hk=>ren k (by omega),λk hk h1 h2=> ?_,hR2.kept.size⟩
 ·dsimp only at J|-
  have hk:=inlen J
  by_cases L:k=g
  ·subst L;rw[hhg]at J;cases J;obtain⟨v,hv,hc⟩:=hR2.heap.is _ _ hg;rw[if_neg (by omega)];exact⟨v,hbR.is (λ_=>hgn) hv,by rw[hbR.oneC];exact hc⟩
  ·rw[hρ k];have hb2:=J;rw[hφ hk L]at hb2;have hi:=hR2.heap.is _ b hb2
   by_cases O:k=m
   ·subst O;simp only[if_true]at hb2 hi|-
    rw[b5]at hb2;cases hb2;exact hi
   ·rw[if_neg O]at hb2 hi|-
    refine hcutB hi ?_
    by_cases hbs':k∈bs
    ·have hmem:=od (h:=st2.h) hbs';rw[jE]at hrh;rw[jH,hb2]at hmem;exact hrh b hmem
    ·rw[hH2k k hbs' (by omega)]at J;exact hlowB k b (by omega) L J
 ·try dsimp only at he
  rw[hρ k,hρ q]at he;have:=hR2.heap.inj _ _ (pres k Z) (pres q hq) he;have hk:=Z.lt;have hq':=hq.lt
  by_cases e1:k=m
  ·by_cases e2:q=m
   ·omega
   ·rw[if_pos e1,if_neg e2]at this;dsimp only at hq';omega
  ·by_cases e2:q=m
   ·rw[if_neg e1,if_pos e2]at this;dsimp only at hk;omega
   ·rw[if_neg e1,if_neg e2]at this;exact this
 ·dsimp only at h1 Z|-
  have L:k≠g:=λA=>by subst A;rw[hhg]at h1;cases h1;exact h2
  rw[hρ q];exact hR2.heap.far (if k=m then n else k) b x (by rw[<- hφ (inlen h1) L];exact h1) h2 _ (pres q Z)
 ·try dsimp only
  rw[if_neg (by omega),ren k (by omega)];exact hR.base k hk
 ·dsimp only at Z|-
  by_cases O:k=m
  ·subst O;rw[if_pos rfl];have h20:U≠0:=by
    cases Z with
    |row A=>rw[hhm]at A;cases A
    |one A=>rw[hhm]at A;cases A
    |own A _ h0=>rw[hhm]at A;cases A;exact h0
   by_cases hnm:n=k
   ·subst hnm;have h0:len≠0:=by
     rcases(hEle n).sl _ _ _ _ hown1 with ⟨V,h'⟩ | ⟨_,h'⟩
     ·rw[b5]at h';cases h';exact h20
     ·rw[b5]at h';cases h'
    rw[ren n (by omega)];exact freshM h0
   ·rcases hR2.fresh n (by omega) (.own b5 rfl h20) with h | ⟨q,q1,q2,q3⟩
    ·exact .inl (Nat.le_trans hsz h)
    ·obtain⟨rfl,h0⟩:=hE' q q1;rw[<- q3];exact freshM h0
  ·have hkm':k<m:=by have:=Z.lt;omega
   rw[if_neg O,ren k (by omega)];exact hR.fresh k hk (pback k hkm' Z)
 ·refine⟨hk2.os.trans hR.kept.os,hk2.tape.trans hR.kept.tape,hk2.output.trans hR.kept.output,Nat.le_trans hR.kept.size hk2.size,λk hk hne=> ?_⟩;rw[hk2.block k (Nat.lt_of_lt_of_le hk hR.kept.size) λhe=> ?_]
  ·exact hR.kept.block k hk hne
  ·have viaF:∀q,n0<=q->present H q->(ρ1 q).a=k->False:=λq hq Z A=>by
    rcases hR.fresh q hq Z with h | ⟨q',h1,h2,h3⟩
    ·omega
    ·exact hne ⟨q',h2,.inr (.inr h1),h3.trans A⟩
   rcases he with ⟨b,J,A⟩ | ⟨h0,A⟩
   ·by_cases hb0:b<n0
    ·refine hne ⟨b,hb0,?_,by rw[<- hR.base b hb0];exact A⟩;rcases jJ.1 J with rfl|J
     ·exact .inr (.inl (jO _ hgd))
     ·exact .inl (jO _ J)
    ·refine viaF b (by omega) ?_ A;rcases jJ.1 J with rfl|J
     ·exact .one hhg0
     ·obtain⟨V,t,A⟩:=prow b J;exact .row A
   ·exact viaF m hn0 (pm h0) A
 ·exfalso;dsimp only at he;have O:k<m:=by omega
  by_cases L:k=g
  ·subst L;rw[hhg]at he;cases he
  ·by_cases hkb:k∈bs
   ·obtain⟨V,t,e1⟩:=prow k hkb;obtain⟨C2',e2⟩:=(hle1 k O).row _ _ e1;rw[e2]at he;cases he
   ·rw[hH2k k hkb O]at he;exact hno k _ _ _ O he
 ·refine hR.defers.kept hk2 λk he=> ?_
  rcases he with ⟨b,J,A⟩ | ⟨h0,A⟩
  ·obtain⟨V,t,h⟩:=hcellsB b J;rw[<- A];exact⟨_,_,_,h⟩
  ·obtain⟨V,t,h⟩:=hcellM h0;rw[<- A];exact⟨_,_,_,h⟩
 ·by_cases O:k<m
  ·have a1:=hhl k;have a2:=hle1 k O;exact⟨λC t h=>let ⟨V,h'⟩:=a1.row C t h;a2.row V t h',λy t h=>let ⟨V,h'⟩:=a1.one y t h;a2.one V t h',λa len C t h=>by
    rcases a1.sl a len C t h with ⟨V,h'⟩ | ⟨q,h'⟩
    ·exact a2.sl a len V t h'
    ·exact .inr ⟨q,a2.sp h'⟩,λh=>a2.sp (a1.sp h),λ_ _ _ _ h=>a2.gl _ _ _ _ (a1.gl _ _ _ _ h)⟩
  ·exact .none (jK (by omega))
 ·have a1:=hhl1 k hk;have a2:=hle1 k hk;exact⟨λC t h=>let ⟨V,h'⟩:=a1.row C t h;a2.row V t h',λy t h=>let ⟨V,h'⟩:=a1.one y t h;a2.one V t h',λa len C t h=>by
   rcases a1.sl a len C t h with ⟨V,h'⟩ | ⟨q,h'⟩
   ·exact a2.sl a len V t h'
   ·exact .inr ⟨q,a2.sp h'⟩,λh=>a2.sp (a1.sp h),λ_ _ _ _ h=>a2.gl _ _ _ _ (a1.gl _ _ _ _ h)⟩
 ·exact hk2.block k hk λhe=>by
   rcases he with ⟨b,J,A⟩ | ⟨h0,A⟩
   ·exact h1 b J A
   ·exact h2 h0 A
end
end
section
def qb(P:QD)(st:St):ResultVar->Option SA
 |.tmp t=>some (asA (st.s.getD t (.a .x)))
 | .cell t T=>(match asA (st.s.getD t (.a .x)) with
  |.w m=>(match st.h[m]? with
   |some (.row C t')=>pK P T C t'
   |some (.one r t)=>cK P T t r
   |_=>none)
  |_=>none)
def ip(P:QD)(st:St):List ResultVar->Option (List SA)
 |[]=>some []
 |r::l=>(match qb P st r,ip P st l with
  |some y,some m=>some (y::m)
  |_,_=>none)
def pack:List SA->SV
 |[y]=>.a y
 |l=>.t l
def oe(n0:Nat):List Nat->Bool
 |[]=>true
 |k::d=> !Nat.blt k n0&&oe n0 d
def fi(n0 m:Nat):List Nat->Bool
 |[]=>true
 |k::d=>(!Nat.blt k n0||jA k m)&&fi n0 m d
def og(n0:Nat):List Nat->Option Nat
 |[]=>none
 |k::d=>bif jC k n0 then some k else og n0 d
def mj(n0:Nat):List SA->Nat->Option (Nat×Nat)
 |[],_=>none
 |y::r,i=>(match y with | .l m=>bif Nat.ble n0 m then some (i,m) else mj n0 r (i+1)|_=>mj n0 r (i+1))
def iq(n0:Nat):List (Nat×Nat)->Option Nat
 |[]=>none
 |q::r=>bif Nat.ble n0 q.2 then some q.2 else iq n0 r
def ml(n0:Nat):List SA->Option Nat
 |[]=>none
 |y::r=>(match y with | .r _ _ ns=>(match iq n0 ns with|some m=>some m|none=>ml n0 r)|_=>ml n0 r)
def Ud9(m k:Nat):Nat:=bif jA k m then ce else k
def Ugn(m:Nat):SA->SA
 |.r D T ns=>.r D T (ns.map λq=>(q.1,Ud9 m q.2))
 |y=>y
def okH(n0 m:Nat):SA->Bool
 |.r _ _ ns=>ns.all (λq=>jA q.2 m||jC q.2 n0)
 |y=>Ub3 n0 y
def Ai(n0:Nat)(st:St)(l:List SA):Option (SV×Eff×Bool):=
 match ml n0 l with
 |some m=>(match st.h[m]? with
  |some (.sl .own len C e)=>bif Nat.ble n0 1000000&&l.all (okH n0 m) then some (pack (l.map (Ugn m)),.newS (some 1000000) len C e,true) else none
  |_=>none)
 |none=>none
theorem Aj{n0 m:Nat}:∀{ns:List (Nat×Nat)},iq n0 ns=some m->n0<=m/\∃i,(i,m)∈ns
 |[],h=>by cases h
 |q::r,h=>by
  simp only[iq]at h;cases A:Nat.ble n0 q.2 with
  |true=>rw[A]at h;cases h;exact⟨Nat.le_of_ble_eq_true A,q.1,jA1 ..⟩
  |false=>rw[A]at h;obtain⟨J,i,h2⟩:=Aj (ns:=r) h;exact⟨J,i,jW _ h2⟩
theorem Ak{n0 m:Nat}:∀{l:List SA},ml n0 l=some m->n0<=m/\∃(j:Nat) (D:QA) (T:QE) (ns:List (Nat×Nat)) (i:Nat),l[j]?=some (SA.r D T ns)/\(i,m)∈ns
 |[],h=>by cases h
 | y::r,h=>by
  have tl:ml n0 r=some m->n0<=m/\∃(j:Nat) (D:QA) (T:QE) (ns:List (Nat×Nat)) (i:Nat),(y::r)[j]?=some (SA.r D T ns)/\(i,m)∈ns:=λh=>by
   obtain⟨h1,j,D,T,ns,i,h2,h3⟩:=Ak (l:=r) h;exact⟨h1,j+1,D,T,ns,i,h2,h3⟩
  unfold ml at h;split at h
  ·rename_i D T ns;split at h
   ·rename_i m' hm;cases h;obtain⟨h1,i,h2⟩:=Aj hm;exact⟨h1,0,D,T,ns,i,rfl,h2⟩
   ·exact tl h
  ·exact tl h
def fj(n0:Nat)(st:St)(l:List SA):Option (SV×Eff×Bool):=
 match mj n0 l 0 with
 |some (i,m)=>(match st.h[m]? with
  |some (.sl .own len C e)=>bif jA l.length 1 then some (.a .x,.newS none len C e,true) else bif (l.set i .x).all (Ub3 n0) && !Nat.ble 1000000 i then some (.t (l.set i .x),.newS (some i) len C e,true) else none
  |_=>none)
 |none=>Ai n0 st l
theorem Al{n0:Nat}:∀{l:List SA} {k i m:Nat},mj n0 l k=some (i,m)->k<=i/\l[i - k]?=some (.l m)/\n0<=m
 |[],k,i,m,h=>by cases h
 | y::r,k,i,m,h=>by
  have rec1:mj n0 r (k+1)=some (i,m)->k<=i/\(y::r)[i - k]?=some (.l m)/\n0<=m:=λh=>by
   obtain⟨h1,h2,h3⟩:=Al h;refine⟨by omega,?_,h3⟩;rw[show i - k=(i - (k+1))+1 by omega];exact h2
  unfold mj at h;split at h
  ·rename_i m';cases hb:Nat.ble n0 m' with|false=>rw[hb]at h;exact rec1 h|true=>rw[hb]at h;simp only[Q1,Q8,Q0]at h;obtain⟨rfl,rfl⟩:=h;exact⟨jS _,by simp,Nat.le_of_ble_eq_true hb⟩
  ·exact rec1 h
def jm:SA->Bool
 |.i _ _=>true
 |.b _=>true
 |.s _=>true
 |.g _ _=>true
 |_=>false
def ir(P:QD)(st:St):List ResultVar->Option SV
 |[]=>some (.a .u)
 |r::l=>(match ip P st (r::l) with|some ys=>bif ys.all jm then some (pack ys) else none|none=>none)
def iu(P:QD)(h0:List VB)(res:List ResultVar)(st:St):Option (SV×Eff×Bool):=
 bif oe h0.length st.d then (match ip P st res with|some l=>bif l.all (Ub3 h0.length) then some (pack l,.none,true) else fj h0.length st l|none=>none) else (match ir P st res,og h0.length st.d with
  |some v,some m=>bif fi h0.length m st.d then (match st.h[m]?,h0[m]? with
   |some (.row C t),some (.row _ t0)=>bif jA t t0 then some (v,.set m (.row C t),true) else none
   |some (.sl .lent len C e),some (.sl .lent _ _ _)=>bif jC 0 len then some (v,.set m (.sl .lent len C e),true) else none
   |_,_=>none) else none
  |_,_=>none)
def finK(P:QD)(h0:List VB)(res:List ResultVar)(e:Exit)(st:St):Option (SV×Eff×Bool):=
 match e with|.normal=>iu P h0 res st|.ret=>iu P h0 res st|_=>none
def entry(ntmps:Nat)(args:List SA)(h:List VB):St:={ s:=args.map SV.a++jD (ntmps - args.length) (.a .u),h:=h,d:=[] }
def funV(P:QD)(Γ:Cons)(N:Nat)(res:List ResultVar)(ntmps:Nat)(c:QOq)(p:Plan)(args:List SA)(h:List VB):Option (SV×Eff×Bool):=
 zW P Γ N c p (SV×Eff×Bool) (entry ntmps args h) (finK P h res)
def Ue2:List Nat->List Nat×Option (Nat×QE)
 |[]=>([],none)
 |k::r=>bif Nat.ble 1000000 k then ([],match r with|e::_=>some (k - 1000000,e) | []=>none) else (k::(Ue2 r).1,(Ue2 r).2)
def Am:List Nat->List (Nat×QE)
 |k::e::r=>(k - 1000000,e)::Am r
 |_=>[]
def Ucu:List Nat->List Nat×List (Nat×QE)
 |[]=>([],[])
 |k::r=>bif Nat.ble 1000000 k then ([],Am (k::r)) else (k::(Ucu r).1,(Ucu r).2)
def Uaa:QOq->List (List Nat×List Nat)->Plan×List (List Nat×List Nat)
 |.seq x (.seq (.label lb) z),l=>(match (Uaa x l).2 with
  |(cs,bs)::l2=>(.jump lb cs bs (Uaa x l).1 (Uaa z l2).1,(Uaa z l2).2)
  |[]=>(.one,[]))
 |.seq x y,l=>(.two (Uaa x l).1 (Uaa y (Uaa x l).2).1,(Uaa y (Uaa x l).2).2)
 |.scope x,l=>Uaa x l
 |.cond _ x y,l=>(.two (Uaa x l).1 (Uaa y (Uaa x l).2).1,(Uaa y (Uaa x l).2).2)
 |.block _ x,l=>Uaa x l
 |.loop x,(7000000000::cs,bs)::l=>(.loopF cs (Ucu bs).1 (Ucu bs).2 (Uaa x l).1,(Uaa x l).2)
 |.loop x,(5000000000::cs,bs)::l=>(.loopM cs (Ucu bs).1 (Ucu bs).2 (Uaa x l).1,(Uaa x l).2)
 |.loop x,(4000000000::cs,bs)::l=>((match Ue2 bs with | (b,some (g,e))=>.loopGR cs b g e (Uaa x l).1 | (b,none)=>.loopR cs b (Uaa x l).1),(Uaa x l).2)
 |.loop x,(cs,bs)::l=>((match Ue2 bs with | (b,some (g,e))=>(bif Nat.ble 1000000 g then .loopB cs b (g - 1000000) e (Uaa x l).1 else .loopG cs b g e (Uaa x l).1) | (b,none)=>.loop cs b (Uaa x l).1),(Uaa x l).2)
 |.rangeFunc _ _ _ x,(6000000000::_,bs)::l=>(.iterL bs (Uaa x l).1,(Uaa x l).2)
 |.rangeFunc _ _ _ x,(_,bs)::l=>((match Ue2 bs with | (b,some (g,e))=>.iterB b (g - 1000000) e (Uaa x l).1 | (b,none)=>.iter b (Uaa x l).1),(Uaa x l).2)
 |_,l=>(.one,l)
def codeOf(fn:Func):QOq:=match fn.body with|some c=>c|none=>.skip
def jn:QOq->Bool
 |.seq _ y=>jn y
 |.scope _=>true
 |_=>false
def planOf(c:QOq)(l:List (List Nat×List Nat)):Plan:=bif jn c then .sc (Uaa c l).1 else (Uaa c l).1
def ansV(P:QD)(Γ:Cons)(N:Nat)(fn:Func)(l:List (List Nat×List Nat))(args:List SA)(h:List VB):Option (SV×Eff×Bool):=
 funV P Γ N fn.results.toList fn.ntmps (codeOf fn) (planOf (codeOf fn) l) args h
section
variable {P:QD} {Γ:Cons} {N:Nat}
theorem Lg{ρ:Nat->Ad}{st:St}{a:Act}{w:QB}(hs:∀(i:Nat) (v:SV),st.s[i]?=some v->IsV P ρ st.h v (a.tmps.getD i undef))(hH:HIs P ρ st.h w){r:ResultVar}{y:SA}(hr:qb P st r=some y):
  ∃v,((match r with | .tmp t=>pure (a.tmps.getD t undef) | .cell p t=>do loadVar t (<- asAddr (a.tmps.getD p undef))):Sem QC).run P w=.ok v w/\Is P ρ st.h y v:=by
 have ev:=λ(t:Nat)=>Zcl (Zq6 hs (.tmp t))
 cases r with
 |tmp t=>simp only[qb,Q8]at hr;subst hr;exact⟨a.tmps.getD t undef,rfl,ev t⟩
 | cell t T=>
  simp only[qb]at hr;have hv:=ev t;simp only[evO]at hv;split at hr
  ·rename_i m hm;rw[hm]at hv;obtain⟨hp,_⟩:=hv;split at hr
   ·rename_i C t' hb;have hB:=(hH.is m _ hb).row;obtain⟨v,hrun,hi⟩:=Ytk (ρ:=ρ) (h:=st.h) hr hB.2 hB.1;refine⟨v,?_,hi⟩;have hp:a.tmps.getD t undef=.pointer (some ⟨ρ m,0,none⟩):=hp;simp only[hp,asAddr,Sem.run_bind,Sem.run_pure,Result.andThen_ok,hrun]
   ·rename_i r t' hb;obtain⟨v,hrun,hi⟩:=Ynf hr (hH.is m _ hb);refine⟨v,?_,hi⟩;have hp:a.tmps.getD t undef=.pointer (some ⟨ρ m,0,none⟩):=hp;simp only[hp,asAddr,Sem.run_bind,Sem.run_pure,Result.andThen_ok,hrun]
   ·cases hr
  ·cases hr
theorem Ao{ρ:Nat->Ad}{st:St}{a:Act}{w:QB}(hs:∀(i:Nat) (v:SV),st.s[i]?=some v->IsV P ρ st.h v (a.tmps.getD i undef))(hH:HIs P ρ st.h w):∀(l:List ResultVar) (ys:List SA),ip P st l=some ys ->
  ∃vs:List QC,(l.mapM λr=>((match r with | .tmp t=>pure (a.tmps.getD t undef) | .cell p t=>do loadVar t (<- asAddr (a.tmps.getD p undef))):Sem QC)).run P w=.ok vs w/\Uap P ρ st.h ys vs
 |[],ys,h=>by
  simp only[ip,Q8]at h;subst h;exact⟨[],rfl,rfl,λi y v hy=>by simp at hy⟩
 | r::l,ys,h=>by
  simp only[ip]at h;split at h
  ·rename_i y m hy hm;simp only[Q8]at h;subst h;obtain⟨v,h1,h2⟩:=Lg hs hH hy;obtain⟨vs,h3,h4⟩:=Ao hs hH l m hm;refine⟨v::vs,?_,by simp[h4.1],λi y' v' hy' hv'=> ?_⟩
   ·simp only[List.mapM_cons,Sem.run_bind,h1,Result.andThen_ok,h3,Sem.run_pure]
   ·cases i with|zero=>simp only[List.getElem?_cons_zero,Q8]at hy' hv';subst hy';subst hv';exact h2|succ i=>exact h4.2 i y' v' (by simpa using hy') (by simpa using hv')
  ·cases h
theorem Lh{fn:Func}{res:List ResultVar}(A:fn.results.toList=res){tmps:QA}{w:QB}{vs:List QC}
  (J:(res.mapM λr=>((match r with | .tmp t=>pure (tmps.getD t undef) | .cell p t=>do loadVar t (<- asAddr (tmps.getD p undef))):Sem QC)).run P w=.ok vs w) :
  (results fn tmps).run P w=.ok (if h:vs.toArray.size=1 then vs.toArray[0] else .tuple vs.toArray) w:=by
 unfold results;rw[Sem.run_bind,Array.mapM_eq_mapM_toList,A];have:(List.toArray <$> res.mapM λr=>((match r with | .tmp t=>pure (tmps.getD t undef) | .cell p t=>do loadVar t (<- asAddr (tmps.getD p undef))):Sem QC)).run P w=.ok vs.toArray w:=by rw[map_eq_pure_bind,Sem.run_bind,J];rfl
 exact congrArg (λz:Result (QA)=>z.andThen λa w'=>((pure (if h:a.size=1 then a[0] else .tuple a)):Sem QC).run P w') this
theorem lf{ρ:Nat->Ad}{st:St}{a:Act}{w:QB}(A:∀(i:Nat) (v:SV),st.s[i]?=some v->IsV P ρ st.h v (a.tmps.getD i undef))(J:HIs P ρ st.h w){fn:Func}{ys:List SA}(L:ip P st fn.results.toList=some ys):
  ∃vs:List QC,(results fn a.tmps).run P w=.ok (if h:vs.toArray.size=1 then vs.toArray[0] else .tuple vs.toArray) w/\Uap P ρ st.h ys vs:=by
 obtain⟨vs,O,h2⟩:=Ao A J _ ys L;exact⟨vs,Lh rfl O,h2⟩
theorem BIs.world'{ρ:Nat->Ad}{h:List VB}{w w':QB}{g:Ad}{b:VB}(hi:BIs P ρ h w g b)(J:w.heap.size<=w'.heap.size)(A:∀(g:Nat) c t fr,w.heap[g]?=some (Obj.cells c t fr)->w'.heap[g]?=some (Obj.cells c t fr))(L:∀c t fr,w.heap[g.a]?=some (Obj.cells c t fr)->w'.heap[g.a]?=some (Obj.cells c t fr)):BIs P ρ h w' g b:=by
 cases b with
 |no=>trivial
 |row C T=>exact⟨L _ _ _ hi.1,hi.2⟩
 |one y T=>obtain⟨v,O,h2⟩:=hi;exact⟨v,O,L _ _ _ h2⟩
 |sl x len C t=>exact⟨hi.1.cells J A,λO h2=>let ⟨U,V,Z,q3⟩:=hi.2 O h2;⟨U,V,L _ _ _ Z,q3⟩⟩
 |sp=>trivial
 |gl g t a x=>exact hi.glCells A
theorem Zw6{h:List VB}{k:Nat}(A:present h k):k<h.length:=by cases A with|row e=>exact(jB.1 e).1|one e=>exact(jB.1 e).1|own e _ _=>exact(jB.1 e).1
theorem lh{n0:Nat}:∀{d:List Nat},oe n0 d=true->∀k∈d,n0<=k
 |[],_,k,hk=>by cases hk
 | a::d,h,k,hk=>by
  simp only[oe,Q7,Bool.not_eq_true']at h;rcases jJ.1 hk with rfl|hk
  ·by_cases hlt:k<n0
   ·have:jC k n0=true:=by simp[jC];omega
    rw[this]at h;cases h.1
   ·omega
  ·exact lh h.2 k hk
theorem Ap{n0 m:Nat}:∀{d:List Nat},og n0 d=some m->m<n0
 |[],h=>by cases h
 |k::d,h=>by
  simp only[og]at h;cases A:jC k n0 with
  |true=>rw[A]at h;cases h;simp[jC]at A;omega
  |false=>rw[A]at h;exact Ap h
theorem Aq{n0 m:Nat}:∀{d:List Nat},fi n0 m d=true->∀k∈d,k<n0->k=m
 |[],_,k,hk,_=>by cases hk
 | a::d,h,k,hk,hlt=>by
  simp only[fi,Q7,Bool.or_eq_true,Bool.not_eq_true']at h;rcases jJ.1 hk with rfl|hk
  ·rcases h.1 with h1|h1
   ·have:jC k n0=true:=by simp[jC];omega
    rw[this]at h1;cases h1
   ·exact jQ h1
  ·exact Aq h.2 k hk hlt
theorem li(f:Nat->Nat)(i:Nat):∀(ns:List (Nat×Nat)),Uaz (ns.map λq=>(q.1,f q.2)) i=(Uaz ns i).map f
 |[]=>rfl
 |(j,n)::r=>by
  simp only[jT,Uaz];cases jA j i with|true=>rfl|false=>exact li f i r
theorem IsL.ad{ρ:Nat->Ad}{h:List VB}{n len cap:Nat}{ad ad':Option Addr}(hi:IsL P ρ h n (.slice ad len cap))(A:len≠0->ad'=ad):IsL P ρ h n (.slice ad' len cap):=by
 rcases hi with hi | ⟨a,l,C,e,ad2,cap2,J,h2,L,O⟩
 ·exact .inl hi
 ·cases h2;exact .inr ⟨a,len,C,e,ad',cap,J,rfl,λh0=>(A h0).trans (L h0),O⟩
theorem hole_all{ρ ρ' ρ2:Nat->Ad}{h hs h2:List VB}{m id len l0 c0:Nat}{C:QA}{e:QE}{ad:Option Addr}(hm:hs[m]?=some (.sl .own len C e))(hh:∀k,k<h.length->h[k]?=hs[k]?)(hren:∀k,present h k->ρ k=ρ' k)
  (hsm:h.length<=1000000) (hml:h.length<=m) {l:List SA} {vs:List QC} (hok:l.all (okH h.length m)=true) (hall:Uap P ρ' hs l vs) (hIL:IsL P ρ' hs m (.slice ad l0 c0))
  (hle:HLe h h2) (hren2:∀n,present h n->ρ2 n=ρ n) (hid:IsL P ρ2 h2 id (.slice ad l0 c0)):Uap P ρ2 h2 ((l.map (Ugn m)).map (Udq id)) vs:=by
 refine⟨by simpa using hall.1,λi y v hy hv=> ?_⟩;rw[List.getElem?_map,List.getElem?_map]at hy;cases hl:l[i]? with
 |none=>rw[hl]at hy;cases hy
 | some y0=>
  rw[hl]at hy;simp only[jV,Q8]at hy;subst hy;have hi:=hall.2 i y0 v hl hv;rw[jE]at hok;have ho:=hok y0 (List.mem_of_getElem? hl);have plain:Ub3 h.length y0=true->Is P ρ2 h2 y0 v:=λhr=>((hi.cut hh hr).mono (HLe.refl _) hren).mono hle hren2
  cases y0 with
  | r D T ns=>
   obtain⟨D',rfl,hW,hR⟩:=hi;have hmap:(ns.map λq=>(q.1,Ud9 m q.2)).map (λq=>(q.1,Uc0 id q.2))=ns.map λq=>(q.1,Uc0 id (Ud9 m q.2)):=by rw[List.map_map];rfl
   refine⟨D',rfl,hW,hR.size,λj hj=> ?_,λj k hj=> ?_,by rw[List.map_map,List.map_map];exact hR.uniq⟩
   ·rw[hmap,li λk=>Uc0 id (Ud9 m k)]at hj;refine hR.same j ?_;cases hq:Uaz ns j with|none=>rfl|some k=>rw[hq]at hj;cases hj
   ·rw [hmap,li fun k=>Uc0 id (Ud9 m k)] at hj;cases hq:Uaz ns j with
    |none=>rw[hq]at hj;cases hj
    | some k0=>
     rw[hq]at hj;simp only[jV,Q8]at hj;obtain⟨q1,ad1,l1,c1,q2,q3⟩:=hR.refs j k0 hq;refine⟨q1,ad1,l1,c1,q2,?_⟩;simp only[okH,jE,Bool.or_eq_true]at ho;have hk0:=ho (j,k0) (Ybt hq)
     by_cases hkm:k0=m
     ·subst hkm;have:Uc0 id (Ud9 k0 k0)=id:=by simp[Ud9,Uc0]
      rw[this]at hj;subst hj;obtain⟨a3,c3,r1,r2,r3⟩:=Is.l_of (P:=P) q3 hm;obtain⟨a4,c4,t1,t2,t3⟩:=Is.l_of (P:=P) hIL hm;cases r1;cases t1;have hcc:c1=c0:=by
       by_cases hl0:len=0
       ·rw[(r3 rfl).1 hl0,(t3 rfl).1 hl0]
       ·rw[(r3 rfl).2 hl0,(t3 rfl).2 hl0]
      rw[hcc];exact hid.ad λh0=>(r2 h0).trans (t2 h0).symm
     ·have hlt:k0<h.length:=by
       rcases hk0 with h|h
       ·exact absurd (jQ h) hkm
       ·exact lV.1 h
      have hne:jA k0 m=false:=by cases hb:jA k0 m with|false=>rfl|true=>exact absurd (jQ hb) hkm
      have hne2:jA k0 ce=false:=by cases hb:jA k0 ce with|false=>rfl|true=>have:=jQ hb;simp only[ce]at this;omega
      have:Uc0 id (Ud9 m k0)=k0:=by simp only[Ud9,Uc0,hne,hne2,Q2]
      rw[this]at hj;subst hj;exact((IsL.cut (P:=P) (hh k0 hlt) q3).mono (HLe.refl _) hren).mono hle hren2
  | l k=>
   have hk:k<h.length:=by have:Ub3 h.length (.l k)=true:=ho;simp only[Ub3]at this;exact lV.1 this
   have hne2:jA k ce=false:=by cases hb:jA k ce with|false=>rfl|true=>have:=jQ hb;simp only[ce]at this;omega
   have:Udq id (Ugn m (.l k))=.l k:=by simp only[Ugn,Udq,Uc0,hne2,Q2]
   rw[this];exact plain ho
  |_=>exact plain ho
theorem Li{ρ:Nat->Ad}{h:List VB}{id m:Nat}{l:List SA}{vs:List QC}(A:Uap P ρ h ((l.map (Ugn m)).map (Udq id)) vs):
  IsV P ρ h (Ug7 id (pack (l.map (Ugn m)))) (if h:vs.toArray.size=1 then vs.toArray[0] else .tuple vs.toArray):=by
 match l,vs,A with|[],[],h2=>exact⟨[],rfl,h2⟩|[y],[v],h2=>exact h2.2 0 _ v rfl rfl|y::z::l,v::u::vs,h2=>refine⟨v::u::vs,?_,h2⟩;rw[dif_neg (by simp)]|[],v::vs,h2=>exact absurd h2.1 (by simp)|[y],[],h2=>exact absurd h2.1 (by simp)|[y],v::u::vs,h2=>exact absurd h2.1 (by simp)|y::z::l,[],h2=>exact absurd h2.1 (by simp)|y::z::l,[v],h2=>exact absurd h2.1 (by simp)
def look{α:Type 1}:List (QF×α)->QF->Option α
 |[],_=>none
 |(g,F)::r,f=>bif jA f g then some F else look r f
def lj{α:Type}:List (QF×α)->QF->Option α
 |[],_=>none
 |(g,F)::r,f=>bif jA f g then some F else lj r f
noncomputable def Uag(a b:QA):Bool:=@decide (a=b) (Classical.propDecidable _)
theorem bT{a b:QA}:Uag a b=true ↔ a=b:=by unfold Uag;exact @decide_eq_true_iff _ (Classical.propDecidable _)
noncomputable def mkΓw(s:List (QF×bk))(c:List (QF×af))(n:List (QF×bB))(i:List (QF×ICon)):Cons:=⟨lj c,lj n,look i,Uag,lj s,λ_=>none⟩
def fk:List (String×af)->String->Option af
 |[],_=>none
 |(g,F)::r,f=>bif f==g then some F else fk r f
noncomputable def withM(m:List (String×af))(Γ:Cons):Cons:={ Γ with m:=fk m }
noncomputable abbrev mkΓx(c:List (QF×af))(n:List (QF×bB))(i:List (QF×ICon)):Cons:=mkΓw [] c n i
noncomputable def mkΓ(c:List (QF×af)):Cons:=mkΓx c [] []
end
end
end Go.Proofs.YtefjogahegolbaaGreatDoor.Ve
