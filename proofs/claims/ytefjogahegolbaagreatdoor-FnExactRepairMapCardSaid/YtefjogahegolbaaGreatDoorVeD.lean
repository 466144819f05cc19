/- Loops by typed rounds. -/
import Derived.OpenShut
import Derived.ProofKit
import Derived.Handed
import Derived.JoinedOf
import Derived.Deep.Slices
import Derived.Test.YtefjogahegolbaaGreatDoorVeC
set_option linter.unusedVariables false
set_option linter.unusedSimpArgs false
open _root_.List renaming getElem?_eq_getElem->jB,getElem?_cons_zero->jC,range->jD,getElem?_map->jE,getElem?_eq_none->jF,getElem?_append_right->jH,length_append->jI,getElem?_append_left->jJ,getElem?_eq_some_iff->jK,mem_cons_of_mem->jL,getElem?_take->jN,getElem?_drop->jO
open _root_.Array renaming getElem?_extract->jM,getElem?_eq_some_iff->jP
open _root_.Nat renaming beq->jA,eq_of_beq_eq_true->jG
open _root_.Go renaming World->QB,Value->QC,Program->QD,TypeId->QE,Exit->QP
namespace Go.Proofs.YtefjogahegolbaaGreatDoor.Ve
open Go.RowKit
section
def us:Nat->List SV->List SV
 |0,l=>l
 |n+1,l=>.a .u::us n l
def xs:Nat->List SV->List SV
 |0,l=>l
 |n+1,l=>.a .x::xs n l
def cAt:Code->List Nat->Code
 |c,[]=>c
 |.seq x _,0::l=>cAt x l
 |.seq _ y,_::l=>cAt y l
 |.cond _ x _,0::l=>cAt x l
 |.cond _ _ y,_::l=>cAt y l
 |.block _ x,_::l=>cAt x l
 |.loop x,_::l=>cAt x l
 |.rangeFunc _ _ _ x,_::l=>cAt x l
 |.scope x,_::l=>cAt x l
 |c,_=>c
def pAt:Plan->List Nat->Plan
 |p,[]=>p
 |.two p _,0::l=>pAt p l
 |.two _ q,_::l=>pAt q l
 |.loop _ _ p,_::l=>pAt p l
 |.loopG _ _ _ _ p,_::l=>pAt p l
 |.loopR _ _ p,_::l=>pAt p l
 |.loopGR _ _ _ _ p,_::l=>pAt p l
 |.iter _ p,_::l=>pAt p l
 |.loopB _ _ _ _ p,_::l=>pAt p l
 |.loopM _ _ _ p,_::l=>pAt p l
 |.loopF _ _ _ p,_::l=>pAt p l
 |.iterB _ _ _ p,_::l=>pAt p l
 |.iterL _ p,_::l=>pAt p l
 |.jump _ _ _ p _,0::l=>pAt p l
 |.jump _ _ _ _ q,_::l=>pAt q l
 |p,_=>p
section
variable {T X S Y α:Type}
def aa(e:T->S)(eX:X->Y):Option (Stp T X)->Option (Stp S Y)
 |some (.more t)=>some (.more (e t))
 |some (.done x)=>some (.done (eX x))
 |none=>none
theorem aJ(e:T->S)(eX:X->Y)(t:T):aa e eX (some (.more t))=some (.more (e t)):=rfl
theorem aK(e:T->S)(eX:X->Y)(t:X):aa e eX (some (.done t))=some (.done (eX t)):=rfl
theorem aL(e:T->S)(eX:X->Y):aa e eX none=none:=rfl
theorem aM(e:T->S)(eX:X->Y)(c:Bool)(a b:Option (Stp T X)):aa e eX (bif c then a else b)=bif c then aa e eX a else aa e eX b:=by cases c<;>rfl
theorem Ar(e:T->S)(eX:X->Y)(f:S->Option (Stp S Y))(g:T->Option (Stp T X))(h:∀t,f (e t)=aa e eX (g t)):∀(n:Nat) (t:T),Uab f n (e t)=(Uab g n t).map eX
 |0,t=>rfl
 | n+1,t=>by
  rw[Uab,Uab,h t];cases g t with|none=>rfl|some x=>cases x with|more t'=>exact Ar e eX f g h n t'|done x=>rfl
def Uah(o:Option X)(A:X->Option α):Option α:=match o with|some x=>A x|none=>none
def st2{β:Type}(A:T->β)(B:X->β):Stp T X->β
 |.more t=>A t
 |.done x=>B x
theorem qc{Z:Type}(e:T->S)(eX:X->Y)(o:Option Z)(A:Z->Option (Stp T X)):aa e eX (Uah o A)=Uah o λx=>aa e eX (A x):=by cases o<;>rfl
end
theorem aP{T X α:Type}(e:T->LS)(eX:X->QP×LS)(f:LS->Option (Stp LS (QP×LS)))(g:T->Option (Stp T X))(h:∀t,f (e t)=aa e eX (g t))(n:Nat)(t:T)
  (K:QP->LS->Option α) (A:X->Option α) (J:∀x,K (eX x).1 (eX x).2=A x):au (Uab f n (e t)) K=Uah (Uab g n t) A:=by
 rw[Ar e eX f g h n t];cases Uab g n t with|none=>rfl|some x=>exact J x
def eR{X Y α:Type}(eX:X->Y):X⊕α->Y⊕α
 |.inl x=>.inl (eX x)
 |.inr a=>.inr a
def mm(P:QD)(Γ:Cons)(N:Nat)(x:Code)(p:Plan)(m:Nat)(bs ps:List Nat)(l:List (Nat×Nat))(st:St)(ys:List SA)(A:BS):Option (Stp BS (QP×BS)):=
 bif jA ys.length ps.length then veC P Γ N x p (Stp BS (QP×BS)) (Ucf bs ps l st ys A) (Uct m bs) else none
def As(P:QD)(Γ:Cons)(N:Nat)(x:Code)(p:Plan)(m:Nat)(bs:List Nat)(g:Nat)(e:QE)(ps:List Nat)(l:List (Nat×Nat))(st:St)(ys:List SA)(A:BS):Option (Stp BS (QP×BS)):=
 bif jA ys.length ps.length then veC P Γ N x p (Stp BS (QP×BS)) (Ucf (bs++[m]) ps l st ys A) (Ubq Γ.e (boxY st g) m bs g e) else none
theorem At{E T X S Y:Type}(e:T->S)(eX:X->Y)(f:E->S->Option (Stp S Y))(g:E->T->Option (Stp T X))(h:∀y t,f y (e t)=aa e eX (g y t)):∀(l:List E) (t:T),Uat f l (e t)=aa e eX (Uat g l t)
 |[],t=>rfl
 | y::l,t=>by
  simp only[Uat];rw[h y t];cases g y t with|none=>rfl|some x=>cases x with|more t'=>exact At e eX f g h l t'|done x=>rfl
def Ude{T X α:Type}(o:Option (Stp T X))(A:T->Option α)(B:X->Option α):Option α:=match o with|some (.more t)=>A t|some (.done x)=>B x|none=>none
theorem Yv4{T X S Y Z U:Type}(e:T->S)(eX:X->Y)(o:Option (Stp Z U))(A:Z->Option (Stp T X))(B:U->Option (Stp T X)):aa e eX (Ude o A B)=Ude o (λx=>aa e eX (A x)) (λx=>aa e eX (B x)):=by cases o with|none=>rfl|some x=>cases x<;>rfl
theorem Ybl{E T X α:Type}(e:T->BS)(eX:X->QP×BS)(f:E->BS->Option (Stp BS (QP×BS)))(g:E->T->Option (Stp T X))(h:∀y t,f y (e t)=aa e eX (g y t))(xs:List E)(t:T)
  (J:BS->Option α) (L:QP->BS->Option α) (A:T->Option α) (B:X->Option α) (O:∀t,J (e t)=A t) (U:∀x,L (eX x).1 (eX x).2=B x):fb (Uat f xs (e t)) J L=Ude (Uat g xs t) A B:=by
 rw[At e eX f g h xs t];cases Uat g xs t with|none=>rfl|some x=>cases x with|more t=>exact O t|done x=>exact U x
theorem Lj{T X:Type}{g:T->Option (Stp T X)}{t t':T}(h:g t=some (.more t'))(n:Nat):Uab g (n+1) t=Uab g n t':=by rw[Uab,h]
theorem Ll{T X:Type}{g:T->Option (Stp T X)}{t:T}{x:X}(h:g t=some (.done x))(n:Nat):Uab g (n+1) t=some x:=by rw[Uab,h]
theorem Au{T X:Type}{g:T->Option (Stp T X)}(F:Nat->T){m:Nat}(h:∀k,k<m->g (F k)=some (.more (F (k+1)))):∀(j k n:Nat),k+j=m->Uab g (n+j) (F k)=Uab g n (F m)
 |0,k,n,hk=>by rw[show k=m by omega];rfl
 |j+1,k,n,hk=>by
  rw[<- Nat.add_assoc,Lj (h k (by omega))];exact Au F h j (k+1) n (by omega)
theorem bP{T X:Type}{g:T->Option (Stp T X)}(F:Nat->T){m:Nat}{x:X}(h:∀k,k<m->g (F k)=some (.more (F (k+1))))(A:g (F m)=some (.done x)){N:Nat}(J:m<N):Uab g N (F 0)=some x:=by obtain⟨n,rfl⟩:∃n,N=n+1+m:=⟨N - m - 1,by omega⟩;rw[Au F h m 0 (n+1) (by omega),Ll A]
end
section
def iv:SA->Bool
 |.p _ _ _=>false
 |.w _=>false
 |.c _ ns=>ns.isEmpty
 |.x=>false
 |.l _=>false
 |.q _ _ _=>false
 |.e _=>false
 |.r _ _ ns=>ns.isEmpty
 |_=>true
def Ueb(g:Nat):SA->Bool
 |.e n=>Nat.blt n g
 |y=>iv y
def Ugw(g:Nat):SA->Bool
 |.x=>true
 |y=>Ueb g y
def mo(g:Nat):SV->Bool
 |.a y=>Ueb g y
 |.t l=>l.all (Ueb g)
def lead:Nat->List VB->List Nat
 |k,.gl _ _ _ _::r=>k::lead (k+1) r
 |_,_=>[]
def ld(gl:Bool)(h:List VB):List Nat:=bif gl then lead 0 h else []
theorem Av:∀{h:List VB} {k i:Nat},i<(lead k h).length->(lead k h)[i]?=some (k+i)/\∃g t a x,h[i]?=some (.gl g t a x)
 |[],k,i,hi=>by simp[lead]at hi
 | b::r,k,i,hi=>by
  cases b with
  | gl g t a x=>
   simp only[lead,List.length_cons]at hi|-
   cases i with|zero=>exact⟨rfl,_,_,_,_,rfl⟩|succ i=>obtain⟨h1,h2⟩:=Av (h:=r) (k:=k+1) (i:=i) (by omega);exact⟨by rw[List.getElem?_cons_succ,h1];congr 1;omega,by simpa using h2⟩
  |_=>simp[lead]at hi
theorem wh{gl:Bool}{h:List VB}{i:Nat}(hi:i<(ld gl h).length):(ld gl h)[i]?=some i/\∃g t a x,h[i]?=some (.gl g t a x):=by cases gl with|false=>simp[ld]at hi|true=>obtain⟨A,h2⟩:=Av (h:=h) (k:=0) (i:=i) hi;exact⟨by rw[Nat.zero_add]at A;exact A,h2⟩
def Uaq:List SA->List Nat
 |[]=>[]
 |.w n::r=>n::Uaq r
 |.l n::r=>n::Uaq r
 |.r _ _ ns::r=>ns.map Prod.snd++Uaq r
 |.c _ ns::r=>ns++Uaq r
 |_::r=>Uaq r
def numN:Nat->List (Nat×Nat)->List (Nat×Nat)
 |_,[]=>[]
 |k,(i,_)::r=>(i,k)::numN (k+1) r
def Ucn:Nat->List SA->List SA
 |_,[]=>[]
 |k,.w _::r=>.w k::Ucn (k+1) r
 |k,.l _::r=>.l k::Ucn (k+1) r
 |k,.r D T ns::r=>.r D T (numN k ns)::Ucn (k+ns.length) r
 |k,.c f ns::r=>.c f (List.range' k ns.length)::Ucn (k+ns.length) r
 |k,y::r=>y::Ucn k r
def jo(g:Nat):SA->Bool
 |.w _=>true
 |.l _=>true
 |.r _ _ _=>true
 |.c _ _=>true
 |y=>Ueb g y
def ll(g:Nat):List SA->Bool
 |[]=>true
 |y::r=>jo g y&&ll g r
def lend(wr:Bool):SlK->SlK
 |.own=>bif wr then .lent else .came none
 |.lent=>bif wr then .lent else .came none
 |a=>a
def lendB(wr:Bool):VB->VB
 |.sl a len C e=>.sl (lend wr a) len C e
 |b=>b
def Uba(h:List VB):List Nat->List Nat
 |[]=>[]
 |n::r=>(match h[n]? with
  |some (.one (.r _ _ ns) _)=>ns.map Prod.snd++Uba h r
  |some (.one (.l m) _)=>m::Uba h r
  |_=>Uba h r)
def oh:Option VB->VB->Option VB
 |some (.sl a _ _ _),.sl _ len C e=>some (.sl a len C e)
 |some (.row _ _),.row C t=>some (.row C t)
 |_,_=>none
theorem fl{wr:Bool}{a:SlK}:lend wr a ≠ .own:=by cases a<;>cases wr<;>(intro h;cases h)
theorem qd(wr:Bool)(g:Nat)(a:SlK):adK g (lend wr a)=adK g a:=by cases a<;>cases wr<;>rfl
theorem wk(wr:Bool)(a:SlK):(lend wr a).here=a.here:=by cases a<;>cases wr<;>rfl
theorem Yq5{wr:Bool}{a:SlK}(h:(lend wr a).mine=true):a.mine=true:=by cases a<;>cases wr<;>first|rfl|cases h
def aT(wr:Bool)(h:List VB):Nat->List Nat->Option (List VB)
 |_,[]=>some []
 |k,n::r=>(match h[n]? with
  |some (.row C t)=>(match aT wr h k r with|some l=>some (.row C t::l)|none=>none)
  |some (.sl a len C e)=>(match aT wr h k r with|some l=>some (.sl (lend wr a) len C e::l)|none=>none)
  |some (.gl g t a x)=>(match aT wr h k r with|some l=>some (.gl g t a x::l)|none=>none)
  |some (.one (.r D t' ns) t)=>(match aT wr h (k+ns.length) r with|some l=>some (.one (.r D t' (numN k ns)) t::l)|none=>none)
  |some (.one (.l _) t)=>(match aT wr h (k+1) r with|some l=>some (.one (.l k) t::l)|none=>none)
  |some (.one (.v y) t)=>(match aT wr h k r with|some l=>some (.one (.v y) t::l)|none=>none)
  |_=>none)
def lm(wr:Bool)(h:List VB):List Nat->Option (List VB)
 |[]=>some []
 |n::r=>(match h[n]? with
  |some (.sl a len C e)=>(match lm wr h r with|some l=>some (.sl (lend wr a) len C e::l)|none=>none)
  |_=>none)
def ct(ids:List Nat):List (Nat×Nat)->Option (List (Nat×Nat))
 |[]=>some []
 |(i,k)::r=>(match ids[k]?,ct ids r with|some n,some l=>some ((i,n)::l)|_,_=>none)
def cu(g:Nat)(ids:List Nat):SA->Option SA
 |.l m=>(match ids[m]? with|some n=>some (.l n)|none=>none)
 |.r D T ns=>(match ct ids ns with|some l=>some (.r D T l)|none=>none)
 |y=>bif Ueb g y then some y else none
def cv(g:Nat)(ids:List Nat):List SA->Option (List SA)
 |[]=>some []
 |y::r=>(match cu g ids y,cv g ids r with|some z,some l=>some (z::l)|_,_=>none)
def co(g:Nat)(ids:List Nat):SV->Option SV
 |.a y=>(match cu g ids y with|some z=>some (.a z)|none=>none)
 |.t l=>(match cv g ids l with|some l=>some (.t l)|none=>none)
def Udf(g:Nat):SA->Bool
 |.r _ _ ns=>ns.all (λq=>jA q.2 ce)
 |y=>Ugw g y
def qe(g:Nat):SV->Bool
 |.a y=>Udf g y
 |.t l=>l.all (Udf g)
def wrapL(gl:Bool)(args:List SA)(h:List VB):Option (SV×Eff×Bool)->Option (SV×Eff×Bool):=λr=>match r with
 |some (r,.none,g)=>bif mo (ld gl h).length r then some (r,.none,g) else (match co (ld gl h).length (ld gl h++Uaq args) r with|some r=>some (r,.none,g)|none=>none)
 |some (r,.set m b,g)=>bif mo (ld gl h).length r then (match (ld gl h++Uaq args)[m]? with|some q=>(match oh h[q]? b with|some A=>some (r,.set q A,g)|none=>none)|none=>none) else none
 |some (_,.newS none len C e,g)=>some (.a .x,.newS none len C e,g)
 |some (v,.newS (some i) len C e,g)=>bif Nat.ble 1000000 i then (bif qe (ld gl h).length v then some (v,.newS (some i) len C e,g) else none) else (match v with
  |.t l=>bif l.all (Ugw (ld gl h).length) then some (.t l,.newS (some i) len C e,g) else none
  |_=>none)
 |some _=>none
 |none=>none
def conX(gl wr:Bool)(G:af):af:=λargs h=>
 bif ll (ld gl h).length args&&cV (ld gl h++Uaq args++Uba h (Uaq args)) then
  (match aT wr h (ld gl h++Uaq args).length (ld gl h++Uaq args),lm wr h (Uba h (Uaq args)) with
  |some A,some h2=>wrapL gl args h (G (Ucn (ld gl h).length args) (A++h2))
  |_,_=>none) else none
def conSX(gl wr:Bool)(S:bk):bk:=λargs h=>
 bif ll (ld gl h).length args&&cV (ld gl h++Uaq args++Uba h (Uaq args)) then
  (match aT wr h (ld gl h++Uaq args).length (ld gl h++Uaq args),lm wr h (Uba h (Uaq args)) with
  |some A,some h2=>Ue7 (wrapL gl args h) (S (Ucn (ld gl h).length args) (A++h2))
  |_,_=>.one none) else .one none
def conL(wr:Bool)(G:af):af:=conX false wr G
def conSL(wr:Bool)(S:bk):bk:=conSX false wr S
def conG(G:af):af:=conX true false G
def con(G:af):af:=conL false G
def conSW(S:bk):bk:=conSL true S
inductive Ren (ids:List Nat):List (Nat×Nat)->List (Nat×Nat)->Prop where
 |nil:Ren ids [] []
 |cons {i k m:Nat} {r r':List (Nat×Nat)} (h:ids[k]?=some m) (t:Ren ids r r'):Ren ids ((i,m)::r) ((i,k)::r')
inductive LB (wr:Bool) (ids:List Nat):VB->VB->Prop where
 |row (C:QA) (t:QE):LB wr ids (.row C t) (.row C t)
 |sl (a:SlK) (len:Nat) (C:QA) (e:QE):LB wr ids (.sl a len C e) (.sl (lend wr a) len C e)
 |gl (g:Nat) (t:QE) (a:Addr) (x:Nat):LB wr ids (.gl g t a x) (.gl g t a x)
 |oneR (D:QA) (t':QE) {ns ns':List (Nat×Nat)} (t:QE) (h:Ren ids ns ns'):LB wr ids (.one (.r D t' ns) t) (.one (.r D t' ns') t)
 |oneL {k m:Nat} (t:QE) (h:ids[k]?=some m):LB wr ids (.one (.l m) t) (.one (.l k) t)
 |oneV (y:QC) (t:QE):LB wr ids (.one (.v y) t) (.one (.v y) t)
theorem Ren.num{ids:List Nat}:∀(ns:List (Nat×Nat)) (k:Nat),(∀j m,(ns.map Prod.snd)[j]?=some m->ids[k+j]?=some m)->Ren ids ns (numN k ns)
 |[],_,_=>.nil
 |(i,m)::r,k,h=>.cons (h 0 m rfl) (Ren.num r (k+1) λj n A=>by
  have:=h (j+1) n (by simpa using A);rw[show k+1+j=k+(j+1) by omega];exact this)
theorem Ren.keys{ids:List Nat}{ns ns':List (Nat×Nat)}(h:Ren ids ns ns'):ns'.map Prod.fst=ns.map Prod.fst:=by induction h with|nil=>rfl|cons h t A=>simp[A]
theorem Ren.look{ids:List Nat}{ns ns':List (Nat×Nat)}(h:Ren ids ns ns')(o:Nat):(Uaz ns' o=none ↔ Uaz ns o=none)/\∀k,Uaz ns' o=some k->∃m,Uaz ns o=some m/\ids[k]?=some m:=by induction h with|nil=>exact⟨Iff.rfl,λk hk=>by cases hk⟩|@cons i k m r r' h t A=>simp only[Uaz];cases jA i o with|true=>exact⟨⟨λh=>(by cases h),λh=>(by cases h)⟩,λk' hk=>(by cases hk;exact⟨m,rfl,h⟩)⟩|false=>exact A
theorem Aw{wr:Bool}{h:List VB}{ids:List Nat}:∀{base:List Nat} {k0:Nat} {h':List VB},aT wr h k0 base=some h'->(∀j m,(Uba h base)[j]?=some m->ids[k0+j]?=some m) ->
  h'.length=base.length/\∀(k n:Nat),base[k]?=some n->∃b b',h[n]?=some b/\h'[k]?=some b'/\LB wr ids b b'
 |[],k0,h',hr,_=>by
  simp only[aT,Q8]at hr;subst hr;exact⟨rfl,λk n hk=>by simp at hk⟩
 | m::r,k0,h',hr,hids=>by
  have fin:∀{b b':VB} {l:List VB} {k1:Nat},aT wr h k1 r=some l->h'=b'::l->h[m]?=some b->LB wr ids b b'->(∀j q,(Uba h r)[j]?=some q->ids[k1+j]?=some q) ->
    h'.length=(m::r).length/\∀(k n:Nat),(m::r)[k]?=some n->∃b b',h[n]?=some b/\h'[k]?=some b'/\LB wr ids b b':=by
   rintro b b' l k1 hl rfl hm hb hi;obtain⟨h1,h2⟩:=Aw hl hi;refine⟨by simp[h1],λk n hk=> ?_⟩;cases k with|zero=>simp only[jC,Q8]at hk;subst hk;exact⟨b,b',hm,rfl,hb⟩|succ k=>exact h2 k n (by simpa using hk)
  simp only[aT]at hr;simp only[Uba]at hids;split at hr
  ·rename_i C t hm;rw[hm]at hids;split at hr
   ·rename_i l hl;cases hr;exact fin hl rfl hm (.row C t) hids
   ·cases hr
  ·rename_i a len C t hm;rw[hm]at hids;split at hr
   ·rename_i l hl;cases hr;exact fin hl rfl hm (.sl a len C t) hids
   ·cases hr
  ·rename_i g t a x hm;rw[hm]at hids;split at hr
   ·rename_i l hl;cases hr;exact fin hl rfl hm (.gl g t a x) hids
   ·cases hr
  ·rename_i D t' ns t hm;rw[hm]at hids;split at hr
   ·rename_i l hl;cases hr;refine fin hl rfl hm (.oneR D t' t (Ren.num ns k0 λj q hj=>hids j q ?_)) λj q hj=> ?_
    ·rw[jJ (jK.1 hj).1];exact hj
    ·rw[Nat.add_assoc];refine hids (ns.length+j) q ?_;rw[jH (by simp)]
     simpa using hj
   ·cases hr
  ·rename_i q t hm;rw[hm]at hids;split at hr
   ·rename_i l hl;cases hr;refine fin hl rfl hm (.oneL t (by simpa using hids 0 q rfl)) λj p hj=> ?_
    rw[Nat.add_assoc];exact hids (1+j) p (by rw[Nat.add_comm];simpa using hj)
   ·cases hr
  ·rename_i y t hm;rw[hm]at hids;split at hr
   ·rename_i l hl;cases hr;exact fin hl rfl hm (.oneV y t) hids
   ·cases hr
  ·cases hr
theorem Ax{wr:Bool}{h:List VB}:∀{rs:List Nat} {h':List VB},lm wr h rs=some h' ->
  h'.length=rs.length/\∀(k n:Nat),rs[k]?=some n->∃a len C e,h[n]?=some (.sl a len C e)/\h'[k]?=some (.sl (lend wr a) len C e)
 |[],h',hr=>by
  simp only[lm,Q8]at hr;subst hr;exact⟨rfl,λk n hk=>by simp at hk⟩
 | m::r,h',hr=>by
  simp only[lm]at hr;split at hr
  ·rename_i a len C e hm;split at hr
   ·rename_i l hl;cases hr;obtain⟨h1,h2⟩:=Ax hl;refine⟨by simp[h1],λk n hk=> ?_⟩;cases k with|zero=>simp only[jC,Q8]at hk;subst hk;exact⟨a,len,C,e,hm,rfl⟩|succ k=>exact h2 k n (by simpa using hk)
   ·cases hr
  ·cases hr
theorem fm{wr:Bool}{h:List VB}{A ps:List Nat}{U h2:List VB}(J:∀n∈A,∀y t,h[n]?≠some (.one y t))(e1:aT wr h (A++ps).length (A++ps)=some U)(e2:lm wr h (Uba h ps)=some h2):
  (U++h2).length=(A++ps++Uba h ps).length/\∀(k n:Nat),(A++ps++Uba h ps)[k]?=some n->∃b O,h[n]?=some b/\(U++h2)[k]?=some O/\LB wr (A++ps++Uba h ps) b O:=by
 have L:Uba h (A++ps)=Uba h ps:=by
  clear e1 e2
  induction A with
  |nil=>rfl
  |cons n r ih=>
   have hn:=J n (List.mem_cons_self ..);have:=ih λm hm=>J m (jL _ hm)
   rw[List.cons_append,Uba,this];split
   ·rename_i e;exact absurd e (hn _ _)
   ·rename_i e;exact absurd e (hn _ _)
   ·rfl
 obtain⟨l1,g1⟩:=Aw (ids:=A++ps++Uba h ps) e1 λj m hj=>by
  rw[L]at hj;rw[jH (by omega),Nat.add_sub_cancel_left];exact hj
 obtain⟨l2,g2⟩:=Ax e2;refine⟨by rw[jI,l1,l2,<- jI],λk n hk=> ?_⟩
 by_cases V:k<(A++ps).length
 ·rw[jJ V]at hk;obtain⟨b,O,Z,q2,q3⟩:=g1 k n hk;exact⟨b,O,Z,by rw[jJ (by omega)];exact q2,q3⟩
 ·rw[jH (by omega)]at hk;obtain⟨a,len,C,e,Z,q2⟩:=g2 _ n hk;exact⟨_,_,Z,by rw[jH (by omega),l1];exact q2,.sl a len C e⟩
theorem Ay:∀{l:List Nat},cV l=true->∀(i j n:Nat),l[i]?=some n->l[j]?=some n->i=j
 |[],_,i,j,n,hi,_=>by simp at hi
 | a::l,h,i,j,n,hi,hj=>by
  simp only[cV,Q7,Bool.not_eq_true']at h;have notin:∀(k:Nat),l[k]?=some a->False:=λk hk=>by
   have:=cm.2 (List.mem_of_getElem? hk);rw[this]at h;cases h.1
  cases i with
  |zero=>simp only[jC,Q8]at hi;subst hi;cases j with|zero=>rfl|succ j=>exact(notin j (by simpa using hj)).elim
  | succ i=>cases j with|zero=>simp only[jC,Q8]at hj;subst hj;exact(notin i (by simpa using hi)).elim|succ j=>rw[Ay h.2 i j n (by simpa using hi) (by simpa using hj)]
section
variable {P:QD}
theorem wl{ρ ρ':Nat->Ad}{h h':List VB}{y:SA}(A:iv y=true){v:QC}(hi:Is P ρ h y v):Is P ρ' h' y v:=by
 cases y with
 |c f ns=>simp only[iv,List.isEmpty_iff]at A;subst A;exact⟨hi.1,λn L=>by cases L⟩
 |r D T ns=>simp only[iv,List.isEmpty_iff]at A;subst A;obtain⟨D',O,h2,J⟩:=hi;exact⟨D',O,h2,J.size,J.same,λi m U=>(by cases U),List.nodup_nil⟩
 |_=>first|exact hi|cases A
theorem Yco{g:Nat}{ρ ρ':Nat->Ad}{h h':List VB}(J:∀n,n<g->h'[n]?=h[n]?){y:SA}(A:Ueb g y=true){v:QC}(hi:Is P ρ h y v):Is P ρ' h' y v:=by
 cases y with
 |c f ns=>exact wl (show iv (.c f ns)=true from A) hi
 |r D T ns=>exact wl (show iv (.r D T ns)=true from A) hi
 |e n=>obtain⟨g',t,a,x,L,h2⟩:=hi;exact⟨g',t,a,x,by rw[J n (by simp[Ueb,Nat.blt]at A;omega)];exact L,h2⟩
 |_=>first|exact hi|trivial|cases A
theorem Az{g:Nat}{ρ ρ':Nat->Ad}{h h':List VB}(A:∀n,n<g->h'[n]?=h[n]?){y:SA}(J:Ugw g y=true){v:QC}(hi:Is P ρ h y v):Is P ρ' h' y v:=by cases y with|x=>trivial|_=>exact Yco A (by exact J) hi
theorem wm{g:Nat}{ρ ρ':Nat->Ad}{h h':List VB}(J:∀n,n<g->h'[n]?=h[n]?){y:SV}(A:mo g y=true){v:QC}(hi:IsV P ρ h y v):IsV P ρ' h' y v:=by cases y with|a y=>exact Yco J A hi|t l=>obtain⟨vs,O,h2,U⟩:=hi;simp only[mo,List.all_eq_true]at A;exact⟨vs,O,h2,λi y v L V=>Yco J (A y (List.mem_of_getElem? L)) (U i y v L V)⟩
theorem Lm{wr:Bool}{b:VB}{x:Nat}(h:bV (lendB wr b) x):bV b x:=by
 cases b with
 |sl a len C e=>
  simp only[lendB]at h;cases a with
  |came c=>exact h
  |own=>cases wr<;>exact False.elim h
  |lent=>cases wr<;>exact False.elim h
 |_=>exact h
abbrev jp(wr:Bool)(ids:List Nat)(h h':List VB):Prop:=∀(k n:Nat),ids[k]?=some n->∃b A,h[n]?=some b/\h'[k]?=some A/\LB wr ids b A
theorem cG{ids:List Nat}{k n:Nat}(hk:ids[k]?=some n):ids.getD k 0=n:=by rw[List.getD_eq_getElem?_getD,hk];rfl
theorem Ypl{wr:Bool}{ids:List Nat}{h h':List VB}{ρ:Nat->Ad}(A:jp wr ids h h'){k n:Nat}(hk:ids[k]?=some n){v:QC}(hi:IsL P ρ h n v):IsL P (λk=>ρ (ids.getD k 0)) h' k v:=by
 obtain⟨b,b',O,h2,U⟩:=A k n hk;rcases hi with J | ⟨a,len,C,t,ad,cap,J,V,L,Z⟩
 ·rw[O]at J;cases J;cases U
 ·rw[O]at J;cases J;cases U;refine .inr ⟨lend wr a,len,C,t,ad,cap,h2,V,λh0=> ?_,λhh=> ?_⟩
  ·rw[L h0];simp only[adOf,qd,cG hk]
  ·simp only[cG hk];exact Z (by rw[<- wk];exact hh)
theorem AA{ids ids2:List Nat}(A:∀(k n:Nat),ids[k]?=some n->ids2[k]?=some n):∀{ns l:List (Nat×Nat)},ct ids ns=some l->ct ids2 ns=some l
 |[],l,h=>h
 | (i,k)::r,l,h=>by
  simp only[ct]at h|-
  split at h
  ·rename_i n l' hk hl;rw[A k n hk,AA A hl];exact h
  ·cases h
theorem AB{g:Nat}{ids ids2:List Nat}(J:∀(k n:Nat),ids[k]?=some n->ids2[k]?=some n){y z:SA}(A:cu g ids y=some z):cu g ids2 y=some z:=by
 cases y with
 |l m=>
  simp only[cu]at A|-
  split at A
  ·rename_i n hk;rw[J _ _ hk];exact A
  ·cases A
 |r D T ns=>
  simp only[cu]at A|-
  split at A
  ·rename_i l hl;rw[AA J hl];exact A
  ·cases A
 |_=>exact A
theorem AC{g:Nat}{ids ids2:List Nat}(A:∀(k n:Nat),ids[k]?=some n->ids2[k]?=some n):∀{l m:List SA},cv g ids l=some m->cv g ids2 l=some m
 |[],m,h=>h
 | y::r,m,h=>by
  simp only[cv]at h|-
  split at h
  ·rename_i z l J hl;rw[AB A J,AC A hl];exact h
  ·cases h
theorem Ln{g:Nat}{ids ids2:List Nat}(A:∀(k n:Nat),ids[k]?=some n->ids2[k]?=some n){y z:SV}(J:co g ids y=some z):co g ids2 y=some z:=by
 cases y with
 |a y=>
  simp only[co]at J|-
  split at J
  ·rename_i n hk;rw[AB A hk];exact J
  ·cases J
 |t l=>
  simp only[co]at J|-
  split at J
  ·rename_i n hk;rw[AC A hk];exact J
  ·cases J
theorem AD{wr:Bool}{ids:List Nat}{h h':List VB}{ρ:Nat->Ad}(A:jp wr ids h h'){k n:Nat}(hk:ids[k]?=some n){v:QC}(hi:IsL P (λk=>ρ (ids.getD k 0)) h' k v):IsL P ρ h n v:=by
 obtain⟨b,b',U,h2,O⟩:=A k n hk;rcases hi with J | ⟨a,len,C,t,ad,cap,J,V,L,Z⟩
 ·rw[h2]at J;cases J;cases O
 ·rw[h2]at J;cases J;cases O;rename_i a;refine .inr ⟨a,len,C,t,ad,cap,U,V,λh0=> ?_,λhh=> ?_⟩
  ·rw[L h0];simp only[adOf,qd,cG hk]
  ·have:=Z (by rw[wk];exact hh);simp only[cG hk]at this;exact this
theorem RowR.lent{wr:Bool}{ids:List Nat}{h h':List VB}{ρ:Nat->Ad}(hids:jp wr ids h h'){D D':QA}{ns ns':List (Nat×Nat)}(hn:Ren ids ns ns')(hR:RowR P ρ h D ns D'):RowR P (λk=>ρ (ids.getD k 0)) h' D ns' D':=
 ⟨hR.size,fun i hi=>hR.same i ((hn.look i).1.1 hi),fun i k hk=>by
  obtain⟨m,h1,h2⟩:=(hn.look i).2 k hk;obtain⟨q1,ad,l,c,q2,q3⟩:=hR.refs i m h1;exact⟨q1,ad,l,c,q2,Ypl hids h2 q3⟩,by rw[hn.keys];exact hR.uniq⟩
theorem there.lent{wr:Bool}{ids:List Nat}{h h':List VB}(A:jp wr ids h h'){k n:Nat}(hk:ids[k]?=some n)(O:there h n):there h' k:=by
 obtain⟨b,U,J,h2,L⟩:=A k n hk;cases O with
 |row e=>rw[e]at J;cases J;cases L;exact .row h2
 |one e=>rw[e]at J;cases J;cases L<;>exact .one h2
theorem Zxc {wr : Bool} {g : Nat} {ρ : Nat → Ad} {h h' : List VB} {ids : List Nat} (hl : ∀ n, n < g → h'[n]? = h[n]?) (hids : jp wr ids h h') : ∀ (args : List SA) (vals : List QC) (pre : List Nat), ll g args = true →
    (∀(k n:Nat),(pre++Uaq args)[k]?=some n->ids[k]?=some n)->Uap P ρ h args vals ->
    Uap P (λk=>ρ (ids.getD k 0)) h' (Ucn pre.length args) vals
  | [], vals, pre, _, _, hA => by
    have:vals=[]:=List.eq_nil_of_length_eq_zero hA.1.symm;subst this;exact⟨rfl,λi y v hy=>by simp[Ucn]at hy⟩
  |y::r,[],pre,_,_,hA=>absurd hA.1 (by simp)
  | y :: r, v :: vals, pre, hok, hg, hA => by
    have h0:=hA.2 0 y v rfl rfl;have htl:Uap P ρ h r vals:=⟨by have:=hA.1; simpa using this,λi y v hy hv=>hA.2 (i+1) y v (by simpa using hy) (by simpa using hv)⟩;simp only[ll,Q7]at hok;have cons:∀{ρ':Nat->Ad} {y':SA} {l:List SA},Is P ρ' h' y' v->Uap P ρ' h' l vals->Uap P ρ' h' (y'::l) (v::vals):=λ{ρ' y' l} h1 h2 =>
      ⟨by simp [h2.1], fun i z u hz hu => by
        cases i with
        | zero =>simp only[jC,Q8]at hz hu;subst hz; subst hu; exact h1
        |succ i=>exact h2.2 i z u (by simpa using hz) (by simpa using hu)⟩
    by_cases hw:∃n,y=.w n
    · obtain ⟨n, rfl⟩ := hw;simp only[Uaq,Ucn]at hg |-
      have e:pre++n::Uaq r=(pre++[n])++Uaq r:=by simp
      have hk:=hg pre.length n (by simp);have rec1:=Zxc hl hids r vals (pre++[n]) hok.2 (by rw[<- e]; exact hg) htl;simp only[jI,List.length_cons,List.length_nil]at rec1;obtain⟨hv,hpr⟩:=h0;refine cons ⟨?_,hpr.lent hids hk⟩ rec1;rw[hv];simp only[cG hk]
    by_cases hl':∃n,y=.l n
    · obtain ⟨n, rfl⟩ := hl';simp only[Uaq,Ucn]at hg |-
      have e:pre++n::Uaq r=(pre++[n])++Uaq r:=by simp
      have hk:=hg pre.length n (by simp);have rec1:=Zxc hl hids r vals (pre++[n]) hok.2 (by rw[<- e]; exact hg) htl;simp only[jI,List.length_cons,List.length_nil]at rec1;exact cons (Ypl (P:=P) hids hk h0) rec1
    by_cases hr':∃D T ns,y=.r D T ns
    · obtain ⟨D, T, ns, rfl⟩ := hr';simp only[Uaq,Ucn]at hg |-
      have e:pre++(ns.map Prod.snd++Uaq r)=(pre++ns.map Prod.snd)++Uaq r:=by simp
      have rec1:=Zxc hl hids r vals (pre++ns.map Prod.snd) hok.2 (by rw[<- e]; exact hg) htl;rw[jI,List.length_map]at rec1;obtain⟨D',hv,hW,hR⟩:=h0;refine cons ⟨D',hv,hW,hR.lent hids (Ren.num ns _ λj m hj=>hg _ m ?_)⟩ rec1;rw[jH (by omega),Nat.add_sub_cancel_left,jJ (jK.1 hj).1];exact hj
    by_cases hc':∃f ns,y=.c f ns
    · obtain ⟨f, ns, rfl⟩ := hc';simp only[Uaq,Ucn]at hg |-
      have e:pre++(ns++Uaq r)=(pre++ns)++Uaq r:=by simp
      have rec1:=Zxc hl hids r vals (pre++ns) hok.2 (by rw[<- e]; exact hg) htl;rw[jI]at rec1;obtain⟨hv,hth⟩:=h0;have hk:∀(j m:Nat),ns[j]?=some m->ids[pre.length+j]?=some m:=λj m hj=>hg _ m (by
        rw[jH (by omega),Nat.add_sub_cancel_left,jJ (jK.1 hj).1];exact hj)
      refine cons ⟨?_,λj hj => ?_⟩ rec1
      · rw [hv];have em:∀{β:Type} (F:Nat->β),ns.map F=(List.range' pre.length ns.length).map (λk=>F (ids.getD k 0)):=λF=>by
          refine List.ext_getElem? λi => ?_
          rw[jE,jE]
          by_cases hi:i<ns.length
          · rw [jB hi, List.getElem?_range' hi];simp only[Option.map_some,Nat.one_mul];rw[cG (hk i _ (jB hi))]
          · rw [jF (by omega), jF (by simp; omega)];rfl
        rw[em]
      · obtain ⟨h1, h2⟩ := List.mem_range'_1.1 hj;have hlt:j - pre.length<ns.length:=by omega
        have h3:=hk (j - pre.length) _ (jB hlt);rw[show pre.length+(j - pre.length)=j by omega]at h3;exact(hth _ (List.getElem_mem hlt)).lent hids h3
    · have hd : Ueb g y = true := by
        have:=hok.1;unfold jo at this;split at this
        . exact absurd ⟨_,rfl⟩ hw
        . exact absurd ⟨_,rfl⟩ hl'
        . exact absurd ⟨_,_,_,rfl⟩ hr'
        . exact absurd ⟨_,_,rfl⟩ hc'
        . exact this
      have hp:Uaq (y::r)=Uaq r:=by cases y<;>first|rfl|exact absurd ⟨_,rfl⟩ hw|exact absurd ⟨_,rfl⟩ hl' | exact absurd ⟨_,_,_,rfl⟩ hr' | exact absurd ⟨_,_,rfl⟩ hc'
      have hr:Ucn pre.length (y::r)=y::Ucn pre.length r:=by cases y<;>first|rfl|exact absurd ⟨_,rfl⟩ hw|exact absurd ⟨_,rfl⟩ hl' | exact absurd ⟨_,_,_,rfl⟩ hr' | exact absurd ⟨_,_,rfl⟩ hc'
      rw[hp]at hg;rw[hr];exact cons (Yco hl hd h0) (Zxc hl hids r vals pre hok.2 hg htl)
theorem AE{ids:List Nat}:∀{ns l:List (Nat×Nat)},ct ids ns=some l->l.map Prod.fst=ns.map Prod.fst/\∀o,(Uaz l o=none ↔ Uaz ns o=none)/\∀n,Uaz l o=some n->∃k,Uaz ns o=some k/\ids[k]?=some n
 |[],l,h=>by
  simp only[ct,Q8]at h;subst h;exact⟨rfl,λo=>⟨Iff.rfl,λn h=>by cases h⟩⟩
 | (i,k)::r,l,h=>by
  simp only[ct]at h;split at h
  ·rename_i n l' hk hl;cases h;obtain⟨A,h2⟩:=AE hl;refine⟨by simp[A],λo=> ?_⟩;simp only[Uaz];cases jA i o with|true=>exact⟨⟨λh=>(by cases h),λh=>(by cases h)⟩,λn' J=>(by cases J;exact⟨k,rfl,hk⟩)⟩|false=>exact h2 o
  ·cases h
theorem AF{wr:Bool}{g:Nat}{ids:List Nat}{h h':List VB}{ρ:Nat->Ad}(U:∀n,n<g->h[n]?=h'[n]?)(J:jp wr ids h h'){y z:SA}(A:cu g ids y=some z){v:QC}(hi:Is P (λk=>ρ (ids.getD k 0)) h' y v):Is P ρ h z v:=by
 unfold cu at A;split at A
 ·split at A
  ·rename_i n hk;cases A;exact AD (P:=P) J hk hi
  ·cases A
 ·rename_i D T ns;split at A
  ·rename_i l hl;cases A;obtain⟨D',V,Z,L⟩:=hi;obtain⟨h1,h2⟩:=AE hl;exact⟨D',V,Z,L.size,λi hi=>L.same i ((h2 i).1.1 hi),λi n hn=>by
    obtain⟨k,q1,q2⟩:=(h2 i).2 n hn;obtain⟨r1,ad,l,c,r2,r3⟩:=L.refs i k q1;exact⟨r1,ad,l,c,r2,AD J q2 r3⟩,by rw[h1];exact L.uniq⟩
  ·cases A
 ·cases O:Ueb g y with
  |false=>rw[O]at A;cases A
  |true=>rw[O]at A;cases A;exact Yco U O hi
theorem AG{wr:Bool}{g:Nat}{ids:List Nat}{h h':List VB}{ρ:Nat->Ad}(Z:∀n,n<g->h[n]?=h'[n]?)(A:jp wr ids h h'):∀{l m:List SA} {vs:List QC},cv g ids l=some m->Uap P (λk=>ρ (ids.getD k 0)) h' l vs->Uap P ρ h m vs
 |[],m,vs,J,L=>by
  simp only[cv,Q8]at J;subst J;exact⟨L.1,λi y v hy=>by simp at hy⟩
 |y::r,m,[],J,L=>absurd L.1 (by simp)
 | y::r,m,v::vs,J,L=>by
  simp only[cv]at J;split at J
  ·rename_i z l V hl;cases J;have h0:=AF (P:=P) Z A V (L.2 0 y v rfl rfl);have h1:=AG (l:=r) (vs:=vs) Z A hl ⟨by simpa using L.1,λi z u V U=>L.2 (i+1) z u (by simpa using V) (by simpa using U)⟩;refine⟨by simp[h1.1],λi z' u O U=> ?_⟩;cases i with|zero=>simp only[jC,Q8]at O U;subst O;subst U;exact h0|succ i=>exact h1.2 i z' u (by simpa using O) (by simpa using U)
  ·cases J
theorem iw{wr:Bool}{g:Nat}{ids:List Nat}{h h':List VB}{ρ:Nat->Ad}(O:∀n,n<g->h[n]?=h'[n]?)(A:jp wr ids h h'){y z:SV}(J:co g ids y=some z){v:QC}(hi:IsV P (λk=>ρ (ids.getD k 0)) h' y v):IsV P ρ h z v:=by
 cases y with
 | a y=>
  simp only[co]at J;split at J
  ·rename_i U L;cases J;exact AF (P:=P) O A L hi
  ·cases J
 | t l=>
  simp only[co]at J;split at J
  ·rename_i U L;cases J;obtain⟨vs,V,h2⟩:=hi;exact⟨vs,V,AG O A L h2⟩
  ·cases J
theorem AH{g id id2:Nat}{ρ2 ρ3:Nat->Ad}{h2 h3:List VB}(hg:∀n,n<g->h3[n]?=h2[n]?)(hid:∀v,IsL P ρ2 h2 id2 v->IsL P ρ3 h3 id v){y:SA}(hy:Udf g y=true){v:QC}(hi:Is P ρ2 h2 (Udq id2 y) v):Is P ρ3 h3 (Udq id y) v:=by
 have fin:Ugw g y=true->Udq id2 y=y->Udq id y=y->Is P ρ3 h3 (Udq id y) v:=λh1 h2 h3=>by rw[h3];rw[h2]at hi;exact Az hg h1 hi
 cases y with
 | r D T ns=>
  simp only[Udf,List.all_eq_true]at hy;obtain⟨D',hv,hW,hR⟩:=hi;have e:∀(i:Nat) (ns:List (Nat×Nat)),(∀q∈ns,jA q.2 ce=true)->ns.map (λq=>(q.1,Uc0 i q.2))=ns.map λq=>(q.1,i):=λi ns hn=>List.map_congr_left λq hq=>by simp only[Uc0,hn q hq,Q1]
  rw[e _ _ hy]at hR;refine⟨D',hv,hW,?_⟩;rw[e _ _ hy];refine⟨hR.size,λi hi=>hR.same i ?_,λi k hk=> ?_,by have:=hR.uniq;rw[List.map_map]at this |-;exact this⟩
  ·rw[li λ_=>id]at hi;rw[li λ_=>id2];cases hq:Uaz ns i with|none=>rfl|some k=>rw[hq]at hi;cases hi
  ·rw[li λ_=>id]at hk;cases hq:Uaz ns i with
   |none=>rw[hq]at hk;cases hk
   |some k0=>rw[hq]at hk;cases hk;obtain⟨r1,ad,l,c,r2,r3⟩:=hR.refs i id2 (by rw[li λ_=>id2,hq];rfl);exact⟨r1,ad,l,c,r2,hid _ r3⟩
 |l n=>cases hy
 |x=>trivial
 |_=>exact fin hy rfl rfl
theorem fo{g id id2:Nat}{ρ2 ρ3:Nat->Ad}{h2 J:List VB}(O:∀n,n<g->J[n]?=h2[n]?)(hid:∀v,IsL P ρ2 h2 id2 v->IsL P ρ3 J id v){y:SV}(L:qe g y=true){v:QC}(hi:IsV P ρ2 h2 (Ug7 id2 y) v):IsV P ρ3 J (Ug7 id y) v:=by
 cases y with
 |a y=>exact AH (P:=P) O hid L hi
 | t l=>
  obtain⟨vs,U,h2,J⟩:=hi;simp only[qe,List.all_eq_true]at L;refine⟨vs,U,by simpa using h2,λi y v A V=> ?_⟩;rw[jE]at A;cases hl:l[i]? with
  |none=>rw[hl]at A;cases A
  |some Z=>rw[hl]at A;cases A;exact AH (P:=P) O hid (L Z (List.mem_of_getElem? hl)) (J i _ v (by rw[jE,hl];rfl) V)
def nilN(i:Nat)(e:QE):Option (SV×Eff×Bool)->Option (SV×Eff×Bool)
 |some (.t l,.none,g)=>(match l[i]? with
  |some (.v (.slice none 0 0))=>bif Nat.ble 1000000 i then none else some (.t (l.set i .x),.newS (some i) 0 #[] e,g)
  |_=>some (.t l,.none,g))
 |some (.a (.v (.slice none 0 0)),.none,g)=>some (.a .x,.newS none 0 #[] e,g)
 |r=>r
theorem AI{ρ:Nat->Ad}{h:List VB}{w:QB}{e:QE}:BIs P ρ h w ⟨0,0⟩ (.sl .own 0 #[] e):=
 ⟨⟨by simp,λk hk=>absurd hk (by omega),by omega,.inl rfl⟩,λ_ h=>absurd rfl h⟩
theorem ix{ρ:Nat->Ad}{h:List VB}{l:List SA}{vs:List QC}{i:Nat}(J:Uap P ρ h l vs)(j:Nat)(y:SA)(u:QC)(A:(l.set i .x)[j]?=some y)(L:vs[j]?=some u):Is P ρ h y u:=by
 rw[List.getElem?_set]at A;split at A
 ·rename_i O;split at A
  ·cases A;trivial
  ·cases A
 ·exact J.2 j y u A L
theorem iy{ρ:Nat->Ad}{h:List VB}{l:List SA}{vs:List QC}{i:Nat}(L:Uap P ρ h l vs)(hl:l[i]?=some (.v (.slice none 0 0))){A:i<vs.length}(J:Is P ρ h (.v (.slice none 0 0)) vs[i]):vs[i]?=some (.slice none 0 0):=by rw[jB A];exact congrArg some J
theorem Uap.get{ρ:Nat->Ad}{h:List VB}{args:List SA}{vals:List QC}(J:Uap P ρ h args vals){i:Nat}{y:SA}(L:args[i]?=some y):∃v,Is P ρ h y v:=by
 have A:i<vals.length:=by rw[<- J.1];exact(jK.1 L).1
 exact⟨_,J.2 i y _ L (jB A)⟩
theorem Uap.wt{ρ:Nat->Ad}{h:List VB}{args:List SA}{vals:List QC}(A:Uap P ρ h args vals)(i:Nat){D:QA}{T:QE}(J:args[i]?=some (.g D T)):WT P T D:=by obtain⟨v,_,h⟩:=A.get J;exact h
theorem Uap.wtr{ρ:Nat->Ad}{h:List VB}{args:List SA}{vals:List QC}(A:Uap P ρ h args vals)(i:Nat){D:QA}{T:QE}{ns:List (Nat×Nat)}(J:args[i]?=some (.r D T ns)):WT P T D:=by obtain⟨v,_,_,h,_⟩:=A.get J;exact h
theorem Uap.rng{ρ:Nat->Ad}{h:List VB}{args:List SA}{vals:List QC}(A:Uap P ρ h args vals)(i:Nat){k:IntKind}{x:Int}(J:args[i]?=some (.i k x)):k.min<=x/\x<=k.max:=by obtain⟨v,_,h⟩:=A.get J;exact h
theorem HIs.wt{ρ:Nat->Ad}{h:List VB}{w:QB}(A:HIs P ρ h w)(i:Nat){D:QA}{T:QE}(J:h[i]?=some (.row D T)):WT P T D:=(A.is i _ J).2
theorem HIs.slw{ρ:Nat->Ad}{h:List VB}{w:QB}(A:HIs P ρ h w)(i:Nat){a:SlK}{len:Nat}{C:QA}{e:QE}(J:h[i]?=some (.sl a len C e)):
  C.size=len*(lay P e).length/\(∀k,k<len->WT P e (C.extract (k*(lay P e).length) (k*(lay P e).length+(lay P e).length)))/\len<=9223372036854775807:=
 let hs:=A.sl J
 ⟨hs.1,hs.2.1,hs.2.2.1⟩
end
end
section
open Go.RowKit Go.ChangeShapes Go.WideShapes Go.ChangeAt
def qf(P:QD)(dt:QE->Bool)(L:List Nat):List Field->Nat->Bool
 |[],o=>jA o L.length
 |f::r,o=>jA f.offset o&&dt f.type&&leq ((L.drop o).take (lay P f.type).length) (lay P f.type)&&jA (P.cellsOf f.type) (lay P f.type).length&&qf P dt L r (o+(lay P f.type).length)
def Ufh(P:QD):Nat->QE->Bool
 |0,_=>false
 |n+1,t=>match P.underlying t with|some (.int k)=>leq (lay P t) [kN k]|some (.array m e)=>Ufh P n e&&lP (lay P t) (lay P e) (lay P e).length m&&jA (lay P t).length (m*(lay P e).length)&&jA (P.cellsOf e) (lay P e).length&&jA (P.cellsOf t) (lay P t).length&&Nat.blt 0 (lay P e).length|some (.struct fs)=>qf P (Ufh P n) (lay P t) fs.toList 0&&jA (P.cellsOf t) (lay P t).length|_=>false
section
variable {H:Type} {enc:QE×QC->H} {P:QD} {w:QB} {base:Nat} {spare:Nat->Bool} {held:Bool}
def ln(P:QD)(t:QE)(cs:List QC):Prop:=cs.map cw=lay P t/\∀v∈cs,Ub7 v
theorem qg:∀(n:Nat) (t:QE) (fuel:Nat) (cs:List QC) (x:DataW H×List MemPlace),Ufh P n t=true->DataW.trod enc P w base spare held fuel t cs=some x->ln P t cs
 |0,t,fuel,cs,x,hd,_=>by cases hd
 | n+1,t,fuel,cs,x,hd,h=>by
  simp only[Ufh]at hd;split at hd
  ·rename_i k hu;obtain⟨z,rfl,_,hwf⟩:=DataW.trod_int hu h;refine⟨by rw[Zix hd];rfl,λv hv=> ?_⟩;obtain rfl:v=.int k z:=by simpa using hv
   show k.min<=z/\z<=k.max
   simpa [Lit.wf] using hwf
  ·rename_i m e hu;simp only[Q7]at hd;obtain⟨⟨⟨⟨⟨hde,hall⟩,hlen⟩,hce⟩,hct⟩,h0⟩:=hd;have hlen:=jG hlen;have hce:=jG hce;have hct:=jG hct;have h0:0<(lay P e).length:=by simp[Nat.blt]at h0;omega
   obtain⟨xs,k,rfl,rfl,hl,hxs,hp⟩:=DataW.trod_array hu h;have part:∀i,i<m->ln P e ((cs.drop (i*(lay P e).length)).take (lay P e).length):=λi hi=>by
    have:=hp i hi;rw[hce,jB (by omega)]at this;exact qg n e k _ _ hde this
   have hcl:cs.length=m*(lay P e).length:=by omega
   have at_:∀p,p<cs.length->p / (lay P e).length<m/\p / (lay P e).length*(lay P e).length+p % (lay P e).length=p/\p % (lay P e).length<(lay P e).length:=λp hp=>by
    refine⟨?_,by rw[Nat.mul_comm];exact Nat.div_add_mod _ _,Nat.mod_lt _ h0⟩;rw[Nat.div_lt_iff_lt_mul h0];omega
   constructor
   ·refine List.ext_getElem? λp=> ?_
    by_cases hp':p<cs.length
    ·obtain⟨h1,h2,h3⟩:=at_ p hp';have hpart:=(part _ h1).1;have hs:=pN (P:=P) (T:=t) rfl (Zwv hall _ h1) _ h3;rw[h2]at hs;have h5:=congrArg (λl:List Nat=>l[p % (lay P e).length]?) hpart;simp only[jE,jN,if_pos h3,jO,h2]at h5;rw[hs,jE];exact h5
    ·rw[jF (by simp;omega),jF (by omega)]
   ·intro v hv;obtain⟨p,hp',rfl⟩:=List.mem_iff_getElem.1 hv;obtain⟨h1,h2,h3⟩:=at_ p hp';refine(part _ h1).2 _ ?_;rw[List.mem_iff_getElem?];exact⟨p % (lay P e).length,by rw[jN,if_pos h3,jO,h2,jB hp']⟩
  ·rename_i fs hu;simp only[Q7]at hd;obtain⟨hf,hct⟩:=hd;have hct:=jG hct;obtain⟨xs,k,_,rfl,hl,hxs,hp⟩:=DataW.trod_struct hu h;have hcl:cs.length=(lay P t).length:=by omega
   -- field by field
   have go:∀(l:List Field) (o:Nat),qf P (Ufh P n) (lay P t) l o=true->(∀f∈l,∃y,DataW.trod enc P w base spare held k f.type ((cs.drop f.offset).take (P.cellsOf f.type))=some y) ->
     (∀p,o<=p->p<cs.length->(cs.map cw)[p]?=(lay P t)[p]? /\ ∀v,cs[p]?=some v->Ub7 v):=by
    intro l
    induction l with
    |nil=>intro o ho _ p h1 h2;have:=jG ho;omega
    | cons f r ih=>
     intro o ho hy p h1 h2;simp only[qf,Q7]at ho;obtain⟨⟨⟨⟨hoff,hdf⟩,hsub⟩,hcf⟩,hr⟩:=ho;have hoff:=jG hoff;have hcf:=jG hcf
     by_cases hin:p<o+(lay P f.type).length
     ·obtain⟨y,hy1⟩:=hy f (List.mem_cons_self ..);rw[hoff,hcf]at hy1;have hfit:=qg n f.type k _ _ hdf hy1;obtain⟨q,rfl⟩:∃q,p=o+q:=⟨p - o,by omega⟩;have hs:=pN (P:=P) (T:=t) rfl hsub q (by omega);refine⟨?_,λv hv=>hfit.2 v ?_⟩
      ·have h5:=congrArg (λl:List Nat=>l[q]?) hfit.1;simp only[jE,jN,if_pos (show q<(lay P f.type).length by omega),jO]at h5;rw[hs,jE];exact h5
      ·rw[List.mem_iff_getElem?];exact⟨q,by rw[jN,if_pos (by omega),jO];exact hv⟩
     ·exact ih (o+(lay P f.type).length) hr (λf' hf'=>hy f' (jL _ hf')) p (by omega) h2
   have all:=go fs.toList 0 hf λf hfm=>by
    obtain⟨i,hi⟩:=List.mem_iff_getElem?.1 hfm;have:=hp i f (by simpa using hi);have hi':i<xs.length:=by have:=(jK.1 hi).1;simp at this;omega
    rw[jB hi']at this;exact⟨_,this⟩
   constructor
   ·refine List.ext_getElem? λp=> ?_
    by_cases hp':p<cs.length
    ·exact(all p (Nat.zero_le _) hp').1
    ·rw[jF (by simp;omega),jF (by omega)]
   ·intro v hv;obtain⟨p,hp',rfl⟩:=List.mem_iff_getElem.1 hv;exact(all p (Nat.zero_le _) hp').2 _ (jB hp')
  ·cases hd
theorem AJ{r:Reach}{L:Nat}{t:QE}{v:QC}{d:DataW H}{ps:List MemPlace}(n:Nat)(O:Ufh P n t=true)(U:isRow P t=true)(A:Value.okWide P w r base t v)(h:DataW.Trod enc P w L spare held t v d ps):
  ∃D:QA,v=.agg D/\WT P t D:=by
 obtain⟨desc,V,J⟩:=fB U;have:∃cs,v=.agg cs:=by
  unfold Value.okWide at A;rw[V]at A;cases desc<;>simp_all [TypeDesc.isRow]
  all_goals exact⟨_,A.choose_spec.1⟩
 obtain⟨cs,rfl⟩:=this;obtain⟨fuel,Z⟩:=h;have:=qg n t fuel _ _ O Z;exact⟨cs,rfl,this⟩
end
def bN(n:Nat):Ad:=⟨n,0⟩
section
variable {P:QD}
theorem fp:Uap P bN [] [] []:=⟨rfl,λi y v h=>by simp at h⟩
theorem Uet{y:SA}{v:QC}{l:List SA}{vs:List QC}(L:Is P bN [] y v)(h2:Uap P bN [] l vs):Uap P bN [] (y::l) (v::vs) :=
  ⟨by simp [h2.1], fun i z u A J => by
    cases i with
    | zero =>simp only[jC,Q8]at A J;subst A; subst J; exact L
    |succ i=>exact h2.2 i z u (by simpa using A) (by simpa using J)⟩
end
theorem wfb{k:IntKind}{n:Int}(h:(Lit.int k n).wf=true):k.min<=n/\n<=k.max:=by simpa [Lit.wf] using h
end
section
def upto(a z:QA)(j:Nat):QA:=a.extract 0 j++z.extract j z.size
theorem AK{a z:QA}{j:Nat}(A:a.size=z.size)(J:j<=a.size):(upto a z j).size=a.size:=by simp only[upto,Array.size_append,Array.size_extract];omega
theorem mq{a z:QA}{j:Nat}(J:a.size=z.size)(A:j<=a.size)(i:Nat):(upto a z j)[i]?=if i<j then a[i]? else z[i]?:=by
 unfold upto;rw[Array.getElem?_append];simp only[Array.size_extract,Nat.sub_zero,Nat.min_eq_left A];split
 ·rename_i h;rw[jM];simp only[Nat.zero_add,Nat.min_eq_left A,Nat.sub_zero];rw[if_pos h]
 ·rename_i h;rw[jM];simp only[Nat.min_self];rw[show j+(i - j)=i by omega];split
  ·rfl
  ·rw[Array.getElem?_eq_none (by omega)]
theorem jq{a z:QA}(A:a.size=z.size):upto a z 0=z:=Zie λi=>by
 rw[mq A (by omega)];simp
theorem jr{a z:QA}(A:a.size=z.size){n:Nat}(J:a.size=n):upto a z n=a:=Zie λi=>by
 rw[mq A (by omega)];split
 ·rfl
 ·rw[Array.getElem?_eq_none (by omega),Array.getElem?_eq_none (by omega)]
theorem qh{a z D:QA}{j m:Nat}(A:a.size=z.size)(L:j+m<=a.size)(hD:D=a.extract j (j+m)):spl (upto a z j) j D.toList=upto a z (j+m):=by
 subst hD;have hl:(a.extract j (j+m)).toList.length=m:=by simp only[Array.length_toList,Array.size_extract];omega
 refine Zie λi=> ?_
 rw[cn _ _ _ (by rw[hl,AK A (by omega)];omega),mq A (by omega),hl,mq A (by omega)]
 by_cases J:i<j
 ·rw[if_neg (by omega),if_pos J,if_pos (by omega)]
 ·by_cases h2:i<j+m
  ·rw[if_pos (by omega),if_pos h2,Array.getElem?_toList,jM,show min (j+m) a.size=j+m by omega,if_pos (by omega),show j+(i - j)=i by omega]
  ·rw[if_neg (by omega),if_neg J,if_neg h2]
theorem iz{a z:QA}{j:Nat}{v:QC}(A:a.size=z.size)(J:a[j]?=some v):(upto a z j).setIfInBounds j v=upto a z (j+1):=by
 have O:j<a.size:=(jP.1 J).1;refine Zie λi=> ?_
 rw[Array.getElem?_setIfInBounds,mq A (by omega),mq A (by omega),AK A (by omega)]
 by_cases h:j=i
 ·subst h;rw[if_pos rfl,if_pos O,if_pos (by omega),J]
 ·rw[if_neg h]
  by_cases L:i<j
  ·rw[if_pos L,if_pos (by omega)]
  ·rw[if_neg L,if_neg (by omega)]
theorem fq(a:QA):Uag a a=true:=bT.2 rfl
theorem wn{a b:QA}:Uag a b=false ↔ a≠b:=by rw[<- Bool.not_eq_true];exact not_congr bT
theorem Lo{n:Nat}{p:Nat->Bool}(h:¬ ∀k,k<n->p k=true):∃j,j<n/\(∀i,i<j->p i=true)/\p j=false:=by
 induction n with
 |zero=>exact absurd (λk hk=>absurd hk (by omega)) h
 | succ n ih=>
  by_cases h1:∀k,k<n->p k=true
  ·refine⟨n,by omega,h1,?_⟩;cases hp:p n with
   |false=>rfl
   | true=>
    exact absurd (λk hk=>by
     by_cases e:k=n
     ·rw[e];exact hp
     ·exact h1 k (by omega)) h
  ·obtain⟨j,hj,h2,h3⟩:=ih h1;exact⟨j,by omega,h2,h3⟩
theorem Zn9{T X α:Type}{g:T->Option (Stp T X)}(F:Nat->T)(p:Nat->Bool)(n:Nat){N:Nat}(V:n<N){xd:X}
  (O:∀k,k<n->p k=true->g (F k)=some (.more (F (k+1)))) (Z:g (F n)=some (.done xd))
  {A:X->Option α} (b:Bool) (U:b=true ↔ ∀k,k<n->p k=true) (rd re:Option α) (hx:A xd=rd) (hq:∀j,j<n->p j=false->∃x,g (F j)=some (.done x)/\A x=re) :
  Uah (Uab g N (F 0)) A=bif b then rd else re:=by
 cases J:b with|true=>rw[bP F (λk hk=>O k hk (U.1 J k hk)) Z V];exact hx|false=>obtain⟨j,hj,h1,h2⟩:=Lo (n:=n) (p:=p) (λh=>by rw[U.2 h]at J;cases J);obtain⟨x,L,hA⟩:=hq j hj h2;rw[bP (m:=j) F (λk hk=>O k (by omega) (h1 k hk)) L (by omega)];exact hA
theorem Lp{a b:QA}{o n i:Nat}(A:o+n<=a.size)(J:o+n<=b.size)(h:a.extract o (o+n)=b.extract o (o+n))(L:o<=i)(h2:i<o+n):a[i]?=b[i]?:=by have e:=congrArg (λx:QA=>x[i - o]?) h;simp only[jM]at e;rw[if_pos (by omega),if_pos (by omega),show o+(i - o)=i by omega]at e;exact e
theorem lp{a b:Int}(h:(a != b)=false):a=b:=by simpa [bne] using h
end
section
def oi(h:List VB):List Nat->Option (List (QA×QE))
 |[]=>some []
 |n::r=>(match h[n]?,oi h r with
  |some (.row C T),some l=>some ((C,T)::l)
  |_,_=>none)
def iA(P:QD)(res:List ResultVar)(st:St):Option NewC:=match ip P st res with|some [.c f ns]=>bif cV ns then (match oi st.h ns with|some rs=>some ⟨f,rs⟩|none=>none) else none|_=>none
def finNK(P:QD)(res:List ResultVar)(e:QP)(st:St):Option NewC:=match e with|.normal=>iA P res st|.ret=>iA P res st|_=>none
def ansN(P:QD)(Γ:Cons)(N:Nat)(fn:Func)(l:List (List Nat×List Nat))(args:List SA):Option NewC:=
 bif args.all iv then veC P Γ N (codeOf fn) (Uaa (codeOf fn) l).1 NewC (entry fn.ntmps args []) (finNK P fn.results.toList) else none
theorem AL{h:List VB}:∀{ns:List Nat} {rs:List (QA×QE)},oi h ns=some rs->rs.length=ns.length/\∀(j n:Nat) (r:QA×QE),ns[j]?=some n->rs[j]?=some r->h[n]?=some (.row r.1 r.2)
 |[],rs,A=>by
  simp only[oi,Q8]at A;subst A;exact⟨rfl,λj n r L=>by simp at L⟩
 | m::ns,rs,A=>by
  simp only[oi]at A;split at A
  ·rename_i C T l O hl;simp only[Q8]at A;subst A;obtain⟨U,h2⟩:=AL hl;refine⟨by simp[U],λj n r L J=> ?_⟩;cases j with|zero=>simp only[jC,Q8]at L J;subst L;subst J;exact O|succ j=>exact h2 j n r (by simpa using L) (by simpa using J)
  ·cases A
theorem AM{g:Nat->Nat}:∀{l:List Nat},l.Nodup->(∀a,a∈l->∀b,b∈l->g a=g b->a=b)->(l.map g).Nodup
 |[],_,_=>List.nodup_nil
 |a::l,h,hi=>by
  have h':=List.nodup_cons.1 h;refine List.nodup_cons.2 ⟨λJ=> ?_,AM h'.2 λx L y O=>hi x (jL _ L) y (jL _ O)⟩;obtain⟨b,A,e⟩:=List.mem_map.1 J;have:=hi b (jL _ A) a (List.mem_cons_self ..) e;subst this;exact h'.1 A
section
variable {P:QD} {Γ:Cons} {N:Nat}
end
end
section
def inC(wd hi:Int)(k:Nat):Bool:=decide (((k % 6:Nat):Int)<wd)&&decide (((k / 6:Nat):Int)<hi)
def Uam(wd hi:Int)(n:Nat):List Int:=((jD n).filter (inC wd hi)).map λk:Nat=>(k:Int)
theorem oj{wd hi:Int}{k:Nat}(h:inC wd hi k=true):Uam wd hi (k+1)=Uam wd hi k++[(k:Int)]:=by simp[Uam,List.range_succ,List.filter_append,h]
theorem qi{wd hi:Int}{k:Nat}(h:inC wd hi k=false):Uam wd hi (k+1)=Uam wd hi k:=by simp[Uam,List.range_succ,List.filter_append,h]
theorem wo{wd hi:Int}(k:Nat):∀n,(∀j,j<n->inC wd hi (k+j)=false)->Uam wd hi (k+n)=Uam wd hi k
 |0,_=>rfl
 |n+1,h=>by
  rw[<- Nat.add_assoc,qi (h n (by omega))];exact wo k n λj A=>h j (by omega)
theorem lq{wd hi x y:Nat}(J:wd<=6)(hh:hi<=6)(L:x<wd)(O:y<hi):inC wd hi (6*y+x)=true:=by
 have A:(6*y+x) % 6=x:=by omega
 have h2:(6*y+x) / 6=y:=by omega
 unfold inC;rw[A,h2,Q3 (by omega),Q3 (by omega)];rfl
theorem Lq{wd hi y:Nat}(J:wd<=6):Uam wd hi (6*(y+1))=Uam wd hi (6*y+wd):=by
 have:=wo (wd:=wd) (hi:=hi) (6*y+wd) (6 - wd) (λj L=>by
  have A:(6*y+wd+j) % 6=wd+j:=by omega
  unfold inC;rw[A,Q4 (by omega)];rfl)
 rwa [show 6*y+wd+(6 - wd)=6*(y+1) by omega]at this
theorem Lr{wd hi:Nat}(hh:hi<=6):Uam wd hi 36=Uam wd hi (6*hi):=by
 have:=wo (wd:=wd) (hi:=hi) (6*hi) (36 - 6*hi) (λj A=>by
  have J:hi<=(6*hi+j) / 6:=by omega
  unfold inC;rw[Bool.and_eq_false_iff];exact .inr (Q4 (by omega)))
 rwa [show 6*hi+(36 - 6*hi)=36 by omega]at this
theorem AN{wd hi:Int}{k m:Nat}(h:k<=m):Uam wd hi k <+: Uam wd hi m:=by
 obtain⟨d,rfl⟩:∃d,m=k+d:=⟨m - k,by omega⟩
 induction d with|zero=>exact List.prefix_refl _|succ d J=>refine(J (by omega)).trans ?_;rw[show k+(d+1)=k+d+1 by omega];cases A:inC wd hi (k+d) with|true=>rw[oj A];exact List.prefix_append _ _|false=>rw[qi A];exact List.prefix_refl _
theorem ol{wd hi x:Int}{n:Nat}(h:x∈Uam wd hi n):0<=x/\x<n:=by obtain⟨k,hk,rfl⟩:=List.mem_map.1 h;have:=List.mem_range.1 (List.mem_filter.1 hk).1;omega
end
section
def folds{T:Type}(f:T->Nat->T)(t:T)(k:Nat):T:=(jD k).foldl f t
theorem Ls{T:Type}(f:T->Nat->T)(t:T):folds f t 0=t:=rfl
theorem cz{T:Type}(f:T->Nat->T)(t:T)(k:Nat):folds f t (k+1)=f (folds f t k) k:=by simp[folds,List.range_succ,List.foldl_append]
theorem Zqt{T:Type}{f g:T->Nat->T}(I:Nat->T->Prop){t:T}{n:Nat}(h0:I 0 t)(h:∀k s,k<n->I k s->f s k=g s k/\I (k+1) (g s k)):∀k,k<=n->folds f t k=folds g t k/\I k (folds g t k)
 |0,_=>⟨rfl,h0⟩
 |k+1,hk=>by
  obtain⟨e,i⟩:=Zqt I h0 h k (by omega);rw[cz,cz,e];exact h k _ (by omega) i
theorem Znj{T:Type}{f:T->Nat->T}(I:Nat->T->Prop){t:T}{n:Nat}(h0:I 0 t)(h:∀k s,k<n->I k s->I (k+1) (f s k))(k:Nat)(hk:k<=n):I k (folds f t k):=
 (Zqt (f:=f) (g:=f) I h0 (λk s hk hi=>⟨rfl,h k s hk hi⟩) k hk).2
theorem wp{T X:Type}{g:Int->T->Option (Stp T X)}(f:T->Nat->T){wd hi:Int}{q:Int->Bool}(O:∀(t:T) (k:Nat),k<36->inC wd hi k=true->q (k:Int)=true->g (k:Int) t=some (.more (f t k)))(t:T):
  Uat g ((Uam wd hi 36).filter q) t=some (.more (folds (λt k=>if inC wd hi k&&q (k:Int) then f t k else t) t 36)):=by
 have key:∀n,n<=36->Uat g ((Uam wd hi n).filter q) t=some (.more (folds (λt k=>if inC wd hi k&&q (k:Int) then f t k else t) t n)):=by
  intro n
  induction n with
  |zero=>intro _;rfl
  | succ n A=>intro U;have A:=A (by omega);rw[cz];cases J:inC wd hi n with|false=>rw[qi J,A];rfl| true=>rw[oj J,List.filter_append,io,A];cases L:q (n:Int) with|false=>rw[show List.filter q [(n:Int)]=[] by simp[L]];rfl|true=>rw[show List.filter q [(n:Int)]=[(n:Int)] by simp[L]];simp only[Uat,O _ n (by omega) J L];rfl
 exact key 36 (Nat.le_refl _)
theorem Lt{T X:Type}{g:Int->T->Option (Stp T X)}(f:T->Nat->T){wd hi:Int}(A:∀(t:T) (k:Nat),k<36->inC wd hi k=true->g (k:Int) t=some (.more (f t k)))(t:T):
  Uat g (Uam wd hi 36) t=some (.more (folds (λt k=>if inC wd hi k then f t k else t) t 36)):=by
 have h:=wp (q:=λ_=>true) f (λt k J h2 _=>A t k J h2) t;simp only[Bool.and_true]at h;rw[<- h,List.filter_eq_self.2 λ_ _=>rfl]
theorem iB{T S X:Type}{g:S->Option (Stp S X)}(e:T->Nat->S)(f:T->Nat->T){m:Nat}{t:T}{x:X}(h:∀k s,k<m->s=folds f t k->g (e s k)=some (.more (e (f s k) (k+1))))(A:g (e (folds f t m) m)=some (.done x)){N:Nat}(J:m<N):
  Uab g N (e t 0)=some x:=by
 have:=bP (g:=g) (λk=>e (folds f t k) k) (m:=m) (x:=x) (λk hk=>by rw[cz];exact h k _ hk rfl) A (N:=N) J;exact this
theorem iC{T X:Type}{g:T->Option (Stp T X)}(F:Nat->T)(p:Nat->Bool)(n:Nat){N:Nat}(J:n<N){xd:X}(xf:Nat->X)
  (A:∀k,k<n->p k=false->g (F k)=some (.more (F (k+1)))) (L:∀k,k<n->p k=true->g (F k)=some (.done (xf k))) (O:g (F n)=some (.done xd)) :
  Uab g N (F 0)=some (match (jD n).find? p with|some k=>xf k|none=>xd):=by
 cases h:(jD n).find? p with|none=>have h':=List.find?_range_eq_none.1 h;exact bP F (λk hk=>A k hk (by simpa using h' k hk)) O J|some j=>obtain⟨U,h2,V⟩:=List.find?_range_eq_some.1 h;have Z:=List.mem_range.1 h2;exact bP (m:=j) F (λk hk=>A k (by omega) (by simpa using V k hk)) (L j Z U) (by omega)
theorem rH{n:Nat}{p q:Nat->Bool}(h:∀k,k<n->p k=q k):(jD n).find? p=(jD n).find? q:=by
 cases e:(jD n).find? q with
 |none=>exact List.find?_range_eq_none.2 λk hk=>by rw[h k hk];exact List.find?_range_eq_none.1 e k hk
 |some j=>obtain⟨A,h2,J⟩:=List.find?_range_eq_some.1 e;have L:=List.mem_range.1 h2;exact List.find?_range_eq_some.2 ⟨by rw[h j L];exact A,h2,λi hi=>by rw[h i (by omega)];exact J i hi⟩
end
section
def bitI(c:Int)(k:Nat):Bool:=(BitVec.ofInt 64 c).getLsbD k
def orI(a b:Int):Int:=IntKind.u64.wrap (BitVec.ofInt IntKind.u64.bits a ||| BitVec.ofInt IntKind.u64.bits b).toNat
def andI(a b:Int):Int:=IntKind.u64.wrap (BitVec.ofInt IntKind.u64.bits a &&& BitVec.ofInt IntKind.u64.bits b).toNat
def Ubh(a b:Int):Int:=IntKind.u64.wrap (BitVec.ofInt IntKind.u64.bits a &&& ~~~(BitVec.ofInt IntKind.u64.bits b)).toNat
theorem wq(x:BitVec 64):IntKind.u64.wrap (x.toNat:Int)=x.toNat:=by have:=x.isLt;rw[IntKind.wrap_u64];omega
theorem wu(x:BitVec 64):BitVec.ofInt 64 (IntKind.u64.wrap (x.toNat:Int))=x:=by rw[wq,BitVec.ofInt_natCast,BitVec.ofNat_toNat,BitVec.setWidth_eq]
theorem lr(a b:Int)(k:Nat):bitI (orI a b) k=(bitI a k||bitI b k):=by unfold bitI orI;rw[show IntKind.u64.bits=64 from rfl,wu,BitVec.getLsbD_or]
theorem AO(a b:Int)(k:Nat):bitI (andI a b) k=(bitI a k&&bitI b k):=by unfold bitI andI;rw[show IntKind.u64.bits=64 from rfl,wu,BitVec.getLsbD_and]
theorem AP(a b:Int){k:Nat}(hk:k<64):bitI (Ubh a b) k=(bitI a k && !bitI b k):=by unfold bitI Ubh;rw[show IntKind.u64.bits=64 from rfl,wu,BitVec.getLsbD_and,BitVec.getLsbD_not,Q3 hk,Bool.true_and]
theorem om(k:Nat):bitI 0 k=false:=by unfold bitI;simp
def cZ(c:Int):Prop:=0<=c/\c<=18446744073709551615
theorem u64_and(a b:Int):cZ (andI a b):=by unfold andI;rw[show IntKind.u64.bits=64 from rfl,wq];have:=(BitVec.ofInt 64 a &&& BitVec.ofInt 64 b).isLt;unfold cZ;omega
theorem Yvo(a b:Int):cZ (Ubh a b):=by unfold Ubh;rw[show IntKind.u64.bits=64 from rfl,wq];have:=(BitVec.ofInt 64 a &&& ~~~(BitVec.ofInt 64 b)).isLt;unfold cZ;omega
theorem wv{c:Int}(h:cZ c):((BitVec.ofInt 64 c).toNat:Int)=c:=by unfold cZ at h;rw[BitVec.toNat_ofInt];omega
theorem Ywt{a b:Int}(A:cZ a)(J:cZ b)(h:∀k,k<64->bitI a k=bitI b k):a=b:=by
 rw[<- wv A,<- wv J];have:BitVec.ofInt 64 a=BitVec.ofInt 64 b:=BitVec.eq_of_getLsbD_eq λk hk=>h k hk
 rw[this]
theorem AQ{c:Int}(h:cZ c)(k:Nat):bitI c k=c.toNat.testBit k:=by
 unfold bitI;have e:=wv h
 show (BitVec.ofInt 64 c).toNat.testBit k=_
 rw[show (BitVec.ofInt 64 c).toNat=c.toNat by omega]
def oneI(j:Nat):Int:=IntKind.u64.wrap ((1:Int)*2^(min j IntKind.u64.bits))
theorem AR{j:Nat}(A:j<64):oneI j=((2^j:Nat):Int):=by
 unfold oneI;rw[Int.one_mul,show min j IntKind.u64.bits=j from Nat.min_eq_left (by show j<=64;omega),IntKind.wrap_u64];have J:(2:Int)^j=((2^j:Nat):Int):=by norm_cast
 have h2:2^j<2^64:=Nat.pow_lt_pow_right (by omega) A;rw[J];generalize (2:Nat)^j=m at h2|-
 omega
theorem u64_one{j:Nat}(A:j<64):cZ (oneI j):=by
 rw[AR A];have h2:2^j<2^64:=Nat.pow_lt_pow_right (by omega) A;unfold cZ;generalize (2:Nat)^j=m at h2|-
 omega
theorem wy{j:Nat}(A:j<64)(k:Nat):bitI (oneI j) k=decide (j=k):=by
 rw[AQ (u64_one A),AR A]
 show (2^j).testBit k=_
 rw[Nat.testBit_two_pow]
theorem iD{c:Int}(h:cZ c){k:Nat}(hk:k<64):((c.fdiv (2^(min k IntKind.u64.bits))).tmod 2==1)=bitI c k:=by
 rw[AQ h,show min k IntKind.u64.bits=k from Nat.min_eq_left (by show k<=64;omega)];obtain⟨n,rfl⟩:∃n:Nat,c=(n:Int):=⟨c.toNat,by unfold cZ at h;omega⟩;have e:((n:Int)).fdiv (2^k)=((n / 2^k:Nat):Int):=by
  rw[Int.fdiv_eq_ediv_of_nonneg _ (Int.le_of_lt (Int.pow_pos (by omega)))]
  norm_cast
 rw[e];have A:((n / 2^k:Nat):Int).tmod 2=((n / 2^k % 2:Nat):Int):=by rw[Int.tmod_eq_emod_of_nonneg (Int.natCast_nonneg _)];norm_cast
 rw[A,Q9,Nat.testBit_eq_decide_div_mod_eq];rw[Bool.eq_iff_iff,beq_iff_eq,decide_eq_true_iff];omega
theorem ft{c:Int}{j:Nat}(A:j<64):(andI c (oneI j) != 0)=bitI c j:=by
 rw[Bool.eq_iff_iff,bne_iff_ne];constructor
 ·intro h;cases J:bitI c j with
  |true=>rfl
  |false=>
   refine absurd (Ywt (u64_and _ _) ⟨Int.le_refl 0,by omega⟩ λk hk=> ?_) h;rw[AO,wy A,om]
   by_cases e:j=k
   ·subst e;rw[J];rfl
   ·rw[Q4 e,Bool.and_false]
 ·intro h e;have:=congrArg (λx=>bitI x j) e;simp only[AO,wy A,om,h]at this;simp at this
theorem Lu{a b:Int}:(Ubh a b==0)=true ↔ ∀k,k<64->bitI a k=true->bitI b k=true:=by
 rw[beq_iff_eq];constructor
 ·intro h k hk A;have:=congrArg (λx=>bitI x k) h;simp only[AP _ _ hk,om,A,Bool.true_and,Bool.not_eq_false']at this;exact this
 ·intro h;refine Ywt (Yvo _ _) ⟨Int.le_refl 0,by omega⟩ λk hk=> ?_
  rw[AP _ _ hk,om];cases A:bitI a k with|false=>rfl|true=>rw[h k hk A];rfl
def Ua7(wd hi:Int)(n:Nat):Int:=folds (λb k=>if inC wd hi k then orI b (oneI k) else b) 0 n
theorem AS(wd hi:Int):∀(n:Nat),n<=36->∀k,bitI (Ua7 wd hi n) k=(decide (k<n)&&inC wd hi k)
 |0,_,k=>by unfold Ua7;rw[Ls,om];simp
 | n+1,hn,k=>by
  have ih:=AS wd hi n (by omega) k;unfold Ua7 at ih|-
  rw[cz];cases hb:inC wd hi n with
  | true=>
   rw[if_pos rfl,lr,ih,wy (by omega)]
   by_cases e:n=k
   ·subst e;simp[hb]
   ·have:decide (k<n+1)=decide (k<n):=decide_eq_decide.2 (by omega);rw[this];simp[e]
  | false=>
   rw[if_neg (by simp),ih]
   by_cases e:n=k
   ·subst e;simp[hb]
   ·have:decide (k<n+1)=decide (k<n):=decide_eq_decide.2 (by omega);rw[this]
end
section
open Go.RowKit Go.ChangeShapes Go.WideShapes Go.ChangeAt
section
variable {H:Type} {enc:QE×QC->H} {P:QD} {w:QB} {base:Nat} {spare:Nat->Bool} {held:Bool}
theorem iE{b0:Nat}{t e:QE}{v:QC}{d:DataW H}{ps:List MemPlace}(n:Nat)(ht:P.underlying t=some (.slice e))(hd:Ufh P n e=true)(hc:P.cellsOf e=(lay P e).length)(A:0<(lay P e).length)
  (hv:∃a len cap,v=.slice a len cap) (h:DataW.Trod enc P w b0 spare held t v d ps):∃a len cap C,v=.slice a len cap/\SlIs P w a len C e:=by
 obtain⟨a0,l0,c0,rfl⟩:=hv;obtain⟨fuel,hf⟩:=h;have hf':DataW.trod enc P w b0 spare held fuel t [Value.slice a0 l0 c0]=some (d,ps):=hf;rcases Deep.open_slice ht hf' with ⟨h0,_⟩ | ⟨a,len,cap,m,n',D,Pl,h0,hb,hl,Z,hm,_,hx⟩
 ·obtain⟨h0,-⟩:=List.cons.inj h0;exact⟨none,0,0,#[],h0,by simp,λk hk=>absurd hk (by omega),by omega,.inl rfl⟩
 ·obtain⟨h0,-⟩:=List.cons.inj h0;have hle:len<=m:=by rw[hm];split<;>omega
  have mx:len<=9223372036854775807:=by simp[maxLen]at Z;omega
  by_cases hz:len=0
  ·subst hz;exact⟨some a,0,cap,#[],h0,by simp,λk hk=>absurd hk (by omega),by omega,.inl rfl⟩
  rw[hc]at hx;generalize hM:(lay P e).length=M at hx A;obtain⟨b,o,s⟩:=a;have hs:s=none:=by
   obtain⟨cs0,q0,_⟩:=hx 0 (by omega);obtain⟨_,V,L⟩:=World.cells?_some q0;have J:=L 0 (by omega);rw[Nat.zero_mul,jB (by omega)]at J;cases s with
   |none=>rfl
   |some s=>
    exfalso;simp only[Addr.add,if_true]at J;unfold World.cell? at J;split at J
    ·simp at J
    ·cases J
  subst hs;have cell:∀k,k<len->∃cs':List QC,cs'.length=M/\(∀i,i<M->w.cell? ⟨b,o+(k*M+i),none⟩=cs'[i]?)/\ln P e cs':=λk hk=>by
   obtain⟨cs',q0,q4⟩:=hx k (by omega);obtain⟨_,V,L⟩:=World.cells?_some q0;refine⟨cs',V,λi hi=> ?_,qg n e _ _ _ hd q4⟩;have:=L i hi;rw[Addr.add_mid,Addr.add_mid,Nat.add_assoc]at this;exact this
  have O:((jD (len*M)).map λj=>(w.cell? ⟨b,o+j,none⟩).getD undef).toArray.size=len*M:=by simp
  have hC:∀j,j<len*M->(((jD (len*M)).map λj=>(w.cell? ⟨b,o+j,none⟩).getD undef).toArray)[j]?=some ((w.cell? ⟨b,o+j,none⟩).getD undef):=λj U=>by
   rw[List.getElem?_toArray,jE,List.getElem?_range U];rfl
  refine⟨some ⟨b,o,none⟩,len,cap,((jD (len*M)).map λj=>(w.cell? ⟨b,o+j,none⟩).getD undef).toArray,h0,by rw[O,hM],λk hk=> ?_,mx,.inr ⟨b,o,rfl,λj v U=> ?_,?_⟩⟩
  ·rw[hM];obtain⟨cs',V,L,J⟩:=cell k hk;have hkm:k*M+M<=len*M:=by
    have:(k+1)*M<=len*M:=Nat.mul_le_mul_right _ hk;rw[Nat.add_mul]at this;omega
   have he:(((jD (len*M)).map λj=>(w.cell? ⟨b,o+j,none⟩).getD undef).toArray).extract (k*M) (k*M+M)=cs'.toArray:=by
    refine Array.ext_getElem? λi=> ?_
    rw[jM,O]
    by_cases hi:i<M
    ·rw[if_pos (by omega),hC _ (by omega),L i hi,List.getElem?_toArray,jB (by omega)];rfl
    ·rw[if_neg (by omega),List.getElem?_toArray,jF (by omega)]
   rw[he];exact⟨by simpa using J.1,by simpa using J.2⟩
  ·rw[Array.getElem?_toList]at U;have b5:j<len*M:=by have:=(jP.1 U).1;rw[O]at this;exact this
   rw[hC j b5]at U;have hk:j / M<len:=(Nat.div_lt_iff_lt_mul A).2 b5;obtain⟨cs',V,L,J⟩:=cell (j / M) hk;have hq:=L (j % M) (Nat.mod_lt _ A);rw[show j / M*M+j % M=j by rw[Nat.mul_comm];exact Nat.div_add_mod _ _,jB (by rw[V];exact Nat.mod_lt _ A)]at hq;rw[hq]at U|-
   exact U
  ·obtain⟨cs',V,L,J⟩:=cell 0 (by omega);have hq:=L 0 A;rw[jB (by omega)]at hq;obtain⟨C,t',fr,hg⟩:=zE hq;exact(jP.1 hg).1
end
section
variable {P:QD}
theorem allNil2(hh:List VB):Uap P bN hh [] []:=⟨rfl,λi y v h=>by simp at h⟩
theorem Ucc{hh:List VB}{y:SA}{v:QC}{l:List SA}{vs:List QC}(L:Is P bN hh y v)(h2:Uap P bN hh l vs):Uap P bN hh (y::l) (v::vs) :=
  ⟨by simp [h2.1], fun i z u A J => by
    cases i with
    | zero =>simp only[jC,Q8]at A J;subst A; subst J; exact L
    |succ i=>exact h2.2 i z u (by simpa using A) (by simpa using J)⟩
inductive SlL (P:QD) (W:QB):List VB->Prop where
 |nil:SlL P W []
 |cons {a:Option Addr} {len:Nat} {C:QA} {e:QE} {l:List VB} (h:SlIs P W a len C e) (t:SlL P W l):SlL P W (.sl (.came (some a)) len C e::l)
 |gl {g:Nat} {t:QE} {a:Addr} {x:Nat} {l:List VB} (h:BIs P bN [] W ⟨0,0⟩ (.gl g t a x)) (t':SlL P W l):SlL P W (.gl g t a x::l)
theorem SlL.get{W:QB}{l:List VB}(h:SlL P W l):∀{n:Nat} {b:VB},l[n]?=some b->(∃a len C e,b=.sl (.came (some a)) len C e/\SlIs P W a len C e)\/∃g t a x,b=.gl g t a x/\BIs P bN [] W ⟨0,0⟩ (.gl g t a x):=by
 induction h with
 |nil=>intro n b A;simp at A
 |cons h t J=>intro n b A;cases n with|zero=>simp only[jC,Q8]at A;subst A;exact .inl ⟨_,_,_,_,rfl,h⟩|succ n=>exact J (by simpa using A)
 |gl h t J=>intro n b A;cases n with|zero=>simp only[jC,Q8]at A;subst A;exact .inr ⟨_,_,_,_,rfl,h⟩|succ n=>exact J (by simpa using A)
theorem SlL.his{W:QB}{l:List VB}(h:SlL P W l):HIs P bN l W:=by
 have no:∀n,¬present l n:=λn J=>by
  cases J with
  |row e=>rcases h.get e with ⟨_,_,_,_,A,_⟩ | ⟨_,_,_,_,A,_⟩<;>cases A
  |one e=>rcases h.get e with ⟨_,_,_,_,A,_⟩ | ⟨_,_,_,_,A,_⟩<;>cases A
  |own e hk _=>rcases h.get e with ⟨_,_,_,_,A,_⟩ | ⟨_,_,_,_,A,_⟩<;>cases A;cases hk
 exact⟨λn b L=>by
  rcases h.get L with ⟨a,len,C,e,rfl,A⟩ | ⟨g,t,a,x,rfl,A⟩
  ·exact⟨A,λh=>by cases h⟩
  ·exact A,λn m J=>absurd J (no n),λn b k _ _ m J=>absurd J (no m)⟩
theorem SlL.no{W:QB}{l:List VB}(h:SlL P W l):eD l:=λn len C e J=>by
 rcases h.get J with ⟨_,_,_,_,A,_⟩ | ⟨_,_,_,_,A,_⟩<;>cases A
theorem is_came{ρ:Nat->Ad}{h:List VB}{n len cap:Nat}{a:Option Addr}{C:QA}{e:QE}(A:h[n]?=some (.sl (.came (some a)) len C e)):Is P ρ h (.l n) (.slice a len cap):=
 .inr ⟨_,len,C,e,a,cap,A,rfl,λ_=>rfl,λh=>by cases h⟩
end
end
end Go.Proofs.YtefjogahegolbaaGreatDoor.Ve
