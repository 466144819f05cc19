/- Loops by typed rounds. -/
import Derived.OpenShut
import Derived.ProofKit
import Derived.Handed
import Derived.JoinedOf
import Derived.Deep.Slices
import Derived.Test.YtnhilgpdgicgfaaVeC
namespace Go.Proofs.Ytnhilgpdgicgfaa.Ve
open Go.RowKit
section
set_option linter.unusedVariables false
def us:Nat->List SV->List SV
 |0,l=>l
 |n+1,l=>.a .u::us n l
def xs:Nat->List SV->List SV
 |0,l=>l
 |n+1,l=>.a .x::xs n l
def cAt:Code->List Nat->Code
 |c,[]=>c
 |.seq x _,0::l=>cAt x l
 |.seq _ y,_::l=>cAt y l
 |.cond _ x _,0::l=>cAt x l
 |.cond _ _ y,_::l=>cAt y l
 |.block _ x,_::l=>cAt x l
 |.loop x,_::l=>cAt x l
 |.rangeFunc _ _ _ x,_::l=>cAt x l
 |.scope x,_::l=>cAt x l
 |c,_=>c
def pAt:Plan->List Nat->Plan
 |p,[]=>p
 |.two p _,0::l=>pAt p l
 |.two _ q,_::l=>pAt q l
 |.loop _ _ p,_::l=>pAt p l
 |.loopG _ _ _ _ p,_::l=>pAt p l
 |.loopR _ _ p,_::l=>pAt p l
 |.loopGR _ _ _ _ p,_::l=>pAt p l
 |.iter _ p,_::l=>pAt p l
 |.loopB _ _ _ _ p,_::l=>pAt p l
 |.loopM _ _ _ p,_::l=>pAt p l
 |.loopF _ _ _ p,_::l=>pAt p l
 |.iterB _ _ _ p,_::l=>pAt p l
 |.iterL _ p,_::l=>pAt p l
 |.iterW _ p,_::l=>pAt p l
 |.ng p,l=>pAt p l
 |.iterA _ p,_::l=>pAt p l
 |.jump _ _ _ p _,0::l=>pAt p l
 |.jump _ _ _ _ q,_::l=>pAt q l
 |p,_=>p
section
variable {T X S Y α:Type}
def mapS(e:T->S)(eX:X->Y):Option (Stp T X)->Option (Stp S Y)
 |some (.more t)=>some (.more (e t))
 |some (.done x)=>some (.done (eX x))
 |none=>none
theorem mapS_more(e:T->S)(eX:X->Y)(t:T):mapS e eX (some (.more t))=some (.more (e t)):=rfl
theorem mapS_done(e:T->S)(eX:X->Y)(t:X):mapS e eX (some (.done t))=some (.done (eX t)):=rfl
theorem mapS_none(e:T->S)(eX:X->Y):mapS e eX none=none:=rfl
theorem mapS_cond(e:T->S)(eX:X->Y)(c:Bool)(a b:Option (Stp T X)):mapS e eX (bif c then a else b)=bif c then mapS e eX a else mapS e eX b:=by cases c<;>rfl
theorem iter_sim(e:T->S)(eX:X->Y)(f:S->Option (Stp S Y))(g:T->Option (Stp T X))(h:∀t,f (e t)=mapS e eX (g t)):∀(n:Nat) (t:T),iterO f n (e t)=(iterO g n t).map eX
 |0,t=>rfl
 | n+1,t=>by
  rw[iterO,iterO,h t];cases g t with|none=>rfl|some x=>cases x with|more t'=>exact iter_sim e eX f g h n t'|done x=>rfl
def nodeX(o:Option X)(A:X->Option α):Option α:=match o with|some x=>A x|none=>none
def st2{β:Type}(A:T->β)(B:X->β):Stp T X->β
 |.more t=>A t
 |.done x=>B x
theorem mapS_nodeX{Z:Type}(e:T->S)(eX:X->Y)(o:Option Z)(A:Z->Option (Stp T X)):mapS e eX (nodeX o A)=nodeX o λx=>mapS e eX (A x):=by cases o<;>rfl
end
theorem loop_node{T X α:Type}(e:T->LS)(eX:X->Exit×LS)(f:LS->Option (Stp LS (Exit×LS)))(g:T->Option (Stp T X))(h:∀t,f (e t)=mapS e eX (g t))(n:Nat)(t:T)
  (K:Exit->LS->Option α) (A:X->Option α) (hA:∀x,K (eX x).1 (eX x).2=A x):bindX (iterO f n (e t)) K=nodeX (iterO g n t) A:=by
 rw[iter_sim e eX f g h n t];cases iterO g n t with|none=>rfl|some x=>exact hA x
def stepI(P:Program)(Γ:Cons)(N:Nat)(x:Code)(p:Plan)(m:Nat)(bs ps:List Nat)(l:List (Nat×Nat))(st:St)(ys:List SA)(hb:BS):Option (Stp BS (Exit×BS)):=
 bif Nat.beq ys.length ps.length then veC P Γ N x p (Stp BS (Exit×BS)) (headI bs ps l st ys hb) (kBodyI m bs) else none
theorem fold_sim{E T X S Y:Type}(e:T->S)(eX:X->Y)(f:E->S->Option (Stp S Y))(g:E->T->Option (Stp T X))(h:∀y t,f y (e t)=mapS e eX (g y t)):∀(l:List E) (t:T),foldI f l (e t)=mapS e eX (foldI g l t)
 |[],t=>rfl
 | y::l,t=>by
  simp only[foldI];rw[h y t];cases g y t with|none=>rfl|some x=>cases x with|more t'=>exact fold_sim e eX f g h l t'|done x=>rfl
def nodeI{T X α:Type}(o:Option (Stp T X))(A:T->Option α)(B:X->Option α):Option α:=match o with|some (.more t)=>A t|some (.done x)=>B x|none=>none
theorem iter_node{E T X α:Type}(e:T->BS)(eX:X->Exit×BS)(f:E->BS->Option (Stp BS (Exit×BS)))(g:E->T->Option (Stp T X))(h:∀y t,f y (e t)=mapS e eX (g y t))(xs:List E)(t:T)
  (K1:BS->Option α) (K2:Exit->BS->Option α) (A:T->Option α) (B:X->Option α) (hA:∀t,K1 (e t)=A t) (hB:∀x,K2 (eX x).1 (eX x).2=B x):bindI (foldI f xs (e t)) K1 K2=nodeI (foldI g xs t) A B:=by
 rw[fold_sim e eX f g h xs t];cases foldI g xs t with|none=>rfl|some x=>cases x with|more t=>exact hA t|done x=>exact hB x
theorem more_cond{T X:Type}(e:T->LS)(c:Bool)(a b:T):(some (Stp.more (e (bif c then a else b))):Option (Stp LS X))=bif c then some (.more (e a)) else some (.more (e b)):=by cases c<;>rfl
theorem cond_fst_le{β:Type}{c:Bool}{a b:Nat×β}{n:Nat}(ha:a.1<=n)(hb:b.1<=n):(bif c then a else b).1<=n:=by cases c<;>assumption
theorem iter_step{T X:Type}{g:T->Option (Stp T X)}{t t':T}(h:g t=some (.more t'))(n:Nat):iterO g (n+1) t=iterO g n t':=by rw[iterO,h]
theorem iter_done{T X:Type}{g:T->Option (Stp T X)}{t:T}{x:X}(h:g t=some (.done x))(n:Nat):iterO g (n+1) t=some x:=by rw[iterO,h]
theorem iter_run{T X:Type}{g:T->Option (Stp T X)}(F:Nat->T){m:Nat}(h:∀k,k<m->g (F k)=some (.more (F (k+1)))):∀(j k n:Nat),k+j=m->iterO g (n+j) (F k)=iterO g n (F m)
 |0,k,n,hk=>by rw[show k=m by omega];rfl
 |j+1,k,n,hk=>by
  rw[<- Nat.add_assoc,iter_step (h k (by omega))];exact iter_run F h j (k+1) n (by omega)
theorem iter_all{T X:Type}{g:T->Option (Stp T X)}(F:Nat->T){m:Nat}{x:X}(h:∀k,k<m->g (F k)=some (.more (F (k+1))))(hd:g (F m)=some (.done x)){N:Nat}(hN:m<N):iterO g N (F 0)=some x:=by obtain⟨n,rfl⟩:∃n,N=n+1+m:=⟨N - m - 1,by omega⟩;rw[iter_run F h m 0 (n+1) (by omega),iter_done hd]
end
section
set_option linter.unusedVariables false
def dataA:SA->Bool
 |.p _ _ _=>false
 |.w _=>false
 |.c _ ns=>ns.isEmpty
 |.x=>false
 |.l _=>false
 |.q _ _ _=>false
 |.e _=>false
 |.m _=>false
 |.k _ _ _ _=>false
 |.r _ _ ns=>ns.isEmpty
 |_=>true
def dataG(g:Nat):SA->Bool
 |.e n=>Nat.blt n g
 |y=>dataA y
def dataX(g:Nat):SA->Bool
 |.x=>true
 |y=>dataG g y
def dataV(g:Nat):SV->Bool
 |.a y=>dataG g y
 |.t l=>l.all (dataG g)
def lead:Nat->List VB->List Nat
 |k,.gl _ _ _ _::r=>k::lead (k+1) r
 |_,_=>[]
def ld(gl:Bool)(h:List VB):List Nat:=bif gl then lead 0 h else []
theorem lead_get:∀{h:List VB} {k i:Nat},i<(lead k h).length->(lead k h)[i]?=some (k+i)/\∃g t a x,h[i]?=some (.gl g t a x)
 |[],k,i,hi=>by simp[lead]at hi
 | b::r,k,i,hi=>by
  cases b with
  | gl g t a x=>
   simp only[lead,List.length_cons]at hi|-
   cases i with|zero=>exact⟨rfl,_,_,_,_,rfl⟩|succ i=>obtain⟨h1,h2⟩:=lead_get (h:=r) (k:=k+1) (i:=i) (by omega);exact⟨by rw[List.getElem?_cons_succ,h1];congr 1;omega,by simpa using h2⟩
  |_=>simp[lead]at hi
theorem ld_get{gl:Bool}{h:List VB}{i:Nat}(hi:i<(ld gl h).length):(ld gl h)[i]?=some i/\∃g t a x,h[i]?=some (.gl g t a x):=by cases gl with|false=>simp[ld]at hi|true=>obtain⟨h1,h2⟩:=lead_get (h:=h) (k:=0) (i:=i) hi;exact⟨by rw[Nat.zero_add]at h1;exact h1,h2⟩
def ptrsOf:List SA->List Nat
 |[]=>[]
 |.w n::r=>n::ptrsOf r
 |.l n::r=>n::ptrsOf r
 |.r _ _ ns::r=>ns.map Prod.snd++ptrsOf r
 |.c _ ns::r=>ns++ptrsOf r
 |_::r=>ptrsOf r
def numN:Nat->List (Nat×Nat)->List (Nat×Nat)
 |_,[]=>[]
 |k,(i,_)::r=>(i,k)::numN (k+1) r
def renum:Nat->List SA->List SA
 |_,[]=>[]
 |k,.w _::r=>.w k::renum (k+1) r
 |k,.l _::r=>.l k::renum (k+1) r
 |k,.r D T ns::r=>.r D T (numN k ns)::renum (k+ns.length) r
 |k,.c f ns::r=>.c f (List.range' k ns.length)::renum (k+ns.length) r
 |k,y::r=>y::renum k r
def okArg(g:Nat):SA->Bool
 |.w _=>true
 |.l _=>true
 |.r _ _ _=>true
 |.c _ _=>true
 |y=>dataG g y
def okArgs(g:Nat):List SA->Bool
 |[]=>true
 |y::r=>okArg g y&&okArgs g r
def lend(wr:Bool):SlK->SlK
 |.own=>bif wr then .lent else .came none
 |.lent=>bif wr then .lent else .came none
 |a=>a
def lendB(wr:Bool):VB->VB
 |.sl a len C e=>.sl (lend wr a) len C e
 |b=>b
def refsIn(h:List VB):List Nat->List Nat
 |[]=>[]
 |n::r=>(match h[n]? with
  |some (.one (.r _ _ ns) _)=>ns.map Prod.snd++refsIn h r
  |some (.one (.l m) _)=>m::refsIn h r
  |_=>refsIn h r)
def backB:Option VB->VB->Option VB
 |some (.sl a _ _ _),.sl _ len C e=>some (.sl a len C e)
 |some (.row _ _),.row C t=>some (.row C t)
 |_,_=>none
theorem lend_own{wr:Bool}{a:SlK}:lend wr a ≠ .own:=by cases a<;>cases wr<;>(intro h;cases h)
theorem adK_lend(wr:Bool)(g:Nat)(a:SlK):adK g (lend wr a)=adK g a:=by cases a<;>cases wr<;>rfl
theorem lend_here(wr:Bool)(a:SlK):(lend wr a).here=a.here:=by cases a<;>cases wr<;>rfl
theorem lend_mine{wr:Bool}{a:SlK}(h:(lend wr a).mine=true):a.mine=true:=by cases a<;>cases wr<;>first|rfl|cases h
def rowsOf(wr:Bool)(h:List VB):Nat->List Nat->Option (List VB)
 |_,[]=>some []
 |k,n::r=>(match h[n]? with
  |some (.row C t)=>(match rowsOf wr h k r with|some l=>some (.row C t::l)|none=>none)
  |some (.sl a len C e)=>(match rowsOf wr h k r with|some l=>some (.sl (lend wr a) len C e::l)|none=>none)
  |some (.gl g t a x)=>(match rowsOf wr h k r with|some l=>some (.gl g t a x::l)|none=>none)
  |some (.one (.r D t' ns) t)=>(match rowsOf wr h (k+ns.length) r with|some l=>some (.one (.r D t' (numN k ns)) t::l)|none=>none)
  |some (.one (.l _) t)=>(match rowsOf wr h (k+1) r with|some l=>some (.one (.l k) t::l)|none=>none)
  |some (.one (.v y) t)=>(match rowsOf wr h k r with|some l=>some (.one (.v y) t::l)|none=>none)
  |_=>none)
def slsOf(wr:Bool)(h:List VB):List Nat->Option (List VB)
 |[]=>some []
 |n::r=>(match h[n]? with
  |some (.sl a len C e)=>(match slsOf wr h r with|some l=>some (.sl (lend wr a) len C e::l)|none=>none)
  |_=>none)
def mapN(ids:List Nat):List (Nat×Nat)->Option (List (Nat×Nat))
 |[]=>some []
 |(i,k)::r=>(match ids[k]?,mapN ids r with|some n,some l=>some ((i,n)::l)|_,_=>none)
def mapA(g:Nat)(ids:List Nat):SA->Option SA
 |.l m=>(match ids[m]? with|some n=>some (.l n)|none=>none)
 |.r D T ns=>(match mapN ids ns with|some l=>some (.r D T l)|none=>none)
 |y=>bif dataG g y then some y else none
def mapL(g:Nat)(ids:List Nat):List SA->Option (List SA)
 |[]=>some []
 |y::r=>(match mapA g ids y,mapL g ids r with|some z,some l=>some (z::l)|_,_=>none)
def mapV(g:Nat)(ids:List Nat):SV->Option SV
 |.a y=>(match mapA g ids y with|some z=>some (.a z)|none=>none)
 |.t l=>(match mapL g ids l with|some l=>some (.t l)|none=>none)
def holeOnly(g:Nat):SA->Bool
 |.r _ _ ns=>ns.all (λq=>Nat.beq q.2 HOLE)
 |y=>dataX g y
def holeOnlyV(g:Nat):SV->Bool
 |.a y=>holeOnly g y
 |.t l=>l.all (holeOnly g)
def wrapL(gl:Bool)(args:List SA)(h:List VB):Option (SV×Eff×Bool)->Option (SV×Eff×Bool):=λr=>match r with
 |some (r,.none,g)=>bif dataV (ld gl h).length r then some (r,.none,g) else (match mapV (ld gl h).length (ld gl h++ptrsOf args) r with|some r=>some (r,.none,g)|none=>none)
 |some (r,.set m b,g)=>bif dataV (ld gl h).length r then (match (ld gl h++ptrsOf args)[m]? with|some q=>(match backB h[q]? b with|some b'=>some (r,.set q b',g)|none=>none)|none=>none) else none
 |some (_,.newS none len C e,g)=>some (.a .x,.newS none len C e,g)
 |some (v,.newS (some i) len C e,g)=>bif Nat.ble 1000000 i then (bif holeOnlyV (ld gl h).length v then some (v,.newS (some i) len C e,g) else none) else (match v with
  |.t l=>bif l.all (dataX (ld gl h).length) then some (.t l,.newS (some i) len C e,g) else none
  |_=>none)
 |some _=>none
 |none=>none
def conX(gl wr:Bool)(G:Con):Con:=λargs h=>
 bif okArgs (ld gl h).length args&&nodupN (ld gl h++ptrsOf args++refsIn h (ptrsOf args)) then
  (match rowsOf wr h (ld gl h++ptrsOf args).length (ld gl h++ptrsOf args),slsOf wr h (refsIn h (ptrsOf args)) with
  |some h1,some h2=>wrapL gl args h (G (renum (ld gl h).length args) (h1++h2))
  |_,_=>none) else none
def conSX(gl wr:Bool)(S:SCon):SCon:=λargs h=>
 bif okArgs (ld gl h).length args&&nodupN (ld gl h++ptrsOf args++refsIn h (ptrsOf args)) then
  (match rowsOf wr h (ld gl h++ptrsOf args).length (ld gl h++ptrsOf args),slsOf wr h (refsIn h (ptrsOf args)) with
  |some h1,some h2=>wayMap (wrapL gl args h) (S (renum (ld gl h).length args) (h1++h2))
  |_,_=>.one none) else .one none
def conL(wr:Bool)(G:Con):Con:=conX false wr G
def conSL(wr:Bool)(S:SCon):SCon:=conSX false wr S
def con(G:Con):Con:=conL false G
def conSW(S:SCon):SCon:=conSL true S
/-- Slices under other names. -/
inductive Ren (ids:List Nat):List (Nat×Nat)->List (Nat×Nat)->Prop where
 |nil:Ren ids [] []
 |cons {i k m:Nat} {r r':List (Nat×Nat)} (h:ids[k]?=some m) (t:Ren ids r r'):Ren ids ((i,m)::r) ((i,k)::r')
/-- A block as it is lent. -/
inductive LB (wr:Bool) (ids:List Nat):VB->VB->Prop where
 |row (C:Array Value) (t:TypeId):LB wr ids (.row C t) (.row C t)
 |sl (a:SlK) (len:Nat) (C:Array Value) (e:TypeId):LB wr ids (.sl a len C e) (.sl (lend wr a) len C e)
 |gl (g:Nat) (t:TypeId) (a:Addr) (x:Nat):LB wr ids (.gl g t a x) (.gl g t a x)
 |oneR (D:Array Value) (t':TypeId) {ns ns':List (Nat×Nat)} (t:TypeId) (h:Ren ids ns ns'):LB wr ids (.one (.r D t' ns) t) (.one (.r D t' ns') t)
 |oneL {k m:Nat} (t:TypeId) (h:ids[k]?=some m):LB wr ids (.one (.l m) t) (.one (.l k) t)
 |oneV (y:Value) (t:TypeId):LB wr ids (.one (.v y) t) (.one (.v y) t)
theorem Ren.num{ids:List Nat}:∀(ns:List (Nat×Nat)) (k:Nat),(∀j m,(ns.map Prod.snd)[j]?=some m->ids[k+j]?=some m)->Ren ids ns (numN k ns)
 |[],_,_=>.nil
 |(i,m)::r,k,h=>.cons (h 0 m rfl) (Ren.num r (k+1) λj n hj=>by
  have:=h (j+1) n (by simpa using hj);rw[show k+1+j=k+(j+1) by omega];exact this)
theorem Ren.keys{ids:List Nat}{ns ns':List (Nat×Nat)}(h:Ren ids ns ns'):ns'.map Prod.fst=ns.map Prod.fst:=by induction h with|nil=>rfl|cons h t ih=>simp[ih]
theorem Ren.look{ids:List Nat}{ns ns':List (Nat×Nat)}(h:Ren ids ns ns')(o:Nat):(lookN ns' o=none ↔ lookN ns o=none)/\∀k,lookN ns' o=some k->∃m,lookN ns o=some m/\ids[k]?=some m:=by induction h with|nil=>exact⟨Iff.rfl,λk hk=>by cases hk⟩|@cons i k m r r' h t ih=>simp only[lookN];cases Nat.beq i o with|true=>exact⟨⟨λh=>(by cases h),λh=>(by cases h)⟩,λk' hk=>(by cases hk;exact⟨m,rfl,h⟩)⟩|false=>exact ih
theorem rowsOf_get{wr:Bool}{h:List VB}{ids:List Nat}:∀{base:List Nat} {k0:Nat} {h':List VB},rowsOf wr h k0 base=some h'->(∀j m,(refsIn h base)[j]?=some m->ids[k0+j]?=some m) ->
  h'.length=base.length/\∀(k n:Nat),base[k]?=some n->∃b b',h[n]?=some b/\h'[k]?=some b'/\LB wr ids b b'
 |[],k0,h',hr,_=>by
  simp only[rowsOf,Option.some.injEq]at hr;subst hr;exact⟨rfl,λk n hk=>by simp at hk⟩
 | m::r,k0,h',hr,hids=>by
  have fin:∀{b b':VB} {l:List VB} {k1:Nat},rowsOf wr h k1 r=some l->h'=b'::l->h[m]?=some b->LB wr ids b b'->(∀j q,(refsIn h r)[j]?=some q->ids[k1+j]?=some q) ->
    h'.length=(m::r).length/\∀(k n:Nat),(m::r)[k]?=some n->∃b b',h[n]?=some b/\h'[k]?=some b'/\LB wr ids b b':=by
   rintro b b' l k1 hl rfl hm hb hi;obtain⟨h1,h2⟩:=rowsOf_get hl hi;refine⟨by simp[h1],λk n hk=> ?_⟩;cases k with|zero=>simp only[List.getElem?_cons_zero,Option.some.injEq]at hk;subst hk;exact⟨b,b',hm,rfl,hb⟩|succ k=>exact h2 k n (by simpa using hk)
  simp only[rowsOf]at hr;simp only[refsIn]at hids;split at hr
  ·rename_i C t hm;rw[hm]at hids;split at hr
   ·rename_i l hl;cases hr;exact fin hl rfl hm (.row C t) hids
   ·cases hr
  ·rename_i a len C t hm;rw[hm]at hids;split at hr
   ·rename_i l hl;cases hr;exact fin hl rfl hm (.sl a len C t) hids
   ·cases hr
  ·rename_i g t a x hm;rw[hm]at hids;split at hr
   ·rename_i l hl;cases hr;exact fin hl rfl hm (.gl g t a x) hids
   ·cases hr
  ·rename_i D t' ns t hm;rw[hm]at hids;split at hr
   ·rename_i l hl;cases hr;refine fin hl rfl hm (.oneR D t' t (Ren.num ns k0 λj q hj=>hids j q ?_)) λj q hj=> ?_
    ·rw[List.getElem?_append_left (List.getElem?_eq_some_iff.1 hj).1];exact hj
    ·rw[Nat.add_assoc];refine hids (ns.length+j) q ?_;rw[List.getElem?_append_right (by simp)]
     simpa using hj
   ·cases hr
  ·rename_i q t hm;rw[hm]at hids;split at hr
   ·rename_i l hl;cases hr;refine fin hl rfl hm (.oneL t (by simpa using hids 0 q rfl)) λj p hj=> ?_
    rw[Nat.add_assoc];exact hids (1+j) p (by rw[Nat.add_comm];simpa using hj)
   ·cases hr
  ·rename_i y t hm;rw[hm]at hids;split at hr
   ·rename_i l hl;cases hr;exact fin hl rfl hm (.oneV y t) hids
   ·cases hr
  ·cases hr
theorem slsOf_get{wr:Bool}{h:List VB}:∀{rs:List Nat} {h':List VB},slsOf wr h rs=some h' ->
  h'.length=rs.length/\∀(k n:Nat),rs[k]?=some n->∃a len C e,h[n]?=some (.sl a len C e)/\h'[k]?=some (.sl (lend wr a) len C e)
 |[],h',hr=>by
  simp only[slsOf,Option.some.injEq]at hr;subst hr;exact⟨rfl,λk n hk=>by simp at hk⟩
 | m::r,h',hr=>by
  simp only[slsOf]at hr;split at hr
  ·rename_i a len C e hm;split at hr
   ·rename_i l hl;cases hr;obtain⟨h1,h2⟩:=slsOf_get hl;refine⟨by simp[h1],λk n hk=> ?_⟩;cases k with|zero=>simp only[List.getElem?_cons_zero,Option.some.injEq]at hk;subst hk;exact⟨a,len,C,e,hm,rfl⟩|succ k=>exact h2 k n (by simpa using hk)
   ·cases hr
  ·cases hr
theorem lent_get{wr:Bool}{h:List VB}{pre ps:List Nat}{h1 h2:List VB}(hpre:∀n∈pre,∀y t,h[n]?≠some (.one y t))(e1:rowsOf wr h (pre++ps).length (pre++ps)=some h1)(e2:slsOf wr h (refsIn h ps)=some h2):
  (h1++h2).length=(pre++ps++refsIn h ps).length/\∀(k n:Nat),(pre++ps++refsIn h ps)[k]?=some n->∃b b',h[n]?=some b/\(h1++h2)[k]?=some b'/\LB wr (pre++ps++refsIn h ps) b b':=by
 have hrefs:refsIn h (pre++ps)=refsIn h ps:=by
  clear e1 e2
  induction pre with
  |nil=>rfl
  |cons n r ih=>
   have hn:=hpre n (List.mem_cons_self ..);have:=ih λm hm=>hpre m (List.mem_cons_of_mem _ hm)
   rw[List.cons_append,refsIn,this];split
   ·rename_i e;exact absurd e (hn _ _)
   ·rename_i e;exact absurd e (hn _ _)
   ·rfl
 obtain⟨l1,g1⟩:=rowsOf_get (ids:=pre++ps++refsIn h ps) e1 λj m hj=>by
  rw[hrefs]at hj;rw[List.getElem?_append_right (by omega),Nat.add_sub_cancel_left];exact hj
 obtain⟨l2,g2⟩:=slsOf_get e2;refine⟨by rw[List.length_append,l1,l2,<- List.length_append],λk n hk=> ?_⟩
 by_cases hlt:k<(pre++ps).length
 ·rw[List.getElem?_append_left hlt]at hk;obtain⟨b,b',q1,q2,q3⟩:=g1 k n hk;exact⟨b,b',q1,by rw[List.getElem?_append_left (by omega)];exact q2,q3⟩
 ·rw[List.getElem?_append_right (by omega)]at hk;obtain⟨a,len,C,e,q1,q2⟩:=g2 _ n hk;exact⟨_,_,q1,by rw[List.getElem?_append_right (by omega),l1];exact q2,.sl a len C e⟩
theorem nodupN_inj:∀{l:List Nat},nodupN l=true->∀(i j n:Nat),l[i]?=some n->l[j]?=some n->i=j
 |[],_,i,j,n,hi,_=>by simp at hi
 | a::l,h,i,j,n,hi,hj=>by
  simp only[nodupN,Bool.and_eq_true,Bool.not_eq_true']at h;have notin:∀(k:Nat),l[k]?=some a->False:=λk hk=>by
   have:=elemN_mem.2 (List.mem_of_getElem? hk);rw[this]at h;cases h.1
  cases i with
  |zero=>simp only[List.getElem?_cons_zero,Option.some.injEq]at hi;subst hi;cases j with|zero=>rfl|succ j=>exact(notin j (by simpa using hj)).elim
  | succ i=>cases j with|zero=>simp only[List.getElem?_cons_zero,Option.some.injEq]at hj;subst hj;exact(notin i (by simpa using hi)).elim|succ j=>rw[nodupN_inj h.2 i j n (by simpa using hi) (by simpa using hj)]
section
variable {P:Program}
theorem dataA_is{ρ ρ':Nat->Ad}{h h':List VB}{y:SA}(hd:dataA y=true){v:Value}(hi:Is P ρ h y v):Is P ρ' h' y v:=by
 cases y with
 |c f ns=>simp only[dataA,List.isEmpty_iff]at hd;subst hd;exact⟨hi.1,λn hn=>by cases hn⟩
 |r D T ns=>simp only[dataA,List.isEmpty_iff]at hd;subst hd;obtain⟨D',h1,h2,h3⟩:=hi;exact⟨D',h1,h2,h3.size,h3.same,λi m hm=>(by cases hm),List.nodup_nil⟩
 |_=>first|exact hi|cases hd
theorem dataG_is{g:Nat}{ρ ρ':Nat->Ad}{h h':List VB}(hg:∀n,n<g->h'[n]?=h[n]?){y:SA}(hd:dataG g y=true){v:Value}(hi:Is P ρ h y v):Is P ρ' h' y v:=by
 cases y with
 |c f ns=>exact dataA_is (show dataA (.c f ns)=true from hd) hi
 |r D T ns=>exact dataA_is (show dataA (.r D T ns)=true from hd) hi
 |e n=>obtain⟨g',t,a,x,h1,h2⟩:=hi;exact⟨g',t,a,x,by rw[hg n (by simp[dataG,Nat.blt]at hd;omega)];exact h1,h2⟩
 |_=>first|exact hi|trivial|cases hd
theorem dataX_is{g:Nat}{ρ ρ':Nat->Ad}{h h':List VB}(hg:∀n,n<g->h'[n]?=h[n]?){y:SA}(hd:dataX g y=true){v:Value}(hi:Is P ρ h y v):Is P ρ' h' y v:=by cases y with|x=>trivial|_=>exact dataG_is hg (by exact hd) hi
theorem dataV_is{g:Nat}{ρ ρ':Nat->Ad}{h h':List VB}(hg:∀n,n<g->h'[n]?=h[n]?){y:SV}(hd:dataV g y=true){v:Value}(hi:IsV P ρ h y v):IsV P ρ' h' y v:=by cases y with|a y=>exact dataG_is hg hd hi|t l=>obtain⟨vs,h1,h2,h3⟩:=hi;simp only[dataV,List.all_eq_true]at hd;exact⟨vs,h1,h2,λi y v hy hv=>dataG_is hg (hd y (List.mem_of_getElem? hy)) (h3 i y v hy hv)⟩
theorem farB_lend{wr:Bool}{b:VB}{x:Nat}(h:farB (lendB wr b) x):farB b x:=by
 cases b with
 |sl a len C e=>
  simp only[lendB]at h;cases a with
  |came c=>exact h
  |own=>cases wr<;>exact False.elim h
  |lent=>cases wr<;>exact False.elim h
 |_=>exact h
abbrev LentOk(wr:Bool)(ids:List Nat)(h h':List VB):Prop:=∀(k n:Nat),ids[k]?=some n->∃b b',h[n]?=some b/\h'[k]?=some b'/\LB wr ids b b'
theorem getD_of{ids:List Nat}{k n:Nat}(hk:ids[k]?=some n):ids.getD k 0=n:=by rw[List.getD_eq_getElem?_getD,hk];rfl
theorem isL_lent{wr:Bool}{ids:List Nat}{h h':List VB}{ρ:Nat->Ad}(hids:LentOk wr ids h h'){k n:Nat}(hk:ids[k]?=some n){v:Value}(hi:IsL P ρ h n v):IsL P (λk=>ρ (ids.getD k 0)) h' k v:=by
 obtain⟨b,b',h1,h2,hb⟩:=hids k n hk;rcases hi with hn | ⟨a,len,C,t,ad,cap,hn,hv,had,hc⟩
 ·rw[h1]at hn;cases hn;cases hb
 ·rw[h1]at hn;cases hn;cases hb;refine .inr ⟨lend wr a,len,C,t,ad,cap,h2,hv,λh0=> ?_,λhh=> ?_⟩
  ·rw[had h0];simp only[adOf,adK_lend,getD_of hk]
  ·simp only[getD_of hk];exact hc (by rw[<- lend_here];exact hh)
theorem mapN_more{ids ids2:List Nat}(hsub:∀(k n:Nat),ids[k]?=some n->ids2[k]?=some n):∀{ns l:List (Nat×Nat)},mapN ids ns=some l->mapN ids2 ns=some l
 |[],l,h=>h
 | (i,k)::r,l,h=>by
  simp only[mapN]at h|-
  split at h
  ·rename_i n l' hk hl;rw[hsub k n hk,mapN_more hsub hl];exact h
  ·cases h
theorem mapA_more{g:Nat}{ids ids2:List Nat}(hsub:∀(k n:Nat),ids[k]?=some n->ids2[k]?=some n){y z:SA}(hm:mapA g ids y=some z):mapA g ids2 y=some z:=by
 cases y with
 |l m=>
  simp only[mapA]at hm|-
  split at hm
  ·rename_i n hk;rw[hsub _ _ hk];exact hm
  ·cases hm
 |r D T ns=>
  simp only[mapA]at hm|-
  split at hm
  ·rename_i l hl;rw[mapN_more hsub hl];exact hm
  ·cases hm
 |_=>exact hm
theorem mapL_more{g:Nat}{ids ids2:List Nat}(hsub:∀(k n:Nat),ids[k]?=some n->ids2[k]?=some n):∀{l m:List SA},mapL g ids l=some m->mapL g ids2 l=some m
 |[],m,h=>h
 | y::r,m,h=>by
  simp only[mapL]at h|-
  split at h
  ·rename_i z l hz hl;rw[mapA_more hsub hz,mapL_more hsub hl];exact h
  ·cases h
theorem mapV_more{g:Nat}{ids ids2:List Nat}(hsub:∀(k n:Nat),ids[k]?=some n->ids2[k]?=some n){y z:SV}(hm:mapV g ids y=some z):mapV g ids2 y=some z:=by
 cases y with
 |a y=>
  simp only[mapV]at hm|-
  split at hm
  ·rename_i n hk;rw[mapA_more hsub hk];exact hm
  ·cases hm
 |t l=>
  simp only[mapV]at hm|-
  split at hm
  ·rename_i n hk;rw[mapL_more hsub hk];exact hm
  ·cases hm
theorem isL_back{wr:Bool}{ids:List Nat}{h h':List VB}{ρ:Nat->Ad}(hids:LentOk wr ids h h'){k n:Nat}(hk:ids[k]?=some n){v:Value}(hi:IsL P (λk=>ρ (ids.getD k 0)) h' k v):IsL P ρ h n v:=by
 obtain⟨b,b',h1,h2,hb⟩:=hids k n hk;rcases hi with hn | ⟨a,len,C,t,ad,cap,hn,hv,had,hc⟩
 ·rw[h2]at hn;cases hn;cases hb
 ·rw[h2]at hn;cases hn;cases hb;rename_i a;refine .inr ⟨a,len,C,t,ad,cap,h1,hv,λh0=> ?_,λhh=> ?_⟩
  ·rw[had h0];simp only[adOf,adK_lend,getD_of hk]
  ·have:=hc (by rw[lend_here];exact hh);simp only[getD_of hk]at this;exact this
theorem RowR.lent{wr:Bool}{ids:List Nat}{h h':List VB}{ρ:Nat->Ad}(hids:LentOk wr ids h h'){D D':Array Value}{ns ns':List (Nat×Nat)}(hn:Ren ids ns ns')(hR:RowR P ρ h D ns D'):RowR P (λk=>ρ (ids.getD k 0)) h' D ns' D':=
 ⟨hR.size,fun i hi=>hR.same i ((hn.look i).1.1 hi),fun i k hk=>by
  obtain⟨m,h1,h2⟩:=(hn.look i).2 k hk;obtain⟨q1,ad,l,c,q2,q3⟩:=hR.refs i m h1;exact⟨q1,ad,l,c,q2,isL_lent hids h2 q3⟩,by rw[hn.keys];exact hR.uniq⟩
theorem there.lent{wr:Bool}{ids:List Nat}{h h':List VB}(hids:LentOk wr ids h h'){k n:Nat}(hk:ids[k]?=some n)(hp:there h n):there h' k:=by
 obtain⟨b,b',h1,h2,hb⟩:=hids k n hk;cases hp with
 |row e=>rw[e]at h1;cases h1;cases hb;exact .row h2
 |one e=>rw[e]at h1;cases h1;cases hb<;>exact .one h2
theorem renum_is {wr : Bool} {g : Nat} {ρ : Nat → Ad} {h h' : List VB} {ids : List Nat} (hl : ∀ n, n < g → h'[n]? = h[n]?) (hids : LentOk wr ids h h') : ∀ (args : List SA) (vals : List Value) (pre : List Nat), okArgs g args = true →
    (∀(k n:Nat),(pre++ptrsOf args)[k]?=some n->ids[k]?=some n)->AllIs P ρ h args vals ->
    AllIs P (λk=>ρ (ids.getD k 0)) h' (renum pre.length args) vals
  | [], vals, pre, _, _, hA => by
    have:vals=[]:=List.eq_nil_of_length_eq_zero hA.1.symm;subst this;exact⟨rfl,λi y v hy=>by simp[renum]at hy⟩
  |y::r,[],pre,_,_,hA=>absurd hA.1 (by simp)
  | y :: r, v :: vals, pre, hok, hg, hA => by
    have h0:=hA.2 0 y v rfl rfl;have htl:AllIs P ρ h r vals:=⟨by have:=hA.1; simpa using this,λi y v hy hv=>hA.2 (i+1) y v (by simpa using hy) (by simpa using hv)⟩;simp only[okArgs,Bool.and_eq_true]at hok;have cons:∀{ρ':Nat->Ad} {y':SA} {l:List SA},Is P ρ' h' y' v->AllIs P ρ' h' l vals->AllIs P ρ' h' (y'::l) (v::vals):=λ{ρ' y' l} h1 h2 =>
      ⟨by simp [h2.1], fun i z u hz hu => by
        cases i with
        | zero =>simp only[List.getElem?_cons_zero,Option.some.injEq]at hz hu;subst hz; subst hu; exact h1
        |succ i=>exact h2.2 i z u (by simpa using hz) (by simpa using hu)⟩
    by_cases hw:∃n,y=.w n
    · obtain ⟨n, rfl⟩ := hw;simp only[ptrsOf,renum]at hg |-
      have e:pre++n::ptrsOf r=(pre++[n])++ptrsOf r:=by simp
      have hk:=hg pre.length n (by simp);have rec1:=renum_is hl hids r vals (pre++[n]) hok.2 (by rw[<- e]; exact hg) htl;simp only[List.length_append,List.length_cons,List.length_nil]at rec1;obtain⟨hv,hpr⟩:=h0;refine cons ⟨?_,hpr.lent hids hk⟩ rec1;rw[hv];simp only[getD_of hk]
    by_cases hl':∃n,y=.l n
    · obtain ⟨n, rfl⟩ := hl';simp only[ptrsOf,renum]at hg |-
      have e:pre++n::ptrsOf r=(pre++[n])++ptrsOf r:=by simp
      have hk:=hg pre.length n (by simp);have rec1:=renum_is hl hids r vals (pre++[n]) hok.2 (by rw[<- e]; exact hg) htl;simp only[List.length_append,List.length_cons,List.length_nil]at rec1;exact cons (isL_lent (P:=P) hids hk h0) rec1
    by_cases hr':∃D T ns,y=.r D T ns
    · obtain ⟨D, T, ns, rfl⟩ := hr';simp only[ptrsOf,renum]at hg |-
      have e:pre++(ns.map Prod.snd++ptrsOf r)=(pre++ns.map Prod.snd)++ptrsOf r:=by simp
      have rec1:=renum_is hl hids r vals (pre++ns.map Prod.snd) hok.2 (by rw[<- e]; exact hg) htl;rw[List.length_append,List.length_map]at rec1;obtain⟨D',hv,hW,hR⟩:=h0;refine cons ⟨D',hv,hW,hR.lent hids (Ren.num ns _ λj m hj=>hg _ m ?_)⟩ rec1;rw[List.getElem?_append_right (by omega),Nat.add_sub_cancel_left,List.getElem?_append_left (List.getElem?_eq_some_iff.1 hj).1];exact hj
    by_cases hc':∃f ns,y=.c f ns
    · obtain ⟨f, ns, rfl⟩ := hc';simp only[ptrsOf,renum]at hg |-
      have e:pre++(ns++ptrsOf r)=(pre++ns)++ptrsOf r:=by simp
      have rec1:=renum_is hl hids r vals (pre++ns) hok.2 (by rw[<- e]; exact hg) htl;rw[List.length_append]at rec1;obtain⟨hv,hth⟩:=h0;have hk:∀(j m:Nat),ns[j]?=some m->ids[pre.length+j]?=some m:=λj m hj=>hg _ m (by
        rw[List.getElem?_append_right (by omega),Nat.add_sub_cancel_left,List.getElem?_append_left (List.getElem?_eq_some_iff.1 hj).1];exact hj)
      refine cons ⟨?_,λj hj => ?_⟩ rec1
      · rw [hv];have em:∀{β:Type} (F:Nat->β),ns.map F=(List.range' pre.length ns.length).map (λk=>F (ids.getD k 0)):=λF=>by
          refine List.ext_getElem? λi => ?_
          rw[List.getElem?_map,List.getElem?_map]
          by_cases hi:i<ns.length
          · rw [List.getElem?_eq_getElem hi, List.getElem?_range' hi];simp only[Option.map_some,Nat.one_mul];rw[getD_of (hk i _ (List.getElem?_eq_getElem hi))]
          · rw [List.getElem?_eq_none (by omega), List.getElem?_eq_none (by simp; omega)];rfl
        rw[em]
      · obtain ⟨h1, h2⟩ := List.mem_range'_1.1 hj;have hlt:j - pre.length<ns.length:=by omega
        have h3:=hk (j - pre.length) _ (List.getElem?_eq_getElem hlt);rw[show pre.length+(j - pre.length)=j by omega]at h3;exact(hth _ (List.getElem_mem hlt)).lent hids h3
    · have hd : dataG g y = true := by
        have:=hok.1;unfold okArg at this;split at this
        . exact absurd ⟨_,rfl⟩ hw
        . exact absurd ⟨_,rfl⟩ hl'
        . exact absurd ⟨_,_,_,rfl⟩ hr'
        . exact absurd ⟨_,_,rfl⟩ hc'
        . exact this
      have hp:ptrsOf (y::r)=ptrsOf r:=by cases y<;>first|rfl|exact absurd ⟨_,rfl⟩ hw|exact absurd ⟨_,rfl⟩ hl' | exact absurd ⟨_,_,_,rfl⟩ hr' | exact absurd ⟨_,_,rfl⟩ hc'
      have hr:renum pre.length (y::r)=y::renum pre.length r:=by cases y<;>first|rfl|exact absurd ⟨_,rfl⟩ hw|exact absurd ⟨_,rfl⟩ hl' | exact absurd ⟨_,_,_,rfl⟩ hr' | exact absurd ⟨_,_,rfl⟩ hc'
      rw[hp]at hg;rw[hr];exact cons (dataG_is hl hd h0) (renum_is hl hids r vals pre hok.2 hg htl)
theorem mapN_look{ids:List Nat}:∀{ns l:List (Nat×Nat)},mapN ids ns=some l->l.map Prod.fst=ns.map Prod.fst/\∀o,(lookN l o=none ↔ lookN ns o=none)/\∀n,lookN l o=some n->∃k,lookN ns o=some k/\ids[k]?=some n
 |[],l,h=>by
  simp only[mapN,Option.some.injEq]at h;subst h;exact⟨rfl,λo=>⟨Iff.rfl,λn h=>by cases h⟩⟩
 | (i,k)::r,l,h=>by
  simp only[mapN]at h;split at h
  ·rename_i n l' hk hl;cases h;obtain⟨h1,h2⟩:=mapN_look hl;refine⟨by simp[h1],λo=> ?_⟩;simp only[lookN];cases Nat.beq i o with|true=>exact⟨⟨λh=>(by cases h),λh=>(by cases h)⟩,λn' hn=>(by cases hn;exact⟨k,rfl,hk⟩)⟩|false=>exact h2 o
  ·cases h
theorem mapA_is{wr:Bool}{g:Nat}{ids:List Nat}{h h':List VB}{ρ:Nat->Ad}(hg:∀n,n<g->h[n]?=h'[n]?)(hids:LentOk wr ids h h'){y z:SA}(hm:mapA g ids y=some z){v:Value}(hi:Is P (λk=>ρ (ids.getD k 0)) h' y v):Is P ρ h z v:=by
 unfold mapA at hm;split at hm
 ·split at hm
  ·rename_i n hk;cases hm;exact isL_back (P:=P) hids hk hi
  ·cases hm
 ·rename_i D T ns;split at hm
  ·rename_i l hl;cases hm;obtain⟨D',hv,hW,hR⟩:=hi;obtain⟨h1,h2⟩:=mapN_look hl;exact⟨D',hv,hW,hR.size,λi hi=>hR.same i ((h2 i).1.1 hi),λi n hn=>by
    obtain⟨k,q1,q2⟩:=(h2 i).2 n hn;obtain⟨r1,ad,l,c,r2,r3⟩:=hR.refs i k q1;exact⟨r1,ad,l,c,r2,isL_back hids q2 r3⟩,by rw[h1];exact hR.uniq⟩
  ·cases hm
 ·cases hd:dataG g y with
  |false=>rw[hd]at hm;cases hm
  |true=>rw[hd]at hm;cases hm;exact dataG_is hg hd hi
theorem mapL_is{wr:Bool}{g:Nat}{ids:List Nat}{h h':List VB}{ρ:Nat->Ad}(hg:∀n,n<g->h[n]?=h'[n]?)(hids:LentOk wr ids h h'):∀{l m:List SA} {vs:List Value},mapL g ids l=some m->AllIs P (λk=>ρ (ids.getD k 0)) h' l vs->AllIs P ρ h m vs
 |[],m,vs,hm,hA=>by
  simp only[mapL,Option.some.injEq]at hm;subst hm;exact⟨hA.1,λi y v hy=>by simp at hy⟩
 |y::r,m,[],hm,hA=>absurd hA.1 (by simp)
 | y::r,m,v::vs,hm,hA=>by
  simp only[mapL]at hm;split at hm
  ·rename_i z l hz hl;cases hm;have h0:=mapA_is (P:=P) hg hids hz (hA.2 0 y v rfl rfl);have h1:=mapL_is (l:=r) (vs:=vs) hg hids hl ⟨by simpa using hA.1,λi z u hz hu=>hA.2 (i+1) z u (by simpa using hz) (by simpa using hu)⟩;refine⟨by simp[h1.1],λi z' u hz' hu=> ?_⟩;cases i with|zero=>simp only[List.getElem?_cons_zero,Option.some.injEq]at hz' hu;subst hz';subst hu;exact h0|succ i=>exact h1.2 i z' u (by simpa using hz') (by simpa using hu)
  ·cases hm
theorem mapV_is{wr:Bool}{g:Nat}{ids:List Nat}{h h':List VB}{ρ:Nat->Ad}(hg:∀n,n<g->h[n]?=h'[n]?)(hids:LentOk wr ids h h'){y z:SV}(hm:mapV g ids y=some z){v:Value}(hi:IsV P (λk=>ρ (ids.getD k 0)) h' y v):IsV P ρ h z v:=by
 cases y with
 | a y=>
  simp only[mapV]at hm;split at hm
  ·rename_i z' hz;cases hm;exact mapA_is (P:=P) hg hids hz hi
  ·cases hm
 | t l=>
  simp only[mapV]at hm;split at hm
  ·rename_i z' hz;cases hm;obtain⟨vs,h1,h2⟩:=hi;exact⟨vs,h1,mapL_is hg hids hz h2⟩
  ·cases hm
theorem hole_is{g id id2:Nat}{ρ2 ρ3:Nat->Ad}{h2 h3:List VB}(hg:∀n,n<g->h3[n]?=h2[n]?)(hid:∀v,IsL P ρ2 h2 id2 v->IsL P ρ3 h3 id v){y:SA}(hy:holeOnly g y=true){v:Value}(hi:Is P ρ2 h2 (plugA id2 y) v):Is P ρ3 h3 (plugA id y) v:=by
 have fin:dataX g y=true->plugA id2 y=y->plugA id y=y->Is P ρ3 h3 (plugA id y) v:=λh1 h2 h3=>by rw[h3];rw[h2]at hi;exact dataX_is hg h1 hi
 cases y with
 | r D T ns=>
  simp only[holeOnly,List.all_eq_true]at hy;obtain⟨D',hv,hW,hR⟩:=hi;have e:∀(i:Nat) (ns:List (Nat×Nat)),(∀q∈ns,Nat.beq q.2 HOLE=true)->ns.map (λq=>(q.1,plugN i q.2))=ns.map λq=>(q.1,i):=λi ns hn=>List.map_congr_left λq hq=>by simp only[plugN,hn q hq,cond_true]
  rw[e _ _ hy]at hR;refine⟨D',hv,hW,?_⟩;rw[e _ _ hy];refine⟨hR.size,λi hi=>hR.same i ?_,λi k hk=> ?_,by have:=hR.uniq;rw[List.map_map]at this |-;exact this⟩
  ·rw[lookN_map λ_=>id]at hi;rw[lookN_map λ_=>id2];cases hq:lookN ns i with|none=>rfl|some k=>rw[hq]at hi;cases hi
  ·rw[lookN_map λ_=>id]at hk;cases hq:lookN ns i with
   |none=>rw[hq]at hk;cases hk
   |some k0=>rw[hq]at hk;cases hk;obtain⟨r1,ad,l,c,r2,r3⟩:=hR.refs i id2 (by rw[lookN_map λ_=>id2,hq];rfl);exact⟨r1,ad,l,c,r2,hid _ r3⟩
 |l n=>cases hy
 |x=>trivial
 |_=>exact fin hy rfl rfl
theorem hole_isV{g id id2:Nat}{ρ2 ρ3:Nat->Ad}{h2 h3:List VB}(hg:∀n,n<g->h3[n]?=h2[n]?)(hid:∀v,IsL P ρ2 h2 id2 v->IsL P ρ3 h3 id v){y:SV}(hy:holeOnlyV g y=true){v:Value}(hi:IsV P ρ2 h2 (plugH id2 y) v):IsV P ρ3 h3 (plugH id y) v:=by
 cases y with
 |a y=>exact hole_is (P:=P) hg hid hy hi
 | t l=>
  obtain⟨vs,h1,h2,h3⟩:=hi;simp only[holeOnlyV,List.all_eq_true]at hy;refine⟨vs,h1,by simpa using h2,λi y v hi' hv=> ?_⟩;rw[List.getElem?_map]at hi';cases hl:l[i]? with
  |none=>rw[hl]at hi';cases hi'
  |some y0=>rw[hl]at hi';cases hi';exact hole_is (P:=P) hg hid (hy y0 (List.mem_of_getElem? hl)) (h3 i _ v (by rw[List.getElem?_map,hl];rfl) hv)
def nilN(i:Nat)(e:TypeId):Option (SV×Eff×Bool)->Option (SV×Eff×Bool)
 |some (.t l,.none,g)=>(match l[i]? with
  |some (.v (.slice none 0 0))=>bif Nat.ble 1000000 i then none else some (.t (l.set i .x),.newS (some i) 0 #[] e,g)
  |_=>some (.t l,.none,g))
 |some (.a (.v (.slice none 0 0)),.none,g)=>some (.a .x,.newS none 0 #[] e,g)
 |r=>r
theorem nil_post{ρ:Nat->Ad}{h:List VB}{w:World}{e:TypeId}:BIs P ρ h w ⟨0,0⟩ (.sl .own 0 #[] e):=
 ⟨⟨by simp,λk hk=>absurd hk (by omega),by omega,.inl rfl⟩,λ_ h=>absurd rfl h⟩
theorem nil_all{ρ:Nat->Ad}{h:List VB}{l:List SA}{vs:List Value}{i:Nat}(hall:AllIs P ρ h l vs)(j:Nat)(y:SA)(u:Value)(hy:(l.set i .x)[j]?=some y)(hu:vs[j]?=some u):Is P ρ h y u:=by
 rw[List.getElem?_set]at hy;split at hy
 ·rename_i hij;split at hy
  ·cases hy;trivial
  ·cases hy
 ·exact hall.2 j y u hy hu
theorem nil_get{ρ:Nat->Ad}{h:List VB}{l:List SA}{vs:List Value}{i:Nat}(hall:AllIs P ρ h l vs)(hl:l[i]?=some (.v (.slice none 0 0))){hlt:i<vs.length}(hvi:Is P ρ h (.v (.slice none 0 0)) vs[i]):vs[i]?=some (.slice none 0 0):=by rw[List.getElem?_eq_getElem hlt];exact congrArg some hvi
theorem AllIs.get{ρ:Nat->Ad}{h:List VB}{args:List SA}{vals:List Value}(hA:AllIs P ρ h args vals){i:Nat}{y:SA}(hy:args[i]?=some y):∃v,Is P ρ h y v:=by
 have hlt:i<vals.length:=by rw[<- hA.1];exact(List.getElem?_eq_some_iff.1 hy).1
 exact⟨_,hA.2 i y _ hy (List.getElem?_eq_getElem hlt)⟩
theorem AllIs.wt{ρ:Nat->Ad}{h:List VB}{args:List SA}{vals:List Value}(hA:AllIs P ρ h args vals)(i:Nat){D:Array Value}{T:TypeId}(hy:args[i]?=some (.g D T)):WT P T D:=by obtain⟨v,_,h⟩:=hA.get hy;exact h
theorem AllIs.rng{ρ:Nat->Ad}{h:List VB}{args:List SA}{vals:List Value}(hA:AllIs P ρ h args vals)(i:Nat){k:IntKind}{x:Int}(hy:args[i]?=some (.i k x)):k.min<=x/\x<=k.max:=by obtain⟨v,_,h⟩:=hA.get hy;exact h
theorem HIs.wt{ρ:Nat->Ad}{h:List VB}{w:World}(hH:HIs P ρ h w)(i:Nat){D:Array Value}{T:TypeId}(hy:h[i]?=some (.row D T)):WT P T D:=(hH.is i _ hy).2
theorem HIs.slw{ρ:Nat->Ad}{h:List VB}{w:World}(hH:HIs P ρ h w)(i:Nat){a:SlK}{len:Nat}{C:Array Value}{e:TypeId}(hy:h[i]?=some (.sl a len C e)):
  C.size=len*(lay P e).length/\(∀k,k<len->WT P e (C.extract (k*(lay P e).length) (k*(lay P e).length+(lay P e).length)))/\len<=9223372036854775807:=
 let hs:=hH.sl hy
 ⟨hs.1,hs.2.1,hs.2.2.1⟩
end
end
section
open Go.RowKit Go.ChangeShapes Go.WideShapes Go.ChangeAt
set_option linter.unusedVariables false
def fieldsT(P:Program)(dt:TypeId->Bool)(L:List Nat):List Field->Nat->Bool
 |[],o=>Nat.beq o L.length
 |f::r,o=>Nat.beq f.offset o&&dt f.type&&leq ((L.drop o).take (lay P f.type).length) (lay P f.type)&&Nat.beq (P.cellsOf f.type) (lay P f.type).length&&fieldsT P dt L r (o+(lay P f.type).length)
def dataT(P:Program):Nat->TypeId->Bool
 |0,_=>false
 |n+1,t=>match P.underlying t with|some (.int k)=>leq (lay P t) [kN k]|some (.array m e)=>dataT P n e&&allSub (lay P t) (lay P e) (lay P e).length m&&Nat.beq (lay P t).length (m*(lay P e).length)&&Nat.beq (P.cellsOf e) (lay P e).length&&Nat.beq (P.cellsOf t) (lay P t).length&&Nat.blt 0 (lay P e).length|some (.struct fs)=>fieldsT P (dataT P n) (lay P t) fs.toList 0&&Nat.beq (P.cellsOf t) (lay P t).length|_=>false
section
variable {H:Type} {enc:TypeId×Value->H} {P:Program} {w:World} {base:Nat} {spare:Nat->Bool} {held:Bool}
def Fits(P:Program)(t:TypeId)(cs:List Value):Prop:=cs.map ckN=lay P t/\∀v∈cs,CellOk v
theorem trod_fits:∀(n:Nat) (t:TypeId) (fuel:Nat) (cs:List Value) (x:DataW H×List MemPlace),dataT P n t=true->DataW.trod enc P w base spare held fuel t cs=some x->Fits P t cs
 |0,t,fuel,cs,x,hd,_=>by cases hd
 | n+1,t,fuel,cs,x,hd,h=>by
  simp only[dataT]at hd;split at hd
  ·rename_i k hu;obtain⟨z,rfl,_,hwf⟩:=DataW.trod_int hu h;refine⟨by rw[leq_eq hd];rfl,λv hv=> ?_⟩;obtain rfl:v=.int k z:=by simpa using hv
   show k.min<=z/\z<=k.max
   simpa [Lit.wf] using hwf
  ·rename_i m e hu;simp only[Bool.and_eq_true]at hd;obtain⟨⟨⟨⟨⟨hde,hall⟩,hlen⟩,hce⟩,hct⟩,h0⟩:=hd;have hlen:=Nat.eq_of_beq_eq_true hlen;have hce:=Nat.eq_of_beq_eq_true hce;have hct:=Nat.eq_of_beq_eq_true hct;have h0:0<(lay P e).length:=by simp[Nat.blt]at h0;omega
   obtain⟨xs,k,rfl,rfl,hl,hxs,hp⟩:=DataW.trod_array hu h;have part:∀i,i<m->Fits P e ((cs.drop (i*(lay P e).length)).take (lay P e).length):=λi hi=>by
    have:=hp i hi;rw[hce,List.getElem?_eq_getElem (by omega)]at this;exact trod_fits n e k _ _ hde this
   have hcl:cs.length=m*(lay P e).length:=by omega
   have at_:∀p,p<cs.length->p / (lay P e).length<m/\p / (lay P e).length*(lay P e).length+p % (lay P e).length=p/\p % (lay P e).length<(lay P e).length:=λp hp=>by
    refine⟨?_,by rw[Nat.mul_comm];exact Nat.div_add_mod _ _,Nat.mod_lt _ h0⟩;rw[Nat.div_lt_iff_lt_mul h0];omega
   constructor
   ·refine List.ext_getElem? λp=> ?_
    by_cases hp':p<cs.length
    ·obtain⟨h1,h2,h3⟩:=at_ p hp';have hpart:=(part _ h1).1;have hs:=sub_of_leq (P:=P) (T:=t) rfl (allSub_sound hall _ h1) _ h3;rw[h2]at hs;have h5:=congrArg (λl:List Nat=>l[p % (lay P e).length]?) hpart;simp only[List.getElem?_map,List.getElem?_take,if_pos h3,List.getElem?_drop,h2]at h5;rw[hs,List.getElem?_map];exact h5
    ·rw[List.getElem?_eq_none (by simp;omega),List.getElem?_eq_none (by omega)]
   ·intro v hv;obtain⟨p,hp',rfl⟩:=List.mem_iff_getElem.1 hv;obtain⟨h1,h2,h3⟩:=at_ p hp';refine(part _ h1).2 _ ?_;rw[List.mem_iff_getElem?];exact⟨p % (lay P e).length,by rw[List.getElem?_take,if_pos h3,List.getElem?_drop,h2,List.getElem?_eq_getElem hp']⟩
  ·rename_i fs hu;simp only[Bool.and_eq_true]at hd;obtain⟨hf,hct⟩:=hd;have hct:=Nat.eq_of_beq_eq_true hct;obtain⟨xs,k,_,rfl,hl,hxs,hp⟩:=DataW.trod_struct hu h;have hcl:cs.length=(lay P t).length:=by omega
   -- field by field
   have go:∀(l:List Field) (o:Nat),fieldsT P (dataT P n) (lay P t) l o=true->(∀f∈l,∃y,DataW.trod enc P w base spare held k f.type ((cs.drop f.offset).take (P.cellsOf f.type))=some y) ->
     (∀p,o<=p->p<cs.length->(cs.map ckN)[p]?=(lay P t)[p]? /\ ∀v,cs[p]?=some v->CellOk v):=by
    intro l
    induction l with
    |nil=>intro o ho _ p h1 h2;have:=Nat.eq_of_beq_eq_true ho;omega
    | cons f r ih=>
     intro o ho hy p h1 h2;simp only[fieldsT,Bool.and_eq_true]at ho;obtain⟨⟨⟨⟨hoff,hdf⟩,hsub⟩,hcf⟩,hr⟩:=ho;have hoff:=Nat.eq_of_beq_eq_true hoff;have hcf:=Nat.eq_of_beq_eq_true hcf
     by_cases hin:p<o+(lay P f.type).length
     ·obtain⟨y,hy1⟩:=hy f (List.mem_cons_self ..);rw[hoff,hcf]at hy1;have hfit:=trod_fits n f.type k _ _ hdf hy1;obtain⟨q,rfl⟩:∃q,p=o+q:=⟨p - o,by omega⟩;have hs:=sub_of_leq (P:=P) (T:=t) rfl hsub q (by omega);refine⟨?_,λv hv=>hfit.2 v ?_⟩
      ·have h5:=congrArg (λl:List Nat=>l[q]?) hfit.1;simp only[List.getElem?_map,List.getElem?_take,if_pos (show q<(lay P f.type).length by omega),List.getElem?_drop]at h5;rw[hs,List.getElem?_map];exact h5
      ·rw[List.mem_iff_getElem?];exact⟨q,by rw[List.getElem?_take,if_pos (by omega),List.getElem?_drop];exact hv⟩
     ·exact ih (o+(lay P f.type).length) hr (λf' hf'=>hy f' (List.mem_cons_of_mem _ hf')) p (by omega) h2
   have all:=go fs.toList 0 hf λf hfm=>by
    obtain⟨i,hi⟩:=List.mem_iff_getElem?.1 hfm;have:=hp i f (by simpa using hi);have hi':i<xs.length:=by have:=(List.getElem?_eq_some_iff.1 hi).1;simp at this;omega
    rw[List.getElem?_eq_getElem hi']at this;exact⟨_,this⟩
   constructor
   ·refine List.ext_getElem? λp=> ?_
    by_cases hp':p<cs.length
    ·exact(all p (Nat.zero_le _) hp').1
    ·rw[List.getElem?_eq_none (by simp;omega),List.getElem?_eq_none (by omega)]
   ·intro v hv;obtain⟨p,hp',rfl⟩:=List.mem_iff_getElem.1 hv;exact(all p (Nat.zero_le _) hp').2 _ (List.getElem?_eq_getElem hp')
  ·cases hd
theorem open_data{r:Reach}{b0:Nat}{t:TypeId}{v:Value}{d:DataW H}{ps:List MemPlace}(n:Nat)(hd:dataT P n t=true)(hR:isRow P t=true)(hv:Value.okWide P w r base t v)(h:DataW.Trod enc P w b0 spare held t v d ps):
  ∃D:Array Value,v=.agg D/\WT P t D:=by
 obtain⟨desc,hu,hrow⟩:=isRow_true hR;have:∃cs,v=.agg cs:=by
  unfold Value.okWide at hv;rw[hu]at hv;cases desc<;>simp_all [TypeDesc.isRow]
  all_goals exact⟨_,hv.choose_spec.1⟩
 obtain⟨cs,rfl⟩:=this;obtain⟨fuel,hf⟩:=h;have:=trod_fits n t fuel _ _ hd hf;exact⟨cs,rfl,this⟩
end
def idA(n:Nat):Ad:=⟨n,0⟩
section
variable {P:Program}
end
theorem wfb{k:IntKind}{n:Int}(h:(Lit.int k n).wf=true):k.min<=n/\n<=k.max:=by simpa [Lit.wf] using h
end
section
set_option linter.unusedVariables false
def upto(a z:Array Value)(j:Nat):Array Value:=a.extract 0 j++z.extract j z.size
theorem upto_size{a z:Array Value}{j:Nat}(hs:a.size=z.size)(hj:j<=a.size):(upto a z j).size=a.size:=by simp only[upto,Array.size_append,Array.size_extract];omega
theorem upto_get{a z:Array Value}{j:Nat}(hs:a.size=z.size)(hj:j<=a.size)(i:Nat):(upto a z j)[i]?=if i<j then a[i]? else z[i]?:=by
 unfold upto;rw[Array.getElem?_append];simp only[Array.size_extract,Nat.sub_zero,Nat.min_eq_left hj];split
 ·rename_i h;rw[Array.getElem?_extract];simp only[Nat.zero_add,Nat.min_eq_left hj,Nat.sub_zero];rw[if_pos h]
 ·rename_i h;rw[Array.getElem?_extract];simp only[Nat.min_self];rw[show j+(i - j)=i by omega];split
  ·rfl
  ·rw[Array.getElem?_eq_none (by omega)]
theorem upto_zero{a z:Array Value}(hs:a.size=z.size):upto a z 0=z:=arr_ext λi=>by
 rw[upto_get hs (by omega)];simp
theorem upto_all{a z:Array Value}(hs:a.size=z.size){n:Nat}(hn:a.size=n):upto a z n=a:=arr_ext λi=>by
 rw[upto_get hs (by omega)];split
 ·rfl
 ·rw[Array.getElem?_eq_none (by omega),Array.getElem?_eq_none (by omega)]
theorem upto_spl{a z D:Array Value}{j m:Nat}(hs:a.size=z.size)(hj:j+m<=a.size)(hD:D=a.extract j (j+m)):spl (upto a z j) j D.toList=upto a z (j+m):=by
 subst hD;have hl:(a.extract j (j+m)).toList.length=m:=by simp only[Array.length_toList,Array.size_extract];omega
 refine arr_ext λi=> ?_
 rw[spl_get _ _ _ (by rw[hl,upto_size hs (by omega)];omega),upto_get hs (by omega),hl,upto_get hs (by omega)]
 by_cases h1:i<j
 ·rw[if_neg (by omega),if_pos h1,if_pos (by omega)]
 ·by_cases h2:i<j+m
  ·rw[if_pos (by omega),if_pos h2,Array.getElem?_toList,Array.getElem?_extract,show min (j+m) a.size=j+m by omega,if_pos (by omega),show j+(i - j)=i by omega]
  ·rw[if_neg (by omega),if_neg h1,if_neg h2]
theorem upto_set{a z:Array Value}{j:Nat}{v:Value}(hs:a.size=z.size)(hv:a[j]?=some v):(upto a z j).setIfInBounds j v=upto a z (j+1):=by
 have hj:j<a.size:=(Array.getElem?_eq_some_iff.1 hv).1;refine arr_ext λi=> ?_
 rw[Array.getElem?_setIfInBounds,upto_get hs (by omega),upto_get hs (by omega),upto_size hs (by omega)]
 by_cases h:j=i
 ·subst h;rw[if_pos rfl,if_pos hj,if_pos (by omega),hv]
 ·rw[if_neg h]
  by_cases h1:i<j
  ·rw[if_pos h1,if_pos (by omega)]
  ·rw[if_neg h1,if_neg (by omega)]
theorem sameB_self(a:Array Value):sameB a a=true:=sameB_iff.2 rfl
theorem first_not{n:Nat}{p:Nat->Bool}(h:¬ ∀k,k<n->p k=true):∃j,j<n/\(∀i,i<j->p i=true)/\p j=false:=by
 induction n with
 |zero=>exact absurd (λk hk=>absurd hk (by omega)) h
 | succ n ih=>
  by_cases h1:∀k,k<n->p k=true
  ·refine⟨n,by omega,h1,?_⟩;cases hp:p n with
   |false=>rfl
   | true=>
    exact absurd (λk hk=>by
     by_cases e:k=n
     ·rw[e];exact hp
     ·exact h1 k (by omega)) h
  ·obtain⟨j,hj,h2,h3⟩:=ih h1;exact⟨j,by omega,h2,h3⟩
theorem iter_first{T X α:Type}{g:T->Option (Stp T X)}(F:Nat->T)(p:Nat->Bool)(n:Nat){N:Nat}(hN:n<N){xd:X}
  (hs:∀k,k<n->p k=true->g (F k)=some (.more (F (k+1)))) (hd:g (F n)=some (.done xd))
  {A:X->Option α} (b:Bool) (hb:b=true ↔ ∀k,k<n->p k=true) (rd re:Option α) (hx:A xd=rd) (hq:∀j,j<n->p j=false->∃x,g (F j)=some (.done x)/\A x=re) :
  nodeX (iterO g N (F 0)) A=bif b then rd else re:=by
 cases hbb:b with|true=>rw[iter_all F (λk hk=>hs k hk (hb.1 hbb k hk)) hd hN];exact hx|false=>obtain⟨j,hj,h1,h2⟩:=first_not (n:=n) (p:=p) (λh=>by rw[hb.2 h]at hbb;cases hbb);obtain⟨x,hgx,hA⟩:=hq j hj h2;rw[iter_all (m:=j) F (λk hk=>hs k (by omega) (h1 k hk)) hgx (by omega)];exact hA
end
section
set_option linter.unusedVariables false
section
variable {P:Program} {Γ:Cons} {N:Nat}
end
end
section
set_option linter.unusedVariables false
def inC(wd hi:Int)(k:Nat):Bool:=decide (((k % 6:Nat):Int)<wd)&&decide (((k / 6:Nat):Int)<hi)
def cellsL(wd hi:Int)(n:Nat):List Int:=((List.range n).filter (inC wd hi)).map λk:Nat=>(k:Int)
theorem cellsL_yes{wd hi:Int}{k:Nat}(h:inC wd hi k=true):cellsL wd hi (k+1)=cellsL wd hi k++[(k:Int)]:=by simp[cellsL,List.range_succ,List.filter_append,h]
theorem cellsL_no{wd hi:Int}{k:Nat}(h:inC wd hi k=false):cellsL wd hi (k+1)=cellsL wd hi k:=by simp[cellsL,List.range_succ,List.filter_append,h]
theorem cellsL_skip{wd hi:Int}(k:Nat):∀n,(∀j,j<n->inC wd hi (k+j)=false)->cellsL wd hi (k+n)=cellsL wd hi k
 |0,_=>rfl
 |n+1,h=>by
  rw[<- Nat.add_assoc,cellsL_no (h n (by omega))];exact cellsL_skip k n λj hj=>h j (by omega)
theorem inC_at{wd hi x y:Nat}(hw:wd<=6)(hh:hi<=6)(hx:x<wd)(hy:y<hi):inC wd hi (6*y+x)=true:=by
 have h1:(6*y+x) % 6=x:=by omega
 have h2:(6*y+x) / 6=y:=by omega
 unfold inC;rw[h1,h2,decide_eq_true (by omega),decide_eq_true (by omega)];rfl
theorem cellsL_row{wd hi y:Nat}(hw:wd<=6):cellsL wd hi (6*(y+1))=cellsL wd hi (6*y+wd):=by
 have:=cellsL_skip (wd:=wd) (hi:=hi) (6*y+wd) (6 - wd) (λj hj=>by
  have h1:(6*y+wd+j) % 6=wd+j:=by omega
  unfold inC;rw[h1,decide_eq_false (by omega)];rfl)
 rwa [show 6*y+wd+(6 - wd)=6*(y+1) by omega]at this
theorem cellsL_end{wd hi:Nat}(hh:hi<=6):cellsL wd hi 36=cellsL wd hi (6*hi):=by
 have:=cellsL_skip (wd:=wd) (hi:=hi) (6*hi) (36 - 6*hi) (λj hj=>by
  have h1:hi<=(6*hi+j) / 6:=by omega
  unfold inC;rw[Bool.and_eq_false_iff];exact .inr (decide_eq_false (by omega)))
 rwa [show 6*hi+(36 - 6*hi)=36 by omega]at this
theorem cellsL_prefix{wd hi:Int}{k m:Nat}(h:k<=m):cellsL wd hi k <+: cellsL wd hi m:=by
 obtain⟨d,rfl⟩:∃d,m=k+d:=⟨m - k,by omega⟩
 induction d with|zero=>exact List.prefix_refl _|succ d ih=>refine(ih (by omega)).trans ?_;rw[show k+(d+1)=k+d+1 by omega];cases hb:inC wd hi (k+d) with|true=>rw[cellsL_yes hb];exact List.prefix_append _ _|false=>rw[cellsL_no hb];exact List.prefix_refl _
theorem cellsL_mem{wd hi x:Int}{n:Nat}(h:x∈cellsL wd hi n):0<=x/\x<n:=by obtain⟨k,hk,rfl⟩:=List.mem_map.1 h;have:=List.mem_range.1 (List.mem_filter.1 hk).1;omega
end
section
set_option linter.unusedVariables false
def folds{T:Type}(f:T->Nat->T)(t:T)(k:Nat):T:=(List.range k).foldl f t
theorem folds_succ{T:Type}(f:T->Nat->T)(t:T)(k:Nat):folds f t (k+1)=f (folds f t k) k:=by simp[folds,List.range_succ,List.foldl_append]
theorem folds_congr{T:Type}{f g:T->Nat->T}(I:Nat->T->Prop){t:T}{n:Nat}(h0:I 0 t)(h:∀k s,k<n->I k s->f s k=g s k/\I (k+1) (g s k)):∀k,k<=n->folds f t k=folds g t k/\I k (folds g t k)
 |0,_=>⟨rfl,h0⟩
 |k+1,hk=>by
  obtain⟨e,i⟩:=folds_congr I h0 h k (by omega);rw[folds_succ,folds_succ,e];exact h k _ (by omega) i
theorem folds_inv{T:Type}{f:T->Nat->T}(I:Nat->T->Prop){t:T}{n:Nat}(h0:I 0 t)(h:∀k s,k<n->I k s->I (k+1) (f s k))(k:Nat)(hk:k<=n):I k (folds f t k):=
 (folds_congr (f:=f) (g:=f) I h0 (λk s hk hi=>⟨rfl,h k s hk hi⟩) k hk).2
theorem foldI_cells{T X:Type}{g:Int->T->Option (Stp T X)}(f:T->Nat->T){wd hi:Int}{q:Int->Bool}(hg:∀(t:T) (k:Nat),k<36->inC wd hi k=true->q (k:Int)=true->g (k:Int) t=some (.more (f t k)))(t:T):
  foldI g ((cellsL wd hi 36).filter q) t=some (.more (folds (λt k=>if inC wd hi k&&q (k:Int) then f t k else t) t 36)):=by
 have key:∀n,n<=36->foldI g ((cellsL wd hi n).filter q) t=some (.more (folds (λt k=>if inC wd hi k&&q (k:Int) then f t k else t) t n)):=by
  intro n
  induction n with
  |zero=>intro _;rfl
  | succ n ih=>intro hn;have ih:=ih (by omega);rw[folds_succ];cases hb:inC wd hi n with|false=>rw[cellsL_no hb,ih];rfl| true=>rw[cellsL_yes hb,List.filter_append,foldI_app,ih];cases hq:q (n:Int) with|false=>rw[show List.filter q [(n:Int)]=[] by simp[hq]];rfl|true=>rw[show List.filter q [(n:Int)]=[(n:Int)] by simp[hq]];simp only[foldI,hg _ n (by omega) hb hq];rfl
 exact key 36 (Nat.le_refl _)
theorem foldI_grid{T X:Type}{g:Int->T->Option (Stp T X)}(f:T->Nat->T){wd hi:Int}(hg:∀(t:T) (k:Nat),k<36->inC wd hi k=true->g (k:Int) t=some (.more (f t k)))(t:T):
  foldI g (cellsL wd hi 36) t=some (.more (folds (λt k=>if inC wd hi k then f t k else t) t 36)):=by
 have h:=foldI_cells (q:=λ_=>true) f (λt k h1 h2 _=>hg t k h1 h2) t;simp only[Bool.and_true]at h;rw[<- h,List.filter_eq_self.2 λ_ _=>rfl]
theorem iter_folds{T S X:Type}{g:S->Option (Stp S X)}(e:T->Nat->S)(f:T->Nat->T){m:Nat}{t:T}{x:X}(h:∀k s,k<m->s=folds f t k->g (e s k)=some (.more (e (f s k) (k+1))))(hd:g (e (folds f t m) m)=some (.done x)){N:Nat}(hN:m<N):
  iterO g N (e t 0)=some x:=by
 have:=iter_all (g:=g) (λk=>e (folds f t k) k) (m:=m) (x:=x) (λk hk=>by rw[folds_succ];exact h k _ hk rfl) hd (N:=N) hN;exact this
theorem iter_find{T X:Type}{g:T->Option (Stp T X)}(F:Nat->T)(p:Nat->Bool)(n:Nat){N:Nat}(hN:n<N){xd:X}(xf:Nat->X)
  (hs:∀k,k<n->p k=false->g (F k)=some (.more (F (k+1)))) (hf:∀k,k<n->p k=true->g (F k)=some (.done (xf k))) (hd:g (F n)=some (.done xd)) :
  iterO g N (F 0)=some (match (List.range n).find? p with|some k=>xf k|none=>xd):=by
 cases h:(List.range n).find? p with|none=>have h':=List.find?_range_eq_none.1 h;exact iter_all F (λk hk=>hs k hk (by simpa using h' k hk)) hd hN|some j=>obtain⟨h1,h2,h3⟩:=List.find?_range_eq_some.1 h;have hj:=List.mem_range.1 h2;exact iter_all (m:=j) F (λk hk=>hs k (by omega) (by simpa using h3 k hk)) (hf j hj h1) (by omega)
end
section
set_option linter.unusedVariables false
def bitI(c:Int)(k:Nat):Bool:=(BitVec.ofInt 64 c).getLsbD k
def orI(a b:Int):Int:=IntKind.u64.wrap (BitVec.ofInt IntKind.u64.bits a ||| BitVec.ofInt IntKind.u64.bits b).toNat
def andI(a b:Int):Int:=IntKind.u64.wrap (BitVec.ofInt IntKind.u64.bits a &&& BitVec.ofInt IntKind.u64.bits b).toNat
def andNotI(a b:Int):Int:=IntKind.u64.wrap (BitVec.ofInt IntKind.u64.bits a &&& ~~~(BitVec.ofInt IntKind.u64.bits b)).toNat
theorem u64_nat(x:BitVec 64):IntKind.u64.wrap (x.toNat:Int)=x.toNat:=by have:=x.isLt;rw[IntKind.wrap_u64];omega
theorem ofInt_nat(x:BitVec 64):BitVec.ofInt 64 (IntKind.u64.wrap (x.toNat:Int))=x:=by rw[u64_nat,BitVec.ofInt_natCast,BitVec.ofNat_toNat,BitVec.setWidth_eq]
theorem bit_and(a b:Int)(k:Nat):bitI (andI a b) k=(bitI a k&&bitI b k):=by unfold bitI andI;rw[show IntKind.u64.bits=64 from rfl,ofInt_nat,BitVec.getLsbD_and]
theorem bit_zero(k:Nat):bitI 0 k=false:=by unfold bitI;simp
def U64(c:Int):Prop:=0<=c/\c<=18446744073709551615
theorem u64_and(a b:Int):U64 (andI a b):=by unfold andI;rw[show IntKind.u64.bits=64 from rfl,u64_nat];have:=(BitVec.ofInt 64 a &&& BitVec.ofInt 64 b).isLt;unfold U64;omega
theorem u64_ofInt{c:Int}(h:U64 c):((BitVec.ofInt 64 c).toNat:Int)=c:=by unfold U64 at h;rw[BitVec.toNat_ofInt];omega
theorem bit_ext{a b:Int}(ha:U64 a)(hb:U64 b)(h:∀k,k<64->bitI a k=bitI b k):a=b:=by
 rw[<- u64_ofInt ha,<- u64_ofInt hb];have:BitVec.ofInt 64 a=BitVec.ofInt 64 b:=BitVec.eq_of_getLsbD_eq λk hk=>h k hk
 rw[this]
theorem bit_testBit{c:Int}(h:U64 c)(k:Nat):bitI c k=c.toNat.testBit k:=by
 unfold bitI;have e:=u64_ofInt h
 show (BitVec.ofInt 64 c).toNat.testBit k=_
 rw[show (BitVec.ofInt 64 c).toNat=c.toNat by omega]
def oneI(j:Nat):Int:=IntKind.u64.wrap ((1:Int)*2^(min j IntKind.u64.bits))
theorem oneI_eq{j:Nat}(hj:j<64):oneI j=((2^j:Nat):Int):=by
 unfold oneI;rw[Int.one_mul,show min j IntKind.u64.bits=j from Nat.min_eq_left (by show j<=64;omega),IntKind.wrap_u64];have h1:(2:Int)^j=((2^j:Nat):Int):=by norm_cast
 have h2:2^j<2^64:=Nat.pow_lt_pow_right (by omega) hj;rw[h1];generalize (2:Nat)^j=m at h2|-
 omega
theorem u64_one{j:Nat}(hj:j<64):U64 (oneI j):=by
 rw[oneI_eq hj];have h2:2^j<2^64:=Nat.pow_lt_pow_right (by omega) hj;unfold U64;generalize (2:Nat)^j=m at h2|-
 omega
theorem bit_one{j:Nat}(hj:j<64)(k:Nat):bitI (oneI j) k=decide (j=k):=by
 rw[bit_testBit (u64_one hj),oneI_eq hj]
 show (2^j).testBit k=_
 rw[Nat.testBit_two_pow]
theorem bit_shr{c:Int}(h:U64 c){k:Nat}(hk:k<64):((c.fdiv (2^(min k IntKind.u64.bits))).tmod 2==1)=bitI c k:=by
 rw[bit_testBit h,show min k IntKind.u64.bits=k from Nat.min_eq_left (by show k<=64;omega)];obtain⟨n,rfl⟩:∃n:Nat,c=(n:Int):=⟨c.toNat,by unfold U64 at h;omega⟩;have e:((n:Int)).fdiv (2^k)=((n / 2^k:Nat):Int):=by
  rw[Int.fdiv_eq_ediv_of_nonneg _ (Int.le_of_lt (Int.pow_pos (by omega)))]
  norm_cast
 rw[e];have e2:((n / 2^k:Nat):Int).tmod 2=((n / 2^k % 2:Nat):Int):=by rw[Int.tmod_eq_emod_of_nonneg (Int.natCast_nonneg _)];norm_cast
 rw[e2,Int.toNat_natCast,Nat.testBit_eq_decide_div_mod_eq];rw[Bool.eq_iff_iff,beq_iff_eq,decide_eq_true_iff];omega
theorem bit_test{c:Int}{j:Nat}(hj:j<64):(andI c (oneI j) != 0)=bitI c j:=by
 rw[Bool.eq_iff_iff,bne_iff_ne];constructor
 ·intro h;cases hb:bitI c j with
  |true=>rfl
  |false=>
   refine absurd (bit_ext (u64_and _ _) ⟨Int.le_refl 0,by omega⟩ λk hk=> ?_) h;rw[bit_and,bit_one hj,bit_zero]
   by_cases e:j=k
   ·subst e;rw[hb];rfl
   ·rw[decide_eq_false e,Bool.and_false]
 ·intro h e;have:=congrArg (λx=>bitI x j) e;simp only[bit_and,bit_one hj,bit_zero,h]at this;simp at this
def gridI(wd hi:Int)(n:Nat):Int:=folds (λb k=>if inC wd hi k then orI b (oneI k) else b) 0 n
end
section
open Go.RowKit Go.ChangeShapes Go.WideShapes Go.ChangeAt
set_option linter.unusedVariables false
section
variable {H:Type} {enc:TypeId×Value->H} {P:Program} {w:World} {base:Nat} {spare:Nat->Bool} {held:Bool}
end
section
variable {P:Program}
theorem allNil2(hh:List VB):AllIs P idA hh [] []:=⟨rfl,λi y v h=>by simp at h⟩
theorem allCons2{hh:List VB}{y:SA}{v:Value}{l:List SA}{vs:List Value}(h1:Is P idA hh y v)(h2:AllIs P idA hh l vs):AllIs P idA hh (y::l) (v::vs) :=
  ⟨by simp [h2.1], fun i z u hz hu => by
    cases i with
    | zero =>simp only[List.getElem?_cons_zero,Option.some.injEq]at hz hu;subst hz; subst hu; exact h1
    |succ i=>exact h2.2 i z u (by simpa using hz) (by simpa using hu)⟩
/-- Slices that come in. -/
inductive SlL (P:Program) (W:World):List VB->Prop where
 |nil:SlL P W []
 |cons {a:Option Addr} {len:Nat} {C:Array Value} {e:TypeId} {l:List VB} (h:SlIs P W a len C e) (t:SlL P W l):SlL P W (.sl (.came (some a)) len C e::l)
 |gl {g:Nat} {t:TypeId} {a:Addr} {x:Nat} {l:List VB} (h:BIs P idA [] W ⟨0,0⟩ (.gl g t a x)) (t':SlL P W l):SlL P W (.gl g t a x::l)
theorem SlL.get{W:World}{l:List VB}(h:SlL P W l):∀{n:Nat} {b:VB},l[n]?=some b->(∃a len C e,b=.sl (.came (some a)) len C e/\SlIs P W a len C e)\/∃g t a x,b=.gl g t a x/\BIs P idA [] W ⟨0,0⟩ (.gl g t a x):=by
 induction h with
 |nil=>intro n b hb;simp at hb
 |cons h t ih=>intro n b hb;cases n with|zero=>simp only[List.getElem?_cons_zero,Option.some.injEq]at hb;subst hb;exact .inl ⟨_,_,_,_,rfl,h⟩|succ n=>exact ih (by simpa using hb)
 |gl h t ih=>intro n b hb;cases n with|zero=>simp only[List.getElem?_cons_zero,Option.some.injEq]at hb;subst hb;exact .inr ⟨_,_,_,_,rfl,h⟩|succ n=>exact ih (by simpa using hb)
theorem SlL.his{W:World}{l:List VB}(h:SlL P W l):HIs P idA l W:=by
 have no:∀n,¬present l n:=λn hp=>by
  cases hp with
  |row e=>rcases h.get e with ⟨_,_,_,_,h1,_⟩ | ⟨_,_,_,_,h1,_⟩<;>cases h1
  |one e=>rcases h.get e with ⟨_,_,_,_,h1,_⟩ | ⟨_,_,_,_,h1,_⟩<;>cases h1
  |mp e=>rcases h.get e with ⟨_,_,_,_,h1,_⟩ | ⟨_,_,_,_,h1,_⟩<;>cases h1
  |own e hk _=>rcases h.get e with ⟨_,_,_,_,h1,_⟩ | ⟨_,_,_,_,h1,_⟩<;>cases h1;cases hk
 exact⟨λn b hb=>by
  rcases h.get hb with ⟨a,len,C,e,rfl,h1⟩ | ⟨g,t,a,x,rfl,h1⟩
  ·exact⟨h1,λh=>by cases h⟩
  ·exact h1,λn m hp=>absurd hp (no n),λn b k _ _ m hp=>absurd hp (no m)⟩
theorem SlL.no{W:World}{l:List VB}(h:SlL P W l):NoOwn l:=λn len C e hn=>by
 rcases h.get hn with ⟨_,_,_,_,h1,_⟩ | ⟨_,_,_,_,h1,_⟩<;>cases h1
end
end
end Go.Proofs.Ytnhilgpdgicgfaa.Ve
