/- Loops by typed rounds. -/
import Derived.OpenShut
import Derived.ProofKit
import Derived.Handed
import Derived.JoinedOf
import Derived.Deep.Slices
import Derived.Test.YtdhckffhnkeogaaDoorVeC
set_option linter.unusedVariables false
set_option linter.unusedSimpArgs false
open _root_.List renaming getElem?_eq_getElem→jB,range→jD,getElem?_eq_some_iff→jE,getElem?_map→jF,getElem?_cons_zero→jG,getElem?_eq_none→jI,getElem?_take→jJ,getElem?_drop→jK,mem_iff_getElem?→jL,getElem?_append_right→jM,length_append→jN,getElem?_append_left→jO,mem_cons_of_mem→jP,mem_cons_self→jR,mem_of_getElem?→jS
open _root_.Array renaming getElem?_toList→jH,getElem?_setIfInBounds→jQ,getElem?_extract→jT,getElem?_eq_none→jU,getElem?_eq_some_iff→jV
open _root_.Nat renaming beq→jA,eq_of_beq_eq_true→jC
namespace Go.Proofs.YtdhckffhnkeogaaDoor.Ve
open Go.RowKit
def us:Nat→List SV→List SV
 | 0,l=>l
 | n+1,l=>.a .u::us n l
def xs:Nat→List SV→List SV
 | 0,l=>l
 | n+1,l=>.a .x::xs n l
def cAt:Code→List Nat→Code
 | c,[]=>c
 | .seq x _,0::l=>cAt x l
 | .seq _ y,_::l=>cAt y l
 | .cond _ x _,0::l=>cAt x l
 | .cond _ _ y,_::l=>cAt y l
 | .block _ x,_::l=>cAt x l
 | .loop x,_::l=>cAt x l
 | .rangeFunc _ _ _ x,_::l=>cAt x l
 | .scope x,_::l=>cAt x l
 | c,_=>c
def pAt:Plan→List Nat→Plan
 | p,[]=>p
 | .two p _,0::l=>pAt p l
 | .two _ q,_::l=>pAt q l
 | .loop _ _ p,_::l=>pAt p l
 | .loopG _ _ _ _ p,_::l=>pAt p l
 | .loopR _ _ p,_::l=>pAt p l
 | .loopGR _ _ _ _ p,_::l=>pAt p l
 | .iter _ p,_::l=>pAt p l
 | .loopB _ _ _ _ p,_::l=>pAt p l
 | .iterB _ _ _ p,_::l=>pAt p l
 | .jump _ _ _ p _,0::l=>pAt p l
 | .jump _ _ _ _ q,_::l=>pAt q l
 | p,_=>p
section
variable {T X S Y α:Type}
def mapS (e:T→S) (eX:X→Y):Option (Stp T X)→Option (Stp S Y)
 | some (.more t)=>some (.more (e t))
 | some (.done x)=>some (.done (eX x))
 | none=>none
theorem Zbo (e:T→S) (eX:X→Y) (t:T):mapS e eX (some (.more t))=some (.more (e t)):=rfl
theorem Zbm (e:T→S) (eX:X→Y) (t:X):mapS e eX (some (.done t))=some (.done (eX t)):=rfl
theorem Zbn (e:T→S) (eX:X→Y):mapS e eX none=none:=rfl
theorem Zbp (e:T→S) (eX:X→Y) (c:Bool) (a b:Option (Stp T X)):mapS e eX (bif c then a else b)=bif c then mapS e eX a else mapS e eX b:=by cases c<;>rfl
theorem Zyg (e:T→S) (eX:X→Y) (f:S→Option (Stp S Y)) (g:T→Option (Stp T X)) (h:∀ t,f (e t)=mapS e eX (g t)):∀ (n:Nat) (t:T),Uaa f n (e t)=(Uaa g n t).map eX
 | 0,t=>rfl
 | n+1,t=>by
  rw [Uaa,Uaa,h t]
  cases g t with
  | none=>rfl
  | some x=>
   cases x with
   | more t'=>exact Zyg e eX f g h n t'
   | done x=>rfl
def Uan (o:Option X) (A:X→Option α):Option α:=match o with
 | some x=>A x
 | none=>none
def st2 {β:Type} (A:T→β) (B:X→β):Stp T X→β
 | .more t=>A t
 | .done x=>B x
theorem Zwg {Z:Type} (e:T→S) (eX:X→Y) (o:Option Z) (A:Z→Option (Stp T X)):mapS e eX (Uan o A)=Uan o fun x=>mapS e eX (A x):=by cases o<;>rfl
end
theorem Zby {T X α:Type} (e:T→LS) (eX:X→Exit×LS) (f:LS→Option (Stp LS (Exit×LS))) (g:T→Option (Stp T X)) (h:∀ t,f (e t)=mapS e eX (g t)) (n:Nat) (t:T)
  (K:Exit→LS→Option α) (A:X→Option α) (hA:∀ x,K (eX x).1 (eX x).2=A x):Uak (Uaa f n (e t)) K=Uan (Uaa g n t) A:=by
 rw [Zyg e eX f g h n t]
 cases Uaa g n t with
 | none=>rfl
 | some x=>exact hA x
def nodeR {X α:Type} (o:Option (X ⊕ α)) (A:X→Option α):Option α:=match o with
 | some (.inl x)=>A x
 | some (.inr a)=>some a
 | none=>none
def eR {X Y α:Type} (eX:X→Y):X ⊕ α→Y ⊕ α
 | .inl x=>.inl (eX x)
 | .inr a=>.inr a
theorem Ydb {T X α:Type} (e:T→LS) (eX:X→Exit×LS) (f:LS→Option (Stp LS ((Exit×LS) ⊕ α))) (g:T→Option (Stp T (X ⊕ α))) (h:∀ t,f (e t)=mapS e (eR eX) (g t)) (n:Nat) (t:T)
  (K:Exit→LS→Option α) (A:X→Option α) (hA:∀ x,K (eX x).1 (eX x).2=A x):Ubx (Uaa f n (e t)) K=nodeR (Uaa g n t) A:=by
 rw [Zyg e (eR eX) f g h n t]
 cases Uaa g n t with
 | none=>rfl
 | some x=>
  cases x with
  | inl x=>exact hA x
  | inr a=>rfl
def stepI (P:Program) (Γ:Cons) (N:Nat) (x:Code) (p:Plan) (m:Nat) (bs ps:List Nat) (l:List (Nat×Nat)) (st:St) (ys:List SA) (hb:BS):Option (Stp BS (Exit×BS)):=
 bif jA ys.length ps.length then veC P Γ N x p (Stp BS (Exit×BS)) (Udu bs ps l st ys hb) (Uby m bs) else none
theorem Ybz {E T X S Y:Type} (e:T→S) (eX:X→Y) (f:E→S→Option (Stp S Y)) (g:E→T→Option (Stp T X)) (h:∀ y t,f y (e t)=mapS e eX (g y t)):∀ (l:List E) (t:T),Ua7 f l (e t)=mapS e eX (Ua7 g l t)
 | [],t=>rfl
 | y::l,t=>by
  simp only [Ua7]
  rw [h y t]
  cases g y t with
  | none=>rfl
  | some x=>
   cases x with
   | more t'=>exact Ybz e eX f g h l t'
   | done x=>rfl
def nodeI {T X α:Type} (o:Option (Stp T X)) (A:T→Option α) (B:X→Option α):Option α:=match o with
 | some (.more t)=>A t
 | some (.done x)=>B x
 | none=>none
theorem Yfe {E T X α:Type} (e:T→BS) (eX:X→Exit×BS) (f:E→BS→Option (Stp BS (Exit×BS))) (g:E→T→Option (Stp T X)) (h:∀ y t,f y (e t)=mapS e eX (g y t)) (xs:List E) (t:T)
  (K1:BS→Option α) (K2:Exit→BS→Option α) (A:T→Option α) (B:X→Option α) (hA:∀ t,K1 (e t)=A t) (hB:∀ x,K2 (eX x).1 (eX x).2=B x):Ufd (Ua7 f xs (e t)) K1 K2=nodeI (Ua7 g xs t) A B:=by
 rw [Ybz e eX f g h xs t]
 cases Ua7 g xs t with
 | none=>rfl
 | some x=>
  cases x with
  | more t=>exact hA t
  | done x=>exact hB x
theorem Ye8 {T X:Type} {g:T→Option (Stp T X)} {t t':T} (h:g t=some (.more t')) (n:Nat):Uaa g (n+1) t=Uaa g n t':=by rw [Uaa,h]
theorem Ydq {T X:Type} {g:T→Option (Stp T X)} {t:T} {x:X} (h:g t=some (.done x)) (n:Nat):Uaa g (n+1) t=some x:=by rw [Uaa,h]
theorem Ybl {T X:Type} {g:T→Option (Stp T X)} (F:Nat→T) {m:Nat} (h:∀ k,k<m→g (F k)=some (.more (F (k+1)))):∀ (j k n:Nat),k+j=m→Uaa g (n+j) (F k)=Uaa g n (F m)
 | 0,k,n,hk=>by rw [show k=m by omega];rfl
 | j+1,k,n,hk=>by
  rw [← Nat.add_assoc,Ye8 (h k (by omega))]
  exact Ybl F h j (k+1) n (by omega)
theorem Zeo {T X:Type} {g:T→Option (Stp T X)} (F:Nat→T) {m:Nat} {x:X} (h:∀ k,k<m→g (F k)=some (.more (F (k+1)))) (hd:g (F m)=some (.done x)) {N:Nat} (hN:m<N):Uaa g N (F 0)=some x:=by
 obtain ⟨n,rfl⟩:∃ n,N=n+1+m:=⟨N - m - 1,by omega⟩
 rw [Ybl F h m 0 (n+1) (by omega),Ydq hd]
end Go.Proofs.YtdhckffhnkeogaaDoor.Ve
/- Contracts over few blocks; small helps. -/
namespace Go.Proofs.YtdhckffhnkeogaaDoor.Ve
open Go.RowKit
def Uee:SA→Bool
 | .p _ _ _=>false
 | .w _=>false
 | .c _ ns=>ns.isEmpty
 | .x=>false
 | .l _=>false
 | .q _ _ _=>false
 | .e _=>false
 | .r _ _ ns=>ns.isEmpty
 | _=>true
def Udg (g:Nat):SA→Bool
 | .e n=>Nat.blt n g
 | y=>Uee y
def Uf1 (g:Nat):SA→Bool
 | .x=>true
 | y=>Udg g y
def Ufe (g:Nat):SV→Bool
 | .a y=>Udg g y
 | .t l=>l.all (Udg g)
def lead:Nat→List VB→List Nat
 | k,.gl _ _ _ _::r=>k::lead (k+1) r
 | _,_=>[]
def ld (gl:Bool) (h:List VB):List Nat:=bif gl then lead 0 h else []
theorem Ya9:∀ {h:List VB} {k i:Nat},i<(lead k h).length→(lead k h)[i]? = some (k+i)∧∃ g t a x,h[i]? = some (.gl g t a x)
 | [],k,i,hi=>by simp [lead] at hi
 | b::r,k,i,hi=>by
  cases b with
  | gl g t a x=>
   simp only [lead,List.length_cons] at hi⊢
   cases i with
   | zero=>exact ⟨rfl,_,_,_,_,rfl⟩
   | succ i=>
    obtain ⟨h1,h2⟩:=Ya9 (h:=r) (k:=k+1) (i:=i) (by omega)
    exact ⟨by rw [List.getElem?_cons_succ,h1];congr 1;omega,by simpa using h2⟩
  | _=>simp [lead] at hi
theorem Yel {gl:Bool} {h:List VB} {i:Nat} (hi:i<(ld gl h).length):(ld gl h)[i]? = some i∧∃ g t a x,h[i]? = some (.gl g t a x):=by
 cases gl with
 | false=>simp [ld] at hi
 | true=>
  obtain ⟨h1,h2⟩:=Ya9 (h:=h) (k:=0) (i:=i) hi
  exact ⟨by rw [Nat.zero_add] at h1;exact h1,h2⟩
def Uaj:List SA→List Nat
 | []=>[]
 | .w n::r=>n::Uaj r
 | .l n::r=>n::Uaj r
 | .r _ _ ns::r=>ns.map Prod.snd++Uaj r
 | .c _ ns::r=>ns++Uaj r
 | _::r=>Uaj r
def numN:Nat→List (Nat×Nat)→List (Nat×Nat)
 | _,[]=>[]
 | k,(i,_)::r=>(i,k)::numN (k+1) r
def Ubv:Nat→List SA→List SA
 | _,[]=>[]
 | k,.w _::r=>.w k::Ubv (k+1) r
 | k,.l _::r=>.l k::Ubv (k+1) r
 | k,.r D T ns::r=>.r D T (numN k ns)::Ubv (k+ns.length) r
 | k,.c f ns::r=>.c f (List.range' k ns.length)::Ubv (k+ns.length) r
 | k,y::r=>y::Ubv k r
def okArg (g:Nat):SA→Bool
 | .w _=>true
 | .l _=>true
 | .r _ _ _=>true
 | .c _ _=>true
 | y=>Udg g y
def Uci (g:Nat):List SA→Bool
 | []=>true
 | y::r=>okArg g y&&Uci g r
def lend (wr:Bool):SlK→SlK
 | .own=>bif wr then .lent else .came none
 | .lent=>bif wr then .lent else .came none
 | a=>a
def lendB (wr:Bool):VB→VB
 | .sl a len C e=>.sl (lend wr a) len C e
 | b=>b
def Ua2 (h:List VB):List Nat→List Nat
 | []=>[]
 | n::r=>(match h[n]? with
  | some (.one (.r _ _ ns) _)=>ns.map Prod.snd++Ua2 h r
  | some (.one (.l m) _)=>m::Ua2 h r
  | _=>Ua2 h r)
def backB:Option VB→VB→Option VB
 | some (.sl a _ _ _),.sl _ len C e=>some (.sl a len C e)
 | some (.row _ _),.row C t=>some (.row C t)
 | _,_=>none
theorem lend_own {wr:Bool} {a:SlK}:lend wr a ≠ .own:=by cases a<;>cases wr<;>(intro h;cases h)
theorem Zt5 (wr:Bool) (g:Nat) (a:SlK):adK g (lend wr a)=adK g a:=by cases a<;>cases wr<;>rfl
theorem Zul (wr:Bool) (a:SlK):(lend wr a).here=a.here:=by cases a<;>cases wr<;>rfl
theorem Zzl {wr:Bool} {a:SlK} (h:(lend wr a).mine=true):a.mine=true:=by cases a<;>cases wr<;>first | rfl | cases h
def rowsOf (wr:Bool) (h:List VB):Nat→List Nat→Option (List VB)
 | _,[]=>some []
 | k,n::r=>(match h[n]? with
  | some (.row C t)=>(match rowsOf wr h k r with | some l=>some (.row C t::l) | none=>none)
  | some (.sl a len C e)=>(match rowsOf wr h k r with | some l=>some (.sl (lend wr a) len C e::l) | none=>none)
  | some (.gl g t a x)=>(match rowsOf wr h k r with | some l=>some (.gl g t a x::l) | none=>none)
  | some (.one (.r D t' ns) t)=>(match rowsOf wr h (k+ns.length) r with | some l=>some (.one (.r D t' (numN k ns)) t::l) | none=>none)
  | some (.one (.l _) t)=>(match rowsOf wr h (k+1) r with | some l=>some (.one (.l k) t::l) | none=>none)
  | some (.one (.v y) t)=>(match rowsOf wr h k r with | some l=>some (.one (.v y) t::l) | none=>none)
  | _=>none)
def Ueq (wr:Bool) (h:List VB):List Nat→Option (List VB)
 | []=>some []
 | n::r=>(match h[n]? with
  | some (.sl a len C e)=>(match Ueq wr h r with | some l=>some (.sl (lend wr a) len C e::l) | none=>none)
  | _=>none)
def mapN (ids:List Nat):List (Nat×Nat)→Option (List (Nat×Nat))
 | []=>some []
 | (i,k)::r=>(match ids[k]?,mapN ids r with | some n,some l=>some ((i,n)::l) | _,_=>none)
def mapA (g:Nat) (ids:List Nat):SA→Option SA
 | .l m=>(match ids[m]? with | some n=>some (.l n) | none=>none)
 | .r D T ns=>(match mapN ids ns with | some l=>some (.r D T l) | none=>none)
 | y=>bif Udg g y then some y else none
def mapL (g:Nat) (ids:List Nat):List SA→Option (List SA)
 | []=>some []
 | y::r=>(match mapA g ids y,mapL g ids r with | some z,some l=>some (z::l) | _,_=>none)
def mapV (g:Nat) (ids:List Nat):SV→Option SV
 | .a y=>(match mapA g ids y with | some z=>some (.a z) | none=>none)
 | .t l=>(match mapL g ids l with | some l=>some (.t l) | none=>none)
def Ucf (g:Nat):SA→Bool
 | .r _ _ ns=>ns.all (fun q=>jA q.2 HOLE)
 | y=>Uf1 g y
def Ub3 (g:Nat):SV→Bool
 | .a y=>Ucf g y
 | .t l=>l.all (Ucf g)
def wrapL (gl:Bool) (args:List SA) (h:List VB):Option (SV×Eff×Bool)→Option (SV×Eff×Bool):=fun r=>match r with
 | some (r,.none,g)=>bif Ufe (ld gl h).length r then some (r,.none,g) else (match mapV (ld gl h).length (ld gl h++Uaj args) r with | some r=>some (r,.none,g) | none=>none)
 | some (r,.set m b,g)=>bif Ufe (ld gl h).length r then (match (ld gl h++Uaj args)[m]? with | some q=>(match backB h[q]? b with | some b'=>some (r,.set q b',g) | none=>none) | none=>none) else none
 | some (_,.newS none len C e,g)=>some (.a .x,.newS none len C e,g)
 | some (v,.newS (some i) len C e,g)=>bif Nat.ble 1000000 i then (bif Ub3 (ld gl h).length v then some (v,.newS (some i) len C e,g) else none) else (match v with
  | .t l=>bif l.all (Uf1 (ld gl h).length) then some (.t l,.newS (some i) len C e,g) else none
  | _=>none)
 | some _=>none
 | none=>none
def conX (gl wr:Bool) (G:Con):Con:=fun args h=>
 bif Uci (ld gl h).length args&&Ubo (ld gl h++Uaj args++Ua2 h (Uaj args)) then
  (match rowsOf wr h (ld gl h++Uaj args).length (ld gl h++Uaj args),Ueq wr h (Ua2 h (Uaj args)) with
  | some h1,some h2=>wrapL gl args h (G (Ubv (ld gl h).length args) (h1++h2))
  | _,_=>none)
 else none
def conSX (gl wr:Bool) (S:SCon):SCon:=fun args h=>
 bif Uci (ld gl h).length args&&Ubo (ld gl h++Uaj args++Ua2 h (Uaj args)) then
  (match rowsOf wr h (ld gl h++Uaj args).length (ld gl h++Uaj args),Ueq wr h (Ua2 h (Uaj args)) with
  | some h1,some h2=>Ud4 (wrapL gl args h) (S (Ubv (ld gl h).length args) (h1++h2))
  | _,_=>.one none)
 else .one none
def conL (wr:Bool) (G:Con):Con:=conX false wr G
def conSL (wr:Bool) (S:SCon):SCon:=conSX false wr S
def conG (G:Con):Con:=conX true false G
def con (G:Con):Con:=conL false G
def conS (S:SCon):SCon:=conSL false S
def conSW (S:SCon):SCon:=conSL true S
inductive Ren (ids:List Nat):List (Nat×Nat)→List (Nat×Nat)→Prop where
 | nil:Ren ids [] []
 | cons {i k m:Nat} {r r':List (Nat×Nat)} (h:ids[k]? = some m) (t:Ren ids r r'):Ren ids ((i,m)::r) ((i,k)::r')
inductive LB (wr:Bool) (ids:List Nat):VB→VB→Prop where
 | row (C:Array Value) (t:TypeId):LB wr ids (.row C t) (.row C t)
 | sl (a:SlK) (len:Nat) (C:Array Value) (e:TypeId):LB wr ids (.sl a len C e) (.sl (lend wr a) len C e)
 | gl (g:Nat) (t:TypeId) (a:Addr) (x:Nat):LB wr ids (.gl g t a x) (.gl g t a x)
 | oneR (D:Array Value) (t':TypeId) {ns ns':List (Nat×Nat)} (t:TypeId) (h:Ren ids ns ns'):LB wr ids (.one (.r D t' ns) t) (.one (.r D t' ns') t)
 | oneL {k m:Nat} (t:TypeId) (h:ids[k]? = some m):LB wr ids (.one (.l m) t) (.one (.l k) t)
 | oneV (y:Value) (t:TypeId):LB wr ids (.one (.v y) t) (.one (.v y) t)
theorem Ren.num {ids:List Nat}:∀ (ns:List (Nat×Nat)) (k:Nat),(∀ j m,(ns.map Prod.snd)[j]? = some m→ids[k+j]? = some m)→Ren ids ns (numN k ns)
 | [],_,_=>.nil
 | (i,m)::r,k,h=>.cons (h 0 m rfl) (Ren.num r (k+1) fun j n hj=>by
  have:=h (j+1) n (by simpa using hj)
  rw [show k+1+j=k+(j+1) by omega]
  exact this)
theorem Ren.keys {ids:List Nat} {ns ns':List (Nat×Nat)} (h:Ren ids ns ns'):ns'.map Prod.fst=ns.map Prod.fst:=by
 induction h with
 | nil=>rfl
 | cons h t ih=>simp [ih]
theorem Ren.look {ids:List Nat} {ns ns':List (Nat×Nat)} (h:Ren ids ns ns') (o:Nat):(Uar ns' o=none ↔ Uar ns o=none)∧∀ k,Uar ns' o=some k→∃ m,Uar ns o=some m∧ids[k]? = some m:=by
 induction h with
 | nil=>exact ⟨Iff.rfl,fun k hk=>by cases hk⟩
 | @cons i k m r r' h t ih=>
  simp only [Uar]
  cases jA i o with
  | true=>exact ⟨⟨fun h=>(by cases h),fun h=>(by cases h)⟩,fun k' hk=>(by cases hk;exact ⟨m,rfl,h⟩)⟩
  | false=>exact ih
theorem Zwm {wr:Bool} {h:List VB} {ids:List Nat}:∀ {base:List Nat} {k0:Nat} {h':List VB},rowsOf wr h k0 base=some h'→(∀ j m,(Ua2 h base)[j]? = some m→ids[k0+j]? = some m) →
  h'.length=base.length∧∀ (k n:Nat),base[k]? = some n→∃ b b',h[n]? = some b∧h'[k]? = some b'∧LB wr ids b b'
 | [],k0,h',hr,_=>by
  simp only [rowsOf,Q8] at hr
  subst hr
  exact ⟨rfl,fun k n hk=>by simp at hk⟩
 | m::r,k0,h',hr,hids=>by
  have fin:∀ {b b':VB} {l:List VB} {k1:Nat},rowsOf wr h k1 r=some l→h'=b'::l→h[m]? = some b→LB wr ids b b'→(∀ j q,(Ua2 h r)[j]? = some q→ids[k1+j]? = some q) →
    h'.length=(m::r).length∧∀ (k n:Nat),(m::r)[k]? = some n→∃ b b',h[n]? = some b∧h'[k]? = some b'∧LB wr ids b b':=by
   rintro b b' l k1 hl rfl hm hb hi
   obtain ⟨h1,h2⟩:=Zwm hl hi
   refine ⟨by simp [h1],fun k n hk=> ?_⟩
   cases k with
   | zero=>
    simp only [jG,Q8] at hk
    subst hk
    exact ⟨b,b',hm,rfl,hb⟩
   | succ k=>exact h2 k n (by simpa using hk)
  simp only [rowsOf] at hr
  simp only [Ua2] at hids
  split at hr
  ·rename_i C t hm
   rw [hm] at hids
   split at hr
   ·rename_i l hl;cases hr;exact fin hl rfl hm (.row C t) hids
   ·cases hr
  ·rename_i a len C t hm
   rw [hm] at hids
   split at hr
   ·rename_i l hl;cases hr;exact fin hl rfl hm (.sl a len C t) hids
   ·cases hr
  ·rename_i g t a x hm
   rw [hm] at hids
   split at hr
   ·rename_i l hl;cases hr;exact fin hl rfl hm (.gl g t a x) hids
   ·cases hr
  ·rename_i D t' ns t hm
   rw [hm] at hids
   split at hr
   ·rename_i l hl
    cases hr
    refine fin hl rfl hm (.oneR D t' t (Ren.num ns k0 fun j q hj=>hids j q ?_)) fun j q hj=> ?_
    ·rw [jO (jE.1 hj).1];exact hj
    ·rw [Nat.add_assoc]
     refine hids (ns.length+j) q ?_
     rw [jM (by simp)]
     simpa using hj
   ·cases hr
  ·rename_i q t hm
   rw [hm] at hids
   split at hr
   ·rename_i l hl
    cases hr
    refine fin hl rfl hm (.oneL t (by simpa using hids 0 q rfl)) fun j p hj=> ?_
    rw [Nat.add_assoc]
    exact hids (1+j) p (by rw [Nat.add_comm];simpa using hj)
   ·cases hr
  ·rename_i y t hm
   rw [hm] at hids
   split at hr
   ·rename_i l hl;cases hr;exact fin hl rfl hm (.oneV y t) hids
   ·cases hr
  ·cases hr
theorem Zz0 {wr:Bool} {h:List VB}:∀ {rs:List Nat} {h':List VB},Ueq wr h rs=some h' →
  h'.length=rs.length∧∀ (k n:Nat),rs[k]? = some n→∃ a len C e,h[n]? = some (.sl a len C e)∧h'[k]? = some (.sl (lend wr a) len C e)
 | [],h',hr=>by
  simp only [Ueq,Q8] at hr
  subst hr
  exact ⟨rfl,fun k n hk=>by simp at hk⟩
 | m::r,h',hr=>by
  simp only [Ueq] at hr
  split at hr
  ·rename_i a len C e hm
   split at hr
   ·rename_i l hl
    cases hr
    obtain ⟨h1,h2⟩:=Zz0 hl
    refine ⟨by simp [h1],fun k n hk=> ?_⟩
    cases k with
    | zero=>
     simp only [jG,Q8] at hk
     subst hk
     exact ⟨a,len,C,e,hm,rfl⟩
    | succ k=>exact h2 k n (by simpa using hk)
   ·cases hr
  ·cases hr
theorem lent_get {wr:Bool} {h:List VB} {pre ps:List Nat} {h1 h2:List VB} (hpre:∀ n ∈ pre,∀ y t,h[n]? ≠ some (.one y t)) (e1:rowsOf wr h (pre++ps).length (pre++ps)=some h1) (e2:Ueq wr h (Ua2 h ps)=some h2) :
  (h1++h2).length=(pre++ps++Ua2 h ps).length∧∀ (k n:Nat),(pre++ps++Ua2 h ps)[k]? = some n→∃ b b',h[n]? = some b∧(h1++h2)[k]? = some b'∧LB wr (pre++ps++Ua2 h ps) b b':=by
 have hrefs:Ua2 h (pre++ps)=Ua2 h ps:=by
  clear e1 e2
  induction pre with
  | nil=>rfl
  | cons n r ih=>
   have hn:=hpre n (jR ..)
   have:=ih fun m hm=>hpre m (jP _ hm)
   rw [List.cons_append,Ua2,this]
   split
   ·rename_i e;exact absurd e (hn _ _)
   ·rename_i e;exact absurd e (hn _ _)
   ·rfl
 obtain ⟨l1,g1⟩:=Zwm (ids:=pre++ps++Ua2 h ps) e1 fun j m hj=>by
  rw [hrefs] at hj
  rw [jM (by omega),Nat.add_sub_cancel_left]
  exact hj
 obtain ⟨l2,g2⟩:=Zz0 e2
 refine ⟨by rw [jN,l1,l2,← jN],fun k n hk=> ?_⟩
 by_cases hlt:k<(pre++ps).length
 ·rw [jO hlt] at hk
  obtain ⟨b,b',q1,q2,q3⟩:=g1 k n hk
  exact ⟨b,b',q1,by rw [jO (by omega)];exact q2,q3⟩
 ·rw [jM (by omega)] at hk
  obtain ⟨a,len,C,e,q1,q2⟩:=g2 _ n hk
  exact ⟨_,_,q1,by rw [jM (by omega),l1];exact q2,.sl a len C e⟩
theorem Zwj:∀ {l:List Nat},Ubo l=true→∀ (i j n:Nat),l[i]? = some n→l[j]? = some n→i=j
 | [],_,i,j,n,hi,_=>by simp at hi
 | a::l,h,i,j,n,hi,hj=>by
  simp only [Ubo,Q7,Bool.not_eq_true'] at h
  have notin:∀ (k:Nat),l[k]? = some a→False:=fun k hk=>by
   have:=Zck.2 (jS hk)
   rw [this] at h;cases h.1
  cases i with
  | zero=>
   simp only [jG,Q8] at hi
   subst hi
   cases j with
   | zero=>rfl
   | succ j=>exact (notin j (by simpa using hj)).elim
  | succ i=>
   cases j with
   | zero=>
    simp only [jG,Q8] at hj
    subst hj
    exact (notin i (by simpa using hi)).elim
   | succ j=>rw [Zwj h.2 i j n (by simpa using hi) (by simpa using hj)]
section
variable {P:Program}
theorem Ycg {ρ ρ':Nat→Ad} {h h':List VB} {y:SA} (hd:Uee y=true) {v:Value} (hi:Is P ρ h y v):Is P ρ' h' y v:=by
 cases y with
 | c f ns=>
  simp only [Uee,List.isEmpty_iff] at hd
  subst hd
  exact ⟨hi.1,fun n hn=>by cases hn⟩
 | r D T ns=>
  simp only [Uee,List.isEmpty_iff] at hd
  subst hd
  obtain ⟨D',h1,h2,h3⟩:=hi
  exact ⟨D',h1,h2,h3.size,h3.same,fun i m hm=>(by cases hm),List.nodup_nil⟩
 | _=>first | exact hi | cases hd
theorem Zqg {g:Nat} {ρ ρ':Nat→Ad} {h h':List VB} (hg:∀ n,n<g→h'[n]? = h[n]?) {y:SA} (hd:Udg g y=true) {v:Value} (hi:Is P ρ h y v):Is P ρ' h' y v:=by
 cases y with
 | c f ns=>exact Ycg (show Uee (.c f ns)=true from hd) hi
 | r D T ns=>exact Ycg (show Uee (.r D T ns)=true from hd) hi
 | e n=>
  obtain ⟨g',t,a,x,h1,h2⟩:=hi
  exact ⟨g',t,a,x,by rw [hg n (by simp [Udg,Nat.blt] at hd;omega)];exact h1,h2⟩
 | _=>first | exact hi | trivial | cases hd
theorem Ybx {g:Nat} {ρ ρ':Nat→Ad} {h h':List VB} (hg:∀ n,n<g→h'[n]? = h[n]?) {y:SA} (hd:Uf1 g y=true) {v:Value} (hi:Is P ρ h y v):Is P ρ' h' y v:=by
 cases y with
 | x=>trivial
 | _=>exact Zqg hg (by exact hd) hi
theorem Zx6 {g:Nat} {ρ ρ':Nat→Ad} {h h':List VB} (hg:∀ n,n<g→h'[n]? = h[n]?) {y:SV} (hd:Ufe g y=true) {v:Value} (hi:IsV P ρ h y v):IsV P ρ' h' y v:=by
 cases y with
 | a y=>exact Zqg hg hd hi
 | t l=>
  obtain ⟨vs,h1,h2,h3⟩:=hi
  simp only [Ufe,List.all_eq_true] at hd
  exact ⟨vs,h1,h2,fun i y v hy hv=>Zqg hg (hd y (jS hy)) (h3 i y v hy hv)⟩
theorem Yeg {wr:Bool} {b:VB} {x:Nat} (h:farB (lendB wr b) x):farB b x:=by
 cases b with
 | sl a len C e=>
  simp only [lendB] at h
  cases a with
  | came c=>exact h
  | own=>cases wr<;>exact False.elim h
  | lent=>cases wr<;>exact False.elim h
 | _=>exact h
abbrev Ucb (wr:Bool) (ids:List Nat) (h h':List VB):Prop:=∀ (k n:Nat),ids[k]? = some n→∃ b b',h[n]? = some b∧h'[k]? = some b'∧LB wr ids b b'
theorem Zg6 {ids:List Nat} {k n:Nat} (hk:ids[k]? = some n):ids.getD k 0=n:=by rw [List.getD_eq_getElem?_getD,hk];rfl
theorem Zxe {wr:Bool} {ids:List Nat} {h h':List VB} {ρ:Nat→Ad} (hids:Ucb wr ids h h') {k n:Nat} (hk:ids[k]? = some n) {v:Value} (hi:IsL P ρ h n v):IsL P (fun k=>ρ (ids.getD k 0)) h' k v:=by
 obtain ⟨b,b',h1,h2,hb⟩:=hids k n hk
 rcases hi with hn | ⟨a,len,C,t,ad,cap,hn,hv,had,hc⟩
 ·rw [h1] at hn;cases hn;cases hb
 ·rw [h1] at hn
  cases hn
  cases hb
  refine .inr ⟨lend wr a,len,C,t,ad,cap,h2,hv,fun h0=> ?_,fun hh=> ?_⟩
  ·rw [had h0]
   simp only [adOf,Zt5,Zg6 hk]
  ·simp only [Zg6 hk]
   exact hc (by rw [← Zul];exact hh)
theorem Zzz {ids ids2:List Nat} (hsub:∀ (k n:Nat),ids[k]? = some n→ids2[k]? = some n):∀ {ns l:List (Nat×Nat)},mapN ids ns=some l→mapN ids2 ns=some l
 | [],l,h=>h
 | (i,k)::r,l,h=>by
  simp only [mapN] at h⊢
  split at h
  ·rename_i n l' hk hl
   rw [hsub k n hk,Zzz hsub hl]
   exact h
  ·cases h
theorem Zyk {g:Nat} {ids ids2:List Nat} (hsub:∀ (k n:Nat),ids[k]? = some n→ids2[k]? = some n) {y z:SA} (hm:mapA g ids y=some z):mapA g ids2 y=some z:=by
 cases y with
 | l m=>
  simp only [mapA] at hm⊢
  split at hm
  ·rename_i n hk;rw [hsub _ _ hk];exact hm
  ·cases hm
 | r D T ns=>
  simp only [mapA] at hm⊢
  split at hm
  ·rename_i l hl;rw [Zzz hsub hl];exact hm
  ·cases hm
 | _=>exact hm
theorem Zz4 {g:Nat} {ids ids2:List Nat} (hsub:∀ (k n:Nat),ids[k]? = some n→ids2[k]? = some n):∀ {l m:List SA},mapL g ids l=some m→mapL g ids2 l=some m
 | [],m,h=>h
 | y::r,m,h=>by
  simp only [mapL] at h⊢
  split at h
  ·rename_i z l hz hl
   rw [Zyk hsub hz,Zz4 hsub hl]
   exact h
  ·cases h
theorem Yek {g:Nat} {ids ids2:List Nat} (hsub:∀ (k n:Nat),ids[k]? = some n→ids2[k]? = some n) {y z:SV} (hm:mapV g ids y=some z):mapV g ids2 y=some z:=by
 cases y with
 | a y=>
  simp only [mapV] at hm⊢
  split at hm
  ·rename_i n hk;rw [Zyk hsub hk];exact hm
  ·cases hm
 | t l=>
  simp only [mapV] at hm⊢
  split at hm
  ·rename_i n hk;rw [Zz4 hsub hk];exact hm
  ·cases hm
theorem Ybc {wr:Bool} {ids:List Nat} {h h':List VB} {ρ:Nat→Ad} (hids:Ucb wr ids h h') {k n:Nat} (hk:ids[k]? = some n) {v:Value} (hi:IsL P (fun k=>ρ (ids.getD k 0)) h' k v):IsL P ρ h n v:=by
 obtain ⟨b,b',h1,h2,hb⟩:=hids k n hk
 rcases hi with hn | ⟨a,len,C,t,ad,cap,hn,hv,had,hc⟩
 ·rw [h2] at hn;cases hn;cases hb
 ·rw [h2] at hn
  cases hn
  cases hb
  rename_i a
  refine .inr ⟨a,len,C,t,ad,cap,h1,hv,fun h0=> ?_,fun hh=> ?_⟩
  ·rw [had h0]
   simp only [adOf,Zt5,Zg6 hk]
  ·have:=hc (by rw [Zul];exact hh)
   simp only [Zg6 hk] at this
   exact this
theorem RowR.lent {wr:Bool} {ids:List Nat} {h h':List VB} {ρ:Nat→Ad} (hids:Ucb wr ids h h') {D D':Array Value} {ns ns':List (Nat×Nat)} (hn:Ren ids ns ns') (hR:RowR P ρ h D ns D'):RowR P (fun k=>ρ (ids.getD k 0)) h' D ns' D':=
 ⟨hR.size,fun i hi=>hR.same i ((hn.look i).1.1 hi),fun i k hk=>by
  obtain ⟨m,h1,h2⟩:=(hn.look i).2 k hk
  obtain ⟨q1,ad,l,c,q2,q3⟩:=hR.refs i m h1
  exact ⟨q1,ad,l,c,q2,Zxe hids h2 q3⟩,by rw [hn.keys];exact hR.uniq⟩
theorem there.lent {wr:Bool} {ids:List Nat} {h h':List VB} (hids:Ucb wr ids h h') {k n:Nat} (hk:ids[k]? = some n) (hp:there h n):there h' k:=by
 obtain ⟨b,b',h1,h2,hb⟩:=hids k n hk
 cases hp with
 | row e=>rw [e] at h1;cases h1;cases hb;exact .row h2
 | one e=>rw [e] at h1;cases h1;cases hb<;>exact .one h2
theorem Zn9 {wr : Bool} {g : Nat} {ρ : Nat → Ad} {h h' : List VB} {ids : List Nat} (hl : ∀ n, n < g → h'[n]? = h[n]?) (hids : Ucb wr ids h h') : ∀ (args : List SA) (vals : List Value) (pre : List Nat), Uci g args = true →
    (∀ (k n : Nat), (pre ++ Uaj args)[k]? = some n → ids[k]? = some n) → Ual P ρ h args vals →
    Ual P (fun k => ρ (ids.getD k 0)) h' (Ubv pre.length args) vals
  | [], vals, pre, _, _, hA => by
    have : vals = [] := List.eq_nil_of_length_eq_zero hA.1.symm
    subst this
    exact ⟨rfl, fun i y v hy => by simp [Ubv] at hy⟩
  | y :: r, [], pre, _, _, hA => absurd hA.1 (by simp)
  | y :: r, v :: vals, pre, hok, hg, hA => by
    have h0 := hA.2 0 y v rfl rfl
    have htl : Ual P ρ h r vals := ⟨by have := hA.1; simpa using this, fun i y v hy hv => hA.2 (i + 1) y v (by simpa using hy) (by simpa using hv)⟩
    simp only [Uci, Q7] at hok
    have cons : ∀ {ρ' : Nat → Ad} {y' : SA} {l : List SA}, Is P ρ' h' y' v → Ual P ρ' h' l vals → Ual P ρ' h' (y' :: l) (v :: vals) := fun {ρ' y' l} h1 h2 =>
      ⟨by simp [h2.1], fun i z u hz hu => by
        cases i with
        | zero =>
          simp only [jG, Q8] at hz hu
          subst hz; subst hu; exact h1
        | succ i => exact h2.2 i z u (by simpa using hz) (by simpa using hu)⟩
    by_cases hw : ∃ n, y = .w n
    · obtain ⟨n, rfl⟩ := hw
      simp only [Uaj, Ubv] at hg ⊢
      have e : pre ++ n :: Uaj r = (pre ++ [n]) ++ Uaj r := by simp
      have hk := hg pre.length n (by simp)
      have rec1 := Zn9 hl hids r vals (pre ++ [n]) hok.2 (by rw [← e]; exact hg) htl
      simp only [jN, List.length_cons, List.length_nil] at rec1
      obtain ⟨hv, hpr⟩ := h0
      refine cons ⟨?_, hpr.lent hids hk⟩ rec1
      rw [hv]
      simp only [Zg6 hk]
    by_cases hl' : ∃ n, y = .l n
    · obtain ⟨n, rfl⟩ := hl'
      simp only [Uaj, Ubv] at hg ⊢
      have e : pre ++ n :: Uaj r = (pre ++ [n]) ++ Uaj r := by simp
      have hk := hg pre.length n (by simp)
      have rec1 := Zn9 hl hids r vals (pre ++ [n]) hok.2 (by rw [← e]; exact hg) htl
      simp only [jN, List.length_cons, List.length_nil] at rec1
      exact cons (Zxe (P := P) hids hk h0) rec1
    by_cases hr' : ∃ D T ns, y = .r D T ns
    · obtain ⟨D, T, ns, rfl⟩ := hr'
      simp only [Uaj, Ubv] at hg ⊢
      have e : pre ++ (ns.map Prod.snd ++ Uaj r) = (pre ++ ns.map Prod.snd) ++ Uaj r := by simp
      have rec1 := Zn9 hl hids r vals (pre ++ ns.map Prod.snd) hok.2 (by rw [← e]; exact hg) htl
      rw [jN, List.length_map] at rec1
      obtain ⟨D', hv, hW, hR⟩ := h0
      refine cons ⟨D', hv, hW, hR.lent hids (Ren.num ns _ fun j m hj => hg _ m ?_)⟩ rec1
      rw [jM (by omega), Nat.add_sub_cancel_left, jO (jE.1 hj).1]
      exact hj
    by_cases hc' : ∃ f ns, y = .c f ns
    · obtain ⟨f, ns, rfl⟩ := hc'
      simp only [Uaj, Ubv] at hg ⊢
      have e : pre ++ (ns ++ Uaj r) = (pre ++ ns) ++ Uaj r := by simp
      have rec1 := Zn9 hl hids r vals (pre ++ ns) hok.2 (by rw [← e]; exact hg) htl
      rw [jN] at rec1
      obtain ⟨hv, hth⟩ := h0
      have hk : ∀ (j m : Nat), ns[j]? = some m → ids[pre.length + j]? = some m := fun j m hj => hg _ m (by
        rw [jM (by omega), Nat.add_sub_cancel_left, jO (jE.1 hj).1]
        exact hj)
      refine cons ⟨?_, fun j hj => ?_⟩ rec1
      · rw [hv]
        have em : ∀ {β : Type} (F : Nat → β), ns.map F = (List.range' pre.length ns.length).map (fun k => F (ids.getD k 0)) := fun F => by
          refine List.ext_getElem? fun i => ?_
          rw [jF, jF]
          by_cases hi : i < ns.length
          · rw [jB hi, List.getElem?_range' hi]
            simp only [Option.map_some, Nat.one_mul]
            rw [Zg6 (hk i _ (jB hi))]
          · rw [jI (by omega), jI (by simp; omega)]
            rfl
        rw [em]
      · obtain ⟨h1, h2⟩ := List.mem_range'_1.1 hj
        have hlt : j - pre.length < ns.length := by omega
        have h3 := hk (j - pre.length) _ (jB hlt)
        rw [show pre.length + (j - pre.length) = j by omega] at h3
        exact (hth _ (List.getElem_mem hlt)).lent hids h3
    · have hd : Udg g y = true := by
        have := hok.1
        unfold okArg at this
        split at this
        · exact absurd ⟨_, rfl⟩ hw
        · exact absurd ⟨_, rfl⟩ hl'
        · exact absurd ⟨_, _, _, rfl⟩ hr'
        · exact absurd ⟨_, _, rfl⟩ hc'
        · exact this
      have hp : Uaj (y :: r) = Uaj r := by cases y <;> first | rfl | exact absurd ⟨_, rfl⟩ hw | exact absurd ⟨_, rfl⟩ hl' | exact absurd ⟨_, _, _, rfl⟩ hr' | exact absurd ⟨_, _, rfl⟩ hc'
      have hr : Ubv pre.length (y :: r) = y :: Ubv pre.length r := by cases y <;> first | rfl | exact absurd ⟨_, rfl⟩ hw | exact absurd ⟨_, rfl⟩ hl' | exact absurd ⟨_, _, _, rfl⟩ hr' | exact absurd ⟨_, _, rfl⟩ hc'
      rw [hp] at hg
      rw [hr]
      exact cons (Zqg hl hd h0) (Zn9 hl hids r vals pre hok.2 hg htl)
theorem Zy7 {ids:List Nat}:∀ {ns l:List (Nat×Nat)},mapN ids ns=some l→l.map Prod.fst=ns.map Prod.fst∧∀ o,(Uar l o=none ↔ Uar ns o=none)∧∀ n,Uar l o=some n→∃ k,Uar ns o=some k∧ids[k]? = some n
 | [],l,h=>by
  simp only [mapN,Q8] at h
  subst h
  exact ⟨rfl,fun o=>⟨Iff.rfl,fun n h=>by cases h⟩⟩
 | (i,k)::r,l,h=>by
  simp only [mapN] at h
  split at h
  ·rename_i n l' hk hl
   cases h
   obtain ⟨h1,h2⟩:=Zy7 hl
   refine ⟨by simp [h1],fun o=> ?_⟩
   simp only [Uar]
   cases jA i o with
   | true=>exact ⟨⟨fun h=>(by cases h),fun h=>(by cases h)⟩,fun n' hn=>(by cases hn;exact ⟨k,rfl,hk⟩)⟩
   | false=>exact h2 o
  ·cases h
theorem Ydn {wr:Bool} {g:Nat} {ids:List Nat} {h h':List VB} {ρ:Nat→Ad} (hg:∀ n,n<g→h[n]? = h'[n]?) (hids:Ucb wr ids h h') {y z:SA} (hm:mapA g ids y=some z) {v:Value} (hi:Is P (fun k=>ρ (ids.getD k 0)) h' y v):Is P ρ h z v:=by
 unfold mapA at hm
 split at hm
 ·split at hm
  ·rename_i n hk
   cases hm
   exact Ybc (P:=P) hids hk hi
  ·cases hm
 ·rename_i D T ns
  split at hm
  ·rename_i l hl
   cases hm
   obtain ⟨D',hv,hW,hR⟩:=hi
   obtain ⟨h1,h2⟩:=Zy7 hl
   exact ⟨D',hv,hW,hR.size,fun i hi=>hR.same i ((h2 i).1.1 hi),fun i n hn=>by
    obtain ⟨k,q1,q2⟩:=(h2 i).2 n hn
    obtain ⟨r1,ad,l,c,r2,r3⟩:=hR.refs i k q1
    exact ⟨r1,ad,l,c,r2,Ybc hids q2 r3⟩,by rw [h1];exact hR.uniq⟩
  ·cases hm
 ·cases hd:Udg g y with
  | false=>rw [hd] at hm;cases hm
  | true=>
   rw [hd] at hm
   cases hm
   exact Zqg hg hd hi
theorem Yef {wr:Bool} {g:Nat} {ids:List Nat} {h h':List VB} {ρ:Nat→Ad} (hg:∀ n,n<g→h[n]? = h'[n]?) (hids:Ucb wr ids h h'):∀ {l m:List SA} {vs:List Value},mapL g ids l=some m→Ual P (fun k=>ρ (ids.getD k 0)) h' l vs→Ual P ρ h m vs
 | [],m,vs,hm,hA=>by
  simp only [mapL,Q8] at hm
  subst hm
  exact ⟨hA.1,fun i y v hy=>by simp at hy⟩
 | y::r,m,[],hm,hA=>absurd hA.1 (by simp)
 | y::r,m,v::vs,hm,hA=>by
  simp only [mapL] at hm
  split at hm
  ·rename_i z l hz hl
   cases hm
   have h0:=Ydn (P:=P) hg hids hz (hA.2 0 y v rfl rfl)
   have h1:=Yef (l:=r) (vs:=vs) hg hids hl ⟨by simpa using hA.1,fun i z u hz hu=>hA.2 (i+1) z u (by simpa using hz) (by simpa using hu)⟩
   refine ⟨by simp [h1.1],fun i z' u hz' hu=> ?_⟩
   cases i with
   | zero=>
    simp only [jG,Q8] at hz' hu
    subst hz';subst hu;exact h0
   | succ i=>exact h1.2 i z' u (by simpa using hz') (by simpa using hu)
  ·cases hm
theorem mapV_is {wr:Bool} {g:Nat} {ids:List Nat} {h h':List VB} {ρ:Nat→Ad} (hg:∀ n,n<g→h[n]? = h'[n]?) (hids:Ucb wr ids h h') {y z:SV} (hm:mapV g ids y=some z) {v:Value} (hi:IsV P (fun k=>ρ (ids.getD k 0)) h' y v):IsV P ρ h z v:=by
 cases y with
 | a y=>
  simp only [mapV] at hm
  split at hm
  ·rename_i z' hz
   cases hm
   exact Ydn (P:=P) hg hids hz hi
  ·cases hm
 | t l=>
  simp only [mapV] at hm
  split at hm
  ·rename_i z' hz
   cases hm
   obtain ⟨vs,h1,h2⟩:=hi
   exact ⟨vs,h1,Yef hg hids hz h2⟩
  ·cases hm
theorem Ydv {g id id2:Nat} {ρ2 ρ3:Nat→Ad} {h2 h3:List VB} (hg:∀ n,n<g→h3[n]? = h2[n]?) (hid:∀ v,IsL P ρ2 h2 id2 v→IsL P ρ3 h3 id v) {y:SA} (hy:Ucf g y=true) {v:Value} (hi:Is P ρ2 h2 (Uch id2 y) v):Is P ρ3 h3 (Uch id y) v:=by
 have fin:Uf1 g y=true→Uch id2 y=y→Uch id y=y→Is P ρ3 h3 (Uch id y) v:=fun h1 h2 h3=>by rw [h3];rw [h2] at hi;exact Ybx hg h1 hi
 cases y with
 | r D T ns=>
  simp only [Ucf,List.all_eq_true] at hy
  obtain ⟨D',hv,hW,hR⟩:=hi
  have e:∀ (i:Nat) (ns:List (Nat×Nat)),(∀ q ∈ ns,jA q.2 HOLE=true)→ns.map (fun q=>(q.1,Ubz i q.2))=ns.map fun q=>(q.1,i):=fun i ns hn=>List.map_congr_left fun q hq=>by simp only [Ubz,hn q hq,Q1]
  rw [e _ _ hy] at hR
  refine ⟨D',hv,hW, ?_⟩
  rw [e _ _ hy]
  refine ⟨hR.size,fun i hi=>hR.same i ?_,fun i k hk=> ?_,by have:=hR.uniq;rw [List.map_map] at this ⊢;exact this⟩
  ·rw [Zji fun _=>id] at hi
   rw [Zji fun _=>id2]
   cases hq:Uar ns i with
   | none=>rfl
   | some k=>rw [hq] at hi;cases hi
  ·rw [Zji fun _=>id] at hk
   cases hq:Uar ns i with
   | none=>rw [hq] at hk;cases hk
   | some k0=>
    rw [hq] at hk
    cases hk
    obtain ⟨r1,ad,l,c,r2,r3⟩:=hR.refs i id2 (by rw [Zji fun _=>id2,hq];rfl)
    exact ⟨r1,ad,l,c,r2,hid _ r3⟩
 | l n=>cases hy
 | x=>trivial
 | _=>exact fin hy rfl rfl
theorem hole_isV {g id id2:Nat} {ρ2 ρ3:Nat→Ad} {h2 h3:List VB} (hg:∀ n,n<g→h3[n]? = h2[n]?) (hid:∀ v,IsL P ρ2 h2 id2 v→IsL P ρ3 h3 id v) {y:SV} (hy:Ub3 g y=true) {v:Value} (hi:IsV P ρ2 h2 (Ufl id2 y) v):IsV P ρ3 h3 (Ufl id y) v:=by
 cases y with
 | a y=>exact Ydv (P:=P) hg hid hy hi
 | t l=>
  obtain ⟨vs,h1,h2,h3⟩:=hi
  simp only [Ub3,List.all_eq_true] at hy
  refine ⟨vs,h1,by simpa using h2,fun i y v hi' hv=> ?_⟩
  rw [jF] at hi'
  cases hl:l[i]? with
  | none=>rw [hl] at hi';cases hi'
  | some y0=>
   rw [hl] at hi'
   cases hi'
   exact Ydv (P:=P) hg hid (hy y0 (jS hl)) (h3 i _ v (by rw [jF,hl];rfl) hv)
def nilN (i:Nat) (e:TypeId):Option (SV×Eff×Bool)→Option (SV×Eff×Bool)
 | some (.t l,.none,g)=>(match l[i]? with
  | some (.v (.slice none 0 0))=>bif Nat.ble 1000000 i then none else some (.t (l.set i .x),.newS (some i) 0 #[] e,g)
  | _=>some (.t l,.none,g))
 | some (.a (.v (.slice none 0 0)),.none,g)=>some (.a .x,.newS none 0 #[] e,g)
 | r=>r
theorem Zxx {ρ:Nat→Ad} {h:List VB} {w:World} {e:TypeId}:BIs P ρ h w ⟨0,0⟩ (.sl .own 0 #[] e):=
 ⟨⟨by simp,fun k hk=>absurd hk (by omega),by omega,.inl rfl⟩,fun _ h=>absurd rfl h⟩
theorem nil_all {ρ:Nat→Ad} {h:List VB} {l:List SA} {vs:List Value} {i:Nat} (hall:Ual P ρ h l vs) (j:Nat) (y:SA) (u:Value) (hy:(l.set i .x)[j]? = some y) (hu:vs[j]? = some u):Is P ρ h y u:=by
 rw [List.getElem?_set] at hy
 split at hy
 ·rename_i hij
  split at hy
  ·cases hy;trivial
  ·cases hy
 ·exact hall.2 j y u hy hu
theorem nil_get {ρ:Nat→Ad} {h:List VB} {l:List SA} {vs:List Value} {i:Nat} (hall:Ual P ρ h l vs) (hl:l[i]? = some (.v (.slice none 0 0))) {hlt:i<vs.length} (hvi:Is P ρ h (.v (.slice none 0 0)) vs[i]):vs[i]? = some (.slice none 0 0):=by
 rw [jB hlt]
 exact congrArg some hvi
theorem Ual.get {ρ:Nat→Ad} {h:List VB} {args:List SA} {vals:List Value} (hA:Ual P ρ h args vals) {i:Nat} {y:SA} (hy:args[i]? = some y):∃ v,Is P ρ h y v:=by
 have hlt:i<vals.length:=by rw [← hA.1];exact (jE.1 hy).1
 exact ⟨_,hA.2 i y _ hy (jB hlt)⟩
theorem Ual.wt {ρ:Nat→Ad} {h:List VB} {args:List SA} {vals:List Value} (hA:Ual P ρ h args vals) (i:Nat) {D:Array Value} {T:TypeId} (hy:args[i]? = some (.g D T)):WT P T D:=by
 obtain ⟨v,_,h⟩:=hA.get hy;exact h
theorem Ual.wtr {ρ:Nat→Ad} {h:List VB} {args:List SA} {vals:List Value} (hA:Ual P ρ h args vals) (i:Nat) {D:Array Value} {T:TypeId} {ns:List (Nat×Nat)} (hy:args[i]? = some (.r D T ns)):WT P T D:=by
 obtain ⟨v,_,_,h,_⟩:=hA.get hy;exact h
theorem Ual.rng {ρ:Nat→Ad} {h:List VB} {args:List SA} {vals:List Value} (hA:Ual P ρ h args vals) (i:Nat) {k:IntKind} {x:Int} (hy:args[i]? = some (.i k x)):k.min≤x∧x≤k.max:=by
 obtain ⟨v,_,h⟩:=hA.get hy;exact h
theorem HIs.wt {ρ:Nat→Ad} {h:List VB} {w:World} (hH:HIs P ρ h w) (i:Nat) {D:Array Value} {T:TypeId} (hy:h[i]? = some (.row D T)):WT P T D:=(hH.is i _ hy).2
theorem HIs.wtr {ρ:Nat→Ad} {h:List VB} {w:World} (hH:HIs P ρ h w) (i:Nat) {D:Array Value} {T t:TypeId} {ns:List (Nat×Nat)} (hy:h[i]? = some (.one (.r D T ns) t)):WT P T D:=by
 obtain ⟨v,⟨_,_,h,_⟩,_⟩:=hH.is i _ hy;exact h
theorem HIs.slw {ρ:Nat→Ad} {h:List VB} {w:World} (hH:HIs P ρ h w) (i:Nat) {a:SlK} {len:Nat} {C:Array Value} {e:TypeId} (hy:h[i]? = some (.sl a len C e)) :
  C.size=len*(lay P e).length∧(∀ k,k<len→WT P e (C.extract (k*(lay P e).length) (k*(lay P e).length+(lay P e).length)))∧len≤9223372036854775807:=
 let hs:=hH.sl hy
 ⟨hs.1,hs.2.1,hs.2.2.1⟩
end
end Go.Proofs.YtdhckffhnkeogaaDoor.Ve
/- Arguments of plain data; laws. -/
namespace Go.Proofs.YtdhckffhnkeogaaDoor.Ve
open Go.RowKit Go.ChangeShapes Go.WideShapes Go.ChangeAt
def Udk (P:Program) (dt:TypeId→Bool) (L:List Nat):List Field→Nat→Bool
 | [],o=>jA o L.length
 | f::r,o=>jA f.offset o&&dt f.type&&leq ((L.drop o).take (lay P f.type).length) (lay P f.type)&&jA (P.cellsOf f.type) (lay P f.type).length&&Udk P dt L r (o+(lay P f.type).length)
def Udb (P:Program):Nat→TypeId→Bool
 | 0,_=>false
 | n+1,t=>match P.underlying t with
  | some (.int k)=>leq (lay P t) [kN k]
  | some (.array m e)=>Udb P n e&&Uc3 (lay P t) (lay P e) (lay P e).length m&&jA (lay P t).length (m*(lay P e).length)&&jA (P.cellsOf e) (lay P e).length&&jA (P.cellsOf t) (lay P t).length&&Nat.blt 0 (lay P e).length
  | some (.struct fs)=>Udk P (Udb P n) (lay P t) fs.toList 0&&jA (P.cellsOf t) (lay P t).length
  | _=>false
section
variable {H:Type} {enc:TypeId×Value→H} {P:Program} {w:World} {base:Nat} {spare:Nat→Bool} {held:Bool}
def Fits (P:Program) (t:TypeId) (cs:List Value):Prop:=cs.map ckN=lay P t∧∀ v ∈ cs,Ua9 v
theorem Zn4:∀ (n:Nat) (t:TypeId) (fuel:Nat) (cs:List Value) (x:DataW H×List MemPlace),Udb P n t=true→DataW.trod enc P w base spare held fuel t cs=some x→Fits P t cs
 | 0,t,fuel,cs,x,hd,_=>by cases hd
 | n+1,t,fuel,cs,x,hd,h=>by
  simp only [Udb] at hd
  split at hd
  ·rename_i k hu
   obtain ⟨z,rfl,_,hwf⟩:=DataW.trod_int hu h
   refine ⟨by rw [Zeu hd];rfl,fun v hv=> ?_⟩
   obtain rfl:v = .int k z:=by simpa using hv
   show k.min≤z∧z≤k.max
   simpa [Lit.wf] using hwf
  ·rename_i m e hu
   simp only [Q7] at hd
   obtain ⟨⟨⟨⟨⟨hde,hall⟩,hlen⟩,hce⟩,hct⟩,h0⟩:=hd
   have hlen:=jC hlen
   have hce:=jC hce
   have hct:=jC hct
   have h0:0<(lay P e).length:=by simp [Nat.blt] at h0;omega
   obtain ⟨xs,k,rfl,rfl,hl,hxs,hp⟩:=DataW.trod_array hu h
   have part:∀ i,i<m→Fits P e ((cs.drop (i*(lay P e).length)).take (lay P e).length):=fun i hi=>by
    have:=hp i hi
    rw [hce,jB (by omega)] at this
    exact Zn4 n e k _ _ hde this
   have hcl:cs.length=m*(lay P e).length:=by omega
   have at_:∀ p,p<cs.length→p / (lay P e).length<m∧p / (lay P e).length*(lay P e).length+p % (lay P e).length=p∧p % (lay P e).length<(lay P e).length:=fun p hp=>by
    refine ⟨?_,by rw [Nat.mul_comm];exact Nat.div_add_mod _ _,Nat.mod_lt _ h0⟩
    rw [Nat.div_lt_iff_lt_mul h0];omega
   constructor
   ·refine List.ext_getElem? fun p=> ?_
    by_cases hp':p<cs.length
    ·obtain ⟨h1,h2,h3⟩:=at_ p hp'
     have hpart:=(part _ h1).1
     have hs:=Zkz (P:=P) (T:=t) rfl (Znd hall _ h1) _ h3
     rw [h2] at hs
     have h5:=congrArg (fun l:List Nat=>l[p % (lay P e).length]?) hpart
     simp only [jF,jJ,if_pos h3,jK,h2] at h5
     rw [hs,jF]
     exact h5
    ·rw [jI (by simp;omega),jI (by omega)]
   ·intro v hv
    obtain ⟨p,hp',rfl⟩:=List.mem_iff_getElem.1 hv
    obtain ⟨h1,h2,h3⟩:=at_ p hp'
    refine (part _ h1).2 _ ?_
    rw [jL]
    exact ⟨p % (lay P e).length,by rw [jJ,if_pos h3,jK,h2,jB hp']⟩
  ·rename_i fs hu
   simp only [Q7] at hd
   obtain ⟨hf,hct⟩:=hd
   have hct:=jC hct
   obtain ⟨xs,k,_,rfl,hl,hxs,hp⟩:=DataW.trod_struct hu h
   have hcl:cs.length=(lay P t).length:=by omega
   -- field by field
   have go:∀ (l:List Field) (o:Nat),Udk P (Udb P n) (lay P t) l o=true→(∀ f ∈ l,∃ y,DataW.trod enc P w base spare held k f.type ((cs.drop f.offset).take (P.cellsOf f.type))=some y) →
     (∀ p,o≤p→p<cs.length→(cs.map ckN)[p]? = (lay P t)[p]? ∧ ∀ v,cs[p]? = some v→Ua9 v):=by
    intro l
    induction l with
    | nil=>
     intro o ho _ p h1 h2
     have:=jC ho
     omega
    | cons f r ih=>
     intro o ho hy p h1 h2
     simp only [Udk,Q7] at ho
     obtain ⟨⟨⟨⟨hoff,hdf⟩,hsub⟩,hcf⟩,hr⟩:=ho
     have hoff:=jC hoff
     have hcf:=jC hcf
     by_cases hin:p<o+(lay P f.type).length
     ·obtain ⟨y,hy1⟩:=hy f (jR ..)
      rw [hoff,hcf] at hy1
      have hfit:=Zn4 n f.type k _ _ hdf hy1
      obtain ⟨q,rfl⟩:∃ q,p=o+q:=⟨p - o,by omega⟩
      have hs:=Zkz (P:=P) (T:=t) rfl hsub q (by omega)
      refine ⟨?_,fun v hv=>hfit.2 v ?_⟩
      ·have h5:=congrArg (fun l:List Nat=>l[q]?) hfit.1
       simp only [jF,jJ,if_pos (show q<(lay P f.type).length by omega),jK] at h5
       rw [hs,jF]
       exact h5
      ·rw [jL]
       exact ⟨q,by rw [jJ,if_pos (by omega),jK];exact hv⟩
     ·exact ih (o+(lay P f.type).length) hr (fun f' hf'=>hy f' (jP _ hf')) p (by omega) h2
   have all:=go fs.toList 0 hf fun f hfm=>by
    obtain ⟨i,hi⟩:=jL.1 hfm
    have:=hp i f (by simpa using hi)
    have hi':i<xs.length:=by
     have:=(jE.1 hi).1
     simp at this
     omega
    rw [jB hi'] at this
    exact ⟨_,this⟩
   constructor
   ·refine List.ext_getElem? fun p=> ?_
    by_cases hp':p<cs.length
    ·exact (all p (Nat.zero_le _) hp').1
    ·rw [jI (by simp;omega),jI (by omega)]
   ·intro v hv
    obtain ⟨p,hp',rfl⟩:=List.mem_iff_getElem.1 hv
    exact (all p (Nat.zero_le _) hp').2 _ (jB hp')
  ·cases hd
theorem Yez {r:Reach} {b0:Nat} {t:TypeId} {v:Value} {d:DataW H} {ps:List MemPlace} (n:Nat) (hd:Udb P n t=true) (hR:isRow P t=true) (hv:Value.okWide P w r base t v) (h:DataW.Trod enc P w b0 spare held t v d ps) :
  ∃ D:Array Value,v = .agg D∧WT P t D:=by
 obtain ⟨desc,hu,hrow⟩:=Zfe hR
 have:∃ cs,v = .agg cs:=by
  unfold Value.okWide at hv
  rw [hu] at hv
  cases desc<;>simp_all [TypeDesc.isRow]
  all_goals exact ⟨_,hv.choose_spec.1⟩
 obtain ⟨cs,rfl⟩:=this
 obtain ⟨fuel,hf⟩:=h
 have:=Zn4 n t fuel _ _ hd hf
 exact ⟨cs,rfl,this⟩
end
def idA (n:Nat):Ad:=⟨n,0⟩
section
variable {P:Program}
end
end Go.Proofs.YtdhckffhnkeogaaDoor.Ve
/- Rows copied and compared part by part. -/
namespace Go.Proofs.YtdhckffhnkeogaaDoor.Ve
open Go.RowKit
def upto (a z:Array Value) (j:Nat):Array Value:=a.extract 0 j++z.extract j z.size
theorem Zyl {a z:Array Value} {j:Nat} (hs:a.size=z.size) (hj:j≤a.size):(upto a z j).size=a.size:=by
 simp only [upto,Array.size_append,Array.size_extract];omega
theorem Zoe {a z:Array Value} {j:Nat} (hs:a.size=z.size) (hj:j≤a.size) (i:Nat):(upto a z j)[i]? = if i<j then a[i]? else z[i]? := by
 unfold upto
 rw [Array.getElem?_append]
 simp only [Array.size_extract,Nat.sub_zero,Nat.min_eq_left hj]
 split
 ·rename_i h;rw [jT];simp only [Nat.zero_add,Nat.min_eq_left hj,Nat.sub_zero];rw [if_pos h]
 ·rename_i h
  rw [jT]
  simp only [Nat.min_self]
  rw [show j+(i - j)=i by omega]
  split
  ·rfl
  ·rw [jU (by omega)]
theorem Zko {a z:Array Value} (hs:a.size=z.size):upto a z 0=z:=Zff fun i=>by
 rw [Zoe hs (by omega)];simp
theorem Zoc {a z:Array Value} (hs:a.size=z.size) {n:Nat} (hn:a.size=n):upto a z n=a:=Zff fun i=>by
 rw [Zoe hs (by omega)]
 split
 ·rfl
 ·rw [jU (by omega),jU (by omega)]
theorem Zt1 {a z D:Array Value} {j m:Nat} (hs:a.size=z.size) (hj:j+m≤a.size) (hD:D=a.extract j (j+m)):spl (upto a z j) j D.toList=upto a z (j+m):=by
 subst hD
 have hl:(a.extract j (j+m)).toList.length=m:=by simp only [Array.length_toList,Array.size_extract];omega
 refine Zff fun i=> ?_
 rw [Zfr _ _ _ (by rw [hl,Zyl hs (by omega)];omega),Zoe hs (by omega),hl,Zoe hs (by omega)]
 by_cases h1:i<j
 ·rw [if_neg (by omega),if_pos h1,if_pos (by omega)]
 ·by_cases h2:i<j+m
  ·rw [if_pos (by omega),if_pos h2,jH,jT,show min (j+m) a.size=j+m by omega,if_pos (by omega),show j+(i - j)=i by omega]
  ·rw [if_neg (by omega),if_neg h1,if_neg h2]
theorem Zli {a z:Array Value} {j:Nat} {v:Value} (hs:a.size=z.size) (hv:a[j]? = some v):(upto a z j).setIfInBounds j v=upto a z (j+1):=by
 have hj:j<a.size:=(jV.1 hv).1
 refine Zff fun i=> ?_
 rw [jQ,Zoe hs (by omega),Zoe hs (by omega),Zyl hs (by omega)]
 by_cases h:j=i
 ·subst h;rw [if_pos rfl,if_pos hj,if_pos (by omega),hv]
 ·rw [if_neg h]
  by_cases h1:i<j
  ·rw [if_pos h1,if_pos (by omega)]
  ·rw [if_neg h1,if_neg (by omega)]
theorem Zha (a:Array Value):Uas a a=true:=Zif.2 rfl
theorem Yaj {a b:Array Value}:Uas a b=false ↔ a≠b:=by
 rw [← Bool.not_eq_true];exact not_congr Zif
theorem Yei {n:Nat} {p:Nat→Bool} (h:¬ ∀ k,k<n→p k=true):∃ j,j<n∧(∀ i,i<j→p i=true)∧p j=false:=by
 induction n with
 | zero=>exact absurd (fun k hk=>absurd hk (by omega)) h
 | succ n ih=>
  by_cases h1:∀ k,k<n→p k=true
  ·refine ⟨n,by omega,h1, ?_⟩
   cases hp:p n with
   | false=>rfl
   | true=>
    exact absurd (fun k hk=>by
     by_cases e:k=n
     ·rw [e];exact hp
     ·exact h1 k (by omega)) h
  ·obtain ⟨j,hj,h2,h3⟩:=ih h1
   exact ⟨j,by omega,h2,h3⟩
theorem Zrv {T X α:Type} {g:T→Option (Stp T X)} (F:Nat→T) (p:Nat→Bool) (n:Nat) {N:Nat} (hN:n<N) {xd:X}
  (hs:∀ k,k<n→p k=true→g (F k)=some (.more (F (k+1)))) (hd:g (F n)=some (.done xd))
  {A:X→Option α} (b:Bool) (hb:b=true ↔ ∀ k,k<n→p k=true) (rd re:Option α) (hx:A xd=rd) (hq:∀ j,j<n→p j=false→∃ x,g (F j)=some (.done x)∧A x=re) :
  Uan (Uaa g N (F 0)) A=bif b then rd else re:=by
 cases hbb:b with
 | true=>
  rw [Zeo F (fun k hk=>hs k hk (hb.1 hbb k hk)) hd hN]
  exact hx
 | false=>
  obtain ⟨j,hj,h1,h2⟩:=Yei (n:=n) (p:=p) (fun h=>by rw [hb.2 h] at hbb;cases hbb)
  obtain ⟨x,hgx,hA⟩:=hq j hj h2
  rw [Zeo (m:=j) F (fun k hk=>hs k (by omega) (h1 k hk)) hgx (by omega)]
  exact hA
theorem Yd1 {a b:Int} (h:(a != b)=false):a=b:=by simpa [bne] using h
end Go.Proofs.YtdhckffhnkeogaaDoor.Ve
/- Functions that make a closure over new rows. -/
namespace Go.Proofs.YtdhckffhnkeogaaDoor.Ve
open Go.RowKit
section
variable {P:Program} {Γ:Cons} {N:Nat}
end
end Go.Proofs.YtdhckffhnkeogaaDoor.Ve
/- The cells of a grid, in their order. -/
namespace Go.Proofs.YtdhckffhnkeogaaDoor.Ve
open Go.RowKit
def inC (wd hi:Int) (k:Nat):Bool:=decide (((k % 6:Nat):Int)<wd)&&decide (((k / 6:Nat):Int)<hi)
def Uaq (wd hi:Int) (n:Nat):List Int:=((jD n).filter (inC wd hi)).map fun k:Nat=>(k:Int)
theorem Zof {wd hi:Int} {k:Nat} (h:inC wd hi k=true):Uaq wd hi (k+1)=Uaq wd hi k++[(k:Int)]:=by
 simp [Uaq,List.range_succ,List.filter_append,h]
theorem Zuc {wd hi:Int} {k:Nat} (h:inC wd hi k=false):Uaq wd hi (k+1)=Uaq wd hi k:=by
 simp [Uaq,List.range_succ,List.filter_append,h]
theorem Zo8 {wd hi:Int} (k:Nat):∀ n,(∀ j,j<n→inC wd hi (k+j)=false)→Uaq wd hi (k+n)=Uaq wd hi k
 | 0,_=>rfl
 | n+1,h=>by
  rw [← Nat.add_assoc,Zuc (h n (by omega))]
  exact Zo8 k n fun j hj=>h j (by omega)
theorem inC_at {wd hi x y:Nat} (hw:wd≤6) (hh:hi≤6) (hx:x<wd) (hy:y<hi):inC wd hi (6*y+x)=true:=by
 have h1:(6*y+x) % 6=x:=by omega
 have h2:(6*y+x) / 6=y:=by omega
 unfold inC
 rw [h1,h2,Q3 (by omega),Q3 (by omega)];rfl
theorem Yc7 {wd hi y:Nat} (hw:wd≤6):Uaq wd hi (6*(y+1))=Uaq wd hi (6*y+wd):=by
 have:=Zo8 (wd:=wd) (hi:=hi) (6*y+wd) (6 - wd) (fun j hj=>by
  have h1:(6*y+wd+j) % 6=wd+j:=by omega
  unfold inC
  rw [h1,Q4 (by omega)];rfl)
 rwa [show 6*y+wd+(6 - wd)=6*(y+1) by omega] at this
theorem Yc5 {wd hi:Nat} (hh:hi≤6):Uaq wd hi 36=Uaq wd hi (6*hi):=by
 have:=Zo8 (wd:=wd) (hi:=hi) (6*hi) (36 - 6*hi) (fun j hj=>by
  have h1:hi≤(6*hi+j) / 6:=by omega
  unfold inC
  rw [Bool.and_eq_false_iff]
  exact .inr (Q4 (by omega)))
 rwa [show 6*hi+(36 - 6*hi)=36 by omega] at this
theorem Zrf {wd hi:Int} {k m:Nat} (h:k≤m):Uaq wd hi k <+: Uaq wd hi m:=by
 obtain ⟨d,rfl⟩:∃ d,m=k+d:=⟨m - k,by omega⟩
 induction d with
 | zero=>exact List.prefix_refl _
 | succ d ih=>
  refine (ih (by omega)).trans ?_
  rw [show k+(d+1)=k+d+1 by omega]
  cases hb:inC wd hi (k+d) with
  | true=>rw [Zof hb];exact List.prefix_append _ _
  | false=>rw [Zuc hb];exact List.prefix_refl _
theorem Ycy {wd hi x:Int} {n:Nat} (h:x ∈ Uaq wd hi n):0≤x∧x<n:=by
 obtain ⟨k,hk,rfl⟩:=List.mem_map.1 h
 have:=List.mem_range.1 (List.mem_filter.1 hk).1
 omega
end Go.Proofs.YtdhckffhnkeogaaDoor.Ve
/- Loops as folds. -/
namespace Go.Proofs.YtdhckffhnkeogaaDoor.Ve
open Go.RowKit
def folds {T:Type} (f:T→Nat→T) (t:T) (k:Nat):T:=(jD k).foldl f t
theorem Zwk {T:Type} (f:T→Nat→T) (t:T) (k:Nat):folds f t (k+1)=f (folds f t k) k:=by
 simp [folds,List.range_succ,List.foldl_append]
theorem Yau {T X:Type} {g:Int→T→Option (Stp T X)} (f:T→Nat→T) {wd hi:Int} {q:Int→Bool} (hg:∀ (t:T) (k:Nat),k<36→inC wd hi k=true→q (k:Int)=true→g (k:Int) t=some (.more (f t k))) (t:T) :
  Ua7 g ((Uaq wd hi 36).filter q) t=some (.more (folds (fun t k=>if inC wd hi k&&q (k:Int) then f t k else t) t 36)):=by
 have key:∀ n,n≤36→Ua7 g ((Uaq wd hi n).filter q) t=some (.more (folds (fun t k=>if inC wd hi k&&q (k:Int) then f t k else t) t n)):=by
  intro n
  induction n with
  | zero=>intro _;rfl
  | succ n ih=>
   intro hn
   have ih:=ih (by omega)
   rw [Zwk]
   cases hb:inC wd hi n with
   | false=>rw [Zuc hb,ih];rfl
   | true=>
    rw [Zof hb,List.filter_append,Znu,ih]
    cases hq:q (n:Int) with
    | false=>
     rw [show List.filter q [(n:Int)]=[] by simp [hq]]
     rfl
    | true=>
     rw [show List.filter q [(n:Int)]=[(n:Int)] by simp [hq]]
     simp only [Ua7,hg _ n (by omega) hb hq]
     rfl
 exact key 36 (Nat.le_refl _)
theorem Yc9 {T X:Type} {g:Int→T→Option (Stp T X)} (f:T→Nat→T) {wd hi:Int} (hg:∀ (t:T) (k:Nat),k<36→inC wd hi k=true→g (k:Int) t=some (.more (f t k))) (t:T) :
  Ua7 g (Uaq wd hi 36) t=some (.more (folds (fun t k=>if inC wd hi k then f t k else t) t 36)):=by
 have h:=Yau (q:=fun _=>true) f (fun t k h1 h2 _=>hg t k h1 h2) t
 simp only [Bool.and_true] at h
 rw [← h,List.filter_eq_self.2 fun _ _=>rfl]
theorem Yc2 {T S X:Type} {g:S→Option (Stp S X)} (e:T→Nat→S) (f:T→Nat→T) {m:Nat} {t:T} {x:X} (h:∀ k s,k<m→s=folds f t k→g (e s k)=some (.more (e (f s k) (k+1)))) (hd:g (e (folds f t m) m)=some (.done x)) {N:Nat} (hN:m<N) :
  Uaa g N (e t 0)=some x:=by
 have:=Zeo (g:=g) (fun k=>e (folds f t k) k) (m:=m) (x:=x) (fun k hk=>by rw [Zwk];exact h k _ hk rfl) hd (N:=N) hN
 exact this
theorem Zn3 {T X:Type} {g:T→Option (Stp T X)} (F:Nat→T) (p:Nat→Bool) (n:Nat) {N:Nat} (hN:n<N) {xd:X} (xf:Nat→X)
  (hs:∀ k,k<n→p k=false→g (F k)=some (.more (F (k+1)))) (hf:∀ k,k<n→p k=true→g (F k)=some (.done (xf k))) (hd:g (F n)=some (.done xd)) :
  Uaa g N (F 0)=some (match (jD n).find? p with | some k=>xf k | none=>xd):=by
 cases h:(jD n).find? p with
 | none=>
  have h':=List.find?_range_eq_none.1 h
  exact Zeo F (fun k hk=>hs k hk (by simpa using h' k hk)) hd hN
 | some j=>
  obtain ⟨h1,h2,h3⟩:=List.find?_range_eq_some.1 h
  have hj:=List.mem_range.1 h2
  exact Zeo (m:=j) F (fun k hk=>hs k (by omega) (by simpa using h3 k hk)) (hf j hj h1) (by omega)
theorem Yde {n:Nat} {p q:Nat→Bool} (h:∀ k,k<n→p k=q k):(jD n).find? p=(jD n).find? q:=by
 cases e:(jD n).find? q with
 | none=>exact List.find?_range_eq_none.2 fun k hk=>by rw [h k hk];exact List.find?_range_eq_none.1 e k hk
 | some j=>
  obtain ⟨h1,h2,h3⟩:=List.find?_range_eq_some.1 e
  have hj:=List.mem_range.1 h2
  exact List.find?_range_eq_some.2 ⟨by rw [h j hj];exact h1,h2,fun i hi=>by rw [h i (by omega)];exact h3 i hi⟩
end Go.Proofs.YtdhckffhnkeogaaDoor.Ve
/- Bits of numbers of 64 bits. -/
namespace Go.Proofs.YtdhckffhnkeogaaDoor.Ve
open Go.RowKit
def bitI (c:Int) (k:Nat):Bool:=(BitVec.ofInt 64 c).getLsbD k
def orI (a b:Int):Int:=IntKind.u64.wrap (BitVec.ofInt IntKind.u64.bits a ||| BitVec.ofInt IntKind.u64.bits b).toNat
def andI (a b:Int):Int:=IntKind.u64.wrap (BitVec.ofInt IntKind.u64.bits a &&& BitVec.ofInt IntKind.u64.bits b).toNat
def Ubh (a b:Int):Int:=IntKind.u64.wrap (BitVec.ofInt IntKind.u64.bits a &&& ~~~(BitVec.ofInt IntKind.u64.bits b)).toNat
theorem Ydl (x:BitVec 64):IntKind.u64.wrap (x.toNat:Int)=x.toNat:=by
 have:=x.isLt
 rw [IntKind.wrap_u64];omega
theorem Ydr (x:BitVec 64):BitVec.ofInt 64 (IntKind.u64.wrap (x.toNat:Int))=x:=by
 rw [Ydl,BitVec.ofInt_natCast,BitVec.ofNat_toNat,BitVec.setWidth_eq]
theorem Yeq (a b:Int) (k:Nat):bitI (andI a b) k=(bitI a k&&bitI b k):=by
 unfold bitI andI
 rw [show IntKind.u64.bits=64 from rfl,Ydr,BitVec.getLsbD_and]
theorem Yba (k:Nat):bitI 0 k=false:=by unfold bitI;simp
def U64 (c:Int):Prop:=0≤c∧c≤18446744073709551615
theorem u64_and (a b:Int):U64 (andI a b):=by
 unfold andI;rw [show IntKind.u64.bits=64 from rfl,Ydl];have:=(BitVec.ofInt 64 a &&& BitVec.ofInt 64 b).isLt;unfold U64;omega
theorem Zvk {c:Int} (h:U64 c):((BitVec.ofInt 64 c).toNat:Int)=c:=by
 unfold U64 at h
 rw [BitVec.toNat_ofInt]
 omega
theorem bit_ext {a b:Int} (ha:U64 a) (hb:U64 b) (h:∀ k,k<64→bitI a k=bitI b k):a=b:=by
 rw [← Zvk ha,← Zvk hb]
 have:BitVec.ofInt 64 a=BitVec.ofInt 64 b:=BitVec.eq_of_getLsbD_eq fun k hk=>h k hk
 rw [this]
theorem Zuz {c:Int} (h:U64 c) (k:Nat):bitI c k=c.toNat.testBit k:=by
 unfold bitI
 have e:=Zvk h
 show (BitVec.ofInt 64 c).toNat.testBit k=_
 rw [show (BitVec.ofInt 64 c).toNat=c.toNat by omega]
def oneI (j:Nat):Int:=IntKind.u64.wrap ((1:Int)*2^(min j IntKind.u64.bits))
theorem Ydo {j:Nat} (hj:j<64):oneI j=((2^j:Nat):Int):=by
 unfold oneI
 rw [Int.one_mul,show min j IntKind.u64.bits=j from Nat.min_eq_left (by show j≤64;omega),IntKind.wrap_u64]
 have h1:(2:Int)^j=((2^j:Nat):Int):=by norm_cast
 have h2:2^j<2^64:=Nat.pow_lt_pow_right (by omega) hj
 rw [h1]
 generalize (2:Nat)^j=m at h2⊢
 omega
theorem u64_one {j:Nat} (hj:j<64):U64 (oneI j):=by
 rw [Ydo hj]
 have h2:2^j<2^64:=Nat.pow_lt_pow_right (by omega) hj
 unfold U64
 generalize (2:Nat)^j=m at h2⊢
 omega
theorem Ye2 {j:Nat} (hj:j<64) (k:Nat):bitI (oneI j) k=decide (j=k):=by
 rw [Zuz (u64_one hj),Ydo hj]
 show (2^j).testBit k=_
 rw [Nat.testBit_two_pow]
theorem bit_shr {c:Int} (h:U64 c) {k:Nat} (hk:k<64):((c.fdiv (2^(min k IntKind.u64.bits))).tmod 2==1)=bitI c k:=by
 rw [Zuz h,show min k IntKind.u64.bits=k from Nat.min_eq_left (by show k≤64;omega)]
 obtain ⟨n,rfl⟩:∃ n:Nat,c=(n:Int):=⟨c.toNat,by unfold U64 at h;omega⟩
 have e:((n:Int)).fdiv (2^k)=((n / 2^k:Nat):Int):=by
  rw [Int.fdiv_eq_ediv_of_nonneg _ (Int.le_of_lt (Int.pow_pos (by omega)))]
  norm_cast
 rw [e]
 have e2:((n / 2^k:Nat):Int).tmod 2=((n / 2^k % 2:Nat):Int):=by
  rw [Int.tmod_eq_emod_of_nonneg (Int.natCast_nonneg _)];norm_cast
 rw [e2,Q9,Nat.testBit_eq_decide_div_mod_eq]
 rw [Bool.eq_iff_iff,beq_iff_eq,decide_eq_true_iff]
 omega
theorem bit_test {c:Int} {j:Nat} (hj:j<64):(andI c (oneI j) != 0)=bitI c j:=by
 rw [Bool.eq_iff_iff,bne_iff_ne]
 constructor
 ·intro h
  cases hb:bitI c j with
  | true=>rfl
  | false=>
   refine absurd (bit_ext (u64_and _ _) ⟨Int.le_refl 0,by omega⟩ fun k hk=> ?_) h
   rw [Yeq,Ye2 hj,Yba]
   by_cases e:j=k
   ·subst e;rw [hb];rfl
   ·rw [Q4 e,Bool.and_false]
 ·intro h e
  have:=congrArg (fun x=>bitI x j) e
  simp only [Yeq,Ye2 hj,Yba,h] at this
  simp at this
def Uay (wd hi:Int) (n:Nat):Int:=folds (fun b k=>if inC wd hi k then orI b (oneI k) else b) 0 n
end Go.Proofs.YtdhckffhnkeogaaDoor.Ve
/- Slices that come in; laws over them. -/
namespace Go.Proofs.YtdhckffhnkeogaaDoor.Ve
open Go.RowKit Go.ChangeShapes Go.WideShapes Go.ChangeAt
section
variable {H:Type} {enc:TypeId×Value→H} {P:Program} {w:World} {base:Nat} {spare:Nat→Bool} {held:Bool}
theorem open_sl {b0:Nat} {t e:TypeId} {v:Value} {d:DataW H} {ps:List MemPlace} (n:Nat) (ht:P.underlying t=some (.slice e)) (hd:Udb P n e=true) (hc:P.cellsOf e=(lay P e).length) (hm0:0<(lay P e).length)
  (hv:∃ a len cap,v = .slice a len cap) (h:DataW.Trod enc P w b0 spare held t v d ps):∃ a len cap C,v = .slice a len cap∧SlIs P w a len C e:=by
 obtain ⟨a0,l0,c0,rfl⟩:=hv
 obtain ⟨fuel,hf⟩:=h
 have hf':DataW.trod enc P w b0 spare held fuel t [Value.slice a0 l0 c0]=some (d,ps):=hf
 rcases Deep.open_slice ht hf' with ⟨h0,_⟩ | ⟨a,len,cap,m,n',D,Pl,h0,hb,hl,hmax,hm,_,hx⟩
 ·obtain ⟨h0,-⟩:=List.cons.inj h0
  exact ⟨none,0,0,#[],h0,by simp,fun k hk=>absurd hk (by omega),by omega,.inl rfl⟩
 ·obtain ⟨h0,-⟩:=List.cons.inj h0
  have hle:len≤m:=by rw [hm];split<;>omega
  have mx:len≤9223372036854775807:=by simp [maxLen] at hmax;omega
  by_cases hz:len=0
  ·subst hz
   exact ⟨some a,0,cap,#[],h0,by simp,fun k hk=>absurd hk (by omega),by omega,.inl rfl⟩
  rw [hc] at hx
  generalize hM:(lay P e).length=M at hx hm0
  obtain ⟨b,o,s⟩:=a
  have hs:s=none:=by
   obtain ⟨cs0,q0,_⟩:=hx 0 (by omega)
   obtain ⟨_,q1,q2⟩:=World.cells?_some q0
   have q3:=q2 0 (by omega)
   rw [Nat.zero_mul,jB (by omega)] at q3
   cases s with
   | none=>rfl
   | some s=>
    exfalso
    simp only [Addr.add,if_true] at q3
    unfold World.cell? at q3
    split at q3
    ·simp at q3
    ·cases q3
  subst hs
  have cell:∀ k,k<len→∃ cs':List Value,cs'.length=M∧(∀ i,i<M→w.cell? ⟨b,o+(k*M+i),none⟩=cs'[i]?)∧Fits P e cs':=fun k hk=>by
   obtain ⟨cs',q0,q4⟩:=hx k (by omega)
   obtain ⟨_,q1,q2⟩:=World.cells?_some q0
   refine ⟨cs',q1,fun i hi=> ?_,Zn4 n e _ _ _ hd q4⟩
   have:=q2 i hi
   rw [Addr.add_mid,Addr.add_mid,Nat.add_assoc] at this
   exact this
  have hsz:((jD (len*M)).map fun j=>(w.cell? ⟨b,o+j,none⟩).getD undef).toArray.size=len*M:=by simp
  have hC:∀ j,j<len*M→(((jD (len*M)).map fun j=>(w.cell? ⟨b,o+j,none⟩).getD undef).toArray)[j]? = some ((w.cell? ⟨b,o+j,none⟩).getD undef):=fun j hj=>by
   rw [List.getElem?_toArray,jF,List.getElem?_range hj];rfl
  refine ⟨some ⟨b,o,none⟩,len,cap,((jD (len*M)).map fun j=>(w.cell? ⟨b,o+j,none⟩).getD undef).toArray,h0,by rw [hsz,hM],fun k hk=> ?_,mx,.inr ⟨b,o,rfl,fun j v hj=> ?_, ?_⟩⟩
  ·rw [hM]
   obtain ⟨cs',q1,q2,q3⟩:=cell k hk
   have hkm:k*M+M≤len*M:=by
    have:(k+1)*M≤len*M:=Nat.mul_le_mul_right _ hk
    rw [Nat.add_mul] at this;omega
   have he:(((jD (len*M)).map fun j=>(w.cell? ⟨b,o+j,none⟩).getD undef).toArray).extract (k*M) (k*M+M)=cs'.toArray:=by
    refine Array.ext_getElem? fun i=> ?_
    rw [jT,hsz]
    by_cases hi:i<M
    ·rw [if_pos (by omega),hC _ (by omega),q2 i hi,List.getElem?_toArray,jB (by omega)]
     rfl
    ·rw [if_neg (by omega),List.getElem?_toArray,jI (by omega)]
   rw [he]
   exact ⟨by simpa using q3.1,by simpa using q3.2⟩
  ·rw [jH] at hj
   have hjl:j<len*M:=by have:=(jV.1 hj).1;rw [hsz] at this;exact this
   rw [hC j hjl] at hj
   have hk:j / M<len:=(Nat.div_lt_iff_lt_mul hm0).2 hjl
   obtain ⟨cs',q1,q2,q3⟩:=cell (j / M) hk
   have hq:=q2 (j % M) (Nat.mod_lt _ hm0)
   rw [show j / M*M+j % M=j by rw [Nat.mul_comm];exact Nat.div_add_mod _ _,jB (by rw [q1];exact Nat.mod_lt _ hm0)] at hq
   rw [hq] at hj⊢
   exact hj
  ·obtain ⟨cs',q1,q2,q3⟩:=cell 0 (by omega)
   have hq:=q2 0 hm0
   rw [jB (by omega)] at hq
   obtain ⟨C,t',fr,hg⟩:=Zwr hq
   exact (jV.1 hg).1
def Ubw (P:Program) (n:Nat) (L:List Nat):List Field→Nat→Bool
 | [],o=>jA o L.length
 | f::r,o=>jA f.offset o&&((match P.underlying f.type with
  | some (.slice _)=>leq ((L.drop o).take 1) [13]&&(jA (P.cellsOf f.type) 1&&Ubw P n L r (o+1))
  | _=>Udb P n f.type&&(leq ((L.drop o).take (lay P f.type).length) (lay P f.type)&&(jA (P.cellsOf f.type) (lay P f.type).length&&Ubw P n L r (o+(lay P f.type).length)))))
def Ufi (P:Program) (t:TypeId):Bool:=match P.underlying t with | some (.slice _)=>true | _=>false
theorem trod_sl {b0 fuel:Nat} {t e:TypeId} {v:Value} {y:DataW H×List MemPlace} (ht:P.underlying t=some (.slice e)) (h:DataW.trod enc P w b0 spare held fuel t [v]=some y):∃ a len cap,v = .slice a len cap:=by
 cases fuel with
 | zero=>simp [DataW.trod] at h
 | succ k=>
  unfold DataW.trod at h
  rw [ht] at h
  cases v<;>first | exact ⟨_,_,_,rfl⟩ | (simp at h)
theorem open_rsl {r:Reach} {b0:Nat} {t:TypeId} {fs:Array Field} {v:Value} {d:DataW H} {ps:List MemPlace} (n j o:Nat) {e ts:TypeId} (hu:P.underlying t=some (.struct fs)) (hct:P.cellsOf t=(lay P t).length) (hfs:Ubw P n (lay P t) fs.toList 0=true)
  (hj:(fs[j]?).map (fun f=>(f.type,f.offset))=some (ts,o)) (hone:(jD fs.size).all (fun i=>jA i j || !Ufi P ((fs[i]?).map (·.type) |>.getD 0))=true) (ht:P.underlying ts=some (.slice e)) (hd:Udb P n e=true) (hc:P.cellsOf e=(lay P e).length) (hm0:0<(lay P e).length)
  (hv:Value.okWide P w r base t v) (h:DataW.Trod enc P w b0 spare held t v d ps) :
  ∃ a len cap C D D',v = .agg D'∧SlIs P w a len C e∧WT P t D∧D'.size=D.size∧(∀ i,i≠o→D'[i]? = D[i]?)∧D[o]? = some nilS∧D'[o]? = some (.slice a len cap):=by
 have:∃ cs,v = .agg cs:=by
  unfold Value.okWide at hv
  rw [hu] at hv
  exact ⟨_,hv.choose_spec.1⟩
 obtain ⟨cs,rfl⟩:=this
 obtain ⟨fuel,hf⟩:=h
 have hf:DataW.trod enc P w b0 spare held fuel t cs.toList=some (d,ps):=hf
 obtain ⟨xs,k,_,-,hl,hxs,hp⟩:=DataW.trod_struct hu hf
 have hcl:cs.toList.length=(lay P t).length:=by omega
 have hfld:∀ f ∈ fs.toList,∃ y,DataW.trod enc P w b0 spare held k f.type ((cs.toList.drop f.offset).take (P.cellsOf f.type))=some y:=fun f hfm=>by
  obtain ⟨i,hi⟩:=jL.1 hfm
  have:=hp i f (by simpa using hi)
  have hi':i<xs.length:=by
   have:=(jE.1 hi).1
   simp at this
   omega
  rw [jB hi'] at this
  exact ⟨_,this⟩
 -- field by field: each cell is data, or a slice
 have go:∀ (l:List Field) (q:Nat),Ubw P n (lay P t) l q=true→(∀ f ∈ l,f ∈ fs.toList) →
   (∀ p,q≤p→p<cs.toList.length→∃ v,cs.toList[p]? = some v∧((∃ f ∈ l,Ufi P f.type=true∧f.offset=p∧(lay P t)[p]? = some 13∧P.cellsOf f.type=1)∨((lay P t)[p]? = some (ckN v)∧Ua9 v))):=by
  intro l
  induction l with
  | nil=>
   intro q hq _ p h1 h2
   have:=jC hq
   omega
  | cons f rr ih=>
   intro q hq hmem p h1 h2
   have up:(∃ v,cs.toList[p]? = some v∧((∃ f ∈ rr,Ufi P f.type=true∧f.offset=p∧(lay P t)[p]? = some 13∧P.cellsOf f.type=1)∨((lay P t)[p]? = some (ckN v)∧Ua9 v)))→∃ v,cs.toList[p]? = some v∧((∃ f' ∈ f::rr,Ufi P f'.type=true∧f'.offset=p∧(lay P t)[p]? = some 13∧P.cellsOf f'.type=1)∨((lay P t)[p]? = some (ckN v)∧Ua9 v)):=fun ⟨v,h1,h2⟩=>⟨v,h1,h2.imp_left fun ⟨f',q1,q2⟩=>⟨f',jP _ q1,q2⟩⟩
   simp only [Ubw,Q7] at hq
   obtain ⟨hoff,hq⟩:=hq
   have hoff:=jC hoff
   split at hq
   ·rename_i e0 hue
    simp only [Q7] at hq
    obtain ⟨hsub,hc1,hr⟩:=hq
    by_cases hin:p=q
    ·subst hin
     have:=Zeu hsub
     refine ⟨_,jB h2,.inl ⟨f,jR ..,by unfold Ufi;rw [hue],hoff, ?_,jC hc1⟩⟩
     have h5:=congrArg (fun l:List Nat=>l[0]?) this
     simp only [jJ,jK] at h5
     rw [if_pos (by omega),Nat.add_zero] at h5
     exact h5
    ·exact up (ih (q+1) hr (fun f hf=>hmem f (jP _ hf)) p (by omega) h2)
   ·simp only [Q7] at hq
    obtain ⟨hdf,hsub,hcf,hr⟩:=hq
    have hcf:=jC hcf
    by_cases hin:p<q+(lay P f.type).length
    ·obtain ⟨y,hy1⟩:=hfld f (hmem f (jR ..))
     rw [hoff,hcf] at hy1
     have hfit:=Zn4 n f.type k _ _ hdf hy1
     obtain ⟨z,rfl⟩:∃ z,p=q+z:=⟨p - q,by omega⟩
     have hs:=Zkz (P:=P) (T:=t) rfl hsub z (by omega)
     have hg:=jB h2
     refine ⟨_,hg,.inr ⟨?_,hfit.2 _ ?_⟩⟩
     ·have h5:=congrArg (fun l:List Nat=>l[z]?) hfit.1
      simp only [jF,jJ,if_pos (show z<(lay P f.type).length by omega),jK] at h5
      rw [hs,← h5,hg]
      rfl
     ·rw [jL]
      exact ⟨z,by rw [jJ,if_pos (by omega),jK];exact hg⟩
    ·exact up (ih (q+(lay P f.type).length) hr (fun f hf=>hmem f (jP _ hf)) p (by omega) h2)
 have all:=go fs.toList 0 hfs fun f hf=>hf
 -- the slice
 cases hfj:fs[j]? with
 | none=>rw [hfj] at hj;cases hj
 | some fj=>
  rw [hfj] at hj
  simp only [Option.map_some,Q8,Q0] at hj
  obtain ⟨rfl,rfl⟩:=hj
  have hmj:fj ∈ fs.toList:=by
   rw [← jH] at hfj
   exact jS hfj
  have hsl1:∀ f ∈ fs.toList,Ufi P f.type=true→f=fj:=fun f hf hs=>by
   obtain ⟨i,hi⟩:=jL.1 hf
   have hil:i<fs.size:=by have:=(jE.1 hi).1;simpa using this
   rw [jH] at hi
   have:=List.all_eq_true.1 hone i (List.mem_range.2 hil)
   rw [hi] at this
   simp only [Option.map_some,Option.getD_some,hs,Bool.not_true,Bool.or_false] at this
   have:=jC this
   subst this
   rw [hi] at hfj
   exact Q5 hfj
  -- its cell
  have hcell:∃ u,cs.toList[fj.offset]? = some u∧(lay P t)[fj.offset]? = some 13∧P.cellsOf fj.type=1:=by
   have key:∀ (l:List Field) (q:Nat),Ubw P n (lay P t) l q=true→fj ∈ l→q≤fj.offset∧(lay P t)[fj.offset]? = some 13∧P.cellsOf fj.type=1:=by
    intro l
    induction l with
    | nil=>intro q _ hm;cases hm
    | cons f rr ih=>
     intro q hq hm
     simp only [Ubw,Q7] at hq
     obtain ⟨hoff,hq⟩:=hq
     have hoff:=jC hoff
     rcases List.mem_cons.1 hm with rfl | hm
     ·rw [ht] at hq
      simp only [Q7] at hq
      have:=Zeu hq.1
      have h5:=congrArg (fun l:List Nat=>l[0]?) this
      simp only [jJ,jK] at h5
      rw [if_pos (by omega),Nat.add_zero] at h5
      exact ⟨by omega,by rw [hoff];exact h5,jC hq.2.1⟩
     ·split at hq
      ·simp only [Q7] at hq
       have:=ih (q+1) hq.2.2 hm
       exact ⟨by omega,this.2⟩
      ·simp only [Q7] at hq
       have:=ih _ hq.2.2.2 hm
       exact ⟨by omega,this.2⟩
   obtain ⟨-,k2,k3⟩:=key fs.toList 0 hfs hmj
   have hlt:fj.offset<cs.toList.length:=by rw [hcl];exact (jE.1 k2).1
   exact ⟨_,jB hlt,k2,k3⟩
  obtain ⟨u,hu1,hu2,hu3⟩:=hcell
  obtain ⟨y,hy⟩:=hfld fj hmj
  rw [hu3] at hy
  have htk:(cs.toList.drop fj.offset).take 1=[u]:=by
   have hlt:=(jE.1 hu1).1
   rw [List.drop_eq_getElem_cons hlt]
   have:=(jE.1 hu1).2
   rw [this];rfl
  rw [htk] at hy
  obtain ⟨a,len,cap,rfl⟩:=trod_sl ht hy
  obtain ⟨a',len',cap',C,he,hS⟩:=open_sl (v:=.slice a len cap) (d:=y.1) (ps:=y.2) n ht hd hc hm0 ⟨_,_,_,rfl⟩ ⟨k,hy⟩
  cases he
  have hlt:fj.offset<cs.size:=by have:=(jE.1 hu1).1;simpa using this
  refine ⟨a,len,cap,C,cs.setIfInBounds fj.offset nilS,cs,rfl,hS,⟨?_,fun v hv=> ?_⟩,by simp,fun i hi=> ?_, ?_,by rw [← jH];exact hu1⟩
  ·refine List.ext_getElem? fun p=> ?_
   rw [jF,jH,jQ]
   by_cases hp0:fj.offset=p
   ·rw [if_pos hp0,if_pos (by omega),← hp0,hu2];rfl
   ·rw [if_neg hp0]
    by_cases hpl:p<cs.toList.length
    ·obtain ⟨v,q1,q2⟩:=all p (Nat.zero_le _) hpl
     rw [jH] at q1
     rw [q1]
     rcases q2 with ⟨f,r1,r2,r3,_⟩ | ⟨r1,_⟩
     ·exact absurd (hsl1 f r1 r2 ▸ r3) hp0
     ·rw [r1];rfl
    ·rw [jU (by simpa using hpl),jI (by omega)];rfl
  ·obtain ⟨p,hp0⟩:=jL.1 hv
   rw [jH,jQ] at hp0
   split at hp0
   ·cases hp0;exact ⟨rfl,rfl,rfl⟩
   ·rename_i hne
    have hpl:p<cs.toList.length:=by have:=(jV.1 hp0).1;simpa using this
    obtain ⟨v',q1,q2⟩:=all p (Nat.zero_le _) hpl
    rw [jH,hp0] at q1
    cases q1
    rcases q2 with ⟨f,r1,r2,r3,_⟩ | ⟨_,r2⟩
    ·exact absurd (hsl1 f r1 r2 ▸ r3) hne
    ·exact r2
  ·rw [jQ,if_neg (fun e=>hi e.symm)]
  ·rw [jQ,if_pos rfl,if_pos hlt]
end
section
variable {P:Program}
theorem allNil2 (hh:List VB):Ual P idA hh [] []:=⟨rfl,fun i y v h=>by simp at h⟩
theorem Ue4 {hh : List VB} {y : SA} {v : Value} {l : List SA} {vs : List Value} (h1 : Is P idA hh y v) (h2 : Ual P idA hh l vs) : Ual P idA hh (y :: l) (v :: vs) :=
  ⟨by simp [h2.1], fun i z u hz hu => by
    cases i with
    | zero =>
      simp only [jG, Q8] at hz hu
      subst hz; subst hu; exact h1
    | succ i => exact h2.2 i z u (by simpa using hz) (by simpa using hu)⟩
inductive SlL (P:Program) (W:World):List VB→Prop where
 | nil:SlL P W []
 | cons {a:Option Addr} {len:Nat} {C:Array Value} {e:TypeId} {l:List VB} (h:SlIs P W a len C e) (t:SlL P W l):SlL P W (.sl (.came (some a)) len C e::l)
 | gl {g:Nat} {t:TypeId} {a:Addr} {x:Nat} {l:List VB} (h:BIs P idA [] W ⟨0,0⟩ (.gl g t a x)) (t':SlL P W l):SlL P W (.gl g t a x::l)
theorem SlL.get {W:World} {l:List VB} (h:SlL P W l):∀ {n:Nat} {b:VB},l[n]? = some b→(∃ a len C e,b = .sl (.came (some a)) len C e∧SlIs P W a len C e)∨∃ g t a x,b = .gl g t a x∧BIs P idA [] W ⟨0,0⟩ (.gl g t a x):=by
 induction h with
 | nil=>intro n b hb;simp at hb
 | cons h t ih=>
  intro n b hb
  cases n with
  | zero=>simp only [jG,Q8] at hb;subst hb;exact .inl ⟨_,_,_,_,rfl,h⟩
  | succ n=>exact ih (by simpa using hb)
 | gl h t ih=>
  intro n b hb
  cases n with
  | zero=>simp only [jG,Q8] at hb;subst hb;exact .inr ⟨_,_,_,_,rfl,h⟩
  | succ n=>exact ih (by simpa using hb)
theorem SlL.his {W:World} {l:List VB} (h:SlL P W l):HIs P idA l W:=by
 have no:∀ n,¬ present l n:=fun n hp=>by
  cases hp with
  | row e=>rcases h.get e with ⟨_,_,_,_,h1,_⟩ | ⟨_,_,_,_,h1,_⟩<;>cases h1
  | one e=>rcases h.get e with ⟨_,_,_,_,h1,_⟩ | ⟨_,_,_,_,h1,_⟩<;>cases h1
  | own e hk _=>rcases h.get e with ⟨_,_,_,_,h1,_⟩ | ⟨_,_,_,_,h1,_⟩<;>cases h1;cases hk
 exact ⟨fun n b hb=>by
  rcases h.get hb with ⟨a,len,C,e,rfl,h1⟩ | ⟨g,t,a,x,rfl,h1⟩
  ·exact ⟨h1,fun h=>by cases h⟩
  ·exact h1,fun n m hp=>absurd hp (no n),fun n b k _ _ m hp=>absurd hp (no m)⟩
theorem SlL.no {W:World} {l:List VB} (h:SlL P W l):NoOwn l:=fun n len C e hn=>by
 rcases h.get hn with ⟨_,_,_,_,h1,_⟩ | ⟨_,_,_,_,h1,_⟩<;>cases h1
theorem is_rsl {hh:List VB} {T:TypeId} {k o len cap:Nat} {a:Option Addr} {C D D':Array Value} {e:TypeId} (hn:hh[k]? = some (.sl (.came (some a)) len C e)) (hW:WT P T D) (h1:D'.size=D.size) (h2:∀ i,i≠o→D'[i]? = D[i]?) (h3:D[o]? = some nilS) (h4:D'[o]? = some (.slice a len cap)) :
  Is P idA hh (.r D T [(o,k)]) (.agg D'):=by
 refine ⟨D',rfl,hW,h1,fun i hi=>h2 i ?_,fun i m hm=> ?_,by simp⟩
 ·rintro rfl
  simp [Uar] at hi
 ·simp only [Uar] at hm
  cases hb:jA o i with
  | false=>rw [hb] at hm;cases hm
  | true=>
   rw [hb] at hm
   cases hm
   obtain rfl:=jC hb
   exact ⟨h3,a,len,cap,h4,.inr ⟨_,len,C,e,a,cap,hn,rfl,fun _=>rfl,fun h=>by cases h⟩⟩
end
end Go.Proofs.YtdhckffhnkeogaaDoor.Ve
