/- States, and what an operation makes of them. -/
import Derived.Test.YtefjogahegolbaaGreatDoorVeA
set_option linter.unusedVariables false
set_option linter.unusedSimpArgs false
open _root_.List renaming getElem?_set_ne->jA,getElem?_set_self->jB,getElem?_eq_some_iff->jC,mem_cons_of_mem->jD,getElem?_cons_zero->jE,mem_cons_self->jF,getElem?_map->jJ,getD_eq_getElem?_getD->jL,all_eq_true->jN,getElem?_cons_succ->jP
open _root_.Array renaming getElem?_eq_getElem->jI,getElem?_eq_some_iff->jK,getD_eq_getD_getElem?->jO
open _root_.Nat renaming le_trans->jH,eq_of_beq_eq_true->jQ
open _root_.Option renaming map_some->jG,getD_some->jM
open _root_.Go renaming World->QB,Value->QC,Program->QD,TypeId->QE,Deferred->QK,Oper->QN
namespace Go.Proofs.YtefjogahegolbaaGreatDoor.Ve
open Go.RowKit
section
def putS(s:List SV)(dst:Option Tmp)(v:SV):List SV:=match dst with|some d=>s.set d v|none=>s
def plug(j:Option Nat)(v:SV)(id:Nat):SV:=match j with
 |none=>.a (.l id)
 |some i=>bif Nat.ble 1000000 i then Ug7 id v else (match v with
  |.t l=>.t (l.set i (.l id))
  |_=>.a (.l id))
def spend:Option Nat->List VB->List VB
 |some k,h=>h.set k .sp
 |none,h=>h
theorem bM(n:Option Nat)(h:List VB):(spend n h).length=h.length:=by cases n<;>simp[spend]
theorem Zhd{n:Option Nat}{h:List VB}{k:Nat}(hk:n≠some k):(spend n h)[k]?=h[k]?:=by cases n with|none=>rfl|some m=>exact jA λe=>hk (by rw[e])
def Uai(st:St)(id:Nat)(dst:Option Tmp)(v:SV):Eff->St
 |.none=>{ st with s:=putS st.s dst v }
 |.new b=>{ s:=putS st.s dst (.a (.w id)),h:=st.h.set id b,d:=st.d }
 |.set n b=>{ s:=putS st.s dst v,h:=st.h.set n b,d:=n::st.d }
 |.newS j len C e=>{ s:=putS st.s dst (plug j v id),h:=st.h.set id (.sl .own len C e),d:=st.d }
 |.app n len C e=>{ s:=putS st.s dst (.a (.l id)),h:=(spend n st.h).set id (.sl .own len C e),d:=n.toList++st.d }
structure DefOk (W0:QB) (ds:List QK) (w:QB):Prop where
 all:∀d∈ds,∃m,d={ target:=.collected m,args:=#[] }/\W0.heap.size<=m/\w.heap[m]?=some (.deferred (some []))
 diff:ds.Pairwise λd e=>∀m,d.target=Target.collected m->e.target≠Target.collected m
theorem DefOk.nil(W0 w:QB):DefOk W0 [] w:=⟨λd A=>(by cases A),List.Pairwise.nil⟩
theorem DefOk.kept{W0:QB}{ds:List QK}{w w':QB}{E:Nat->Prop}(h:DefOk W0 ds w)(hk:Kept E w w')(J:∀k,E k->∃c t fr,w.heap[k]?=some (Obj.cells c t fr)):DefOk W0 ds w':=⟨λd L=>by
 obtain⟨m,rfl,O,h2⟩:=h.all d L;refine⟨m,rfl,O,?_⟩;rw[hk.block m (jK.1 h2).1 λe=>by
  obtain⟨c,t,fr,A⟩:=J m e;rw[h2]at A;cases A]
 exact h2,h.diff⟩
theorem DefOk.same{W0:QB}{ds:List QK}{w w':QB}(h:DefOk W0 ds w)(hk:Kept (λ_=>False) w w'):DefOk W0 ds w':=h.kept hk λ_ e=>e.elim
theorem DefOk.push{W0:QB}{ds:List QK}{w:QB}(h:DefOk W0 ds w){m:Nat}(hm:W0.heap.size<=m)(hb:w.heap[m]?=some (.deferred (some [])))(hn:∀k,{ target:=.collected k,args:=#[] }∈ds->k≠m):DefOk W0 ({ target:=.collected m,args:=#[] }::ds) w:=
 ⟨fun d hd=>by
  rcases List.mem_cons.1 hd with rfl|hd
  ·exact⟨m,rfl,hm,hb⟩
  ·exact h.all d hd,List.pairwise_cons.2 ⟨λe he k hk h2=>by
   obtain⟨k',rfl,_⟩:=h.all e he;cases hk;cases h2;exact hn _ he rfl,h.diff⟩⟩
structure RS (E:List Nat) (P:QD) (W0:QB) (n0:Nat) (D:List Nat) (ρ0 ρ:Nat->Ad) (st:St) (a:Act) (w:QB):Prop where
 len:st.s.length=a.tmps.size
 slots:∀(i:Nat) (v:SV),st.s[i]?=some v->IsV P ρ st.h v (a.tmps.getD i undef)
 heap:HIs P ρ st.h w
 base:∀n,n<n0->ρ n=ρ0 n
 fresh:∀n,n0<=n->present st.h n->W0.heap.size<=(ρ n).a\/∃m∈E,m<n0/\(ρ0 m).a=(ρ n).a
 kept:Kept (λk=>∃n,n<n0/\(n∈st.d\/n∈D\/n∈E)/\(ρ0 n).a=k) W0 w
 own0:∀(n len:Nat) (C:QA) (e:QE),n<n0->st.h[n]?=some (.sl .own len C e)->len=0\/n∈E
 defers:DefOk W0 a.defers w
 bound:n0<=st.h.length
abbrev R:=RS []
theorem RS.freshR{P:QD}{W0:QB}{n0:Nat}{D:List Nat}{ρ0 ρ:Nat->Ad}{st:St}{a:Act}{w:QB}(A:R P W0 n0 D ρ0 ρ st a w)(n:Nat)(h:n0<=n)(J:present st.h n):W0.heap.size<=(ρ n).a:=by
 rcases A.fresh n h J with h | ⟨_,h,_⟩
 ·exact h
 ·cases h
theorem RS.keptR{P:QD}{W0:QB}{n0:Nat}{D:List Nat}{ρ0 ρ:Nat->Ad}{st:St}{a:Act}{w:QB}(A:R P W0 n0 D ρ0 ρ st a w):Kept (λk=>∃n,n<n0/\(n∈st.d\/n∈D)/\(ρ0 n).a=k) W0 w:=
 A.kept.mono λk _ ⟨n,J,h2,L⟩=>⟨n,J,h2.imp_right λh=>h.resolve_right (λh=>nomatch h),L⟩
theorem HLeN.same{h h':List VB}{n:Nat}(e:h'[n]?=h[n]?):HLeN h h' n:=by refine⟨λC t k=>⟨C,?_⟩,λy t k=>⟨y,?_⟩,λ_ _ C _ k=>.inl ⟨C,?_⟩,λk=> ?_,λ_ _ _ _ k=> ?_⟩<;>rw[e]<;>exact k
theorem HLeN.no{h h':List VB}{n:Nat}(e:h[n]?=some .no):HLeN h h' n:=by refine⟨λC t k=> ?_,λy t k=> ?_,λ_ _ C _ k=> ?_,λk=> ?_,λ_ _ _ _ k=> ?_⟩<;>rw[e]at k<;>cases k
theorem HLe.refl(h:List VB):HLe h h:=λn=>.same rfl
theorem HLe.trans{a b c:List VB}(h:HLe a b)(k:HLe b c):HLe a c:=λn=>
 ⟨fun C t e=>let ⟨C',e'⟩:=(h n).row C t e;(k n).row C' t e',fun y t e=>let ⟨C',e'⟩:=(h n).one y t e;(k n).one C' t e',fun a len C t e=>by
  rcases(h n).sl a len C t e with ⟨C',e'⟩ | ⟨rfl,e'⟩
  ·exact(k n).sl a len C' t e'
  ·exact .inr ⟨rfl,(k n).sp e'⟩,λe=>(k n).sp ((h n).sp e),λ_ _ _ _ e=>(k n).gl _ _ _ _ ((h n).gl _ _ _ _ e)⟩
theorem HLe.there{h h':List VB}(hl:HLe h h'){n:Nat}(J:there h n):there h' n:=by
 cases J with
 |row e=>obtain⟨L,A⟩:=(hl n).row _ _ e;exact .row A
 |one e=>obtain⟨L,A⟩:=(hl n).one _ _ e;exact .one A
theorem HLe.taken{h h':List VB}(hl:HLe h h'){n:Nat}(O:present h n):h'[n]?≠some .no:=λJ=>by
 cases O with
 |row e=>obtain⟨L,A⟩:=(hl n).row _ _ e;rw[J]at A;cases A
 |one e=>obtain⟨L,A⟩:=(hl n).one _ _ e;rw[J]at A;cases A
 |own e _ _=>rcases(hl n).sl _ _ _ _ e with ⟨L,A⟩ | ⟨_,A⟩<;>rw[J]at A<;>cases A
section
variable {P:QD} {ρ ρ' ρ0:Nat->Ad} {h h':List VB} {w w' W0:QB} {n0:Nat} {D E:List Nat}
theorem zD{n len:Nat}{a:SlK}{C:QA}{e:QE}(A:h[n]?=some (.sl a len C e))(h0:len≠0)(J:∀n,present h n->ρ' n=ρ n):adOf ρ' n a=adOf ρ n a:=by cases a with|own=>simp only[adOf];rw[J n (.own A rfl h0)]|lent=>simp only[adOf];rw[J n (.own A rfl h0)]|came a=>cases a with|none=>simp only[adOf];rw[J n (.own A rfl h0)]|some a=>rfl
theorem IsL.mono{n:Nat}{v:QC}(hi:IsL P ρ h n v)(hl:HLe h h')(O:∀n,present h n->ρ' n=ρ n):IsL P ρ' h' n v:=by
 rcases hi with hi | ⟨a,len,C,e,ad,cap,J,h2,V,U⟩
 ·exact .inl ((hl n).sp hi)
 rcases(hl n).sl _ _ _ _ J with ⟨Z,A⟩ | ⟨_,A⟩
 ·refine .inr ⟨a,len,Z,e,ad,cap,A,h2,λh0=> ?_,λL=>⟨(U L).1,λh0=> ?_⟩⟩
  ·rw[zD J h0 O];exact V h0
  ·rw[O n (.own J L h0)];exact(U L).2 h0
 ·exact .inl A
theorem RowR.mono{D D':QA}{ns:List (Nat×Nat)}(hi:RowR P ρ h D ns D')(hl:HLe h h')(A:∀n,present h n->ρ' n=ρ n):RowR P ρ' h' D ns D':=
 ⟨hi.size,hi.same,λi m J=>let ⟨L,ad,l,c,h2,O⟩:=hi.refs i m J;⟨L,ad,l,c,h2,O.mono hl A⟩,hi.uniq⟩
theorem HLe.blk(hl:HLe h h'){n:Nat}{t:QE}(A:blkT h n t):blkT h' n t:=by
 rcases A with ⟨C,e⟩ | ⟨y,e⟩
 ·exact .inl ((hl n).row _ _ e)
 ·exact .inr ((hl n).one _ _ e)
theorem blkT.there{n:Nat}{t:QE}(A:blkT h n t):there h n:=by
 rcases A with ⟨C,e⟩ | ⟨y,e⟩
 ·exact .row e
 ·exact .one e
theorem Is.mono{y:SA}{v:QC}(hi:Is P ρ h y v)(hl:HLe h h')(L:∀n,present h n->ρ' n=ρ n):Is P ρ' h' y v:=by
 cases y with
 |i k n=>exact hi
 |b t=>exact hi
 |s t=>exact hi
 |g D T=>exact hi
 |v y=>exact hi
 |u=>exact hi
 |x=>trivial
 |e n=>obtain⟨g,t,a,x,A,h2⟩:=hi;exact⟨g,t,a,x,(hl n).gl _ _ _ _ A,h2⟩
 |w n=>exact⟨by rw[L n hi.2.present];exact hi.1,hl.there hi.2⟩
 |p n o T=>obtain⟨A,h2,t,O,U⟩:=hi;exact⟨by rw[L n O.there.present];exact A,h2,t,hl.blk O,U⟩
 |l n=>exact IsL.mono (P:=P) hi hl L
 |r D T ns=>obtain⟨D',A,h2,O⟩:=hi;exact⟨D',A,h2,O.mono hl L⟩
 |q n o T=>
  rcases hi with hi | ⟨a,len,C,e,g,b,k,q,A,h2,O,U,Z⟩
  ·exact .inl ((hl n).sp hi)
  rcases(hl n).sl _ _ _ _ A with ⟨C',J⟩ | ⟨_,J⟩
  ·exact .inr ⟨a,len,C',e,g,b,k,q,J,by rw[zD A (by omega) L];exact h2,O,U,Z⟩
  ·exact .inl J
 |c f ns=>obtain⟨A,h2⟩:=hi;refine⟨?_,λn V=>hl.there (h2 n V)⟩;rw[A];refine congrArg _ ?_;rw[<- Array.toList_inj];simp only[List.map_inj_left];intro n V;rw[L n (h2 n V).present]
theorem Uap.mono{l:List SA}{vs:List QC}(hi:Uap P ρ h l vs)(hl:HLe h h')(A:∀n,present h n->ρ' n=ρ n):Uap P ρ' h' l vs:=
 ⟨hi.1,λi y v J L=>(hi.2 i y v J L).mono hl A⟩
theorem IsV.mono{y:SV}{v:QC}(hi:IsV P ρ h y v)(hl:HLe h h')(A:∀n,present h n->ρ' n=ρ n):IsV P ρ' h' y v:=by cases y with|a y=>exact Is.mono hi hl A|t l=>obtain⟨vs,J,h2⟩:=hi;exact⟨vs,J,h2.mono hl A⟩
theorem BIs.mono{b:VB}{g:Ad}(hi:BIs P ρ h w g b)(hl:HLe h h')(A:∀n,present h n->ρ' n=ρ n):BIs P ρ' h' w g b:=by
 cases b with
 |gl g t a x=>exact hi
 |no=>trivial
 |row C T=>exact hi
 |one y T=>obtain⟨v,J,h2⟩:=hi;exact⟨v,J.mono hl A,h2⟩
 |sl a len C e=>exact hi
 |sp=>trivial
theorem KO{g b:Nat}{l:List QC}(A:w'.heap[g]?=w.heap[g]?)(h:w.rangeAt g b l):w'.rangeAt g b l:=λj v J=>by
 have:=h j v J;simp only[World.cell?]at this|-
 rw[A];exact this
theorem SlIs.world{ad:Option Addr}{len:Nat}{C:QA}{e:QE}(hi:SlIs P w ad len C e)(L:w.heap.size<=w'.heap.size)(O:len≠0->∀g b,ad=some ⟨g,b,none⟩->g<w.heap.size->w'.heap[g]?=w.heap[g]?):SlIs P w' ad len C e:=by
 obtain⟨U,h2,V,A⟩:=hi;refine⟨U,h2,V,?_⟩
 by_cases h0:len=0
 ·exact .inl h0
 ·rcases A with A | ⟨g,b,J,Z,h7⟩
  ·exact .inl A
  ·exact .inr ⟨g,b,J,KO (O h0 g b J h7) Z,by omega⟩
theorem zE{g o:Nat}{v:QC}(h:w.cell? ⟨g,o,none⟩=some v):∃C t fr,w.heap[g]?=some (.cells C t fr):=by
 unfold World.cell? at h;split at h
 ·rename_i c t fr A;exact⟨c,t,fr,A⟩
 ·cases h
theorem SlIs.cells{ad:Option Addr}{len:Nat}{C:QA}{e:QE}(hi:SlIs P w ad len C e)(L:w.heap.size<=w'.heap.size)(O:∀(g:Nat) C t fr,w.heap[g]?=some (.cells C t fr)->w'.heap[g]?=some (.cells C t fr)):SlIs P w' ad len C e:=by
 obtain⟨U,h2,V,Z⟩:=hi;refine⟨U,h2,V,Z.imp_right λ⟨g,b,h5,h6,h7⟩=>⟨g,b,h5,λj v hj=> ?_,by omega⟩⟩;have A:=h6 j v hj;obtain⟨C',t,fr,J⟩:=zE A;simp only[World.cell?]at A|-
 rw[O _ _ _ _ J,<- J];exact A
theorem HIs.lt(hH:HIs P ρ h w){n:Nat}(hp:present h n):(ρ n).a<w.heap.size:=by
 cases hp with
 |row e=>have:=(hH.is n _ e).1;exact(jK.1 this).1
 |one e=>obtain⟨v,_,this⟩:=hH.is n _ e;exact(jK.1 this).1
 | own e hk h0=>
  rename_i k len C t;rcases(hH.is n _ e).1.2.2.2 with h | ⟨g,o,h1,_,h3⟩
  ·exact absurd h h0
  ·cases k with
   |own=>cases h1;exact h3
   |lent=>cases h1;exact h3
   |came a=>cases a with
    |none=>cases h1;exact h3
    |some a=>cases hk
theorem HIs.slLt{n len:Nat}{a:Addr}{C:QA}{e:QE}(J:HIs P ρ h w)(L:h[n]?=some (.sl (.came (some (some a))) len C e))(h0:len≠0):a.block<w.heap.size:=by
 rcases(J.sl L).2.2.2 with A | ⟨g',U,A,_,O⟩
 ·exact absurd A h0
 ·simp only[adOf,adK]at A;cases A;exact O
theorem Zu6{a:Addr}{v:QC}(h:w.cell? a=some v):a.block<w.heap.size:=by
 unfold World.cell? at h;split at h
 ·rename_i A;exact(jK.1 A).1
 ·cases h
theorem nP{a:Addr}(h:w'.heap[a.block]?=w.heap[a.block]?):w'.cell? a=w.cell? a:=by unfold World.cell?;rw[h]
theorem HIs.farLt{n k:Nat}{b:VB}(hH:HIs P ρ h w)(hn:h[n]?=some b)(hf:bV b k):k<w.heap.size:=by
 cases b with
 | sl s len C e=>
  cases s with|own=>exact hf.elim|lent=>exact hf.elim| came c=>cases c with|none=>exact hf.elim|some c=>cases c with|none=>exact hf.elim|some a=>obtain⟨h0,rfl⟩:=hf;exact hH.slLt hn h0
 | gl g t a x=>
  rcases hH.is _ _ hn with ⟨h3,s,C,T,fr,h4,_,_⟩ | ⟨_,ha,h3⟩
  ·rcases hf with rfl|rfl
   ·exact Zu6 h3
   ·exact Zu6 h4
  ·have hl:g<w.heap.size:=by
    rcases h3 with ⟨_,h3⟩ | ⟨_,h3⟩
    ·exact Zu6 h3
    ·exact Zu6 (h3 0 (by omega))
   rcases hf with rfl|rfl
   ·exact hl
   ·rw[ha];exact hl
 |no=>exact hf.elim
 |row C T=>exact hf.elim
 |one y T=>exact hf.elim
 |sp=>exact hf.elim
theorem pQ{a:Addr}{v:QC}(h:w.cell? a=some v)(J:∀(g:Nat) C t fr,w.heap[g]?=some (.cells C t fr)->w'.heap[g]?=some (.cells C t fr)):w'.cell? a=some v:=by
 rw[<- h];refine nP ?_;unfold World.cell? at h;split at h
 ·rename_i A;rw[A];exact J _ _ _ _ A
 ·cases h
theorem BIs.glCells{g0:Ad}{g:Nat}{t:QE}{a:Addr}{x:Nat}(hi:BIs P ρ h w g0 (.gl g t a x))(A:∀(g:Nat) C t fr,w.heap[g]?=some (.cells C t fr)->w'.heap[g]?=some (.cells C t fr)):BIs P ρ h w' g0 (.gl g t a x):=by
 rcases hi with ⟨J,s,C,T,fr,V,Z,L⟩ | ⟨L,U,⟨O,J⟩ | ⟨O,J⟩⟩
 ·exact .inl ⟨pQ J A,s,C,T,fr,pQ V A,A _ _ _ _ Z,L⟩
 ·exact .inr ⟨L,U,.inl ⟨O,pQ J A⟩⟩
 ·exact .inr ⟨L,U,.inr ⟨O,λi hi=>pQ (J i hi) A⟩⟩
theorem BIs.kept{E:Nat->Prop}{b:VB}{n:Nat}(hH:HIs P ρ h w)(hn:h[n]?=some b)(hk:Kept E w w')(h1:present h n->¬E (ρ n).a)(h2:∀k,bV b k->¬E k):BIs P ρ h w' (ρ n) b:=by
 have hi:=hH.is n b hn;have hb:∀hp:present h n,w'.heap[(ρ n).a]?=w.heap[(ρ n).a]?:=λhp=>hk.block _ (hH.lt hp) (h1 hp)
 cases b with
 |no=>trivial
 |row C T=>exact⟨(hb (.row hn)).trans hi.1,hi.2⟩
 |one y T=>obtain⟨v,h1,h2⟩:=hi;exact⟨v,h1,(hb (.one hn)).trans h2⟩
 | sl a len C e=>
  refine⟨SlIs.world hi.1 hk.size λh0 g b hg hlt=> ?_,λha h0=> ?_⟩
  ·cases a with
   |own=>cases hg;exact hb (.own hn rfl h0)
   |lent=>cases hg;exact hb (.own hn rfl h0)
   | came a=>cases a with
    |none=>cases hg;exact hb (.own hn rfl h0)
    |some a=>simp only[adK]at hg;subst hg;exact hk.block _ hlt (h2 _ ⟨h0,rfl⟩)
  ·obtain⟨i1,C',i2,i3⟩:=hi.2 ha h0;exact⟨i1,C',(hb (.own hn (Yrw ha) h0)).trans i2,i3⟩
 |sp=>trivial
 | gl g t a x=>
  rcases hi with ⟨h3,s,C,T,fr,h4,h5,h6⟩ | ⟨h6,ha,h3⟩
  ·have e1:=hk.block g (Zu6 h3) (h2 _ (.inl rfl));have e2:=hk.block a.block (Zu6 h4) (h2 _ (.inr rfl));exact .inl ⟨by rw[<- h3];exact nP e1,s,C,T,fr,by rw[<- h4];exact nP e2,e2.trans h5,h6⟩
  ·rcases h3 with ⟨h7,h3⟩ | ⟨h7,h3⟩
   ·have e1:=hk.block g (Zu6 h3) (h2 _ (.inl rfl));exact .inr ⟨h6,ha,.inl ⟨h7,by rw[<- h3];exact nP e1⟩⟩
   ·have e1:=hk.block g (Zu6 (h3 0 (by omega))) (h2 _ (.inl rfl));exact .inr ⟨h6,ha,.inr ⟨h7,λi hi=>by rw[<- h3 i hi];exact nP e1⟩⟩
theorem present.back{m n:Nat}{b:VB}(J:present (h.set m b) n)(e:n≠m):present h n:=by cases J with|row A=>rw[jA (by omega)]at A;exact .row A|one A=>rw[jA (by omega)]at A;exact .one A|own A hk h0=>rw[jA (by omega)]at A;exact .own A hk h0
theorem vM{n:Nat}(A:h[n]?=some .no):¬present h n:=λJ=>by
 cases J with
 |row e=>rw[A]at e;cases e
 |one e=>rw[A]at e;cases e
 |own e _ _=>rw[A]at e;cases e
theorem nR{m:Nat}{b:VB}(V:HIs P ρ h w)(Z:∀x,¬bV b x){ρ':Nat->Ad}(hr:∀n,n≠m->ρ' n=ρ n)
  (hm:present (h.set m b) m->∀(n:Nat) (A:VB) (x:Nat),h[n]?=some A->bV A x->(ρ' m).a≠x) :
  ∀(n:Nat) (A:VB) (x:Nat),(h.set m b)[n]?=some A->bV A x->∀k,present (h.set m b) k->(ρ' k).a≠x:=by
 intro n A x J h0 k U;have hne:n≠m:=by
  rintro rfl
  by_cases L:n<h.length
  ·rw[jB L]at J;cases J;exact Z x h0
  ·rw[List.getElem?_eq_none (by simpa using L)]at J;cases J
 rw[jA (by omega)]at J
 by_cases O:k=m
 ·subst O;exact hm U n A x J h0
 ·rw[hr k O];exact V.far n A x J h0 k (U.back O)
theorem Zgk{id:Nat}(b:VB)(A:h[id]?=some .no):HLe h (h.set id b):=λn=>by
 by_cases e:n=id
 ·subst e;exact .no A
 ·exact .same (jA (by omega))
theorem KP{n:Nat}{C D:QA}{t:QE}(A:h[n]?=some (.row C t)):HLe h (h.set n (.row D t)):=λm=>by
 have J:=(jC.1 A).1
 by_cases e:m=n
 ·subst e;refine⟨λL t' e=> ?_,λy t e=> ?_,λ_ _ _ _ e=> ?_,λe=> ?_,λ_ _ _ _ e=> ?_⟩<;>rw[A]at e<;>cases e
  exact⟨_,jB J⟩
 ·exact .same (jA (by omega))
theorem KQ{k:SlK}{n len:Nat}{C D:QA}{t:QE}(A:h[n]?=some (.sl k len C t)):HLe h (h.set n (.sl k len D t)):=λm=>by
 have J:=(jC.1 A).1
 by_cases e:m=n
 ·subst e;refine⟨λL t' e=> ?_,λy t e=> ?_,λ_ _ _ _ e=> ?_,λe=> ?_,λ_ _ _ _ e=> ?_⟩<;>rw[A]at e<;>cases e
  exact .inl ⟨_,jB J⟩
 ·exact .same (jA (by omega))
theorem Yj3{n len:Nat}{C:QA}{t:QE}(A:h[n]?=some (.sl .own len C t)):HLe h (h.set n .sp):=λm=>by
 have J:=(jC.1 A).1
 by_cases e:m=n
 ·subst e;refine⟨λL t' e=> ?_,λy t e=> ?_,λ_ _ _ _ e=> ?_,λe=> ?_,λ_ _ _ _ e=> ?_⟩<;>rw[A]at e<;>cases e
  exact .inr ⟨rfl,jB J⟩
 ·exact .same (jA (by omega))
theorem KR{n:Nat}{y L:SA}{t:QE}(A:h[n]?=some (.one y t)):HLe h (h.set n (.one L t)):=λm=>by
 have J:=(jC.1 A).1
 by_cases e:m=n
 ·subst e;refine⟨λO t' e=> ?_,λy t e=> ?_,λ_ _ _ _ e=> ?_,λe=> ?_,λ_ _ _ _ e=> ?_⟩<;>rw[A]at e<;>cases e
  exact⟨_,jB J⟩
 ·exact .same (jA (by omega))
theorem Ub2.present{n:Nat}{b:VB}(hk:Ub2 h n b):present h n:=by
 rcases hk with ⟨C,t,D,e,_⟩ | ⟨k,len,C,t,D,A,e,_,h0⟩ | ⟨y,t,J,e,_⟩
 ·exact .row e
 ·exact .own e (Yrw A) h0
 ·exact .one e
theorem Ub2.hle{n:Nat}{b:VB}(hk:Ub2 h n b):HLe h (h.set n b):=by
 rcases hk with ⟨C,t,D,e,rfl⟩ | ⟨k,len,C,t,D,A,e,rfl,h0⟩ | ⟨y,t,J,e,rfl⟩
 ·exact KP e
 ·exact KQ e
 ·exact KR e
theorem Ub2.lt{n:Nat}{b:VB}(hk:Ub2 h n b):n<h.length:=by rcases hk with ⟨C,t,D,e,rfl⟩ | ⟨k,len,C,t,D,A,e,rfl,h0⟩ | ⟨y,t,J,e,rfl⟩<;>exact(jC.1 e).1
theorem Ub2.nfar{n:Nat}{b:VB}(hk:Ub2 h n b):∀x,¬bV b x:=by
 rcases hk with ⟨C,t,D,e,rfl⟩ | ⟨k,len,C,t,D,A,e,rfl,h0⟩ | ⟨y,t,J,e,rfl⟩
 ·exact λ_ h=>h
 rotate_left
 ·exact λ_ h=>h
 ·cases k with
  |own=>exact λ_ h=>h
  |lent=>exact λ_ h=>h
  |came c=>cases A
theorem Ub2.cells{n:Nat}{b:VB}(hk:Ub2 h n b)(A:HIs P ρ h w):∃c t,w.heap[(ρ n).a]?=some (Obj.cells c t (0,0)):=by
 rcases hk with ⟨C,t,D,e,rfl⟩ | ⟨k,len,C,t,D,J,e,rfl,h0⟩ | ⟨y,t,U,e,rfl⟩
 ·exact⟨_,_,(A.is _ _ e).1⟩
 rotate_left
 ·obtain⟨v,_,h2⟩:=A.is _ _ e;exact⟨_,_,h2⟩
 ·obtain⟨_,L,O,_⟩:=(A.is _ _ e).2 J h0;exact⟨L,_,O⟩
theorem Ub2.own0{n:Nat}{b:VB}(hk:Ub2 h n b)(ho:∀(n len:Nat) (C:QA) (e:QE),n<n0->h[n]?=some (.sl .own len C e)->len=0\/n∈E):∀(q len:Nat) (C:QA) (e:QE),q<n0->(h.set n b)[q]?=some (.sl .own len C e)->len=0\/q∈E:=by
 intro q len C e U J
 by_cases L:q=n
 ·subst L;rw[jB hk.lt]at J;cases J;rcases hk with ⟨V,t,D,O,A⟩ | ⟨k,len',V,t,D,Z,O,A,_⟩ | ⟨y,t,y',O,A⟩
  ·cases A
  ·cases A;exact ho _ _ _ _ U O
  ·cases A
 ·rw[jA (by omega)]at J;exact ho _ _ _ _ U J
theorem vN{id n:Nat}{b:VB}{len:Nat}{C:QA}{e:QE}(ho:∀(n len:Nat) (C:QA) (e:QE),n<n0->h[n]?=some (.sl .own len C e)->len=0\/n∈E)(hid:n0<=id)(A:n<n0):(h.set id b)[n]?=some (.sl .own len C e)->len=0\/n∈E:=by rw[jA (by omega)];exact ho _ _ _ _ A
theorem Zjs(s:List SV)(dst:Option Tmp)(v:SV):(putS s dst v).length=s.length:=by cases dst<;>simp[putS]
theorem kV{st:St}{a:Act}(hlen:st.s.length=a.tmps.size){hh:List VB}(hs:∀(i:Nat) (v:SV),st.s[i]?=some v->IsV P ρ hh v (a.tmps.getD i undef)){dst:Option Tmp}{v:SV}{vv:QC}(hv:IsV P ρ hh v vv):
  ∀(i:Nat) (u:SV),(putS st.s dst v)[i]?=some u->IsV P ρ hh u ((a.put dst vv).tmps.getD i undef):=by
 intro i u hu;cases dst with
 |none=>exact hs i u hu
 | some d=>
  simp only[putS]at hu;have hlt:i<st.s.length:=by
   have:=(jC.1 hu).1
   simpa using this
  by_cases e:d=i
  ·subst e;rw[jB hlt]at hu;cases hu;have:(a.put (some d) vv).tmps.getD d undef=vv:=by
    simp[Act.put,jO,<- hlen,hlt]
   rw[this];exact hv
  ·rw[jA e]at hu;have:(a.put (some d) vv).tmps.getD i undef=a.tmps.getD i undef:=by
    simp[Act.put,jO,Array.getElem?_setIfInBounds_ne e]
   rw[this];exact hs i u hu
theorem kW(a:Act)(dst:Option Tmp)(v:QC):(a.put dst v).tmps.size=a.tmps.size:=by cases dst<;>simp[Act.put]
theorem cB(a:Act)(dst:Option Tmp)(v:QC):(a.put dst v).defers=a.defers:=by cases dst<;>rfl
theorem Zq6{st:St}{a:Act}(A:∀(i:Nat) (v:SV),st.s[i]?=some v->IsV P ρ st.h v (a.tmps.getD i undef))(x:Operand):IsV P ρ st.h (evO st.s x) (a.eval x):=by
 cases x with
 |tmp t=>
  show IsV P ρ st.h (st.s.getD t (.a .x)) _
  rw[jL];cases J:st.s[t]? with|none=>trivial|some v=>exact A t v J
 | const y=>
  show Is P ρ st.h (Ug8 y) y
  unfold Ug8;split
  ·rename_i k n;cases hk:gO (.int k n) with|false=>rfl|true=>exact⟨rfl,by simpa [gO] using hk⟩
  ·rfl
  ·rfl
  ·rfl
 |global g=>trivial
 |func f=>exact⟨rfl,λn L=>by cases L⟩
theorem RS.applySet'{st:St}{a:Act}(A:RS E P W0 n0 D ρ0 ρ st a w){hm:List VB}(hle:HLe hm st.h){m:Nat}{b:VB}(L:Ub2 st.h m b){id:Nat}{dst:Option Tmp}{v:SV}{vv:QC}
  (hE:Ua4 P ρ hm w v (.set m b) vv w'):RS E P W0 n0 D ρ0 ρ (Uai st id dst v (.set m b)) (a.put dst vv) w':=by
 obtain⟨hv,-,hk,hb⟩:=hE;have hlt:=L.lt;have V:HLe st.h (st.h.set m b):=L.hle;have O:present st.h m:=L.present;have J:∀n,present (st.h.set m b) n->present st.h n:=λn hp=>by
  by_cases e:n=m
  ·subst e;exact O
  ·exact hp.back e
 refine⟨by rw[kW];exact(Zjs _ _ _).trans A.len,kV A.len (λi u hu=>(A.slots i u hu).mono V λ_ _=>rfl) (hv.mono (hle.trans V) λ_ _=>rfl),⟨λn c hc=> ?_,λn q hp hq e=>A.heap.inj n q (J n hp) (J q hq) e,nR A.heap L.nfar (λ_ _=>rfl) λ_ n b' x h1 h2=>A.heap.far n b' x h1 h2 m O⟩,A.base,λn hn hp=>A.fresh n hn (J n hp),?_,L.own0 A.own0,by rw[cB];exact A.defers.kept hk λk e=>by subst e;obtain⟨c,t,h⟩:=L.cells A.heap;exact⟨_,_,_,h⟩,by simp[Uai];exact A.bound⟩
 ·simp only[Uai]at hc
  by_cases e:n=m
  ·subst e;rw[jB hlt]at hc;cases hc;exact hb.mono (hle.trans V) λ_ _=>rfl
  ·rw[jA (by omega)]at hc;exact(BIs.kept A.heap hc hk (λhp he=>e (A.heap.inj n m hp O he)) λk hf hE=>A.heap.far n c k hc hf m O hE.symm).mono V λ_ _=>rfl
 ·refine⟨hk.os.trans A.kept.os,hk.tape.trans A.kept.tape,hk.output.trans A.kept.output,jH A.kept.size hk.size,λk Z U=> ?_⟩
  by_cases hkm:k=(ρ m).a
  ·exfalso
   by_cases hm0:m<n0
   ·exact U ⟨m,hm0,.inl (by simp[Uai]),by rw[<- A.base m hm0];exact hkm.symm⟩
   ·rcases A.fresh m (by omega) O with h | ⟨q,h1,h2,h3⟩
    ·omega
    ·exact U ⟨q,h2,.inr (.inr h1),h3.trans hkm.symm⟩
  ·rw[hk.block k (Nat.lt_of_lt_of_le Z A.kept.size) hkm];exact A.kept.block k Z λ⟨n,h1,h2,h3⟩=>U ⟨n,h1,h2.imp (jD _) (λh=>h),h3⟩
theorem RS.applySet{st:St}{a:Act}(J:RS E P W0 n0 D ρ0 ρ st a w){id:Nat}{dst:Option Tmp}{v:SV}{m:Nat}{b:VB}{vv:QC}
  (A:Ua4 P ρ st.h w v (.set m b) vv w'):RS E P W0 n0 D ρ0 ρ (Uai st id dst v (.set m b)) (a.put dst vv) w':=J.applySet' (HLe.refl _) A.2.1 A
theorem RS.apply{st:St}{a:Act}(hR:RS E P W0 n0 D ρ0 ρ st a w){hm:List VB}(hle:HLe hm st.h){id:Nat}(hid:st.h[id]?=some .no)(hn:n0<=id){dst:Option Tmp}{v:SV}{e:Eff}{vv:QC}(hkeep:∀m b,e=.set m b->Ub2 st.h m b)(happ:∀k len C t,e ≠ .app k len C t)
  (hE:Ua4 P ρ hm w v e vv w'):∃ρ',RS E P W0 n0 D ρ0 ρ' (Uai st id dst v e) (a.put dst vv) w'/\(∀n,n≠id->ρ' n=ρ n):=by
 have hid':¬present st.h id:=vM hid;have hidlt:id<st.h.length:=(jC.1 hid).1;cases e with
 |none=>obtain⟨hv,hk⟩:=hE;refine⟨ρ,⟨by rw[kW];exact(Zjs _ _ _).trans hR.len,kV hR.len hR.slots (hv.mono hle λ_ _=>rfl),⟨λn b hb=> ?_,hR.heap.inj,hR.heap.far⟩,hR.base,hR.fresh,hR.kept.trans (hk.mono λ_ _ hf=>hf.elim),hR.own0,by rw[cB];exact hR.defers.same hk,hR.bound⟩,λ_ _=>rfl⟩;exact BIs.kept hR.heap hb hk (λ_=>not_false) λ_ _=>not_false
 | new b=>
  obtain⟨g,rfl,hg,hk,hb,hgs,hnew⟩:=hE;have hne:∀n,present st.h n->n≠id:=λn hp e=>hid' (e ▸ hp)
  have hl2:HLe st.h (st.h.set id b):=Zgk _ hid
  ·have hthere:there (st.h.set id b) id:=by
    rcases hnew with ⟨C0,T0,rfl⟩ | ⟨y0,T0,rfl⟩
    ·exact .row (jB hidlt)
    ·exact .one (jB hidlt)
   have hfar:∀x,¬bV b x:=by rcases hnew with ⟨C0,T0,rfl⟩ | ⟨y0,T0,rfl⟩<;>exact λ_ h=>h
   have hnown:∀len C e,b ≠ .sl .own len C e:=by rcases hnew with ⟨C0,T0,rfl⟩ | ⟨y0,T0,rfl⟩<;>(intro _ _ _ h;cases h)
   refine⟨λn=>if n=id then g else ρ n,?_,λn hn=>if_neg hn⟩;have hr:∀n,present st.h n->(λn=>if n=id then g else ρ n) n=ρ n:=λn hp=>if_neg (hne n hp)
   have hr':∀n,present hm n->(λn=>if n=id then g else ρ n) n=ρ n:=λn hp=>if_neg λ(e:n=id)=>hle.taken hp (e ▸ hid)
   have hback:∀n,n≠id->present (st.h.set id b) n->present st.h n:=λn hn hp=>hp.back hn
   refine⟨by rw[kW];exact(Zjs _ _ _).trans hR.len,kV hR.len (λi u hu=>(hR.slots i u hu).mono hl2 hr) ?_,⟨λn c hc=> ?_,λn m hp hq e=> ?_,nR (b:=b) hR.heap hfar (λn hn=>if_neg hn) λ_ n b' x h1 h2=> ?_⟩,λn hn'=> ?_,λn hn' hp=> ?_,hR.kept.trans (hk.mono λ_ _ hf=>hf.elim),λn' _ _ _ hn'=>vN hR.own0 hn hn',by rw[cB];exact hR.defers.same hk,by simp[Uai];exact hR.bound⟩
   ·exact⟨by simp,hthere⟩
   ·by_cases e:n=id
    ·subst e;simp only[Uai]at hc;rw[jB hidlt]at hc;cases hc;simp only[if_true];exact hb.mono (hle.trans hl2) hr'
    ·simp only[Uai]at hc;rw[jA (by omega)]at hc;simp only[if_neg e];exact(BIs.kept hR.heap hc hk (λ_=>not_false) λ_ _=>not_false).mono hl2 hr
   ·simp only[Uai]at hp hq
    by_cases e1:n=id
    ·by_cases e2:m=id
     ·omega
     ·simp only[if_pos e1,if_neg e2]at e;have:=hR.heap.lt (hback m e2 hq);omega
    ·by_cases e2:m=id
     ·simp only[if_pos e2,if_neg e1]at e;have:=hR.heap.lt (hback n e1 hp);omega
     ·simp only[if_neg e1,if_neg e2]at e;exact hR.heap.inj n m (hback n e1 hp) (hback m e2 hq) e
   ·have:=hR.heap.farLt h1 h2;simp only[if_true];omega
   ·simp only[if_neg (show n≠id by omega)];exact hR.base n hn'
   ·by_cases e:n=id
    ·simp only[if_pos e];exact .inl (jH hR.kept.size hg)
    ·simp only[if_neg e];exact hR.fresh n hn' (hback n e hp)
 |set m b=>exact⟨ρ,hR.applySet' hle (hkeep m b rfl) hE,λ_ _=>rfl⟩
 |app k len C t=>exact absurd rfl (happ k len C t)
 | newS j len C0 T0=>
  obtain⟨g,ad,cap,hN,hO,hg,hk,hb⟩:=hE;have hne:∀n,present st.h n->n≠id:=λn hp e=>hid' (e ▸ hp)
  have hl2:HLe st.h (st.h.set id (.sl .own len C0 T0)):=Zgk _ hid;refine⟨λn=>if n=id then g else ρ n,?_,λn hn=>if_neg hn⟩;have hr:∀n,present st.h n->(λn=>if n=id then g else ρ n) n=ρ n:=λn hp=>if_neg (hne n hp)
  have hback:∀n,n≠id->present (st.h.set id (.sl .own len C0 T0)) n->present st.h n:=λn hn hp=>hp.back hn
  have hlen:present (st.h.set id (.sl .own len C0 T0)) id->len≠0:=λhp=>by
   cases hp with
   |row e=>rw[jB hidlt]at e;cases e
   |one e=>rw[jB hidlt]at e;cases e
   |own e _ h0=>rw[jB hidlt]at e;cases e;exact h0
  refine⟨by rw[kW];exact(Zjs _ _ _).trans hR.len,kV hR.len (λi u hu=>(hR.slots i u hu).mono hl2 hr) ?_,⟨λn c hc=> ?_,λn m hp hq e=> ?_,nR (b:=.sl .own len C0 T0) hR.heap (λ_ e=>e) (λn hn=>if_neg hn) λhp n b' x h1 h2=> ?_⟩,λn hn'=> ?_,λn hn' hp=> ?_,hR.kept.trans (hk.mono λ_ _ hf=>hf.elim),λn' _ _ _ hn'=>vN hR.own0 hn hn',by rw[cB];exact hR.defers.same hk,by simp[Uai];exact hR.bound⟩
  ·have hsl:Is P (λn=>if n=id then g else ρ n) (st.h.set id (.sl .own len C0 T0)) (.l id) (.slice ad len cap):=.inr ⟨.own,len,C0,T0,ad,cap,jB hidlt,rfl,λh0=>by simp only[adOf,adK,if_true];exact(hO.2 h0).1,λ_=>⟨hO.1,λh0=>by simp only[if_true];exact(hO.2 h0).2⟩⟩;cases j with
   |none=>obtain rfl:=hN;exact hsl
   | some i=>
    have hren:∀n,present hm n->(λn=>if n=id then g else ρ n) n=ρ n:=λn hp=>if_neg λ(e:n=id)=>hle.taken hp (e ▸ hid)
    cases hi0:Nat.ble 1000000 i with
    |true=>
     simp only[gX,hi0,Q1]at hN;have:=hN _ _ id (hle.trans hl2) hren (by unfold bK;rw[jB hidlt]) hsl
     simpa only [plug,hi0,Q1] using this
    |false=>
    simp only[gX,hi0,Q2]at hN;simp only[plug,hi0,Q2];obtain⟨l,vs,rfl,rfl,hA,hi⟩:=hN;have hA2:=hA.mono (hle.trans hl2) (ρ':=λn=>if n=id then g else ρ n) (λn hp=>if_neg λ(e:n=id)=>hle.taken hp (e ▸ hid));refine⟨vs,rfl,by simpa using hA2.1,λk y u hy hu=> ?_⟩
    by_cases e:i=k
    ·subst e;have hlt:i<l.length:=by have:=(jC.1 hy).1;simpa using this
     rw[jB hlt]at hy;cases hy;rw[hi]at hu;cases hu;exact hsl
    ·rw[jA e]at hy;exact hA2.2 k y u hy hu
  ·by_cases e:n=id
   ·subst e;simp only[Uai]at hc;rw[jB hidlt]at hc;cases hc;simp only[if_true];exact hb
   ·simp only[Uai]at hc;rw[jA (by omega)]at hc;simp only[if_neg e];exact(BIs.kept hR.heap hc hk (λ_=>not_false) λ_ _=>not_false).mono hl2 hr
  ·simp only[Uai]at hp hq
   by_cases e1:n=id
   ·by_cases e2:m=id
    ·omega
    ·simp only[if_pos e1,if_neg e2]at e;have:=hR.heap.lt (hback m e2 hq);have:=hg (hlen (e1 ▸ hp));omega
   ·by_cases e2:m=id
    ·simp only[if_pos e2,if_neg e1]at e;have:=hR.heap.lt (hback n e1 hp);have:=hg (hlen (e2 ▸ hq));omega
    ·simp only[if_neg e1,if_neg e2]at e;exact hR.heap.inj n m (hback n e1 hp) (hback m e2 hq) e
  ·have hs:=hR.heap.farLt h1 h2;have:=hg (hlen hp);simp only[if_true];omega
  ·simp only[if_neg (show n≠id by omega)];exact hR.base n hn'
  ·by_cases e:n=id
   ·simp only[if_pos e];exact .inl (jH hR.kept.size (hg (hlen (e ▸ hp))))
   ·simp only[if_neg e];exact hR.fresh n hn' (hback n e hp)
theorem RS.applyApp'{st:St}{a:Act}(O:RS E P W0 n0 D ρ0 ρ st a w){id:Nat}(hid:st.h[id]?=some .no)(hn:n0<=id){dst:Option Tmp}{v:SV}{k:Option Nat}{len:Nat}{C0:QA}{T0:QE}{vv:QC}
  (hE:Ua4 P ρ st.h w v (.app k len C0 T0) vv w'):∃ρ',RS E P W0 n0 D ρ0 ρ' (Uai st id dst v (.app k len C0 T0)) (a.put dst vv) w'/\(∀n,n≠id->ρ' n=ρ n)/\Is P ρ' (Uai st id dst v (.app k len C0 T0)).h (.l id) vv:=by
 obtain⟨g,ad,cap,rfl,rfl,hO,hb,hk,hg,Z⟩:=hE;have hid':¬present st.h id:=vM hid;have hidlt:id<st.h.length:=(jC.1 hid).1;have hkid:k≠some id:=λe=>by
  obtain⟨_,_,J⟩:=Z id e;rw[hid]at J;cases J
 have hkn0:∀j,k=some j->present st.h j->W0.heap.size<=(ρ j).a\/∃m∈E,m<n0/\(ρ0 m).a=(ρ j).a:=λj e U=>by
  obtain⟨_,_,J⟩:=Z j e;rcases Nat.lt_or_ge j n0 with h|h
  ·rcases O.own0 _ _ _ _ h J with h0|h0
   ·exfalso;cases U with
    |row e=>rw[J]at e;cases e
    |one e=>rw[J]at e;cases e
    |own e _ hl=>rw[J]at e;cases e;exact hl h0
   ·exact .inr ⟨j,h0,h,by rw[O.base j h]⟩
  ·exact O.fresh j h U
 have hid2:(spend k st.h)[id]?=some .no:=by rw[Zhd hkid];exact hid
 have A:id<(spend k st.h).length:=by rw[bM];exact hidlt
 have hl1:HLe st.h (spend k st.h):=by cases k with|none=>exact HLe.refl _|some j=>obtain⟨_,_,J⟩:=Z j rfl;exact Yj3 J
 have hl2:HLe st.h ((spend k st.h).set id (.sl .own len C0 T0)):=hl1.trans (Zgk _ hid2);have spent:∀j,k=some j->(spend k st.h)[j]?=some .sp:=λj e=>by
  subst e;obtain⟨_,_,J⟩:=Z j rfl;exact jB (jC.1 J).1
 have hne:∀n,present st.h n->n≠id:=λn U e=>hid' (e ▸ U)
 refine⟨λn=>if n=id then g else ρ n,?_,λn hn=>if_neg hn,.inr ⟨.own,len,C0,T0,ad,cap,jB A,rfl,λh0=>by simp only[adOf,adK,if_true];exact(hO.2 h0).1,λ_=>⟨hO.1,λh0=>by simp only[if_true];exact(hO.2 h0).2⟩⟩⟩;have hr:∀n,present st.h n->(λn=>if n=id then g else ρ n) n=ρ n:=λn U=>if_neg (hne n U)
 have L:∀{n:Nat},n≠id->k≠some n->((spend k st.h).set id (.sl .own len C0 T0))[n]?=st.h[n]?:=λ{n} h1 h2=>by
  rw[jA (by omega),Zhd h2]
 have hnk:∀{n:Nat} {b:VB},n≠id->((spend k st.h).set id (.sl .own len C0 T0))[n]?=some b->b ≠ .sp->k≠some n:=λ{n b} h1 h2 h3 e=>by
  rw[jA (by omega),spent n e]at h2;cases h2;exact h3 rfl
 have V:∀n,n≠id->present ((spend k st.h).set id (.sl .own len C0 T0)) n->present st.h n/\k≠some n:=λn hn U=>by
  cases U with|row e=>have h:=hnk hn e (by intro h;cases h);rw[L hn h]at e;exact⟨.row e,h⟩|one e=>have h:=hnk hn e (by intro h;cases h);rw[L hn h]at e;exact⟨.one e,h⟩|own e hk h0=>have h:=hnk hn e (by intro h;cases h);rw[L hn h]at e;exact⟨.own e hk h0,h⟩
 have hlen:present ((spend k st.h).set id (.sl .own len C0 T0)) id->len≠0:=λU=>by
  cases U with
  |row e=>rw[jB A]at e;cases e
  |one e=>rw[jB A]at e;cases e
  |own e _ h0=>rw[jB A]at e;cases e;exact h0
 have b5:∀n,present st.h n->k≠some n->len≠0->(ρ n).a≠g.a:=λn U hkn h0 e=>by
  rcases hg h0 with h | ⟨j,h1,h2,h3⟩
  ·have:=O.heap.lt U;omega
  ·have:=O.heap.inj n j U h2 (e.trans h3);subst this;exact hkn h1
 have hkeep:∀(n:Nat) (b:VB),k≠some n->st.h[n]?=some b->BIs P ρ st.h w' (ρ n) b:=λn b hkn hb2=>BIs.kept O.heap hb2 hk (λU ⟨j,h1,h2,h3⟩=>by
  have:=O.heap.inj n j U h2 h3;subst this;exact hkn h1) λx hf ⟨j,h1,h2,h3⟩=>O.heap.far n b x hb2 hf j h2 h3.symm
 refine⟨by rw[kW];exact(Zjs _ _ _).trans O.len,kV O.len (λi u hu=>(O.slots i u hu).mono hl2 hr) ?_,⟨λn c hc=> ?_,λn m U hq e=> ?_,λn b' x h1 h2 m U=> ?_⟩,λn b7=> ?_,λn b7 U=> ?_,?_,λn' _ _ _ b7=> ?_,?_,by simp[Uai,bM];exact O.bound⟩
 ·exact .inr ⟨.own,len,C0,T0,ad,cap,jB A,rfl,λh0=>by simp only[adOf,adK,if_true];exact(hO.2 h0).1,λ_=>⟨hO.1,λh0=>by simp only[if_true];exact(hO.2 h0).2⟩⟩
 ·simp only[Uai]at hc
  by_cases e:n=id
  ·subst e;rw[jB A]at hc;cases hc;simp only[if_true];exact hb
  ·simp only[if_neg e]
   by_cases J:k=some n
   ·rw[jA (by omega),spent n J]at hc;cases hc;trivial
   ·rw[L e J]at hc;exact(hkeep n c J hc).mono hl2 hr
 ·simp only[Uai]at U hq
  by_cases e1:n=id
  ·by_cases J:m=id
   ·omega
   ·simp only[if_pos e1,if_neg J]at e;obtain⟨q1,q2⟩:=V m J hq;exact absurd e.symm (b5 m q1 q2 (hlen (e1 ▸ U)))
  ·by_cases J:m=id
   ·simp only[if_pos J,if_neg e1]at e;obtain⟨q1,q2⟩:=V n e1 U;exact absurd e (b5 n q1 q2 (hlen (J ▸ hq)))
   ·simp only[if_neg e1,if_neg J]at e;exact O.heap.inj n m (V n e1 U).1 (V m J hq).1 e
 ·simp only[Uai]at h1 U;have hnid:n≠id:=λe=>by subst e;rw[jB A]at h1;cases h1;exact h2
  have h1':=h1;rw[L hnid (hnk hnid h1 (by intro h;rw[h]at h2;exact h2))]at h1'
  by_cases J:m=id
  ·subst J;simp only[if_true];rcases hg (hlen U) with h | ⟨j,q1,q2,q3⟩
   ·have:=O.heap.farLt h1' h2;omega
   ·rw[q3];exact O.heap.far n b' x h1' h2 j q2
  ·simp only[if_neg J];exact O.heap.far n b' x h1' h2 m (V m J U).1
 ·simp only[if_neg (show n≠id by omega)];exact O.base n b7
 ·by_cases e:n=id
  ·simp only[if_pos e];rcases hg (hlen (e ▸ U)) with h | ⟨j,q1,q2,q3⟩
   ·exact .inl (jH O.kept.size h)
   ·rw[q3];exact hkn0 j q1 q2
  ·simp only[if_neg e];exact O.fresh n b7 (V n e U).1
 ·refine⟨hk.os.trans O.kept.os,hk.tape.trans O.kept.tape,hk.output.trans O.kept.output,jH O.kept.size hk.size,λb hb' hnot=> ?_⟩;rw[hk.block b (Nat.lt_of_lt_of_le hb' O.kept.size) λ⟨j,h1,h2,h3⟩=>by
   rcases hkn0 j h1 h2 with h | ⟨q,q1,q2,q3⟩
   ·omega
   ·exact hnot ⟨q,q2,.inr (.inr q1),q3.trans h3.symm⟩]
  exact O.kept.block b hb' λ⟨n,h1,h2,h3⟩=>hnot ⟨n,h1,h2.imp_left λh=>by simp only[Uai];exact List.mem_append_right _ h,h3⟩
 ·simp only[Uai]
  by_cases J:k=some n'
  ·rw[jA (by omega),spent n' J];intro h;cases h
  ·rw[L (by omega) J];exact O.own0 _ _ _ _ b7
 ·rw[cB];exact O.defers.kept hk λb ⟨j,h1,h2,h3⟩=>by
   obtain⟨l0,c0,J⟩:=Z j h1;have h0:l0≠0:=by
    cases h2 with
    |row e=>rw[J]at e;cases e
    |one e=>rw[J]at e;cases e
    |own e _ h0=>rw[J]at e;cases e;exact h0
   obtain⟨_,X,hX,_⟩:=(O.heap.is _ _ J).2 rfl h0;exact⟨_,_,_,by rw[h3];exact hX⟩
theorem RS.applyApp{st:St}{a:Act}(J:RS E P W0 n0 D ρ0 ρ st a w){id:Nat}(hid:st.h[id]?=some .no)(L:n0<=id){dst:Option Tmp}{v:SV}{k:Option Nat}{len:Nat}{A:QA}{T0:QE}{vv:QC}
  (O:Ua4 P ρ st.h w v (.app k len A T0) vv w'):∃ρ',RS E P W0 n0 D ρ0 ρ' (Uai st id dst v (.app k len A T0)) (a.put dst vv) w'/\(∀n,n≠id->ρ' n=ρ n):=by
 obtain⟨ρ',U,h2,_⟩:=RS.applyApp' J hid L (dst:=dst) O;exact⟨ρ',U,h2⟩
theorem RS.world{st:St}{a:Act}(A:RS E P W0 n0 D ρ0 ρ st a w)(hk:Kept (λ_=>False) w w'):RS E P W0 n0 D ρ0 ρ st a w':=
 ⟨A.len,A.slots,⟨λn b J=>BIs.kept A.heap J hk (λ_=>not_false) λ_ _=>not_false,A.heap.inj,A.heap.far⟩,A.base,A.fresh,A.kept.trans (hk.mono λ_ _ L=>L.elim),A.own0,A.defers.same hk,A.bound⟩
theorem RS.add{st:St}{a:Act}(J:RS E P W0 n0 D ρ0 ρ st a w){id g:Nat}{C:QA}{T:QE}(hid:st.h[id]?=some .no)(hn:n0<=id)(hg:w.heap[g]?=some (.cells C T (0,0)))(hW:WT P T C)(hfr:W0.heap.size<=g)(U:∀n,present st.h n->(ρ n).a≠g)(V:∀(n:Nat) (b:VB) (x:Nat),st.h[n]?=some b->bV b x->g≠x):
  RS E P W0 n0 D ρ0 (λn=>if n=id then ⟨g,0⟩ else ρ n) { st with h:=st.h.set id (.row C T) } a w:=by
 have hid':¬present st.h id:=vM hid;have Z:id<st.h.length:=(jC.1 hid).1;have hne:∀n,present st.h n->n≠id:=λn L e=>hid' (e ▸ L)
 have hl2:HLe st.h (st.h.set id (.row C T)):=Zgk _ hid;have hr:∀n,present st.h n->(λn=>if n=id then ⟨g,0⟩ else ρ n) n=ρ n:=λn L=>if_neg (hne n L)
 have A:∀n,n≠id->present (st.h.set id (.row C T)) n->present st.h n:=λn hn L=>L.back hn
 refine⟨J.len,λi u hu=>(J.slots i u hu).mono hl2 hr,⟨λn c hc=> ?_,λn m L hq e=> ?_,nR (b:=.row C T) J.heap (λ_ e=>e) (λn hn=>if_neg hn) λ_ n b' x h1 h2=>by simp only[if_true];exact V n b' x h1 h2⟩,λn O=> ?_,λn O L=> ?_,J.kept,λn' _ _ _ O=>vN J.own0 hn O,J.defers,by simp;exact J.bound⟩
 ·by_cases e:n=id
  ·subst e;dsimp only at hc;rw[jB Z]at hc;cases hc;simp only[if_true];exact⟨hg,hW⟩
  ·dsimp only at hc;rw[jA (by omega)]at hc;simp only[if_neg e];exact(J.heap.is n c hc).mono hl2 hr
 ·dsimp only at L hq
  by_cases e1:n=id
  ·by_cases e2:m=id
   ·omega
   ·simp only[if_pos e1,if_neg e2]at e;exact absurd e.symm (U m (A m e2 hq))
  ·by_cases e2:m=id
   ·simp only[if_pos e2,if_neg e1]at e;exact absurd e (U n (A n e1 L))
   ·simp only[if_neg e1,if_neg e2]at e;exact J.heap.inj n m (A n e1 L) (A m e2 hq) e
 ·simp only[if_neg (show n≠id by omega)];exact J.base n O
 ·by_cases e:n=id
  ·simp only[if_pos e];exact .inl hfr
  ·simp only[if_neg e];exact J.fresh n O (A n e L)
def Ubx(h:List VB):List Nat->List (QA×QE)->List VB
 |n::ns,r::rs=>Ubx (h.set n (.row r.1 r.2)) ns rs
 |_,_=>h
theorem RS.addMany{a:Act}:∀(ids gs:List Nat) (rows:List (QA×QE)) {ρ:Nat->Ad} {st:St},RS E P W0 n0 D ρ0 ρ st a w->ids.length=rows.length->gs.length=rows.length->ids.Nodup->gs.Nodup ->
  (∀id∈ids,st.h[id]?=some .no/\n0<=id)->(∀(j g:Nat) (r:QA×QE),gs[j]?=some g->rows[j]?=some r->W0.heap.size<=g/\w.heap[g]?=some (.cells r.1 r.2 (0,0))/\WT P r.2 r.1)->(∀g∈gs,∀n,present st.h n->(ρ n).a≠g)->(∀g∈gs,∀(n:Nat) (b:VB) (x:Nat),st.h[n]?=some b->bV b x->g≠x) ->
  ∃ρ',RS E P W0 n0 D ρ0 ρ' { st with h:=Ubx st.h ids rows } a w/\(∀n,n ∉ ids->ρ' n=ρ n)/\(ids.map λn=>(ρ' n).a)=gs/\HLe st.h (Ubx st.h ids rows)/\(∀n,n ∉ ids->(Ubx st.h ids rows)[n]?=st.h[n]?)/\(Ubx st.h ids rows).length=st.h.length/\∀n∈ids,there (Ubx st.h ids rows) n
 |[],[],[],ρ,st,hR,_,_,_,_,_,_,_,_=>⟨ρ,hR,λ_ _=>rfl,rfl,.refl _,λ_ _=>rfl,rfl,λn h=>by cases h⟩
 | id::ids,g::gs,r::rows,ρ,st,hR,h1,h2,hn1,hn2,hid,hg,hnew,hnewS=>by
  have hn1':=List.nodup_cons.1 hn1;have hn2':=List.nodup_cons.1 hn2;obtain⟨hno,hle⟩:=hid id (jF ..);obtain⟨g1,g2,g3⟩:=hg 0 g r rfl rfl;have hR1:=hR.add hno hle g2 g3 g1 (hnew g (jF ..)) (hnewS g (jF ..));have hidlt:id<st.h.length:=(jC.1 hno).1;obtain⟨ρ',hR2,e1,e2,e3,e4,e5,e6⟩:=RS.addMany ids gs rows hR1 (by simpa using h1) (by simpa using h2) hn1'.2 hn2'.2 (λi hi=>by
   obtain⟨q1,q2⟩:=hid i (jD _ hi);refine⟨?_,q2⟩;dsimp only;rw[jA (by rintro rfl;exact hn1'.1 hi)];exact q1) (λj g' r' hj hr=>hg (j+1) g' r' (by simpa using hj) (by simpa using hr)) (λg' hg' n hp=>by
   by_cases e:n=id
   ·simp only[if_pos e];rintro rfl;exact hn2'.1 hg'
   ·simp only[if_neg e];exact hnew g' (jD _ hg') n (hp.back e)) (λg' hg' n b x h1 h2=>by
   dsimp only at h1
   by_cases e1:n=id
   ·subst e1;rw[jB hidlt]at h1;cases h1;exact False.elim h2
   ·rw[jA (by omega)]at h1;exact hnewS g' (jD _ hg') n b x h1 h2)
  dsimp only at e3 e4 e5 e6;have hidp:there (Ubx (st.h.set id (.row r.1 r.2)) ids rows) id:=e3.there (.row (jB hidlt));refine⟨ρ',hR2,λn hn=> ?_,?_,(Zgk _ hno).trans e3,λn hn=> ?_,?_,λn hn=> ?_⟩
  ·rw[e1 n λh=>hn (jD _ h)];exact if_neg λe=>hn (by rw[e];exact jF ..)
  ·simp only[List.map_cons,e2];rw[e1 id hn1'.1];simp only[if_true]
  ·rw[Ubx,e4 n λh=>hn (jD _ h),jA λe=>hn (by rw[<- e];exact jF ..)]
  ·rw[Ubx,e5];simp
  ·rcases List.mem_cons.1 hn with rfl|hn
   ·exact hidp
   ·exact e6 n hn
 |[],[],_::_,_,_,_,h,_,_,_,_,_,_,_=>absurd h (by simp)
 |[],_::_,[],_,_,_,_,h,_,_,_,_,_,_=>absurd h (by simp)
 |[],_::_,_::_,_,_,_,h,_,_,_,_,_,_,_=>absurd h (by simp)
 |_::_,_,[],_,_,_,h,_,_,_,_,_,_,_=>absurd h (by simp)
 |_::_,[],_::_,_,_,_,_,h,_,_,_,_,_,_=>absurd h (by simp)
end
end
section
def cr(h:List VB)(id:Nat):Eff->Bool
 |.new _=>(match h[id]? with|some .no=>true|_=>false)
 |.newS _ _ _ _=>(match h[id]? with|some .no=>true|_=>false)
 |.app _ _ _ _=>(match h[id]? with|some .no=>true|_=>false)
 |_=>true
def jc(Γ:Cons)(ev:Operand->SV)(c:Call):Option NewC:=
 match c.callee with
 |.value y=>(match asA (ev y) with
  |.c f []=>(match Γ.n f with|some G=>G (c.args.toList.map λz=>asA (ev z))|none=>none)
  |_=>none)
 |_=>none
def nT(Γ:Cons)(ev:Operand->SV):Op->Option NewC
 |.call c=>jc Γ ev c
 |_=>none
def Ucw{α:Type}(id m:Nat):Nat->List α->List Nat
 |_,[]=>[]
 |j,_::r=>(id+j*m)::Ucw id m (j+1) r
def nU(h:List VB):List Nat->Bool
 |[]=>true
 |n::r=>(match h[n]? with|some .no=>true|_=>false)&&nU h r
def je(id m:Nat)(o:QN)(st:St){α:Type}(K:St->Option α)(q:NewC):Option α:=
 bif nU st.h (Ucw id m 1 q.rows)&&cV (Ucw id m 1 q.rows) then
  K { s:=putS st.s o.dst (.a (.c q.f (Ucw id m 1 q.rows))),h:=Ubx st.h (Ucw id m 1 q.rows) q.rows,d:=st.d } else none
def eP(Γ:Cons)(ev:Operand->SV)(h:List VB):Op->Option Way
 | .call c=>(match c.callee with
  |.value y=>(match asA (ev y) with
   |.c f ns=>(match Γ.s f with|some S=>some (S (c.args.toList.map (λz=>asA (ev z))++ns.map SA.w) h)|none=>none)
   |_=>none)
  |_=>none)
 |_=>none
def lY(id:Nat)(o:QN)(st:St){α:Type}(K:St->Option α):Way->Option α
 |.one (some (v,e,g))=>bif g then (bif cr st.h id e then K (Uai st id o.dst v e) else none) else none
 |.one none=>none
 |.two t a b=>bif t then lY id o st K a else lY id o st K b
def jf(P:QD)(Γ:Cons)(m id:Nat)(o:QN)(st:St){α:Type}(K:St->Option α):Option α:=
 match nT Γ (evO st.s) o.op with
 |some q=>je id m o st K q
 |none=>
 match eP Γ (evO st.s) st.h o.op with
 |some q=>lY id o st K q
 |none=>
 match o.op with
 |.pick c y z=>(match asA (evO st.s c) with
  |.b t=>bif t then K { st with s:=putS st.s o.dst (evO st.s y) } else K { st with s:=putS st.s o.dst (evO st.s z) }
  |_=>none)
 |_=>(match aH P Γ (evO st.s) st.h o with
  |some (v,e,g)=>bif g then (bif cr st.h id e then K (Uai st id o.dst v e) else none) else none
  |none=>none)
def jg(ops:Array QN)(j:Nat):Option Nat:=(ops[j]?).bind (·.dst)
def bS (P:QD) (Γ:Cons) (ops:Array QN) (base:Nat):List QN→Nat→{α:Type}→St→(St→Option α)→Option α
  |[],_,_,st,K=>K st
  | o::r,i,_,st,K=>
    match o.guard with
    |none=>jf P Γ ops.size (base+i) o st λst'=>bS P Γ ops base r (i+1) st' K
    | some (j,want)=>(match jg ops j with
      |none=>none
      | some d=>(match st.s.getD d (.a .x) with
        | .a (.b t)=>
          bif t then
            (bif want then jf P Γ ops.size (base+i) o { st with s:=st.s.set d (.a (.b true)) } λst'=>bS P Γ ops base r (i+1) st' K else bS P Γ ops base r (i+1) { st with s:=putS (st.s.set d (.a (.b true))) o.dst (.a .u) } K)
          else
            (bif want then bS P Γ ops base r (i+1) { st with s:=putS (st.s.set d (.a (.b false))) o.dst (.a .u) } K else jf P Γ ops.size (base+i) o { st with s:=st.s.set d (.a (.b false)) } λst'=>bS P Γ ops base r (i+1) st' K)
        |.a .u=>bS P Γ ops base r (i+1) { st with s:=putS st.s o.dst (.a .u) } K
        |_=>none))
def wrL:List QN->List Nat
 |[]=>[]
 |o::r=>(match o.dst with|some d=>[d]|none=>[])++wrL r
structure Ext (W:List Nat) (b:Nat) (ρ ρ':Nat->Ad) (st st':St):Prop where
 slots:∀(i:Nat),i ∉ W->st'.s[i]?=st.s[i]?
 len:st'.s.length=st.s.length
 heap:∀(n:Nat),n<b->n ∉ st'.d->st'.h[n]?=st.h[n]?
 dirty:∀n,n∈st.d->n∈st'.d
 hlen:st.h.length<=st'.h.length
 hle:HLe st.h st'.h
 ren:∀n,n<b->ρ' n=ρ n
theorem Ext.refl(W:List Nat)(b:Nat)(ρ:Nat->Ad)(st:St):Ext W b ρ ρ st st:=⟨λ_ _=>rfl,rfl,λ_ _ _=>rfl,λ_ h=>h,Nat.le_refl _,.refl _,λ_ _=>rfl⟩
theorem Ext.trans{W:List Nat}{b:Nat}{ρ ρ1 ρ2:Nat->Ad}{a c d:St}(h:Ext W b ρ ρ1 a c)(k:Ext W b ρ1 ρ2 c d):Ext W b ρ ρ2 a d:=
 ⟨fun i hi=>(k.slots i hi).trans (h.slots i hi),k.len.trans h.len,fun n hn hd=>(k.heap n hn hd).trans (h.heap n hn fun hc=>hd (k.dirty n hc)),fun n hn=>k.dirty n (h.dirty n hn),
  jH h.hlen k.hlen,h.hle.trans k.hle,λn hn=>(k.ren n hn).trans (h.ren n hn)⟩
theorem Ext.mono{W W':List Nat}{b A:Nat}{ρ ρ':Nat->Ad}{st st':St}(h:Ext W b ρ ρ' st st')(J:∀i,i∈W->i∈W')(U:A<=b):Ext W' A ρ ρ' st st':=
 ⟨λi hi=>h.slots i λL=>hi (J i L),h.len,λn O=>h.heap n (by omega),h.dirty,h.hlen,h.hle,λn O=>h.ren n (by omega)⟩
theorem Zmy{W:List Nat}{b:Nat}{ρ:Nat->Ad}{st:St}{dst:Option Tmp}{v:SV}(hW:∀d,dst=some d->d∈W):Ext W b ρ ρ st { st with s:=putS st.s dst v }:=
 ⟨fun i hi=>by
  cases dst with
  |none=>rfl
  |some d=>exact jA λ(e:d=i)=>hi (by rw[<- e];exact hW d rfl),Zjs _ _ _,λ_ _ _=>rfl,λ_ h=>h,Nat.le_refl _,.refl _,λ_ _=>rfl⟩
theorem Zwz{W:List Nat}{b:Nat}{ρ ρ':Nat->Ad}{st:St}{id:Nat}{dst:Option Tmp}{v:SV}{e:Eff}(hW:∀d,dst=some d->d∈W)(hok:cr st.h id e=true)(hb:b<=id)
  (hset:∀n b,e=.set n b->Ub2 st.h n b) (hr:∀n,n≠id->ρ' n=ρ n) (hr0:(∀b,e ≠ .new b)->(∀j len C t,e ≠ .newS j len C t)->(∀j len C t,e ≠ .app j len C t)->ρ'=ρ) (happ:∀k len C t,e=.app (some k) len C t->∃l0 C0,st.h[k]?=some (.sl .own l0 C0 t)):Ext W b ρ ρ' st (Uai st id dst v e):=by
 cases e with
 |none=>obtain rfl:=hr0 (λb e=>by cases e) (λ_ _ _ _ e=>by cases e) (λ_ _ _ _ e=>by cases e);exact Zmy hW
 | new bb=>
  have hno:st.h[id]?=some .no:=by
   simp only[cr]at hok;split at hok
   ·assumption
   ·cases hok
  refine⟨(Zmy (b:=b) (ρ:=ρ) (st:=st) (v:=.a (.w id)) hW).slots,Zjs _ _ _,λn hn _=>jA (by omega),λ_ h=>h,by simp[Uai],Zgk bb hno,λn hn=>hr n (by omega)⟩
 | newS j len C0 T0=>
  have hno:st.h[id]?=some .no:=by
   simp only[cr]at hok;split at hok
   ·assumption
   ·cases hok
  refine⟨(Zmy (b:=b) (ρ:=ρ) (st:=st) (v:=plug j v id) hW).slots,Zjs _ _ _,λn hn _=>jA (by omega),λ_ h=>h,by simp[Uai],Zgk _ hno,λn hn=>hr n (by omega)⟩
 | app j len C0 T0=>
  have hno:st.h[id]?=some .no:=by
   simp only[cr]at hok;split at hok
   ·assumption
   ·cases hok
  have hjid:j≠some id:=λe=>by
   subst e;obtain⟨_,_,e2⟩:=happ _ _ _ _ rfl;rw[hno]at e2;cases e2
  have hl1:HLe st.h (spend j st.h):=by cases j with|none=>exact HLe.refl _|some k=>obtain⟨_,_,e2⟩:=happ _ _ _ _ rfl;exact Yj3 e2
  refine⟨(Zmy (b:=b) (ρ:=ρ) (st:=st) (v:=.a (.l id)) hW).slots,Zjs _ _ _,λn hn hd=> ?_,λ_ h=>List.mem_append_right _ h,by simp[Uai,bM],hl1.trans (Zgk _ (by rw[Zhd hjid];exact hno)),λn hn=>hr n (by omega)⟩;simp only[Uai]at hd|-
  rw[jA (by omega),Zhd λe=>hd (List.mem_append_left _ (by rw[e];simp))]
 |set m bb=>obtain rfl:=hr0 (λb e=>by cases e) (λ_ _ _ _ e=>by cases e) (λ_ _ _ _ e=>by cases e);have hkp:=hset m bb rfl;exact⟨(Zmy (b:=b) (ρ:=ρ') (st:=st) (v:=v) hW).slots,Zjs _ _ _,λn hn hd=>jA λe=>hd (by subst e;simp[Uai]),λ_ h=>jD _ h,by simp[Uai],hkp.hle,λ_ _=>rfl⟩
section
variable {P:QD} {Γ:Cons} {F:Fence} {n:Nat} {Q:Exit->Act->QB->Prop} {W0:QB} {n0:Nat} {D E:List Nat} {ρ0:Nat->Ad}
theorem RS.known{ρ:Nat->Ad}{st:St}{a:Act}{w:QB}(L:RS E P W0 n0 D ρ0 ρ st a w){d:Nat}{t t':Bool}(J:st.s[d]?=some (.a (.b t)))(O:t=t'):RS E P W0 n0 D ρ0 ρ { st with s:=st.s.set d (.a (.b t')) } a w:=by
 subst O;have:st.s.set d (.a (.b t))=st.s:=by
  refine List.ext_getElem? λi=> ?_
  have A:=(jC.1 J).1
  by_cases e:d=i
  ·subst e;rw[jB A,J]
  ·rw[jA e]
 rw[this];exact L
theorem RS.skip{ρ:Nat->Ad}{st:St}{a:Act}{w:QB}(A:RS E P W0 n0 D ρ0 ρ st a w)(dst:Option Tmp):RS E P W0 n0 D ρ0 ρ { st with s:=putS st.s dst (.a .u) } (a.put dst undef) w:=
 ⟨by rw[kW];exact(Zjs _ _ _).trans A.len,kV A.len A.slots rfl,A.heap,A.base,A.fresh,A.kept,A.own0,by rw[cB];exact A.defers,A.bound⟩
theorem RS.put{ρ:Nat->Ad}{st:St}{a:Act}{w:QB}(A:RS E P W0 n0 D ρ0 ρ st a w)(dst:Option Tmp){v:SV}{vv:QC}(J:IsV P ρ st.h v vv):RS E P W0 n0 D ρ0 ρ { st with s:=putS st.s dst v } (a.put dst vv) w:=
 ⟨by rw[kW];exact(Zjs _ _ _).trans A.len,kV A.len A.slots J,A.heap,A.base,A.fresh,A.kept,A.own0,by rw[cB];exact A.defers,A.bound⟩
theorem zF{h:List VB}:∀{l:List Nat},nU h l=true->∀n∈l,h[n]?=some .no
 |[],_,n,hn=>by cases hn
 | a::l,hl,n,hn=>by
  simp only[nU,Q7]at hl;rcases List.mem_cons.1 hn with rfl|hn
  ·have:=hl.1;split at this
   ·assumption
   ·cases this
  ·exact zF hl.2 n hn
theorem Yrr{β:Type}(id m:Nat):∀(j:Nat) (l:List β),(Ucw id m j l).length=l.length
 |_,[]=>rfl
 |j,_::r=>by simp[Ucw,Yrr id m (j+1) r]
theorem zG{β:Type}(id m:Nat):∀(j:Nat) (l:List β),∀n∈Ucw id m j l,id<=n
 |_,[],n,A=>by cases A
 |j,_::r,n,A=>by
  simp only[Ucw]at A;rcases List.mem_cons.1 A with rfl|A
  ·exact Nat.le_add_right _ _
  ·exact zG id m (j+1) r n A
theorem vO{id:Nat}{o:QN}{st:St}{α:Type}{K:St->Option α}{r:α}:∀{q:Way},lY id o st K q=some r->∃v e,Uak q=some (v,e,true)/\cr st.h id e=true/\K (Uai st id o.dst v e)=some r
 |.one none,h=>by cases h
 | .one (some (v,e,g)),h=>by
  simp only[lY]at h;cases g with
  |false=>cases h
  |true=>
   cases hn:cr st.h id e with
   |false=>rw[hn]at h;cases h
   |true=>rw[hn]at h;exact⟨v,e,rfl,hn,h⟩
 |.two t a b,h=>by
  simp only[lY]at h;cases t with|true=>exact vO (q:=a) h|false=>exact vO (q:=b) h
theorem pR{ops:Array QN}{j d:Nat}(L:jg ops j=some d){ρ:Nat->Ad}{st:St}{a:Act}{w:QB}(O:RS E P W0 n0 D ρ0 ρ st a w){t:Bool}(U:st.s[d]?=some (.a (.b t))):yielded ops a.tmps j=some t:=by
 have A:=O.slots d _ U;have J:d<a.tmps.size:=by rw[<- O.len];exact(jC.1 U).1
 have A:a.tmps.getD d undef=.bool t:=A;rw[jO,jI J]at A;unfold yielded;unfold jg at L;rw[L];simp only[Option.bind_some,jI J];simp only[jM]at A;rw[A]
theorem vP{ops:Array QN}{j d:Nat}(L:jg ops j=some d){ρ:Nat->Ad}{st:St}{a:Act}{w:QB}(O:RS E P W0 n0 D ρ0 ρ st a w)(U:st.s[d]?=some (.a .u)):yielded ops a.tmps j=none:=by
 have A:=O.slots d _ U;have J:d<a.tmps.size:=by rw[<- O.len];exact(jC.1 U).1
 have A:a.tmps.getD d undef=undef:=A;rw[jO,jI J]at A;unfold yielded;unfold jg at L;rw[L];simp only[Option.bind_some,jI J];simp only[jM]at A;rw[A];rfl
theorem getD_some{s:List SV}{d:Nat}{v:SV}(h:s.getD d (.a .x)=v)(A:v ≠ .a .x):s[d]?=some v:=by rw[jL]at h;cases J:s[d]? with|none=>rw[J]at h;exact absurd h.symm A|some u=>rw[J]at h;exact congrArg some h
theorem pS{W:List Nat}{b:Nat}{ρ:Nat->Ad}{st:St}{d:Nat}{t t':Bool}(J:st.s[d]?=some (.a (.b t)))(L:t=t'):Ext W b ρ ρ st { st with s:=st.s.set d (.a (.b t')) }:=by
 subst L;have:st.s.set d (.a (.b t))=st.s:=by
  refine List.ext_getElem? λi=> ?_
  have A:=(jC.1 J).1
  by_cases e:d=i
  ·subst e;rw[jB A,J]
  ·rw[jA e]
 rw[this];exact .refl _ _ _ _
theorem ij{o:QN}{r:List QN}:∀i,i∈(match o.dst with|some d=>[d]|none=>[]:List Nat)->i∈wrL (o::r):=λi hi=>List.mem_append_left _ hi
theorem vQ{o:QN}{r:List QN}:∀i,i∈wrL r->i∈wrL (o::r):=λi hi=>List.mem_append_right _ hi
end
end
section
def Ub6(acc:List Nat):List Edge->Nat
 |[]=>0
 |e::r=>bif Region.binds .any e then 2^e.on ||| (acc.getD e.on 0 ||| Ub6 acc r) else Ub6 acc r
def befs:List QN->List Nat->List Nat
 |[],acc=>acc
 |o::r,acc=>befs r (acc++[Ub6 acc o.after.toList])
def bef(bl:List Nat)(i k:Nat):Bool:=(bl.getD i 0).testBit k
def Ubr(bl:List Nat)(i k:Nat):Bool:= !bef bl i k&&(!bef bl k i && !Nat.beq i k)
abbrev ac:=Option Nat×SV×Eff
def Uaj(base:Nat)(B:Nat->Bool):List ac->Nat->St->St
 |[],_,st=>st
 |(d,v,e)::r,i,st=>Uaj base B r (i+1) (bif B i then Uai st (base+i) d v e else st)
def Ugo(h:List VB)(n:Nat):Bool:=match h[n]? with|some (.row _ _)=>true|some (.one _ _)=>true|_=>false
def jh(h:List VB)(n:Nat):Bool:=match h[n]? with|some (.gl _ _ _ _)=>true|_=>false
def kX(h:List VB):SA->Bool
 |.e n=>jh h n
 |.l n=>bK h n
 |.q n _ _=>bK h n
 |.p n _ _=>Ugo h n
 |.w n=>Ugo h n
 |.c _ ns=>ns.all (Ugo h)
 |.r _ _ ns=>ns.all (λq=>bK h q.2)
 |_=>true
def ji(h:List VB)(n:Nat):Bool:=match h[n]? with|some .sp=>true|_=>false
def nV(h:List VB):SA->Bool
 |.l n=>bK h n||ji h n
 |.r _ _ ns=>ns.all (λq=>bK h q.2)
 |.v _=>true
 |_=>false
def Ugk(h:List VB):VB->VB
 |.one y T=>bif nV h y then .one y T else .no
 |b=>b
def Uey(bl:List Nat)(base i:Nat):List QN->Nat->St->St
 |[],_,st=>st
 |o::r,k,st=>Uey bl base i r (k+1) (bif Ubr bl i k then { s:=putS st.s o.dst (.a .x),h:=st.h.set (base+k) .no,d:=st.d } else st)
def Ufa(h:List VB)(y:SA):SA:=bif kX h y then y else .x
def scrubV(h:List VB):SV->SV
 |.a y=>.a (Ufa h y)
 |.t l=>.t (l.map (Ufa h))
def Ubo(st:St):St:=let h:=st.h.map (Ugk st.h);{ s:=st.s.map (scrubV h),h:=h,d:=st.d }
def ik(o:QN):Bool:=match o.op with | .store _ _ _=>true|_=>false
def eQ(t:Nat):List QN->Nat->Option (Nat×Bool)
 |[],_=>none
 |p::r,k=>match p.dst with|some d=>bif Nat.beq d t then some (k,match p.op with | .alloc _=>true|_=>false) else eQ t r (k+1)|none=>eQ t r (k+1)
def vR(st0:St)(all:List QN)(base:Nat)(o:QN):Option Nat:=match o.op with
 | .store _ (.tmp t) _=>(match eQ t all 0 with
  |some (j,true)=>some (base+j)
  |some (_,false)=>none
  |none=>(match asA (st0.s.getD t (.a .x)) with
   |.w m=>some m
   |.p m _ _=>some m
   |_=>none))
 |_=>none
def hidL (st0:St) (all:List QN) (base:Nat) (bl:List Nat) (i:Nat):List QN→Nat→Option (List Nat)
 |[],_=>some []
 | o::r,k=>bif Ubr bl i k&&ik o then (match vR st0 all base o with
   |some m=>(match hidL st0 all base bl i r (k+1) with
    |some l=>some (m::l)
    |none=>none)
   |none=>none) else hidL st0 all base bl i r (k+1)
def eT:Option (List Nat)->Nat->Bool
 |none,_=>true
 |some l,m=>Uan m l
def cF(H:Option (List Nat)):Eff->Bool
 |.set m _=>eT H m
 |.app (some m) _ _ _=>eT H m
 |_=>match H with|none=>true|some _=>false
def hideL:List Nat->List VB->List VB
 |[],h=>h
 |m::l,h=>hideL l (h.set m .no)
theorem zH:∀(l:List Nat) {h:List VB} {m:Nat} {b:VB},(hideL l h)[m]?=some b->b=.no\/(h[m]?=some b/\Uan m l=false)
 |[],h,m,b,e=>.inr ⟨e,rfl⟩
 | x::l,h,m,b,e=>by
  rcases zH l e with h1 | ⟨h1,h2⟩
  ·exact .inl h1
  ·by_cases hx:x=m
   ·subst hx;rw[jB (by have:=(jC.1 h1).1;simpa using this)]at h1;cases h1;exact .inl rfl
   ·rw[jA hx]at h1;refine .inr ⟨h1,?_⟩;cases hm:Uan m (x::l) with
    |false=>rfl
    |true=>
     rcases List.mem_cons.1 (cm.1 hm) with h|h
     ·exact absurd h.symm hx
     ·rw[cm.2 h]at h2;cases h2
def kY:VB->VB
 |.gl g t a x=>.gl g t a x
 |_=>.no
def hide(h0:List VB)(H:Option (List Nat))(st:St):St:=match H with|none=>{ s:=st.s,h:=h0.map kY,d:=st.d }|some l=>{ s:=st.s,h:=hideL l st.h,d:=st.d }
def Ud6(st0:St)(bl:List Nat)(base i:Nat)(l:List QN)(st:St):St:=Ubo (hide st0.h (hidL st0 l base bl i l 0) (Uey bl base i l 0 st))
def isSet:Eff->Bool
 |.set _ _=>true
 |.app _ _ _ _=>true
 |_=>false
def isNone:Eff->Bool
 |.none=>true
 |_=>false
def Uc3(e A:Eff):Bool:=(!isSet e && !isSet A)||((isNone e&&isSet A)||(isSet e&&isNone A))
def pT(bl:List Nat)(base i:Nat):Eff->Bool
 |.set m _=>Nat.blt m base||bef bl i (m - base)
 |.app (some m) _ _ _=>Nat.blt m base||bef bl i (m - base)
 |_=>true
def seenB(bl:List Nat)(base i:Nat):Eff->Bool
 |.set _ _=>true
 |.app (some m) _ _ _=> !(Nat.ble base m&&(Nat.blt (m - base) bl.length&&Ubr bl i (m - base)))
 |.app none _ _ _=>true
 |_=>false
def fD:Option Nat->Option Nat->Bool
 |some d,some A=> !Nat.beq d A
 |_,_=>true
def lZ(bl:List Nat)(base:Nat)(hid:Option (List Nat))(i:Nat)(x:ac):List ac->Nat->Bool
 |[],_=>true
 |y::r,k=>(Nat.beq i k||fD x.1 y.1)&&(!Ubr bl i k||(Uc3 x.2.2 y.2.2&&(!seenB bl base i y.2.2||cF hid y.2.2)))&&lZ bl base hid i x r (k+1)
def cf(st0:St)(bl:List Nat)(base:Nat)(all:List QN)(tr:List ac):List ac->Nat->Bool
 |[],_=>true
 |x::r,i=>lZ bl base (hidL st0 all base bl i all 0) i x tr 0&&pT bl base i x.2.2&&cf st0 bl base all tr r (i+1)
def il:List QN->Nat->Bool
 |[],_=>true
 |o::r,i=>(o.after.toList.all λe=> !Region.binds .any e||Nat.blt e.on i)&&il r (i+1)
def jj (P:QD) (Γ:Cons) (all:List QN) (bl:List Nat) (base:Nat) (st0:St) {α:Type} (K:St→Option α):List QN→Nat→List ac→Option α
  |[],_,tr=>bif cf st0 bl base all tr tr 0 then K (Uaj base (λ_=>true) tr 0 st0) else none
  | o::r,i,tr=>
    let run:=λ(tr:List ac)=>
      let st:=Ud6 st0 bl base i all (Uaj base (bef bl i) tr 0 st0)
      match aH P Γ (evO st.s) st.h o with|some (v,e,g)=>bif g then (bif cr st.h (base+i) e then jj P Γ all bl base st0 K r (i+1) (tr++[(o.dst,v,e)]) else none) else none|none=>none
    let skip:=λ(tr:List ac)=>jj P Γ all bl base st0 K r (i+1) (tr++[(o.dst,.a .u,.none)])
    match o.guard with
    |none=>run tr
    | some (j,want)=>bif bef bl i j then
       (match tr[j]? with
       |some (some d,.a (.b t),.none)=>bif Nat.blt d st0.s.length then
            (bif t then (bif want then run (tr.set j (some d,.a (.b true),.none)) else skip (tr.set j (some d,.a (.b true),.none))) else (bif want then skip (tr.set j (some d,.a (.b false),.none)) else run (tr.set j (some d,.a (.b false),.none)))) else none
       |some (some d,.a .u,.none)=>bif Nat.blt d st0.s.length then skip tr else none
       |_=>none) else none
theorem vS(acc:List Nat)(k:Nat):∀(es:List Edge),(Ub6 acc es).testBit k=true->∃e∈es,Region.binds .any e=true/\(k=e.on\/(acc.getD e.on 0).testBit k=true)
 |[],h=>by simp[Ub6]at h
 | e::r,h=>by
  simp only[Ub6]at h;cases hb:Region.binds .any e with
  |false=>rw[hb]at h;obtain⟨e',h1,h2⟩:=vS acc k r h;exact⟨e',jD _ h1,h2⟩
  | true=>
   rw[hb]at h;simp only[Q1,Nat.testBit_or,Bool.or_eq_true]at h;rcases h with h|h|h
   ·rw[Nat.testBit_two_pow]at h;exact⟨e,jF ..,hb,.inl (of_decide_eq_true h).symm⟩
   ·exact⟨e,jF ..,hb,.inr h⟩
   ·obtain⟨e',h1,h2⟩:=vS acc k r h;exact⟨e',jD _ h1,h2⟩
theorem vT:∀(l:List QN) (acc:List Nat),∃m,befs l acc=acc++m/\m.length=l.length
 |[],acc=>⟨[],by simp[befs],rfl⟩
 |o::r,acc=>by
  obtain⟨m,A,hl⟩:=vT r (acc++[Ub6 acc o.after.toList]);exact⟨Ub6 acc o.after.toList::m,by rw[befs,A];simp,by simp[hl]⟩
theorem zI:∀(l:List QN) (acc:List Nat) (i:Nat) (o:QN),l[i]?=some o->(befs l acc)[acc.length+i]?=some (Ub6 ((befs l acc).take (acc.length+i)) o.after.toList)
 |[],acc,i,o,h=>by simp at h
 |o::r,acc,0,A,h=>by
  simp only[jE,Q8]at h;subst h;obtain⟨m,J,_⟩:=vT r (acc++[Ub6 acc o.after.toList]);rw[befs,J];simp
 |o::r,acc,i+1,A,h=>by
  simp only[jP]at h;have:=zI r (acc++[Ub6 acc o.after.toList]) i A h;rw[befs];rw[show acc.length+(i+1)=(acc++[Ub6 acc o.after.toList]).length+i by simp;omega];exact this
theorem vU{ops:Array QN}{i k:Nat}{o:QN}(ho:ops[i]?=some o)(O:∀e∈o.after.toList,Region.binds .any e=true->e.on<i)(h:bef (befs ops.toList []) i k=true):
  ∃e∈o.after.toList,Region.binds .any e=true/\(k=e.on\/bef (befs ops.toList []) e.on k=true):=by
 have A:=zI ops.toList [] i o (by simpa using ho);simp only[List.length_nil,Nat.zero_add]at A;unfold bef at h;rw[jL,A,jM]at h;obtain⟨e,J,h2,U⟩:=vS _ k _ h;refine⟨e,J,h2,U.imp id λL=> ?_⟩;unfold bef;rw[jL,List.getElem?_take,if_pos (O e J h2),<- jL]at L;exact L
theorem nW:∀(l:List QN) (q:Nat),il l q=true->∀(i:Nat) (o:QN),l[i]?=some o->(∀e∈o.after.toList,Region.binds .any e=true->e.on<q+i)
 |[],q,_,i,o,ho=>by simp at ho
 |x::r,q,h,0,o,ho=>by
  simp only[jE,Q8]at ho;subst ho;simp only[il,Q7,jN]at h;intro e A J;have:=h.1 e A;rw[J]at this;simp[Nat.blt]at this;omega
 |x::r,q,h,i+1,o,ho=>by
  simp only[jP]at ho;simp only[il,Q7]at h;have:=nW r (q+1) h.2 i o ho;rw[show q+(i+1)=q+1+i by omega];exact this
theorem vV{ops:Array QN}(J:il ops.toList 0=true):∀(i k:Nat),i<ops.size->bef (befs ops.toList []) i k=true->k<i:=by
 intro i
 induction i using Nat.strongRecOn with
 | _ i L=>
  intro k hi h;have ho:ops[i]?=some ops[i]:=jI hi;have A:=nW _ _ J i ops[i] (by simp[hi]);rw[Nat.zero_add]at A;obtain⟨e,O,U,hk⟩:=vU ho A h;have:=A e O U;rcases hk with rfl|hk
  ·exact this
  ·have:=L e.on this k (by omega) hk;omega
theorem Yoe:∀(bl:List Nat) (base:Nat) (hid:Option (List Nat)) (i:Nat) (x:ac) (l:List ac) (q:Nat),lZ bl base hid i x l q=true->∀(k:Nat) (y:ac),l[k]?=some y->(i≠q+k->fD x.1 y.1=true)/\(Ubr bl i (q+k)=true->Uc3 x.2.2 y.2.2=true/\(seenB bl base i y.2.2=false\/cF hid y.2.2=true))
 |bl,base,hid,i,x,[],q,_,k,y,hk=>by simp at hk
 |bl,base,hid,i,x,z::r,q,h,0,y,hk=>by
  simp only[jE,Q8]at hk;subst hk;simp only[lZ,Q7,Bool.or_eq_true,Bool.not_eq_true']at h;rw[Nat.add_zero];refine⟨λA=>h.1.1.resolve_left λJ=>A (jQ J),λhi=> ?_⟩;have:=h.1.2;rw[hi]at this
  simpa using this
 |bl,base,hid,i,x,z::r,q,h,k+1,y,hk=>by
  simp only[jP]at hk;simp only[lZ,Q7]at h;have:=Yoe bl base hid i x r (q+1) h.2 k y hk;rw[show q+1+k=q+(k+1) by omega]at this;exact this
theorem zJ:∀(st0:St) (bl:List Nat) (base:Nat) (all:List QN) (tr l:List ac) (q:Nat),cf st0 bl base all tr l q=true->∀(i:Nat) (x:ac),l[i]?=some x->lZ bl base (hidL st0 all base bl (q+i) all 0) (q+i) x tr 0=true/\pT bl base (q+i) x.2.2=true
 |st0,bl,base,all,tr,[],q,_,i,x,hi=>by simp at hi
 |st0,bl,base,all,tr,z::r,q,h,0,x,hi=>by
  simp only[jE,Q8]at hi;subst hi;simp only[cf,Q7]at h;exact h.1
 |st0,bl,base,all,tr,z::r,q,h,i+1,x,hi=>by
  simp only[jP]at hi;simp only[cf,Q7]at h;rw[show q+(i+1)=q+1+i by omega];exact zJ st0 bl base all tr r (q+1) h.2 i x hi
structure Less (M S:St):Prop where
 slots:∀(t:Nat) (v:SV),M.s[t]?=some v->v=.a .x\/S.s[t]?=some v
 heap:∀(n:Nat) (b:VB),M.h[n]?=some b->b=.no\/S.h[n]?=some b
theorem vW{M S:St}(h:Less M S):∀(n:Nat) (b:VB),(Ubo M).h[n]?=some b->b=.no\/S.h[n]?=some b:=by
 ·intro n b hb;simp only[Ubo,jJ]at hb;cases hn:M.h[n]? with
  |none=>simp[hn]at hb
  | some c=>
   simp only[hn,jG,Q8]at hb;subst hb;rcases h.heap n c hn with rfl|hc
   ·exact .inl rfl
   ·cases c with
    |one y T=>simp only[Ugk];cases nV M.h y with|true=>exact .inr hc|false=>exact .inl rfl
    |no=>exact .inl rfl
    |row C T=>exact .inr hc
    |sl a len C T=>exact .inr hc
    |sp=>exact .inr hc
    |gl g t a x=>exact .inr hc
section
variable {P:QD} {Γ:Cons} {F:Fence} {n:Nat} {Q:Exit->Act->QB->Prop} {W0:QB} {n0:Nat} {D E:List Nat} {ρ0:Nat->Ad}
theorem zK{h:List VB}{n:Nat}(A:bK h n=true):∃a len C e,h[n]?=some (.sl a len C e):=by
 unfold bK at A;split at A
 ·exact⟨_,_,_,_,by assumption⟩
 ·cases A
theorem Ymb{h:List VB}{n:Nat}(A:Ugo h n=true):there h n/\((∃C t,h[n]?=some (.row C t))\/∃y t,h[n]?=some (.one y t)):=by
 unfold Ugo at A;split at A
 ·rename_i C t e;exact⟨.row e,.inl ⟨_,_,e⟩⟩
 ·rename_i y t e;exact⟨.one e,.inr ⟨_,_,e⟩⟩
 ·cases A
theorem IsL.less{ρ:Nat->Ad}{h J:List VB}(hl:∀(n:Nat) (b:VB),h[n]?=some b->b=.no\/J[n]?=some b){n:Nat}{v:QC}(hi:IsL P ρ J n v)(O:bK h n=true):IsL P ρ h n v:=by
 obtain⟨a',len',C',e',L⟩:=zK O;rcases hl n _ L with A|A
 ·cases A
 ·obtain⟨ad,cap,U,V,Z⟩:=Is.l_of (P:=P) hi A;exact .inr ⟨_,_,_,_,ad,cap,L,U,V,Z⟩
theorem Ybt:∀{ns:List (Nat×Nat)} {i m:Nat},Uaz ns i=some m->(i,m)∈ns
 |[],_,_,h=>by cases h
 |(j,n)::r,i,m,h=>by
  simp only[Uaz]at h;cases A:Nat.beq j i with
  |true=>rw[A]at h;cases h;rw[jQ A];exact jF ..
  |false=>rw[A]at h;exact jD _ (Ybt h)
theorem RowR.less{ρ:Nat->Ad}{h hs:List VB}(hl:∀(n:Nat) (b:VB),h[n]?=some b->b=.no\/hs[n]?=some b){D D':QA}{ns:List (Nat×Nat)}(hi:RowR P ρ hs D ns D')(hr:ns.all (λq=>bK h q.2)=true):RowR P ρ h D ns D':=
 ⟨hi.size,hi.same,fun i m hm=>by
  obtain⟨h1,ad,l,c,h2,h3⟩:=hi.refs i m hm;rw[jN]at hr;exact⟨h1,ad,l,c,h2,h3.less hl (hr (i,m) (Ybt hm))⟩,hi.uniq⟩
theorem Is.less{ρ:Nat->Ad}{h hs:List VB}(hl:∀(n:Nat) (b:VB),h[n]?=some b->b=.no\/hs[n]?=some b){y:SA}{v:QC}(hi:Is P ρ hs y v)(hr:kX h y=true):Is P ρ h y v:=by
 have pres:∀n,Ugo h n=true->there h n:=λn hb=>(Ymb hb).1
 cases y with
 |i k n=>exact hi
 |b t=>exact hi
 |s t=>exact hi
 |g D T=>exact hi
 |v y=>exact hi
 |u=>exact hi
 |x=>trivial
 | e n=>
  obtain⟨g,t,a,x,h1,h2⟩:=hi;simp only[kX,jh]at hr;split at hr
  ·rename_i g' t' a' x' h5;rcases hl n _ h5 with h6|h6
   ·cases h6
   ·rw[h1]at h6;cases h6;exact⟨_,_,_,_,h5,h2⟩
  ·cases hr
 |w n=>exact⟨hi.1,pres n hr⟩
 | p n o T=>
  obtain⟨h1,h2,t,h3,h4⟩:=hi;refine⟨h1,h2,t,?_,h4⟩;rcases(Ymb hr).2 with ⟨C',t',h5⟩ | ⟨y',t',h5⟩
  ·rcases hl n _ h5 with h6|h6
   ·cases h6
   ·rcases h3 with ⟨C,h3⟩ | ⟨y,h3⟩<;>(rw[h3]at h6;cases h6)
    exact .inl ⟨_,h5⟩
  ·rcases hl n _ h5 with h6|h6
   ·cases h6
   ·rcases h3 with ⟨C,h3⟩ | ⟨y,h3⟩<;>(rw[h3]at h6;cases h6)
    exact .inr ⟨_,h5⟩
 |r D T ns=>obtain⟨D',h1,h2,h3⟩:=hi;exact⟨D',h1,h2,h3.less hl hr⟩
 |c f ns=>exact⟨hi.1,λn hn=>pres n (by simp only[kX,jN]at hr;exact hr n hn)⟩
 | l n=>
  obtain⟨a',len',C',e',h5⟩:=pO hr;rcases hl n _ h5 with h6|h6
  ·cases h6
  ·obtain⟨ad,cap,h7,h8,h9⟩:=Is.l_of hi h6;exact .inr ⟨_,_,_,_,ad,cap,h5,h7,h8,h9⟩
 | q n o T=>
  obtain⟨a',len',C',e',h5⟩:=pO hr;rcases hl n _ h5 with h6|h6
  ·cases h6
  ·rcases hi with hi | ⟨a,len,C,e,g,b,k,q,h3,h4⟩
   ·rw[hi]at h6;cases h6
   ·rw[h3]at h6;cases h6;exact .inr ⟨_,_,_,_,g,b,k,q,h5,h4⟩
theorem eU {ρ:Nat→Ad} {M S:St} {a:Act} {w:QB} (hL:Less M S) (hR:RS E P W0 n0 D ρ0 ρ S a w) :
  (∀(i:Nat) (v:SV),(Ubo M).s[i]?=some v->IsV P ρ (Ubo M).h v (a.tmps.getD i undef))/\HIs P ρ (Ubo M).h w/\HLe (Ubo M).h S.h:=by
 have hL2:=vW hL;have up:∀n,present (Ubo M).h n->present S.h n:=λn hp=>by
  cases hp with
  |row e=>rcases hL2 n _ e with h|h;cases h;exact .row h
  |one e=>rcases hL2 n _ e with h|h;cases h;exact .one h
  |own e hk h0=>rcases hL2 n _ e with h|h;cases h;exact .own h hk h0
 refine⟨λi v hv=> ?_,⟨λm b hb=> ?_,λm q hp hq=> ?_,λn b k h1 h2 m hp=> ?_⟩,λm=>⟨λC t e=> ?_,λy t e=> ?_,λa len C t e=>.inl ?_,λe=> ?_,λg t a x e=> ?_⟩⟩
 ·simp only[Ubo,jJ]at hv;cases ht:M.s[i]? with
  |none=>simp[ht]at hv
  | some u=>
   simp only[ht,jG,Q8]at hv;subst hv;have one:∀(y:SA) (v:QC),(y=.x\/Is P ρ S.h y v)->Is P ρ (Ubo M).h (Ufa (Ubo M).h y) v:=λy v hy=>by
    unfold Ufa;cases hr:kX (Ubo M).h y with
    |false=>trivial
    |true=>
     rcases hy with rfl|hy
     ·trivial
     ·exact hy.less hL2 hr
   rcases hL.slots i u ht with rfl|hs
   ·show Is P ρ (Ubo M).h (Ufa (Ubo M).h .x) (a.tmps.getD i undef)
    exact one .x (a.tmps.getD i undef) (.inl rfl)
   ·have hi:=hR.slots i u hs;cases u with
    |a y=>exact one y _ (.inr hi)
    | t l=>
     obtain⟨vs,h1,h2,h3⟩:=hi;refine⟨vs,h1,by rw[List.length_map];exact h2,λj y v hy hv=> ?_⟩;rw[jJ]at hy;cases hl:l[j]? with
     |none=>rw[hl]at hy;cases hy
     |some z=>rw[hl]at hy;cases hy;exact one z v (.inr (h3 j z v hl hv))
 ·rcases hL2 m b hb with rfl | hs
  ·trivial
  ·have:=hR.heap.is m b hs;cases b with
   |no=>trivial
   |row C t=>exact this
   | one y t=>
    obtain⟨v,hv,hg⟩:=this
    suffices hq:kX (Ubo M).h y=true\/∃k,y=.l k/\(Ubo M).h[k]?=some .sp by
     rcases hq with hq | ⟨k,rfl,hk⟩
     ·exact⟨v,hv.less hL2 hq,hg⟩
     ·exact⟨v,.inl hk,by exact hg⟩
    simp only[Ubo,jJ]at hb;cases hn:M.h[m]? with
    |none=>simp[hn]at hb
    | some c=>
     simp only[hn,jG,Q8]at hb;cases c with
     | one y' t'=>
      simp only[Ugk]at hb;cases hro:nV M.h y' with
      |false=>rw[hro]at hb;cases hb
      | true=>
       rw[hro]at hb;cases hb;have kp:∀k,bK M.h k=true->bK (Ubo M).h k=true:=λk hk=>by
        obtain⟨a',l',C',e',h5⟩:=zK hk;unfold bK;simp only[Ubo,jJ,h5,jG,Ugk]
       cases y with
       | l k=>
        simp only[nV,Bool.or_eq_true]at hro;rcases hro with hro|hro
        ·exact .inl (kp k hro)
        ·refine .inr ⟨k,rfl,?_⟩;unfold ji at hro;split at hro
         ·rename_i h5;simp only[Ubo,jJ,h5,jG,Ugk]
         ·cases hro
       |r D T ns=>simp only[nV,jN]at hro;refine .inl ?_;simp only[kX,jN];exact λq hq=>kp _ (hro q hq)
       |v y=>exact .inl rfl
       |_=>cases hro
     |_=>simp[Ugk]at hb
   |sl a len C t=>exact this
   |sp=>trivial
   |gl g t a x=>exact this
 ·exact hR.heap.inj m q (up m hp) (up q hq)
 ·rcases hL2 n _ h1 with rfl|h
  ·exact h2.elim
  ·exact hR.heap.far n b k h h2 m (up m hp)
 ·rcases hL2 m _ e with h|h
  ·cases h
  ·exact⟨C,h⟩
 ·rcases hL2 m _ e with h|h
  ·cases h
  ·exact⟨y,h⟩
 ·rcases hL2 m _ e with h|h
  ·cases h
  ·exact⟨C,h⟩
 ·rcases hL2 m _ e with h|h
  ·cases h
  ·exact h
 ·rcases hL2 m _ e with h|h
  ·cases h
  ·exact h
theorem Ub2.less{M S:St}(L:Less M S){m:Nat}{b:VB}(hk:Ub2 (Ubo M).h m b):Ub2 S.h m b:=by
 have A:=vW L;rcases hk with ⟨C,t,D,e,J⟩ | ⟨k,len,C,t,D,O,e,J,h0⟩ | ⟨y,t,U,e,J⟩
 ·rcases A m _ e with h|h
  ·cases h
  ·exact .inl ⟨C,t,D,h,J⟩
 ·rcases A m _ e with h|h
  ·cases h
  ·exact .inr (.inl ⟨k,len,C,t,D,O,h,J,h0⟩)
 ·rcases A m _ e with h|h
  ·cases h
  ·exact .inr (.inr ⟨y,t,U,h,J⟩)
theorem Ua4.app_less{ρ:Nat->Ad}{M S:St}(U:Less M S)(hle:HLe (Ubo M).h S.h){w w':QB}{v:SV}{k:Option Nat}{len:Nat}{C:QA}{t:QE}{vv:QC}(V:Ua4 P ρ (Ubo M).h w v (.app k len C t) vv w'):Ua4 P ρ S.h w v (.app k len C t) vv w':=by
 have A:=vW U;have up:∀n,present (Ubo M).h n->present S.h n:=λn Z=>by
  cases Z with
  |row e=>rcases A n _ e with h|h;cases h;exact .row h
  |one e=>rcases A n _ e with h|h;cases h;exact .one h
  |own e hk h0=>rcases A n _ e with h|h;cases h;exact .own h hk h0
 obtain⟨g,ad,cap,h1,h2,h3,h4,h5,h6,h7⟩:=V;refine⟨g,ad,cap,h1,h2,h3,h4.mono hle λ_ _=>rfl,h5.mono λb _ ⟨j,J,L,O⟩=>⟨j,J,up j L,O⟩,λh0=>(h6 h0).imp_right λ⟨j,J,L,O⟩=>⟨j,J,up j L,O⟩,λj hj=> ?_⟩;obtain⟨l0,c0,e⟩:=h7 j hj;rcases A j _ e with h|h
 ·cases h
 ·exact⟨l0,c0,h⟩
theorem nY(st:St)(id:Nat)(d:Option Tmp)(v:SV)(e:Eff):(Uai st id d v e).s.length=st.s.length:=by cases e<;>exact Zjs _ _ _
theorem pU(st:St)(id:Nat)(d:Option Tmp)(v:SV)(e:Eff):(Uai st id d v e).h.length=st.h.length:=by cases e<;>simp[Uai,bM]
theorem zL(base:Nat)(B:Nat->Bool):∀(l:List ac) (q:Nat) (st:St),(Uaj base B l q st).s.length=st.s.length/\(Uaj base B l q st).h.length=st.h.length
 |[],q,st=>⟨rfl,rfl⟩
 |(d,v,e)::r,q,st=>by
  simp only[Uaj];obtain⟨A,h2⟩:=zL base B r (q+1) (bif B q then Uai st (base+q) d v e else st);rw[A,h2];cases B q<;>simp[nY,pU]
theorem pW(base:Nat){B B':Nat->Bool}:∀(l:List ac) (q:Nat) (st:St),(∀k,q<=k->k<q+l.length->B k=B' k)->Uaj base B l q st=Uaj base B' l q st
 |[],q,st,_=>rfl
 |(d,v,e)::r,q,st,h=>by
  simp only[Uaj];rw[h q (Nat.le_refl _) (by simp)];exact pW base r (q+1) _ λk A h2=>h k (by omega) (by simp;omega)
theorem Zt8(base:Nat){B:Nat->Bool}:∀(l:List ac) (q:Nat) (st:St),(∀k,q<=k->B k=false)->Uaj base B l q st=st
 |[],q,st,_=>rfl
 |(d,v,e)::r,q,st,h=>by
  simp only[Uaj];rw[h q (Nat.le_refl _)];exact Zt8 base r (q+1) _ λk A=>h k (by omega)
theorem zM(base:Nat){B:Nat->Bool}{i:Nat}(A:∀k,B k=true->k<i):∀(l:List ac) (q:Nat) (st:St),Uaj base B (l.take (i - q)) q st=Uaj base B l q st
 |[],q,st=>by simp
 | (d,v,e)::r,q,st=>by
  by_cases L:q<i
  ·rw[show i - q=(i - (q+1))+1 by omega,List.take_succ_cons];simp only[Uaj];exact zM base A r (q+1) _
  ·rw[show i - q=0 by omega,List.take_zero];refine(Zt8 base _ q st λk hk=> ?_).symm;cases J:B k with|false=>rfl|true=>have:=A k J;omega
theorem zN(bl:List Nat)(base i:Nat){t:Nat}:∀(l:List QN) (k:Nat) (st:St) (v:SV),(Uey bl base i l k st).s[t]?=some v ->
  v=.a .x\/(st.s[t]?=some v/\∀(j:Nat) (o:QN),l[j]?=some o->Ubr bl i (k+j)=true->o.dst≠some t)
 |[],k,st,v,h=>.inr ⟨h,λj o ho=>by simp at ho⟩
 | o::r,k,st,v,h=>by
  simp only[Uey]at h;rcases zN bl base i r (k+1) _ v h with h | ⟨h,hall⟩
  ·exact .inl h
  ·cases hc:Ubr bl i k with
   |false=>
    rw[hc]at h;refine .inr ⟨h,λj o' ho' hi=> ?_⟩;cases j with
    |zero=>rw[Nat.add_zero,hc]at hi;cases hi
    |succ j=>exact hall j o' (by simpa using ho') (by rw[show k+1+j=k+(j+1) by omega];exact hi)
   | true=>
    rw[hc]at h;simp only[Q1]at h
    by_cases hd:o.dst=some t
    ·rw[hd]at h;simp only[putS]at h;have hlt:=(jC.1 h).1;rw[jB (by simpa using hlt)]at h;cases h;exact .inl rfl
    ·have h':st.s[t]?=some v:=by
      cases hdd:o.dst with|none=>rw[hdd]at h;exact h|some d=>rw[hdd]at h;simp only[putS]at h;rw[jA (by rintro rfl;exact hd hdd)]at h;exact h
     refine .inr ⟨h',λj o' ho' hi=> ?_⟩;cases j with|zero=>simp only[jE,Q8]at ho';subst ho';exact hd|succ j=>exact hall j o' (by simpa using ho') (by rw[show k+1+j=k+(j+1) by omega];exact hi)
theorem zO(bl:List Nat)(base i:Nat){m:Nat}:∀(l:List QN) (k:Nat) (st:St) (b:VB),(Uey bl base i l k st).h[m]?=some b ->
  b=.no\/(st.h[m]?=some b/\∀(j:Nat),j<l.length->Ubr bl i (k+j)=true->m≠base+(k+j))
 |[],k,st,b,h=>.inr ⟨h,λj hj=>by simp at hj⟩
 | o::r,k,st,b,h=>by
  simp only[Uey]at h;rcases zO bl base i r (k+1) _ b h with h | ⟨h,hall⟩
  ·exact .inl h
  ·cases hc:Ubr bl i k with
   |false=>
    rw[hc]at h;refine .inr ⟨h,λj hj hi=> ?_⟩;cases j with
    |zero=>rw[Nat.add_zero,hc]at hi;cases hi
    |succ j=>rw[show k+(j+1)=k+1+j by omega]at hi |-;exact hall j (by simpa using hj) hi
   | true=>
    rw[hc]at h;simp only[Q1]at h
    by_cases hd:m=base+k
    ·subst hd;have hlt:=(jC.1 h).1;rw[jB (by simpa using hlt)]at h;cases h;exact .inl rfl
    ·rw[jA (by omega)]at h;refine .inr ⟨h,λj hj hi=> ?_⟩;cases j with|zero=>exact hd|succ j=>rw[show k+(j+1)=k+1+j by omega]at hi |-;exact hall j (by simpa using hj) hi
structure Agree (hid:Option (List Nat)) (N base:Nat) (dst:Nat->Option Nat) (I:Nat->Bool) (M S:St):Prop where
 slen:M.s.length=S.s.length
 hlen:M.h.length=S.h.length
 slots:∀(t:Nat),(∀k,k<N->I k=true->dst k≠some t)->M.s[t]?=S.s[t]?
 heap:∀(m:Nat),eT hid m=false->(∀k,k<N->I k=true->m≠base+k)->M.h[m]?=S.h[m]?
theorem ma{α:Type}{l l':List α}(hl:l.length=l'.length){i j:Nat}(v:α)(h:l[j]?=l'[j]?):(l.set i v)[j]?=(l'.set i v)[j]?:=by
 by_cases e:i=j
 ·subst e
  by_cases hi:i<l.length
  ·rw[jB hi,jB (by omega)]
  ·rw[List.getElem?_eq_none (by simp;omega),List.getElem?_eq_none (by simp;omega)]
 ·rw[jA e,jA e,h]
theorem KS{s s':List SV}(hl:s.length=s'.length){d:Option Nat}(v:SV){t:Nat}(h:s[t]?=s'[t]?):(putS s d v)[t]?=(putS s' d v)[t]?:=by cases d with|none=>exact h|some d=>exact ma hl v h
theorem Agree.both{hid:Option (List Nat)}{N base:Nat}{dst:Nat->Option Nat}{I:Nat->Bool}{M S:St}(h:Agree hid N base dst I M S)(id:Nat)(d:Option Nat)(v:SV)(e:Eff):Agree hid N base dst I (Uai M id d v e) (Uai S id d v e):=by
 refine⟨by rw[nY,nY,h.slen],by rw[pU,pU,h.hlen],λt J=> ?_,λm hh A=> ?_⟩
 ·cases e<;>exact KS h.slen _ (h.slots t J)
 ·cases e with
  |none=>exact h.heap m hh A
  |new b=>exact ma h.hlen _ (h.heap m hh A)
  |newS _ _ _ _=>exact ma h.hlen _ (h.heap m hh A)
  |app k _ _ _=>refine ma (by rw[bM,bM,h.hlen]) _ ?_;cases k with|none=>exact h.heap m hh A|some k=>exact ma h.hlen _ (h.heap m hh A)
  |set q b=>exact ma h.hlen _ (h.heap m hh A)
def Aside(N base:Nat)(I:Nat->Bool)(e:Eff):Prop:=(∀m b,e ≠ .set m b)/\∀k len C t,e=.app k len C t->∃m,k=some m/\base<=m/\m - base<N/\I (m - base)=true
theorem KT{bl:List Nat}{base i:Nat}{e:Eff}(h:seenB bl base i e=false):Aside bl.length base (Ubr bl i) e:=by
 constructor
 ·intro m b A;rw[A]at h;cases h
 ·intro k len C t A;rw[A]at h;cases k with
  |none=>cases h
  |some m=>simp only[seenB,Bool.not_eq_false',Q7]at h;exact⟨m,rfl,Nat.le_of_ble_eq_true h.1,Nat.le_of_ble_eq_true h.2.1,h.2.2⟩
theorem Agree.one{hid:Option (List Nat)}{N base:Nat}{dst:Nat->Option Nat}{I:Nat->Bool}{M S:St}(h:Agree hid N base dst I M S){q:Nat}(hq:q<N)(hI:I q=true){v:SV}{e:Eff}(he:Aside N base I e\/cF hid e=true):Agree hid N base dst I M (Uai S (base+q) (dst q) v e):=by
 have hput:∀(u:SV) (t:Nat),(∀k,k<N->I k=true->dst k≠some t)->(putS S.s (dst q) u)[t]?=S.s[t]?:=λu t ht=>by
  have:=ht q hq hI;cases hd:dst q with|none=>rfl|some d=>exact jA λe'=>this (by rw[hd,e'])
 refine⟨by rw[nY,h.slen],by rw[pU,h.hlen],λt ht=> ?_,λm hh hm=> ?_⟩
 ·cases e with|none=>exact(h.slots t ht).trans (hput _ t ht).symm|new b=>exact(h.slots t ht).trans (hput _ t ht).symm|newS _ _ _ _=>exact(h.slots t ht).trans (hput _ t ht).symm|app _ _ _ _=>exact(h.slots t ht).trans (hput _ t ht).symm|set m b=>exact(h.slots t ht).trans (hput _ t ht).symm
 ·cases e with
  |none=>exact h.heap m hh hm
  |new b=>exact(h.heap m hh hm).trans (jA λe'=>hm q hq hI e'.symm).symm
  |newS _ _ _ _=>exact(h.heap m hh hm).trans (jA λe'=>hm q hq hI e'.symm).symm
  | app k _ _ _=>
   rcases he with he|he
   ·obtain⟨m',rfl,h1,h2,h3⟩:=he.2 _ _ _ _ rfl;have hne:m≠m':=by
     have:=hm (m' - base) h2 h3;omega
    refine(h.heap m hh hm).trans ?_;refine Eq.symm ((jA λe'=>hm q hq hI e'.symm).trans ?_);exact Zhd λe'=>by cases e';exact hne rfl
   ·cases k with
    |none=>cases hid with
     |none=>cases hh
     |some l=>cases he
    |some m'=>
     have hne:m≠m':=λe'=>by subst e';rw[show cF hid (.app (some m) _ _ _)=eT hid m from rfl,hh]at he;cases he
     refine(h.heap m hh hm).trans ?_;refine Eq.symm ((jA λe'=>hm q hq hI e'.symm).trans ?_);exact Zhd λe'=>by cases e';exact hne rfl
  | set m' b=>
   rcases he with he|he
   ·exact absurd rfl (he.1 m' b)
   ·have hne:m≠m':=λe'=>by subst e';rw[show cF hid (.set m b)=eT hid m from rfl,hh]at he;cases he
    exact(h.heap m hh hm).trans (jA λe'=>hne e'.symm).symm
theorem zP{hid:Option (List Nat)}{N base:Nat}{dst:Nat->Option Nat}{I B L:Nat->Bool}(hBL:∀k,B k=true->L k=true):
  ∀(l:List ac) (q:Nat) (M S:St),q+l.length<=N->(∀(j:Nat) (x:ac),l[j]?=some x->x.1=dst (q+j)/\(L (q+j)=true->B (q+j)=false->I (q+j)=true/\(Aside N base I x.2.2\/cF hid x.2.2=true))) ->
   Agree hid N base dst I M S->Agree hid N base dst I (Uaj base B l q M) (Uaj base L l q S)
 |[],q,M,S,_,_,h=>h
 | (d, v, e) :: r, q, M, S, hN, hx, h => by
  simp only[Uaj];simp only[List.length_cons]at hN;obtain⟨h1,h2⟩:=hx 0 (d,v,e) rfl;simp only[Nat.add_zero]at h1 h2;refine zP hBL r (q+1) _ _ (by omega) (λj x hj=>by
   have:=hx (j+1) x (by simpa using hj);rw[show q+(j+1)=q+1+j by omega]at this;exact this) ?_
  cases hb:B q with|true=>rw[hBL q hb]; exact h.both _ _ _ _| false =>cases hl:L q with|false=>exact h|true =>obtain⟨h3,h4⟩:=h2 hl hb;have h1:d=dst q:=h1;rw[h1];exact h.one (by omega) h3 h4
theorem nZ{α:Type}(l:List α){i j:Nat}(h:i≠j)(a b:α):(l.set i a).set j b=(l.set j b).set i a:=List.set_comm a b h
theorem KU{st:St}{i k:Nat}(hik:i≠k){d d':Option Nat}(hd:fD d d'=true){v v':SV}{e e':Eff}(hp:Uc3 e e'=true):
  Uai (Uai st i d v e) k d' v' e'=Uai (Uai st k d' v' e') i d v e:=by
 have hs:∀(s:List SV) (u u':SV),putS (putS s d u) d' u'=putS (putS s d' u') d u:=λs u u'=>by
  cases d with
  |none=>rfl
  | some d=>
   cases d' with
   |none=>rfl
   | some d'=>
    have hne:d≠d':=by rintro rfl;simp[fD,Nat.beq_refl]at hd
    exact nZ s hne u u'
 cases e with
 |set m b=>
  cases e' with
  |set m' b'=>cases hp
  |none=>simp only[Uai,hs]
  |new b'=>cases hp
  |newS _ _ _ _=>cases hp
  |app _ _ _ _=>cases hp
 |none=>cases e' with|set m b=>simp only[Uai,hs]|none=>simp only[Uai,hs]|new b=>simp only[Uai,hs]|newS _ _ _ _=>simp only[Uai,hs]|app _ _ _ _=>simp only[Uai,hs]
 |new b=>
  cases e' with
  |set m b=>cases hp
  |none=>simp only[Uai,hs]
  |new b'=>simp only[Uai,hs,nZ st.h hik]
  |newS _ _ _ _=>simp only[Uai,hs,nZ st.h hik]
  |app _ _ _ _=>cases hp
 |newS _ _ _ _=>
  cases e' with
  |set m b=>cases hp
  |none=>simp only[Uai,hs]
  |new b'=>simp only[Uai,hs,nZ st.h hik]
  |newS _ _ _ _=>simp only[Uai,hs,nZ st.h hik]
  |app _ _ _ _=>cases hp
 |app _ _ _ _=>
  cases e' with
  |set m b=>cases hp
  |none=>simp only[Uai,hs]
  |new b'=>cases hp
  |newS _ _ _ _=>cases hp
  |app _ _ _ _=>cases hp
theorem vX{base i:Nat}{L:Nat->Bool}{x:ac}:∀(l:List ac) (q:Nat) (st:St),i<q ->
  (∀(j:Nat) (y:ac),l[j]?=some y->L (q+j)=true->fD x.1 y.1=true/\Uc3 x.2.2 y.2.2=true) ->
  Uaj base L l q (Uai st (base+i) x.1 x.2.1 x.2.2)=Uai (Uaj base L l q st) (base+i) x.1 x.2.1 x.2.2
 |[],q,st,_,_=>rfl
 | (d,v,e)::r,q,st,hi,h=>by
  simp only[Uaj];have hr:∀(j:Nat) (y:ac),r[j]?=some y->L (q+1+j)=true->fD x.1 y.1=true/\Uc3 x.2.2 y.2.2=true:=λj y hj hL=>
   h (j+1) y (by simpa using hj) (by rw[show q+(j+1)=q+1+j by omega];exact hL)
  cases hL:L q with|false=>exact vX r (q+1) st (by omega) hr|true=>obtain⟨h1,h2⟩:=h 0 (d,v,e) rfl hL;simp only[Q1];rw[KU (by omega) h1 h2];exact vX r (q+1) _ (by omega) hr
theorem zQ{base i:Nat}{L:Nat->Bool}{x:ac}(hLi:L i=false):∀(l:List ac) (q:Nat) (st:St),q<=i->l[i - q]?=some x ->
  (∀(j:Nat) (y:ac),l[j]?=some y->i<q+j->L (q+j)=true->fD x.1 y.1=true/\Uc3 x.2.2 y.2.2=true) ->
  Uaj base (λk=>L k||Nat.beq k i) l q st=Uai (Uaj base L l q st) (base+i) x.1 x.2.1 x.2.2
 |[],q,st,_,hx,_=>by simp at hx
 | (d, v, e) :: r, q, st, hq, hx, h => by
  simp only[Uaj];have hr:∀(j:Nat) (y:ac),r[j]?=some y->i<q+1+j->L (q+1+j)=true->fD x.1 y.1=true/\Uc3 x.2.2 y.2.2=true:=λj y hj hlt hL =>
   h (j+1) y (by simpa using hj) (by omega) (by rw[show q+(j+1)=q+1+j by omega]; exact hL)
  by_cases hqi:q=i
  ·subst hqi;rw[Nat.sub_self]at hx;simp only[jE,Q8]at hx;subst hx;rw[hLi,Nat.beq_refl];simp only[Bool.or_true,Q1,Q2];rw[pW base (B':=L) r (q+1) _ λk h1 h2=>by
    have:Nat.beq k q=false:=by cases hb:Nat.beq k q with|false=>rfl|true=>have:=jQ hb; omega
    rw[this,Bool.or_false]]
   exact vX (x:=(d,v,e)) r (q+1) st (by omega) λj y hj hL=>hr j y hj (by omega) hL
  ·have:Nat.beq q i=false:=by
    cases hb:Nat.beq q i with|false=>rfl|true=>exact absurd (jQ hb) hqi
   rw[this,Bool.or_false];rw[show i - q=(i - (q+1))+1 by omega]at hx;exact zQ hLi r (q+1) _ (by omega) (by simpa using hx) hr
theorem zR{base j d:Nat}{L:Nat->Bool}(hL:L j=true){v:SV}:∀(l:List ac) (q:Nat) (st:St),q<=j->l[j - q]?=some (some d,v,.none)->(∀(k:Nat) (x:ac),l[k]?=some x->q+k≠j->x.1≠some d)->d<st.s.length ->
  (Uaj base L l q st).s[d]?=some v
 |[],q,st,_,hx,_,_=>by simp at hx
 | (d', v', e') :: r, q, st, hq, hx, hu, hd => by
  simp only[Uaj];have hd':d<(bif L q then Uai st (base+q) d' v' e' else st).s.length:=by cases L q<;>simp[nY,hd]
  by_cases hqj:q=j
  ·subst hqj;rw[Nat.sub_self]at hx;simp only[jE,Q8,Q0]at hx;obtain⟨rfl,rfl,rfl⟩:=hx;rw[hL];simp only[Q1];have key:∀(l:List ac) (q':Nat) (st:St),(∀(k:Nat) (x:ac),l[k]?=some x->x.1≠some d)->(Uaj base L l q' st).s[d]?=st.s[d]?:=by
    intro l
    induction l with
    |nil=>intro q' st _; rfl
    | cons x r ih =>
     intro q' st h;obtain⟨d2,v2,e2⟩:=x;simp only[Uaj];rw[ih (q'+1) _ λk x hk=>h (k+1) x (by simpa using hk)];have h0:=h 0 (d2,v2,e2) rfl;cases L q' with
     |false=>rfl
     | true =>
      have hp:∀(u:SV),(putS st.s d2 u)[d]?=st.s[d]?:=λu=>by
       cases hdd:d2 with|none=>rfl|some dd=>exact jA λe=>h0 (by rw[hdd,e])
      cases e2<;>exact hp _
   rw[key r (q+1) _ λk x hk=>hu (k+1) x (by simpa using hk) (by omega)];exact jB hd
  ·rw[show j - q=(j - (q+1))+1 by omega]at hx;exact zR hL r (q+1) _ (by omega) (by simpa using hx) (λk x hk hne=>hu (k+1) x (by simpa using hk) (by omega)) hd'
theorem zS{base i:Nat}{L:Nat->Bool}(hLi:L i=false):∀(l:List ac) (q:Nat) (st:St),(∀(j:Nat) (x:ac),l[j]?=some x->L (q+j)=true->(∀m b,x.2.2=.set m b->m<base\/L (m - base)=true) /\ ∀m len C t,x.2.2=.app (some m) len C t->m<base\/L (m - base)=true)->(Uaj base L l q st).h[base+i]?=st.h[base+i]?
 |[],q,st,_=>rfl
 | (d, v, e) :: r, q, st, h => by
  simp only[Uaj];rw[zS hLi r (q+1) _ λj x hj hq=>h (j+1) x (by simpa using hj) (by rw[show q+(j+1)=q+1+j by omega]; exact hq)];cases hL:L q with
  |false=>rfl
  | true =>
   have hne:q≠i:=by rintro rfl; rw[hLi]at hL; cases hL
   obtain⟨hs,hs'⟩:=h 0 (d,v,e) rfl (by simpa using hL);cases e with
   |none=>rfl
   |new b=>exact jA (by omega)
   |newS _ _ _ _=>exact jA (by omega)
   | app k _ _ _ =>
    refine(jA (by omega)).trans (Zhd ?_);rintro rfl;rcases hs' _ _ _ _ rfl with h1|h1
    ·omega
    ·rw[Nat.add_sub_cancel_left]at h1;rw[h1]at hLi; cases hLi
   | set m b =>
    have hm:m≠base+i:=by
     rcases hs m b rfl with h1|h1
     ·omega
     ·intro e;rw[e,Nat.add_sub_cancel_left]at h1;rw[h1]at hLi; cases hLi
    exact jA hm
end
end
section
section
variable {P:QD} {Γ:Cons} {F:Fence} {n:Nat} {Q:Exit->Act->QB->Prop} {W0:QB} {n0:Nat} {D E:List Nat} {ρ0:Nat->Ad}
def mkSt(ops:Array QN)(base:Nat)(st0:St)(tr:List ac)(i:Nat):St:=Ud6 st0 (befs ops.toList []) base i ops.toList (Uaj base (bef (befs ops.toList []) i) tr 0 st0)
def kZ(P:QD)(Γ:Cons)(ops:Array QN)(base:Nat)(st0:St)(tr:List ac)(i:Nat)(o:QN)(x:ac):Prop:=
 aH P Γ (evO (mkSt ops base st0 (tr.take i) i).s) (mkSt ops base st0 (tr.take i) i).h o=some (x.2.1,x.2.2,true)/\cr (mkSt ops base st0 (tr.take i) i).h (base+i) x.2.2=true
def Ucm (P:QD) (Γ:Cons) (ops:Array QN) (base:Nat) (st0:St) (tr:List ac) (i:Nat) (o:QN) (x:ac):Option (Nat×Bool)→Prop
  |none=>kZ P Γ ops base st0 tr i o x
  | some (j,want)=>bef (befs ops.toList []) i j=true ∧
    ((∃ d t,tr[j]? = some (some d,.a (.b t),.none)∧d<st0.s.length∧((t=want∧kZ P Γ ops base st0 tr i o x)∨(t≠want∧x.2=(.a .u,.none)))) ∨
     (∃d,tr[j]?=some (some d,.a .u,.none)/\d<st0.s.length/\x.2=(.a .u,.none)))
def mb(P:QD)(Γ:Cons)(ops:Array QN)(base:Nat)(st0:St)(tr:List ac):Prop:=
 ∀(i:Nat) (o:QN) (x:ac),ops[i]?=some o->tr[i]?=some x->x.1=o.dst/\Ucm P Γ ops base st0 tr i o x o.guard
theorem Ucm.app{ops:Array QN}{base:Nat}{st0:St}{tr m:List ac}{i:Nat}{o:QN}{x:ac}{g:Option (Nat×Bool)}(hi:i<=tr.length)(h:Ucm P Γ ops base st0 tr i o x g):Ucm P Γ ops base st0 (tr++m) i o x g:=by
 have J:kZ P Γ ops base st0 tr i o x->kZ P Γ ops base st0 (tr++m) i o x:=λh=>by
  unfold kZ at h|-
  rw[List.take_append_of_le_length hi];exact h
 have L:∀{j:Nat} {y:ac},tr[j]?=some y->(tr++m)[j]?=some y:=λ{j y} h=>by rw[List.getElem?_append_left (jC.1 h).1];exact h
 cases g with
 |none=>exact J h
 | some q=>
  obtain⟨j,want⟩:=q;refine⟨h.1,h.2.imp ?_ ?_⟩
  ·rintro⟨d,t,A,h2,O⟩;exact⟨d,t,L A,h2,O.imp (λh=>⟨h.1,J h.2⟩) (λh=>h)⟩
  ·rintro⟨d,A,h2⟩;exact⟨d,L A,h2⟩
theorem zT{tr:List ac}{j:Nat}{x:ac}(h:tr[j]?=some x):tr.set j x=tr:=by
 refine List.ext_getElem? λi=> ?_
 have A:=(jC.1 h).1
 by_cases e:j=i
 ·subst e;rw[jB A,h]
 ·rw[jA e]
theorem pX{ops:Array QN}{base:Nat}{st0:St}{α:Type}{K:St->Option α}{r:α}:
  ∀(l:List QN) (i:Nat) (tr:List ac),ops.toList.drop i=l->i<=ops.size->tr.length=i->mb P Γ ops base st0 tr ->
   jj P Γ ops.toList (befs ops.toList []) base st0 K l i tr=some r ->
   ∃tr',tr'.length=ops.size/\mb P Γ ops base st0 tr'/\cf st0 (befs ops.toList []) base ops.toList tr' tr' 0=true/\K (Uaj base (λ_=>true) tr' 0 st0)=some r
 | [],i,tr,hl,hN,hi,hx,hr=>by
  have hN:i=ops.size:=by have:=congrArg List.length hl;simp at this;omega
  simp only[jj]at hr;cases hok:cf st0 (befs ops.toList []) base ops.toList tr tr 0 with
  |false=>rw[hok]at hr;cases hr
  |true=>rw[hok]at hr;exact⟨tr,by omega,hx,hok,hr⟩
 | o::l,i,tr,hl,hN,hi,hx,hr=>by
  have ho:ops[i]?=some o:=by
   have:=congrArg (λx=>x[0]?) hl
   simpa using this
  have hl':ops.toList.drop (i+1)=l:=by
   have:=congrArg List.tail hl
   simpa [List.tail_drop] using this
  have hlt:i<ops.size:=(jK.1 ho).1
  -- one entry more
  have more:∀{v:SV} {e:Eff},Ucm P Γ ops base st0 tr i o (o.dst,v,e) o.guard->mb P Γ ops base st0 (tr++[(o.dst,v,e)]):=by
   intro v e hg j o' x ho' hj
   by_cases hji:j<i
   ·rw[List.getElem?_append_left (by omega)]at hj;obtain⟨h1,h2⟩:=hx j o' x ho' hj;exact⟨h1,h2.app (by omega)⟩
   ·have hji:j=i:=by
     have:=(jC.1 hj).1;simp at this;omega
    subst hji;rw[ho]at ho';cases ho';rw[List.getElem?_append_right (by omega),hi,Nat.sub_self]at hj;simp only[jE,Q8]at hj;subst hj;exact⟨rfl,hg.app (by omega)⟩
  have skip:Ucm P Γ ops base st0 tr i o (o.dst,.a .u,.none) o.guard->jj P Γ ops.toList (befs ops.toList []) base st0 K l (i+1) (tr++[(o.dst,.a .u,.none)])=some r ->
    ∃tr',tr'.length=ops.size/\mb P Γ ops base st0 tr'/\cf st0 (befs ops.toList []) base ops.toList tr' tr' 0=true/\K (Uaj base (λ_=>true) tr' 0 st0)=some r:=λhg h=>
   pX l (i+1) _ hl' (by omega) (by simp[hi]) (more hg) h
  have run:(∀x:ac,kZ P Γ ops base st0 tr i o x->Ucm P Γ ops base st0 tr i o x o.guard) ->
    (match aH P Γ (evO (Ud6 st0 (befs ops.toList []) base i ops.toList (Uaj base (bef (befs ops.toList []) i) tr 0 st0)).s) (Ud6 st0 (befs ops.toList []) base i ops.toList (Uaj base (bef (befs ops.toList []) i) tr 0 st0)).h o with
    |some (v,e,g)=>bif g then (bif cr (Ud6 st0 (befs ops.toList []) base i ops.toList (Uaj base (bef (befs ops.toList []) i) tr 0 st0)).h (base+i) e then jj P Γ ops.toList (befs ops.toList []) base st0 K l (i+1) (tr++[(o.dst,v,e)]) else none) else none
    |none=>none)=some r ->
    ∃tr',tr'.length=ops.size/\mb P Γ ops base st0 tr'/\cf st0 (befs ops.toList []) base ops.toList tr' tr' 0=true/\K (Uaj base (λ_=>true) tr' 0 st0)=some r:=by
   intro hgd hr;split at hr
   ·rename_i v e g hop;cases g with
    |false=>simp only[Q2]at hr;cases hr
    | true=>
     simp only[Q1]at hr;cases hnew:cr (Ud6 st0 (befs ops.toList []) base i ops.toList (Uaj base (bef (befs ops.toList []) i) tr 0 st0)).h (base+i) e with
     |false=>rw[hnew]at hr;cases hr
     |true=>
      rw[hnew]at hr;refine pX l (i+1) _ hl' (by omega) (by simp[hi]) (more (hgd _ ⟨?_,?_⟩)) hr
      ·rw[List.take_of_length_le (by omega)];exact hop
      ·rw[List.take_of_length_le (by omega)];exact hnew
   ·cases hr
  simp only[jj]at hr;split at hr
  ·rename_i hg;exact run (λx hx=>by rw[hg];exact hx) hr
  ·rename_i j want hg;cases hb:bef (befs ops.toList []) i j with
   |false=>rw[hb]at hr;cases hr
   | true=>
    rw[hb]at hr;simp only[Q1]at hr;split at hr
    ·rename_i d t hj;cases hd:Nat.blt d st0.s.length with
     |false=>rw[hd]at hr;cases hr
     | true=>
      rw[hd]at hr;simp only[Q1]at hr;have hdl:d<st0.s.length:=by simp[Nat.blt]at hd;omega
      cases t with
      |true=>simp only[Q1]at hr;rw[zT hj]at hr;cases want with|true=>exact run (λx hx=>by rw[hg];exact⟨hb,.inl ⟨d,true,hj,hdl,.inl ⟨rfl,hx⟩⟩⟩) hr|false=>exact skip (by rw[hg];exact⟨hb,.inl ⟨d,true,hj,hdl,.inr ⟨by simp,rfl⟩⟩⟩) hr
      |false=>simp only[Q2]at hr;rw[zT hj]at hr;cases want with|true=>exact skip (by rw[hg];exact⟨hb,.inl ⟨d,false,hj,hdl,.inr ⟨by simp,rfl⟩⟩⟩) hr|false=>exact run (λx hx=>by rw[hg];exact⟨hb,.inl ⟨d,false,hj,hdl,.inl ⟨rfl,hx⟩⟩⟩) hr
    ·rename_i d hj;cases hd:Nat.blt d st0.s.length with
     |false=>rw[hd]at hr;cases hr
     |true=>
      rw[hd]at hr;simp only[Q1]at hr;have hdl:d<st0.s.length:=by simp[Nat.blt]at hd;omega
      exact skip (by rw[hg];exact⟨hb,.inr ⟨d,hj,hdl,rfl⟩⟩) hr
    ·cases hr
def lst(listed:Array Bool)(k:Nat):Bool:=listed.getD k false
def di(l:List Bool):Nat:=(l.filter (!·)).length
theorem vY:∀(l:List Bool) (i:Nat),l[i]?=some false->di (l.set i true)+1=di l
 |[],i,h=>by simp at h
 |b::r,0,h=>by
  simp only[jE,Q8]at h;subst h;simp[di]
 |b::r,i+1,h=>by
  have:=vY r i (by simpa using h);simp only[List.set_cons_succ,di,List.filter_cons]at this|-
  cases b<;>simp at this |-<;>omega
theorem vZ:∀(l:List Bool),di l=0->∀(i:Nat) (b:Bool),l[i]?=some b->b=true
 |[],_,i,b,h=>by simp at h
 |c::r,A,0,b,h=>by
  simp only[jE,Q8]at h;subst h;cases c with|true=>rfl|false=>simp[di]at A
 |c::r,A,i+1,b,h=>by
  refine vZ r ?_ i b (by simpa using h);simp only[di,List.filter_cons]at A|-
  cases c<;>simp at A |-<;>exact A
theorem oa{ops:Array QN}{listed:Array Bool}{i:Nat}(h:i∈Region.ready .any ops listed):i<ops.size/\listed.getD i true=false/\∀o,ops[i]?=some o->∀e∈o.after.toList,Region.binds .any e=true->lst listed e.on=true:=by
 unfold Region.ready at h;simp only[List.mem_filter,List.mem_range,Q7,Bool.not_eq_true']at h;refine⟨h.1,h.2.1,λo ho e L J=> ?_⟩;have A:=h.2.2;rw[ho]at A;simp only[jG,jM,Array.all_eq_true]at A;obtain⟨q,O,rfl⟩:=List.mem_iff_getElem.1 L;have:=A q (by simpa using O);simp only[Array.getElem_toList]at J;rw[J]at this
 simpa [lst] using this
theorem mem_ready{ops:Array QN}{listed:Array Bool}{i:Nat}(hi:i<ops.size)(hl:listed.getD i true=false)(h:∀o,ops[i]?=some o->∀e∈o.after.toList,Region.binds .any e=true->lst listed e.on=true):i∈Region.ready .any ops listed:=by
 unfold Region.ready;simp only[List.mem_filter,List.mem_range,Q7,Bool.not_eq_true'];refine⟨hi,hl,?_⟩;have ho:ops[i]?=some ops[i]:=jI hi;rw[ho];simp only[jG,jM,Array.all_eq_true];intro q A;cases J:Region.binds .any (ops[i].after[q]) with
 |false=>simp
 |true=>
  have:=h _ ho (ops[i].after[q]) (by rw[<- Array.getElem_toList A];exact List.getElem_mem _) J
  simpa [lst] using this
end
end
end Go.Proofs.YtefjogahegolbaaGreatDoor.Ve
