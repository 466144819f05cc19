/- The program's iterator over some cells has its contract, in company. -/
import Derived.Test.YtefjogahegolbaaDoorProg
import Derived.Test.YtefjogahegolbaaDoorCxEach
set_option linter.unusedVariables false
set_option linter.unusedSimpArgs false
open _root_.List renaming range'->jA
open _root_.Nat renaming le_trans->jB
namespace Go.Proofs.YtefjogahegolbaaDoor
open Tryd (f79 f82)
open Go.ChangeShapes Go.WideShapes Go.ChangeAt Go.RowKit Ve Vc
open Tryd (prog)
open IntKind (i64)
set_option maxRecDepth 100000
variable {mn:Md}
noncomputable section
theorem Zre(S:Array Value):ansN prog (mkΓ []) 10 f79 [] [.g S 35]=some ⟨82,[(S,35)],none⟩:=by kernel_rfl
def Zja:NCon:=λargs=>match args with|[.g S 35]=>some ⟨82,[(S,35)],none⟩|_=>none
theorem Zst:Ubp mn prog 79 Zja:=(Ygs (N:=10) (by kernel_rfl) mKn (fn:=f79) (by kernel_rfl) (by kernel_rfl) []).of (by
 intro ρ h args vals c hA hr;unfold Zja at hr;split at hr
 ·rename_i S;rw[<- Q5 hr];exact Zre S
 ·cases hr)
theorem Zp4:EntX prog 79:=Zal (fn:=f79)
abbrev eachWaterΓ:Cons:=mkΓx [(35,con Zce)] [(48,Zft)] []
theorem eachWaterΓ_ok:ConsOkX mn prog (Uah mn prog) eachWaterΓ:=mKx (Zah Zdg) Zb6 (mkΓx_nX Zi3 Zhv mkΓx_nilX)
set_option maxHeartbeats 1000000 in
theorem Zz8(bs:Nat)(S:Array Value)(hW:WT prog 35 S)(wd hi:Nat)(hw:num S 0=wd)(hh:num S 1=hi)(hw6:wd<=6)(hh6:hi<=6)(v:World)(hbs:v.heap[bs]?=some (.cells S 35 (0,0))):
  SeqX mn prog 82 #[.pointer (some ⟨bs,0,none⟩)] (λx:Int=>#[.int .i64 x]) (Ub3 [bs]) ((Uap wd hi 36).filter (Zaf S)) v:=by
 intro l J Jx V hge hJ hJx hY h0;have hbs:=geAt hge hbs;clear hge
 show Ua4 mn prog 82 #[.func (.yield l) #[] #[],.pointer (some ⟨bs,0,none⟩)] V _
 refine Zfy (c:=codeOf f82) Tryd.func82 rfl ?_;have hS:S0 prog (slY l::slP bs::us 14 []) { tmps:=#[.func (.yield l) #[] #[],.pointer (some ⟨bs,0,none⟩)]++Array.replicate 14 undef,defers:=[] }:=S0.enter [.func (.yield l) #[] #[],.pointer (some ⟨bs,0,none⟩)] 14;refine Zan (Zar ?_)
 show OpsX mn _ _ _ [0] _ _
 refine Zjr (i:=0) rfl rfl (Yhv rfl (hS.cst (i:=0) rfl) λv1 hg1=> ?_);have hS1:=hS.put 2 (y:=.v (.pointer (some ⟨v1.heap.size,0,none⟩))) (vv:=.pointer (some ⟨v1.heap.size,0,none⟩)) rfl;have hq:(v1.alloc (.cells #[.func (.yield l) #[] #[]] 59)).heap[v1.heap.size]?=some (.cells #[.func (.yield l) #[] #[]] 59 (0,0)):=World.alloc_heap_new v1 _;have hgV:=hg1.trans (Zxl v1 (.cells #[.func (.yield l) #[] #[]] 59));have hbs:=geAt hgV hbs;have hqV:V.heap.size<=v1.heap.size:=hg1.size;have hJ1:=Ubm hJ hgV h0;generalize v1.alloc (.cells #[.func (.yield l) #[] #[]] 59)=v2 at hq hgV hbs hJ1;generalize v1.heap.size=bq at hq hS1 hqV;have hz2:V.heap.size<=v2.heap.size:=hgV.size;clear hg1 hgV h0 hS;refine Zan (Zar ?_)
 show OpsX mn _ _ _ (jA 0 1++(jA 1 1++[])) _ _
 refine Zm3 eachWaterΓ_ok hS1 (j:=1) (b:=bs) rfl hbs hW rfl 0 1 rfl (kS:=[0,1,2,4]) (nS:=16) (s':=slY l::.a (.w 0)::slP bq::.a .x::.a (.g S 35)::xs 11 []) rfl rfl (by kernel_rfl) λa2 v3 hS2 hg2=> ?_
 have hbs:=geAt hg2 hbs;have hq:=geAt hg2 hq;have hJ2:=Ubm hJ hg2 hJ1;have hz3:=jB hz2 hg2.size;clear hJ1 hg2 hS1 hz2;refine Ykj eachWaterΓ_ok (hS2.rr v3) 1 1 rfl (kS:=[0,1,2,5]) (kH:=[3,5]) (dd:=[]) (nS:=16) (nH:=6) 8 (s':=slY l::slP bs::slP bq::xs 2 (.a (.c 69 [3,5])::xs 10 [])) (h':=[.no,.no,.no,.row #[.int .i64 (num S 1)] 2,.no,.row #[.int .i64 (num S 0)] 2]) rfl (by kernel_rfl) λρ4 a4 v4 hR4 hw4=> ?_
 have hg4:=Zjl hw4;have hbs:=geAt hg4 hbs;have hq:=geAt hg4 hq;have hJ4:=Ubm hJ hg4 hJ2;have hz4:=jB hz3 hg4.size;obtain⟨hbh,-,hfh⟩:=hR4.row (n:=3) rfl;obtain⟨hbw,-,hfw⟩:=hR4.row (n:=5) rfl;have hf:=(hR4.slots 5 _ rfl:Is prog ρ4 _ (.c 69 [3,5]) _).1;have hS4:S0 prog (slY l::slP bs::slP bq::xs 2 (.a (.v (.func (.func 69) #[] #[.pointer (some ⟨(ρ4 3).a,0,none⟩),.pointer (some ⟨(ρ4 5).a,0,none⟩)]))::xs 10 [])) a4:=hR4.bare.set (i:=5) hf;rw[hh]at hbh;rw[hw]at hbw;clear hf hR4 hw4 hg4 hJ2 hS2;generalize (ρ4 3).a=bh at hbh hfh hS4;generalize (ρ4 5).a=bw at hbw hfw hS4;refine Zdn ?_;refine Zil (α:=Int) (v0:=v4) (gf:=69) (lb:=#[.pointer (some ⟨bh,0,none⟩),.pointer (some ⟨bw,0,none⟩)]) (hS4.cst (i:=5) rfl) Zgm (Znb bh bw wd hi hw6 hh6 v4 hbh hbw)
  (λ{A B C} h k q hq Ce t fr e=>k q hq Ce t fr (h q hq Ce t fr e))
  (fun W l' o o' hl ho hc _ k hk C t fr e=>by
   have:l'≠k:=λe'=>by subst e';rw[ho]at e;cases e;cases hc
   rw[World.putObj_heap_other (Ne.symm this)];exact e)
  (λ{A B} hAB k _ C t fr e=>geAt hAB e)
  (Ge.refl v4)
  (λpre W=>J (pre.filter (Zaf S)) W/\W.heap[bs]?=some (.cells S 35 (0,0))/\W.heap[bq]?=some (.cells #[.func (.yield l) #[] #[]] 59 (0,0))/\v4.heap.size<=W.heap.size/\W.heap[bh]?=some (.cells #[.int .i64 hi] 2 (0,0))/\W.heap[bw]?=some (.cells #[.int .i64 wd] 2 (0,0)))
  (λc pre W=>c=.ret/\Jx (pre.filter (Zaf S)) W)
  ?hps ?hI ?hIx ?h0 (λx=>Ubl [(3,6)] { tmps:=(#[6].zip #[.int .i64 x]).foldl (λt (p,v)=>t.setIfInBounds p v) a4.tmps,defers:=[] }) ?hassign ?hbody ?hdone ?hstop
 case hps=>exact λpre x W _ _=>rfl
 case hI=>
  intro pre A B row ⟨h1,h2,h3,h4,h5,h6⟩ hg hr;have cellk:∀{k:Nat} {C:Array Value} {t:TypeId},A.heap[k]?=some (.cells C t (0,0))->B.heap[k]?=some (.cells C t (0,0)):=λ{k C t} hk=>by
   refine(hg.block k (Array.getElem?_eq_some_iff.1 hk).1 λe=> ?_).trans hk;obtain⟨_,o,ho,hc⟩:=hr k e.symm;rw[hk]at ho;cases ho;cases hc
  exact⟨hJ _ _ _ row h1 hg λr e=>⟨by have:=(hr r e).1;omega,(hr r e).2⟩,cellk h2,cellk h3,jB h4 hg.size,cellk h5,cellk h6⟩
 case hIx=>exact λc pre A B row ⟨h1,h2⟩ hg hr=>⟨h1,hJx _ _ _ row h2 hg λr e=>⟨by have:=(hr r e).1;omega,(hr r e).2⟩⟩
 case h0=>exact⟨hJ4,hbs,hq,Nat.le_refl _,hbh,hbw⟩
 case hassign=>exact λl' x W=>asgX rfl
 case hbody=>
  rintro l' pre x W hl' - ⟨hJ0,hb0,hq0,hz0,hbh0,hbw0⟩ hpre;have hx:=Zl7 (x:=x) (hpre.subset (by simp));have hpf:=hpre.filter (Zaf S);rw[List.filter_append]at hpf;have hxi:i64.min<=x/\x<=i64.max:=by have e1:i64.min=-9223372036854775808:=rfl;have e2:i64.max=9223372036854775807:=rfl;omega
  have hS5:S0 prog (slY l::slP bs::slP bq::slI x::xs 1 (.a (.v (.func (.func 69) #[] #[.pointer (some ⟨bh,0,none⟩),.pointer (some ⟨bw,0,none⟩)]))::slI x::xs 9 []))
    (Ubl [(3,6)] { tmps:=(#[6].zip #[.int .i64 x]).foldl (λt (p,v)=>t.setIfInBounds p v) a4.tmps,defers:=[] }):=by
   have h1:S0 prog _ (({ tmps:=a4.tmps,defers:=[] }:Act).put (some 6) (.int .i64 x)):=S0.put (a:={ tmps:=a4.tmps,defers:=[] }) ⟨hS4.len,hS4.slots,rfl⟩ 6 (y:=.i .i64 x) ⟨rfl,hxi⟩;have h2:=h1.put 3 (y:=.i .i64 x) (vv:=.int .i64 x) ⟨rfl,hxi⟩;have e:∀a:Act,a.eval (.tmp 6)=.int .i64 x->Ubl [(3,6)] a=a.put (some 3) (.int .i64 x):=λa ha=>by simp only[Ubl,ha]
   have e0:({ tmps:=(#[6].zip #[.int .i64 x]).foldl (λt (p,v)=>t.setIfInBounds p v) a4.tmps,defers:=[] }:Act)=({ tmps:=a4.tmps,defers:=[] }:Act).put (some 6) (.int .i64 x):=by simp[Act.put]
   rw[e0,e _ (h1.int (i:=6) (by
    rw[List.getElem?_set_self];exact(by decide:6<16)))]
   exact h2
  generalize Ubl [(3,6)] { tmps:=(#[6].zip #[.int .i64 x]).foldl (λt (p,v)=>t.setIfInBounds p v) a4.tmps,defers:=[] }=a5 at hS5|-
  have keep:∀{W'},Ge W W'->Ubd prog v4.heap.size W W'/\Ub3 [bh,bw] W W':=λhg=>⟨Ubd.of_ge hg,λk _ C t fr h=>geAt hg h⟩
  refine Zdn (Zan (Zar ?_))
  show OpsX mn _ _ _ (jA 0 1++(jA 1 1++(2::(jA 3 1++[4,5,6,7,8])))) _ _
  refine Zm3 eachWaterΓ_ok hS5 (j:=1) (b:=bs) rfl hb0 hW rfl 0 1 rfl (kS:=[0,1,2,3,7]) (nS:=16) (s':=slY l::.a (.w 0)::slP bq::slI x::xs 3 (.a (.g S 35)::xs 8 [])) rfl rfl (by kernel_rfl) λa6 v6 hS6 hg6=> ?_
  refine Zds eachWaterΓ_ok hS6 1 1 rfl (kS:=[0,1,2,3,7,8]) (nS:=16) (s':=slY l::slP bs::slP bq::slI x::xs 3 (.a (.g S 35)::slI x::xs 7 [])) rfl (by kernel_rfl) λa7 v7 hS7 hg7=> ?_
  have hcq:Zce [.g S 35,.i .i64 x] []=some (.a (.b (Zaf S x)),.none,true):=by
   show some (SV.a (SA.b (Zaf S x)),Eff.none,decide (0<=x))=_
   rw[Q3 hx.1]
  refine Zjr (i:=2) rfl rfl (Zyc rfl rfl rfl Zb6 (args:=#[.agg S,.int .i64 x]) (by rw[<- hS7.int (i:=8) rfl,<- (hS7.val (i:=7) rfl:Is _ _ _ (.g S _) _).1];simp[Act.eval]) (R:=λe v'=>e=.bool (Zaf S x)/\Ge v7 v') (λv₁ h₁=>(Ybj Zdg hcq (vals:=[.agg S,.int .i64 x]) (Ud5 ⟨rfl,hW⟩ (Ud5 ⟨rfl,hxi⟩ allNil)) v₁).mono λe v' h=>⟨h.1,h₁.trans h.2⟩) λr v8 h8=> ?_);obtain⟨rfl,hg8⟩:=h8;have hS8:=hS7.put 9 (y:=.b (Zaf S x)) (vv:=.bool (Zaf S x)) rfl;refine Zds eachWaterΓ_ok hS8 3 1 rfl (kS:=[0,1,2,3,10]) (nS:=16) (s':=slY l::slP bs::slP bq::slI x::xs 6 (.a (.b (Zaf S x))::xs 5 [])) rfl (by kernel_rfl) λa9 v9 hS9 hg9=> ?_
  have hg:=hg6.trans (hg7.trans (hg8.trans hg9));have hJ9:=Ubm hJ (hg) hJ0;have hb9:=geAt hg hb0;have hq9:=geAt hg hq0;have hbh9:=geAt hg hbh0;have hbw9:=geAt hg hbw0;have hz9:=jB hz0 hg.size;obtain⟨hk9,hl9⟩:=keep hg;clear hS8 hg9 hS7 hg8 hS6 hg7 hS5 hg6 hcq hb0 hq0 hJ0 hz0 hg;cases hqx:Zaf S x with
  |false=>
   have Hf:(pre++[x]).filter (Zaf S)=pre.filter (Zaf S):=by rw[List.filter_append];simp[hqx]
   rw[hqx]at hS9
   show OpsX mn _ _ _ (jA 4 5++[]) _ _
   refine Zds eachWaterΓ_ok hS9 4 5 rfl (kS:=[15]) (nS:=16) (s':=xs 15 [.a (.b false)]) rfl (by kernel_rfl) λa10 v10 hS10 hg10=> ?_
   refine Zay (hS10.bool (i:=15) rfl) (Zeb ?_);exact⟨hk9.trans (Ubd.of_ge hg10),λk hk C t fr h=>geAt hg10 (hl9 k hk C t fr h),by rw[Hf];exact Ubm hJ hg10 hJ9,geAt hg10 hb9,geAt hg10 hq9,jB hz9 hg10.size,geAt hg10 hbh9,geAt hg10 hbw9⟩
  | true=>
   have Hf:(pre++[x]).filter (Zaf S)=pre.filter (Zaf S)++[x]:=by rw[List.filter_append];simp[hqx]
   rw[show List.filter (Zaf S) [x]=[x] by simp[hqx]]at hpf;rw[hqx]at hS9;refine Zkj hS9 (i:=4) rfl (j:=3) (d:=10) rfl rfl rfl (Yhk rfl (vv:=.func (.yield l) #[] #[]) (λv₁ h₁=>by
    rw[hS9.cst (i:=2) rfl];exact Zx8 (by kernel_rfl) (by rw[cell_of_row v₁ bq 0 _ _ _ (geAt h₁ hq9)];rfl)) λv10 hg10=> ?_)
   have hS10:=hS9.put 11 (y:=.v (.func (.yield l) #[] #[])) (vv:=.func (.yield l) #[] #[]) rfl
   show OpsX mn _ _ _ (jA 5 1++(6::(jA 7 2++[]))) _ _
   refine Zds eachWaterΓ_ok hS10 5 1 rfl (kS:=[0,1,2,3,10,11,12]) (nS:=16) (s':=slY l::slP bs::slP bq::slI x::xs 6 (.a (.b true)::slY l::slI x::xs 3 [])) rfl (by kernel_rfl) λa11 v11 hS11 hg11=> ?_
   have hg':=hg10.trans hg11;refine Zkj hS11 (i:=6) rfl (j:=3) (d:=10) rfl rfl rfl (Zpr rfl rfl (hS11.cst (i:=11) rfl) (args:=#[.int .i64 x]) (by rw[<- hS11.int (i:=12) rfl];simp) (hY (pre.filter (Zaf S)) x v11 (Ubm hJ hg' hJ9) hpf (by have:=hg'.size;omega)) λr v12 hr=> ?_);have kA:Ubd prog v4.heap.size W v11/\Ub3 [bh,bw] W v11:=⟨hk9.trans (Ubd.of_ge hg'),λk hk C t fr h=>geAt hg' (hl9 k hk C t fr h)⟩;rcases hr with ⟨rfl,hJ2,hk,hkf⟩ | ⟨rfl,hJx2,hkf⟩
   ·have hS12:=hS11.put 13 (y:=.b true) (vv:=.bool true) rfl;refine Zds eachWaterΓ_ok hS12 7 2 rfl (kS:=[15]) (nS:=16) (s':=xs 15 [.a (.b false)]) rfl (by kernel_rfl) λa13 v13 hS13 hg13=> ?_
    refine Zay (hS13.bool (i:=15) rfl) (Zeb ?_);have hk12:Ubd prog v4.heap.size W v13:=(kA.1.trans (hkf.later (by omega))).trans (Ubd.of_ge hg13);have sf:Udi prog 59=false:=by kernel_rfl
    have si:Udi prog 2=false:=by kernel_rfl
    have hbh13:=geAt hg13 (hkf.at (by omega) (geAt hg' hbh9) λC t fr h=>by cases h;exact si);have hbw13:=geAt hg13 (hkf.at (by omega) (geAt hg' hbw9) λC t fr h=>by cases h;exact si);refine⟨hk12,λk hk' C t fr h=> ?_,by rw[Hf];exact Ubm hJ hg13 hJ2,geAt hg13 (hk bs (by simp) _ _ _ (geAt hg' hb9)),geAt hg13 (hkf.at (by omega) (geAt hg' hq9) λC t fr h=>by cases h;exact sf),jB (jB hz9 hg'.size) (jB hkf.size hg13.size),hbh13,hbw13⟩;rcases List.mem_cons.1 hk' with rfl|hk''
    ·rw[hbh0]at h;cases h;exact hbh13
    ·obtain rfl:=List.mem_singleton.1 hk'';rw[hbw0]at h;cases h;exact hbw13
   ·have hS12:=hS11.put 13 (y:=.b false) (vv:=.bool false) rfl;refine Zds eachWaterΓ_ok hS12 7 2 rfl (kS:=[15]) (nS:=16) (s':=xs 15 [.a (.b true)]) rfl (by kernel_rfl) λa13 v13 hS13 hg13=> ?_
    refine Zdr (hS13.bool (i:=15) rfl) (Zgo ?_);exact⟨(kA.1.trans (hkf.later (by omega))).trans (Ubd.of_ge hg13),rfl,by rw[Hf];exact Ubm hJx hg13 hJx2⟩
 case hdone=>
  rintro D W hD ⟨hJ0,_⟩ hm;exact⟨.inl rfl,.inr ⟨D,by rw[hS4.defers],hm,λv1 hg1=>⟨_,results_none rfl _ _ _,.inl (Ubm hJ hg1 (hJ.putObj (.deferred none) hJ0 (by omega) hm rfl))⟩⟩⟩
 case hstop=>
  rintro D c pre W hD hpre ⟨rfl,hJx0⟩ hm;exact Zgo ⟨.inr rfl,.inr ⟨D,by rw[hS4.defers],hm,λv1 hg1=>⟨_,results_none rfl _ _ _,.inr ⟨_,hpre.filter _,Ubm hJx hg1 (hJx.putObj (.deferred none) hJx0 (by omega) hm rfl)⟩⟩⟩⟩
def Zfh:ICon:=λbs _=>match bs with|[.row S 35]=>some ⟨Int,λn=>[.i .i64 n],(Uap (num S 0) (num S 1) 36).filter (Zaf S),decide (0<=num S 0)&&decide (num S 0<=6)&&(decide (0<=num S 1)&&decide (num S 1<=6))⟩|_=>none
theorem Zqt:Uah mn prog 82 Zfh:=by
 intro ρ h w ns Y hY hok hH hr
 match ns,hY,hr with
 | [n1],hY,hr=>
  simp only[getH]at hY;unfold Zfh at hY;split at hY
  ·rename_i S heq;have e0:=(List.cons.inj heq).1;cases hY;have g:∀{m:Nat} {C:Array Value} {t:TypeId},h.getD m .no=.row C t->h[m]?=some (.row C t):=λ{m C t} e=>by
    rw[List.getD_eq_getElem?_getD]at e;cases hm:h[m]? with
    |none=>rw[hm]at e;cases e
    |some b=>rw[hm]at e;exact congrArg some e
   obtain⟨h1,w1⟩:=hH.is n1 _ (g e0);dsimp only at hok;simp only[Q7,decide_eq_true_eq]at hok;obtain⟨⟨a1,a2⟩,a3,a4⟩:=hok;obtain⟨vn,hv⟩:∃vn:Nat,num S 0=vn:=⟨(num S 0).toNat,by omega⟩;obtain⟨hn,hh⟩:∃hn:Nat,num S 1=hn:=⟨(num S 1).toNat,by omega⟩;rw[hv,hh];refine⟨λpre x hpre y hy=> ?_,(Zz8 (ρ n1) S w1 vn hn hv hh (by omega) (by omega) w h1).keep Ub3.sub |>.any h⟩;simp only[List.mem_singleton]at hy;subst hy;refine⟨rfl,rfl,?_⟩;have:=Zl7 (x:=x) (List.mem_filter.1 (hpre.subset (by simp))).1;have e1:i64.min=-9223372036854775808:=rfl;have e2:i64.max=9223372036854775807:=rfl;omega
  ·cases hY
 |[],hY,_=>cases hY
 |_::_::_,hY,_=>
  simp only[getH]at hY;unfold Zfh at hY;split at hY
  ·rename_i heq;simp at heq
  ·cases hY
theorem Znp:EntX prog 82:=Zal (fn:=f82)
end
end Go.Proofs.YtefjogahegolbaaDoor
