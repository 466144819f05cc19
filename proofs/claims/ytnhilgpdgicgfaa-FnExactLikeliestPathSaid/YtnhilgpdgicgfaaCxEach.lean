/- The program's iterator over all cells has its contract, in company. -/
import Derived.Test.YtnhilgpdgicgfaaProg
import Derived.Test.YtnhilgpdgicgfaaCxA
namespace Go.Proofs.Ytnhilgpdgicgfaa
open Go.ChangeShapes Go.WideShapes Go.ChangeAt Go.RowKit Ve Vc
open IntKind (i64)
set_option linter.unusedVariables false
set_option linter.unusedSimpArgs false
set_option maxRecDepth 100000
variable {mn:Md}
theorem ownGe{α:Type}{B:Nat}{J:List α->World->Prop}(hJ:OwnFrom B J){p:List α}{v v':World}(hg:Ge v v')(h:J p v):J p v':=
 hJ p v v' none h ⟨hg.os,hg.tape,hg.output,hg.size,λk hk _=>hg.block k hk⟩ λr e=>by cases e
theorem geAt{v v':World}(hg:Ge v v'){k:Nat}{o:Obj}(h:v.heap[k]?=some o):v'.heap[k]?=some o:=(hg.block k (Array.getElem?_eq_some_iff.1 h).1).trans h
theorem wtI64{n:Int}(h: -1000000<=n/\n<=1000000):WT Try.prog 2 #[.int .i64 n]:=by
 have hl:lay Try.prog 2=[3]:=by kernel_rfl
 refine okScalar (by rw[hl];rfl) ?_;have e1:i64.min=-9223372036854775808:=rfl;have e2:i64.max=9223372036854775807:=rfl;constructor<;>omega
noncomputable section
abbrev slY(l:Nat):SV:=.a (.v (.func (.yield l) #[] #[]))
abbrev slP(b:Nat):SV:=.a (.v (.pointer (some ⟨b,0,none⟩)))
abbrev slI(n:Int):SV:=.a (.i .i64 n)
noncomputable def ecO(l bh bw:Nat)(hi y:Int):List SV:=slY l::slP bh::slP bw::xs 3 (slI hi::slI y::xs 15 [])
noncomputable def ecI(l bh bw:Nat)(hi y wd x:Int):List SV:=slY l::slP bh::slP bw::.a .x::slI y::.a .x::slI hi::slI y::xs 2 (slI wd::slI x::xs 11 [])
noncomputable abbrev ecΓ:Cons:=mkΓ [(97,con impl_cellOf_con)]
theorem ecΓ_ok:ConsOkX mn Try.prog (IConOkX mn Try.prog) ecΓ:=mKc (con_okX impl_cellOf_ok) impl_cellOf_enter mKn
set_option maxHeartbeats 1000000 in
theorem eachCell_seqX(bh bw wd hi:Nat)(hw6:wd<=6)(hh6:hi<=6)(v:World)(hbh:v.heap[bh]?=some (.cells #[.int .i64 hi] 2 (0,0)))(hbw:v.heap[bw]?=some (.cells #[.int .i64 wd] 2 (0,0))):
  SeqX mn Try.prog 121 #[.pointer (some ⟨bh,0,none⟩),.pointer (some ⟨bw,0,none⟩)] (λx:Int=>#[.int .i64 x]) (KeepL [bh,bw]) (cellsL wd hi 36) v:=by
 intro l J Jx V hge hJ hJx hY h0;have hbh:=geAt hge hbh;have hbw:=geAt hge hbw;clear hge
 let Inv:List Int->World->Prop:=λp v=>J p v/\v.heap[bh]?=some (.cells #[.int .i64 hi] 2 (0,0))/\v.heap[bw]?=some (.cells #[.int .i64 wd] 2 (0,0))/\V.heap.size<=v.heap.size
 have invGe:∀{p v v'},Ge v v'->Inv p v->Inv p v':=λhg h=>⟨ownGe hJ hg h.1,geAt hg h.2.1,geAt hg h.2.2.1,Nat.le_trans h.2.2.2 hg.size⟩
 have hI0:Inv [] V:=⟨h0,hbh,hbw,Nat.le_refl _⟩
 show CallsX mn Try.prog 121 #[.func (.yield l) #[] #[],.pointer (some ⟨bh,0,none⟩),.pointer (some ⟨bw,0,none⟩)] V _
 refine callsX_of_marks (c:=codeOf Try.f121) Try.func121 rfl ?_;have hS:S0 Try.prog (slY l::slP bh::slP bw::us 20 []) { tmps:=#[.func (.yield l) #[] #[],.pointer (some ⟨bh,0,none⟩),.pointer (some ⟨bw,0,none⟩)]++Array.replicate 20 undef,defers:=[] }:=S0.enter [.func (.yield l) #[] #[],.pointer (some ⟨bh,0,none⟩),.pointer (some ⟨bw,0,none⟩)] 20;refine wpX_seq (wpX_read ecΓ_ok hS (j:=1) (b:=bh) rfl hbh (wtI64 (by omega)) rfl (kS:=[0,1,2,6,7]) (nS:=23) (s':=slY l::.a (.w 0)::slP bw::xs 3 (slI hi::slI 0::xs 15 [])) rfl rfl (by kernel_rfl) λa1 v1 hS1 hg1=> ?_);have hS1:S0 Try.prog (ecO l bh bw hi (0:Nat)) a1:=hS1;have hI1:Inv (cellsL wd hi (6*0)) v1:=invGe hg1 hI0;refine wpX_block (wpX_loop_rounds (hi+1) ?_);refine(?_:∀(d y:Nat) (a:Act) (v:World),y+d=hi->S0 Try.prog (ecO l bh bw hi y) a->Inv (cellsL wd hi (6*y)) v->RoundsX mn none Try.prog _ _ (d+1) a v) hi 0 a1 v1 (by omega) hS1 hI1;intro d
 induction d with
 |zero=>
  intro y a v hyd hS hI;obtain rfl:y=hi:=by omega
  refine wpX_seq (wpX_piece0 ecΓ_ok hS (kS:=[8]) (nS:=23) (s':=xs 8 (.a (.b (decide ((y:Int)<y)))::xs 14 [])) rfl (by kernel_rfl) λa2 v2 hS2 hg2=> ?_);refine wpX_seq (wpX_cond_false (by rw[hS2.bool (i:=8) rfl,decide_eq_false (by omega)]) (wpX_exit ?_));refine⟨.inl rfl,leaves_none rfl hS2.defers λv3 hg3=>.inl ?_⟩;rw[cellsL_end hh6];exact(invGe hg3 (invGe hg2 hI)).1
 | succ d ih=>
  intro y a v hyd hS hI;have hlt:y<hi:=by omega
  refine wpX_seq (wpX_piece0 ecΓ_ok hS (kS:=[0,1,2,6,7,8]) (nS:=23) (s':=slY l::slP bh::slP bw::xs 3 (slI hi::slI y::.a (.b (decide ((y:Int)<hi)))::xs 14 [])) rfl (by kernel_rfl) λa2 v2 hS2 hg2=> ?_);refine wpX_seq (wpX_cond_true (by rw[hS2.bool (i:=8) rfl,decide_eq_true (by omega)]) (wpX_skip ?_));refine wpX_seq (wpX_block ?_);refine wpX_seq (wpX_piece0 ecΓ_ok hS2 (kS:=[0,1,2,4,6,7]) (nS:=23) (s':=slY l::slP bh::slP bw::.a .x::slI y::.a .x::slI hi::slI y::xs 15 []) rfl (by kernel_rfl) λa3 v3 hS3 hg3=> ?_);have hI3:=invGe hg3 (invGe hg2 hI);refine wpX_seq (wpX_read ecΓ_ok hS3 (j:=2) (b:=bw) rfl hI3.2.2.1 (wtI64 (by omega)) rfl (kS:=[0,1,2,4,6,7,10,11]) (nS:=23) (s':=slY l::slP bh::.a (.w 0)::.a .x::slI y::.a .x::slI hi::slI y::xs 2 (slI wd::slI 0::xs 11 [])) rfl rfl (by kernel_rfl) λa4 v4 hS4 hg4=> ?_);have hS4:S0 Try.prog (ecI l bh bw hi y wd (0:Nat)) a4:=hS4;have hI4:Inv (cellsL wd hi (6*y+0)) v4:=invGe hg4 hI3;refine wpX_block (wpX_loop_rounds (wd+1) ?_);refine(?_:∀(e x:Nat) (a:Act) (v:World),x+e=wd->S0 Try.prog (ecI l bh bw hi y wd x) a->Inv (cellsL wd hi (6*y+x)) v->RoundsX mn none Try.prog _ _ (e+1) a v) wd 0 a4 v4 (by omega) hS4 hI4;clear hS hI hS2 hS3 hI3 hS4 hI4 hg2 hg3 hg4;intro e
  induction e with
  |zero=>
   intro x a v hxe hS hI;obtain rfl:x=wd:=by omega
   refine wpX_seq (wpX_piece0 ecΓ_ok hS (kS:=[0,1,2,6,7,12]) (nS:=23) (s':=slY l::slP bh::slP bw::xs 3 (slI hi::slI y::xs 4 (.a (.b (decide ((x:Int)<x)))::xs 10 []))) rfl (by kernel_rfl) λa2 v2 hS2 hg2=> ?_);refine wpX_seq (wpX_cond_false (by rw[hS2.bool (i:=12) rfl,decide_eq_false (by omega)]) (wpX_exit ?_));refine wpX_piece0 ecΓ_ok hS2 (kS:=[0,1,2,6,7]) (nS:=23) (s':=ecO l bh bw hi (i64.wrap ((y:Int)+1))) rfl (by kernel_rfl) λa3 v3 hS3 hg3=> ?_
   rw[show i64.wrap ((y:Int)+1)=((y+1:Nat):Int) by rw[IntWalk.i64_in _ (by omega)];omega]at hS3;refine ih (y+1) a3 v3 (by omega) hS3 ?_;rw[cellsL_row hw6];exact invGe hg3 (invGe hg2 hI)
  | succ e ihe=>
   intro x a v hxe hS hI;have hxl:x<wd:=by omega
   have hB:=inC_at hw6 hh6 hxl hlt;refine wpX_seq (wpX_piece0 ecΓ_ok hS (kS:=[0,1,2,4,6,7,10,11,12]) (nS:=23) (s':=slY l::slP bh::slP bw::.a .x::slI y::.a .x::slI hi::slI y::xs 2 (slI wd::slI x::.a (.b (decide ((x:Int)<wd)))::xs 10 [])) rfl (by kernel_rfl) λa2 v2 hS2 hg2=> ?_);refine wpX_seq (wpX_cond_true (by rw[hS2.bool (i:=12) rfl,decide_eq_true (by omega)]) (wpX_skip ?_));refine wpX_seq (wpX_block ?_);refine wpX_seq (wpX_piece0 ecΓ_ok hS2 (kS:=[0,1,2,4,5,6,7,10,11]) (nS:=23) (s':=slY l::slP bh::slP bw::.a .x::slI y::slI x::slI hi::slI y::xs 2 (slI wd::slI x::xs 11 [])) rfl (by kernel_rfl) λa3 v3 hS3 hg3=> ?_);refine wpX_seq (wpX_region ?_)
   show OpsX mn _ _ _ (List.range' 0 5++[5,6]) _ _
   refine opsX_at0 ecΓ_ok hS3 0 5 rfl (kS:=[0,1,2,4,6,7,10,11,14,18]) (nS:=23) (s':=slY l::slP bh::slP bw::.a .x::slI y::.a .x::slI hi::slI y::xs 2 (slI wd::slI x::xs 2 (slY l::xs 3 (slI (i64.wrap ((x:Int)+i64.wrap (6*(y:Int))))::xs 4 [])))) rfl (by kernel_rfl) λa4 v4 hS4 hg4=> ?_
   have hv:i64.wrap ((x:Int)+i64.wrap (6*(y:Int)))=((6*y+x:Nat):Int):=by rw[IntWalk.i64_in (6*(y:Int)) (by omega),IntWalk.i64_in _ (by omega)];omega
   rw[hv]at hS4;have hI4:=invGe hg4 (invGe hg3 (invGe hg2 hI));refine opsX_cons (i:=5) rfl rfl (opX_yieldS rfl rfl (hS4.cst (i:=14) rfl) (args:=#[.int .i64 ((6*y+x:Nat):Int)]) (by rw[<- hS4.int (i:=18) rfl];simp) (hY (cellsL wd hi (6*y+x)) ((6*y+x:Nat):Int) v4 hI4.1 (by rw[<- cellsL_yes hB];exact cellsL_prefix (by omega)) hI4.2.2.2) λr v5 hr=> ?_);rw[<- cellsL_yes hB]at hr;rcases hr with ⟨rfl,hJ5,hk5,hkf5⟩ | ⟨rfl,hJ5,hkf5⟩
   ·have hS5:=hS4.put 19 (y:=.b true) (vv:=.bool true) rfl;have hI5:Inv (cellsL wd hi (6*y+x+1)) v5:=⟨hJ5,hk5 bh (by simp) _ _ _ hI4.2.1,hk5 bw (by simp) _ _ _ hI4.2.2.1,Nat.le_trans hI4.2.2.2 hkf5.size⟩
    show OpsX mn _ _ _ (List.range' 6 1++[]) _ _
    refine opsX_at0 ecΓ_ok hS5 6 1 rfl (kS:=[0,1,2,4,6,7,10,11,20]) (nS:=23) (s':=slY l::slP bh::slP bw::.a .x::slI y::.a .x::slI hi::slI y::xs 2 (slI wd::slI x::xs 8 (.a (.b false)::xs 2 []))) rfl (by kernel_rfl) λa6 v6 hS6 hg6=> ?_
    refine wpX_cond_false (hS6.bool (i:=20) rfl) (wpX_skip ?_);refine wpX_piece0 ecΓ_ok hS6 (kS:=[0,1,2,4,6,7,10,11]) (nS:=23) (s':=ecI l bh bw hi y wd (i64.wrap ((x:Int)+1))) rfl (by kernel_rfl) λa7 v7 hS7 hg7=> ?_
    rw[show i64.wrap ((x:Int)+1)=((x+1:Nat):Int) by rw[IntWalk.i64_in _ (by omega)];omega]at hS7;exact ihe (x+1) a7 v7 (by omega) hS7 (invGe hg7 (invGe hg6 hI5))
   ·have hS5:=hS4.put 19 (y:=.b false) (vv:=.bool false) rfl
    show OpsX mn _ _ _ (List.range' 6 1++[]) _ _
    refine opsX_at0 ecΓ_ok hS5 6 1 rfl (kS:=[20]) (nS:=23) (s':=xs 20 (.a (.b true)::xs 2 [])) rfl (by kernel_rfl) λa6 v6 hS6 hg6=> ?_
    refine wpX_cond_true (hS6.bool (i:=20) rfl) (wpX_ret ?_);exact⟨.inr rfl,leaves_none rfl hS6.defers λv7 hg7=>.inr ⟨_,cellsL_prefix (by omega),ownGe hJx (hg6.trans hg7) hJ5⟩⟩
noncomputable def impl_eachCell_1_ic:ICon:=λbs _=>match bs with|[.row H 2,.row V 2]=>some ⟨Int,λn=>[.i .i64 n],cellsL (num V 0) (num H 0) 36,decide (0<=num V 0)&&decide (num V 0<=6)&&(decide (0<=num H 0)&&decide (num H 0<=6))⟩|_=>none
theorem impl_eachCell_1_iok:IConOkX mn Try.prog 121 impl_eachCell_1_ic:=by
 intro ρ h w ns Y hY hok hH hr
 match ns,hY,hr with
 | [n1,n2],hY,hr=>
  simp only[getH]at hY;unfold impl_eachCell_1_ic at hY;split at hY
  ·rename_i H V heq;have e0:=(List.cons.inj heq).1;have e1:=(List.cons.inj (List.cons.inj heq).2).1;cases hY;have g:∀{m:Nat} {C:Array Value} {t:TypeId},h.getD m .no=.row C t->h[m]?=some (.row C t):=λ{m C t} e=>by
    rw[List.getD_eq_getElem?_getD]at e;cases hm:h[m]? with
    |none=>rw[hm]at e;cases e
    |some b=>rw[hm]at e;exact congrArg some e
   obtain⟨h1,w1⟩:=hH.is n1 _ (g e0);obtain⟨h2,w2⟩:=hH.is n2 _ (g e1);have one:∀{C:Array Value},WT Try.prog 2 C->C=#[.int .i64 (num C 0)]:=λ{C} hC=>by
    have hl:lay Try.prog 2=[3]:=by kernel_rfl
    have hz:=hC.layLen;rw[hl]at hz;have:=hC.int (o:=0) (k:=.i64) (by rw[hl];rfl);refine Array.ext_getElem? λi=> ?_
    by_cases hi:i=0
    ·subst hi;rw[this.1];rfl
    ·rw[Array.getElem?_eq_none (by simp at hz;omega),Array.getElem?_eq_none (by simp;omega)]
   dsimp only at hok;simp only[Bool.and_eq_true,decide_eq_true_eq]at hok;obtain⟨⟨a1,a2⟩,a3,a4⟩:=hok;obtain⟨vn,hv⟩:∃vn:Nat,num V 0=vn:=⟨(num V 0).toNat,by omega⟩;obtain⟨hn,hh⟩:∃hn:Nat,num H 0=hn:=⟨(num H 0).toNat,by omega⟩;rw[one w1,hh]at h1;rw[one w2,hv]at h2;rw[hv,hh];refine⟨λpre x hpre y hy=> ?_,(eachCell_seqX (ρ n1) (ρ n2) vn hn (by omega) (by omega) w h1 h2).keep KeepL.sub |>.any h⟩;simp only[List.mem_singleton]at hy;subst hy;refine⟨rfl,rfl,?_⟩;have:=cellsL_mem (x:=x) (hpre.subset (by simp));have e1:i64.min=-9223372036854775808:=rfl;have e2:i64.max=9223372036854775807:=rfl;omega
  ·cases hY
 |[],hY,_=>cases hY
 |[_],hY,_=>
  simp only[getH]at hY;unfold impl_eachCell_1_ic at hY;split at hY
  ·rename_i heq;simp at heq
  ·cases hY
 |_::_::_::_,hY,_=>
  simp only[getH]at hY;unfold impl_eachCell_1_ic at hY;split at hY
  ·rename_i heq;simp at heq
  ·cases hY
theorem impl_eachCell_1_enter:EntX Try.prog 121:=entX_ok (fn:=Try.f121) (by kernel_rfl) (by kernel_rfl) (by kernel_rfl)
noncomputable def ecT(S:Array Value)(m:Nat):St:=
  ⟨[.a .x,.a (.w 0),.a .x,bif m.testBit 6 then .a (.w 7) else .a .x,bif m.testBit 7 then .a (.w 8) else .a .x,bif m.testBit 0 then .a (.p 0 0 22) else .a .x,bif m.testBit 1 then .a (.i .i8 (num S 0)) else .a .x,bif m.testBit 2 then .a (.i .i64 (i64.wrap (num S 0))) else .a .x,
    bif m.testBit 3 then .a (.p 0 1 22) else .a .x,bif m.testBit 4 then .a (.i .i8 (num S 1)) else .a .x,bif m.testBit 5 then .a (.i .i64 (i64.wrap (num S 1))) else .a .x,.a .x],
   [.row S 37,.no,.no,.no,.no,.no,.no,bif m.testBit 6 then .row #[.int .i64 (bif m.testBit 8 then i64.wrap (num S 0) else 0)] 2 else .no,bif m.testBit 7 then .row #[.int .i64 (bif m.testBit 9 then i64.wrap (num S 1) else 0)] 2 else .no,.no,.no],
   bif m.testBit 9 then [8,7] else bif m.testBit 8 then [7] else []⟩
noncomputable abbrev ecOps:Array Oper:=(regs (codeOf Try.f115)).getD 1 #[]
noncomputable def impl_eachCell_nc:NCon:=λargs=>match args with|[.g S 37]=>some ⟨121,[(#[.int .i64 (num S 1)],2),(#[.int .i64 (num S 0)],2)],none⟩|_=>none
theorem impl_eachCell_nok:NConOkX mn Try.prog 115 impl_eachCell_nc:=by
 intro ρ h w args vals c hr hA hH _;unfold impl_eachCell_nc at hr;split at hr
 ·rename_i S;cases hr
  match vals,hA with
  | [v],hA=>
   obtain⟨rfl,hW⟩:=hA.2 0 _ v rfl rfl;obtain⟨s0,a0,b0⟩:=hW.int (o:=0) (k:=.i8) (by kernel_rfl);obtain⟨s1,a1,b1⟩:=hW.int (o:=1) (k:=.i8) (by kernel_rfl);have e1:IntKind.i8.min=-128:=rfl;have e2:IntKind.i8.max=127:=rfl;rw[e1]at a0 a1;rw[e2]at b0 b1;refine callsX_of_marks (c:=codeOf Try.f115) Try.func115 rfl ?_;have hS:S0 Try.prog (.a (.v (.agg S))::us 11 []) { tmps:=#[.agg S]++Array.replicate 11 undef,defers:=[] }:=S0.enter [.agg S] 11;have hS:=hS.set (i:=0) (y:=.a (.g S 37)) ⟨rfl,hW⟩;refine wpX_seq (wpX_piece mKn (hS.rr w) 2 (kS:=[1]) (kH:=[0]) (dd:=[]) (nS:=12) (nH:=1) (s':=.a .x::.a (.w 0)::xs 10 []) (h':=[.row S 37]) rfl (by kernel_rfl) λρ1 a1' v1 hR1 hw1=> ?_);refine wpX_seq (wpX_tab (by kernel_rfl) mKn hR1 (ecT S) (levT ecOps 10 [0]) 1023 (by kernel_rfl) (by kernel_rfl) (by kernel_rfl) (by kernel_rfl) (by kernel_rfl) (by kernel_rfl) (by kernel_rfl) (by kernel_rfl) (by kernel_rfl) λρ2 a2 v2 hR2 hg2 hρ2=> ?_);refine wpX_seq (wpX_piece mKn hR2 0 (kS:=[2]) (kH:=[7,8]) (dd:=[]) (nS:=12) (nH:=9) (s':=xs 2 (.a (.c 121 [8,7])::xs 9 [])) (h':=[.no,.no,.no,.no,.no,.no,.no,.row #[.int .i64 (i64.wrap (num S 0))] 2,.row #[.int .i64 (i64.wrap (num S 1))] 2]) rfl (by kernel_rfl) λρ3 a3 v3 hR3 hw3=>wpX_ret ?_);refine⟨.inr rfl,leaves_one rfl hR3.defers λv4 hg4=> ?_⟩;have hf:=hR3.slots 2 _ rfl;refine⟨[(ρ3 8).a,(ρ3 7).a],hf.1,rfl,?_,λj g r hj hr=> ?_,?_⟩
   ·simp only[List.nodup_cons,List.mem_singleton,List.not_mem_nil,not_false_eq_true,List.nodup_nil,and_true];exact hR3.ne (n:=8) (m:=7) rfl rfl (by decide)
   ·match j with
    |0=>cases hj;cases hr;obtain⟨q1,q2,q3⟩:=hR3.row (n:=8) rfl;rw[IntWalk.i64_in _ (by omega)]at q1 q2;exact⟨q3,geAt hg4 q1,q2⟩
    |1=>cases hj;cases hr;obtain⟨q1,q2,q3⟩:=hR3.row (n:=7) rfl;rw[IntWalk.i64_in _ (by omega)]at q1 q2;exact⟨q3,geAt hg4 q1,q2⟩
    |_+2=>simp at hj
   ·exact hR3.kept.trans (.of_below hg4)
 ·cases hr
theorem impl_eachCell_enter:EntX Try.prog 115:=entX_ok (fn:=Try.f115) (by kernel_rfl) (by kernel_rfl) (by kernel_rfl)
end
end Go.Proofs.Ytnhilgpdgicgfaa
