/- For every sea, plan and cells spec and program tell alike whether all are reached. -/
import Derived.Test.YtflnjkpejbohjaaDoorRows
import Derived.Test.YtflnjkpejbohjaaDoorChecked
import Derived.Test.YtflnjkpejbohjaaDoorCpD
import Derived.Test.YtflnjkpejbohjaaDoorVcG
import Derived.Test.YtflnjkpejbohjaaDoorCards
import Derived.Test.YtflnjkpejbohjaaDoorTie
namespace Go.Proofs.YtflnjkpejbohjaaDoor
open Go.ChangeShapes Go.WideShapes Go.ChangeAt Go.RowKit Ve Vc
open Go.Proofs.Tryd (prog)
set_option linter.unusedVariables false
set_option linter.unusedSimpArgs false
set_option maxRecDepth 100000
noncomputable section
variable {F:Vc.Fd}
def Ziq:Cons:=(mkΓ [(7,con Zg2),(9,con Zhz),(10,con Zgy),(13,con Zgv),(16,con Zio),(17,conG Zil)])
theorem Zmk (N:Nat) (a0 a1:Array Value) (a2:Int) (g_et:Addr) (b_a1x2:Option (Option Addr)) (n_a1x2:Nat) (a1x2:Array Value):ansV prog Ziq N Tryd.f5 [] [.g a0 28,.r a1 31 [(2,1)],.i .u64 (a2)] [.gl 5 166 g_et 7000071,.sl (.came b_a1x2) n_a1x2 a1x2 103]=(bif decide ((Zam a1 (1048576:Int) b_a1x2 n_a1x2 a1x2)<(0:Int)) then (some (.a (.b (true)),.none,true))
    else (bif decide (n_a1x2≤1048576) then (bif decide (n_a1x2≤1048576) then (bif (((bif (okS a0&&planB a0 a1 n_a1x2 a1x2) then (bif (Zab a0 a2) then (reaV prog a0 a1 n_a1x2 a1x2 a2==a2) else false) else false)) != ((bif (okS a0&&planB a0 a1 n_a1x2 a1x2) then (bif (Zab a0 a2) then (reaV prog a0 a1 n_a1x2 a1x2 a2==a2) else false) else false))) then (some (.a (.b (false)),.none,true))
          else (bif ((askC a0 a1 n_a1x2 a1x2 a2) != (askC a0 a1 n_a1x2 a1x2 a2)) then (some (.a (.b (false)),.none,true))
            else (bif decide (n_a1x2≤1048576) then (bif (!((Zax a1 a1 none n_a1x2 a1x2 none n_a1x2 a1x2))) then (some (.a (.b (false)),.none,true))
                else (some (.a (.b (true)),.none,true)))
              else (none))))
        else (none))
      else (none))):=by kernel_rfl
def Zbt (P:Program) (a0 a1:Array Value) (a2:Int) (g_et:Addr) (b_a1x2:Option (Option Addr)) (n_a1x2:Nat) (a1x2:Array Value):Bool:=(bif decide ((Zam a1 (1048576:Int) b_a1x2 n_a1x2 a1x2)<(0:Int)) then true else (bif (((bif (okS a0&&planB a0 a1 n_a1x2 a1x2) then (bif (Zab a0 a2) then (reaV P a0 a1 n_a1x2 a1x2 a2==a2) else false) else false)) != ((bif (okS a0&&planB a0 a1 n_a1x2 a1x2) then (bif (Zab a0 a2) then (reaV P a0 a1 n_a1x2 a1x2 a2==a2) else false) else false))) then false else (bif ((askC a0 a1 n_a1x2 a1x2 a2) != (askC a0 a1 n_a1x2 a1x2 a2)) then false else (bif (!((Zax a1 a1 none n_a1x2 a1x2 none n_a1x2 a1x2))) then false else true))))
def Zbq (a0 a1:Array Value) (a2:Int) (g_et:Addr) (b_a1x2:Option (Option Addr)) (n_a1x2:Nat) (a1x2:Array Value):Bool:=(bif decide ((Zam a1 (1048576:Int) b_a1x2 n_a1x2 a1x2)<(0:Int)) then true else (bif decide (n_a1x2≤1048576) then (bif decide (n_a1x2≤1048576) then (bif (((bif (okS a0&&planB a0 a1 n_a1x2 a1x2) then (bif (Zab a0 a2) then (reaV prog a0 a1 n_a1x2 a1x2 a2==a2) else false) else false)) != ((bif (okS a0&&planB a0 a1 n_a1x2 a1x2) then (bif (Zab a0 a2) then (reaV prog a0 a1 n_a1x2 a1x2 a2==a2) else false) else false))) then true else (bif ((askC a0 a1 n_a1x2 a1x2 a2) != (askC a0 a1 n_a1x2 a1x2 a2)) then true else decide (n_a1x2≤1048576))) else false) else false))
theorem Zmh (a0 a1:Array Value) (a2:Int) (g_et:Addr) (b_a1x2:Option (Option Addr)) (n_a1x2:Nat) (a1x2:Array Value) (h_a0:WT prog 28 a0) (h_a1:WT prog 31 a1) (h_a2:IntKind.u64.min≤a2∧a2≤IntKind.u64.max) (h_a1x2:a1x2.size=n_a1x2*(lay prog 103).length∧(∀ k,k<n_a1x2→WT prog 103 (a1x2.extract (k*(lay prog 103).length) (k*(lay prog 103).length+(lay prog 103).length)))∧n_a1x2≤9223372036854775807) (hg:((Zbq a0 a1 a2 g_et b_a1x2 n_a1x2 a1x2))=true):ansV prog Ziq 1000 Tryd.f5 [] [.g a0 28,.r a1 31 [(2,1)],.i .u64 (a2)] [.gl 5 166 g_et 7000071,.sl (.came b_a1x2) n_a1x2 a1x2 103]=some (.a (.b ((Zbt prog a0 a1 a2 g_et b_a1x2 n_a1x2 a1x2))),.none,true):=by
 refine (Zmk 1000 a0 a1 a2 g_et b_a1x2 n_a1x2 a1x2).trans ?_
 unfold Zbq at hg
 unfold Zbt
 revert hg
 generalize (decide ((Zam a1 (1048576:Int) b_a1x2 n_a1x2 a1x2)<(0:Int)))=b2
 intro hg
 cases b2
 ·skip
  revert hg
  generalize (decide (n_a1x2≤1048576))=b4
  intro hg
  cases b4
  ·skip
   first | exact (nomatch (hg:false=true)) | (simp only [cond_true,cond_false,Bool.and_true,Bool.true_and,Bool.and_false,Bool.false_and];done) | rfl
  ·skip
   revert hg
   generalize ((((bif (okS a0&&planB a0 a1 n_a1x2 a1x2) then (bif (Zab a0 a2) then (reaV prog a0 a1 n_a1x2 a1x2 a2==a2) else false) else false)) != ((bif (okS a0&&planB a0 a1 n_a1x2 a1x2) then (bif (Zab a0 a2) then (reaV prog a0 a1 n_a1x2 a1x2 a2==a2) else false) else false))))=b6
   intro hg
   cases b6
   ·skip
    revert hg
    generalize (((askC a0 a1 n_a1x2 a1x2 a2) != (askC a0 a1 n_a1x2 a1x2 a2)))=b8
    intro hg
    cases b8
    ·skip
     revert hg
     generalize ((!((Zax a1 a1 none n_a1x2 a1x2 none n_a1x2 a1x2))))=b10
     intro hg
     cases b10
     ·skip
      first | (simp only [cond_true,cond_false,Bool.and_true,Bool.true_and,Bool.and_false,Bool.false_and];done) | rfl | exact (nomatch (hg:false=true))
     ·skip
      first | (simp only [cond_true,cond_false,Bool.and_true,Bool.true_and,Bool.and_false,Bool.false_and];done) | rfl | exact (nomatch (hg:false=true))
    ·skip
     first | (simp only [cond_true,cond_false,Bool.and_true,Bool.true_and,Bool.and_false,Bool.false_and];done) | rfl | exact (nomatch (hg:false=true))
   ·skip
    first | (simp only [cond_true,cond_false,Bool.and_true,Bool.true_and,Bool.and_false,Bool.false_and];done) | rfl | exact (nomatch (hg:false=true))
 ·skip
  first | (simp only [cond_true,cond_false,Bool.and_true,Bool.true_and,Bool.and_false,Bool.false_and];done) | rfl | exact (nomatch (hg:false=true))
def Zep:Con:=fun args h=>match args,h with
 | [.g a0 28,.r a1 31 [(2,1)],.i .u64 a2],[.gl 5 166 g_et 7000071,.sl (.came b_a1x2) n_a1x2 a1x2 103]=>some (.a (.b ((Zbt prog a0 a1 a2 g_et b_a1x2 n_a1x2 a1x2))),.none,(Zbq a0 a1 a2 g_et b_a1x2 n_a1x2 a1x2))
 | _,_=>none
theorem Zm1:ConOkX (md F) prog 5 Zep:=(Zah (N:=1000) (by kernel_rfl) (mkΓ_consX (Zad Zmy) Zjw (mkΓ_consX (Zad Zog) Zk0 (mkΓ_consX (Zad Zna) Zjy (mkΓ_consX (Zad Znd) Zj2 (mkΓ_consX (Zad Zvb) Zpy (mkΓ_consX (Zrw Zv2) Zqi mkΓ_nilX)))))) (fn:=Tryd.f5) (by kernel_rfl) (by kernel_rfl) []).of (by
 intro ρ h w args vals r e hA hH hr
 unfold Zep at hr
 split at hr
 ·rename_i a0 a1 a2 g_et b_a1x2 n_a1x2 a1x2
  obtain ⟨rfl,hg⟩:=Prod.mk.inj (Option.some.inj hr)
  obtain ⟨rfl,hg2⟩:=Prod.mk.inj hg
  exact Zmh a0 a1 a2 g_et b_a1x2 n_a1x2 a1x2 (hA.wt 0 rfl) (hA.wtr 1 rfl) (hA.rng 2 rfl) (hH.slw 1 rfl) hg2
 ·cases hr)
theorem szP (b:Int) (p:Array Value) (bb:Option (Option Addr)) (n:Nat) (A:Array Value) (h1: -1≤b) (h2:b≤1048576) (h3:n≤9223372036854775807):Zam p b bb n A=if b - (n:Int)<0 then -1 else b - (n:Int):=by
 unfold Zam Za8
 rw [IntWalk.i64_in (b - (n:Int)) (by omega)]
 by_cases h:b - (n:Int)<0
 ·rw [if_pos h,decide_eq_true h];rfl
 ·rw [if_neg h,decide_eq_false h]
  simp only [cond_false,decide_eq_false h]
theorem eqP (p:Array Value) (n:Nat) (A:Array Value):Zax p p none n A none n A=true:=by
 unfold Zax
 simp only [bne_self_eq_false,cond_false,Zit,decide_true,Bool.and_self,Bool.not_true]
theorem Zlo (a0 a1:Array Value) (a2:Int) (g_et:Addr) (b_a1x2:Option (Option Addr)) (n_a1x2:Nat) (a1x2:Array Value) (h_a0:WT prog 28 a0) (h_a1:WT prog 31 a1) (h_a2:IntKind.u64.min≤a2∧a2≤IntKind.u64.max) (h_a1x2:n_a1x2≤9223372036854775807):((Zbq a0 a1 a2 g_et b_a1x2 n_a1x2 a1x2))=true∧((Zbt prog a0 a1 a2 g_et b_a1x2 n_a1x2 a1x2))=true:=by
 unfold Zbq
 unfold Zbt
 rw [szP 1048576 a1 b_a1x2 n_a1x2 a1x2 (by omega) (by omega) h_a1x2,eqP]
 by_cases h:(1048576:Int) - (n_a1x2:Int)<0
 ·rw [if_pos h];exact ⟨rfl,rfl⟩
 ·rw [if_neg h,decide_eq_false h,decide_eq_true (show n_a1x2≤1048576 by omega)]
  simp only [Zit,bne_self_eq_false,Bool.not_true,cond_false,cond_true,Bool.and_self,and_self,Bool.not_false]
namespace lawFnExactPlanCovers
theorem Zpw (Lk:Looks) (g:Bool) {p:Pinned} {s:OpenSpec} {c:OpenClaim} (kinds:List LaidKind) (tests:Bool) (har:Bool×String) (lk:Bool)
  (hc:c.holds p s) (hw:c.wfByText s=true)
  (htie:c.laidByTextAt Lk p kinds tests)
  (hst:c.start = .entering) (hnb:c.noBlocks=false∧c.again=false) (hm:p.checked.prog.mainIs=some (har.1,har.2.toList)) (hn:(!har.1&&har.2.isEmpty && !lk)=false)
  (hl:∀ f fn,p.checked.prog.funcNamed c.func=some f→p.checked.prog.funcs[f]? = some fn→lk=p.checked.prog.looks []∧∀ (j:Nat) t,fn.params[j]? = some t→p.checked.prog.wantsStandIn t=false)
  (hg:g=c.goesBy p.checked.prog) :
  Claim7.holds p (.plain s) { stood:={ row:=c,standIns:=[],harness:=har,looks:=lk },kinds:=[],alts:=[],goes:=g,laidByText:=true,laidKinds:=kinds,laidTests:=tests,laidLooks:=Lk }:=by
 have h6:∀ r:OpenClaim,Claim7.isSixth { stood:={ row:=r,standIns:=[],harness:=har,looks:=lk },kinds:=[] }=false:=fun r=>by simpa [Claim7.isSixth] using hn
 exact ⟨Claim7.tied_new_at Lk kinds tests (Claim7.new_of_sixth hc har lk hst hnb hm (h6 c) hl) hw,(fun D hD=>by cases hD),htie,(fun h=>by cases h),hg⟩
theorem own:ownKnob prog.godebug=none:=by kernel_rfl
theorem Zvo {W:World} (h:laidMetH prog Rows.fnExactPlanCoversRow.laid W):BIs prog idA [] W ⟨0,0⟩ (.gl 5 166 ⟨5,0,none⟩ 7000071):=by
 have h' : laidMet prog [] W ∧ handlesMet prog [("errors.errorType", Rows.laid_errors_errorType)] W := h
 exact Ztb (nm:=[101,114,114,111,114]) (E:=71) (NG:=6) h'.2 (List.Mem.head _) (by kernel_rfl) (by kernel_rfl) (by kernel_rfl) (by kernel_rfl) (by kernel_rfl) (by kernel_rfl) (by decide)
def laidWorld (os:Os):World:=
 let w0:=World.holding prog os ⟨#[],#[],[]⟩
 { w0 with heap:=w0.heap.modify 5 fun
   | .cells _ t frozen=>.cells #[.iface 166 (.agg #[typeHandle prog 71])] t frozen
   | o=>o }
theorem Zu1 (os:Os) (args:Array Value):laidMetH prog Rows.fnExactPlanCoversRow.laid ((laidWorld os).forCall (fun _ _=>0) ⟨#[],args,[]⟩).memory:=
 laidMetH_of_parts (laidMet_of_run' 8 (by kernel_rfl) (by kernel_rfl)) (by kernel_rfl)
theorem reads (os:Os) {H:Type} (enc:TypeId×Value→H):∃ x,DataW.whole enc prog ((laidWorld os).forCall (fun _ _=>0) ⟨#[],#[.agg (zc prog 28),.agg (zc prog 31),.int .u64 0],[]⟩).memory Tryd.f5.params.toList Rows.fnExactPlanCoversSpec.vars false (#[.agg (zc prog 28),.agg (zc prog 31),.int .u64 0]:Array Value).toList 8=some x:=
 Option.isSome_iff_exists.1 (by kernel_rfl)
set_option maxRecDepth 100000 in
theorem lifted (os:Os) (started:os.Started) (H:Type) (enc:TypeId×Value→H) :
  ReturnsInLeavingWide {} Tryd.checked os 5 .any ((OpenSpec.ofChange Rows.fnExactPlanCoversSpec).preRow enc prog Tryd.f5 Rows.fnExactPlanCoversRow.domain false Rows.fnExactPlanCoversRow.laid) (Rows.fnExactPlanCoversSpec.post enc prog Tryd.f5 false true false false):=by
 obtain ⟨x,hx⟩:=reads os enc
 refine Zku (C:=Tryd.checked) (tb:=4) own (by kernel_rfl) Tryd.func5 (by kernel_rfl) Tryd.underlying4 (of_decide_eq_true (by kernel_rfl)) (by kernel_rfl) ?_ os started H enc
  (witness_row_at (enc:=enc) (C:=Tryd.checked) false (laidWorld os) #[.agg (zc prog 28),.agg (zc prog 31),.int .u64 0] rfl (by kernel_rfl) (by kernel_rfl) (by kernel_rfl)
   (OpenSpec.preRow_of_cond 8 hx (by kernel_rfl) (fun k hk=>by cases hk) (by kernel_rfl) (Zu1 os _))) ?_
 ·intro H ds gs hds hgs
  rw [show Tryd.f5.params.toList.length=3 by kernel_rfl] at hds
  rw [show Rows.fnExactPlanCoversSpec.vars.length=0 by kernel_rfl] at hgs
  match ds,hds,gs,hgs with
  | [_,_,_],_,[],_=>rfl
 ·intro W base args ds ps hval hA hL
  have k0:=Zvo hL
  rw [Tryd.params5] at hA hval
  obtain ⟨v0,vs0,d0,ds0,p0,q0,ha0,rfl,rfl,h0,r0⟩:=trodAll_cons hA
  obtain ⟨v1,vs1,d1,ds1,p1,q1,rfl,rfl,rfl,h1,r1⟩:=trodAll_cons r0
  obtain ⟨v2,vs2,d2,ds2,p2,q2,rfl,rfl,rfl,h2,r2⟩:=trodAll_cons r1
  obtain ⟨rfl,rfl,rfl⟩:=trodAll_nil r2
  have hargs:args=#[v0,v1,v2]:=by cases args;simp_all
  obtain ⟨a0,e0,w0⟩:=Ybx (t:=28) 8 (by kernel_rfl) (by kernel_rfl) (hval 0 28 v0 rfl (by rw [hargs];rfl)) h0
  obtain ⟨x_a1x2,n_a1x2,c_a1x2,a1x2,a1,D_a1,e1,s1,w1,z11,z12,z13,z14⟩:=Yfe (P:=prog) (t:=31) (e:=103) (ts:=29) 8 2 2 Tryd.underlying31 (by kernel_rfl) (by kernel_rfl) (by kernel_rfl) (by kernel_rfl) Tryd.underlying29 (by kernel_rfl) (by kernel_rfl) (Nat.lt_of_lt_of_eq (by decide:0<3) (by kernel_rfl)) (hval 1 31 v1 rfl (by rw [hargs];rfl)) h1
  obtain ⟨a2,e2,_,_,w2⟩:=open_int Tryd.underlying23 (hval 2 23 v2 rfl (by rw [hargs];rfl)) h2
  obtain rfl:args=#[.agg a0,.agg D_a1,.int .u64 a2]:=by rw [hargs,e0,e1,e2]
  obtain ⟨hg,hv⟩:=Zlo a0 a1 a2 ⟨5,0,none⟩ (some x_a1x2) n_a1x2 a1x2 w0 w1 (wfb w2) s1.2.2.1
  have hr:Zep [.g a0 28,.r a1 31 [(2,1)],.i .u64 a2] [.gl 5 166 ⟨5,0,none⟩ 7000071,.sl (.came (some x_a1x2)) n_a1x2 a1x2 103]=some (.a (.b true),.none,true):=by
   show (some (SV.a (SA.b ((Zbt prog a0 a1 a2 ⟨5,0,none⟩ (some x_a1x2) n_a1x2 a1x2))),Eff.none,(Zbq a0 a1 a2 ⟨5,0,none⟩ (some x_a1x2) n_a1x2 a1x2)):Option (SV×Eff×Bool))=_
   rw [hg,hv]
  exact Ybe (by kernel_rfl) Zm1 (hh:=[.gl 5 166 ⟨5,0,none⟩ 7000071,.sl (.came (some x_a1x2)) n_a1x2 a1x2 103]) (by kernel_rfl) hr W (vals:=[.agg a0,.agg D_a1,.int .u64 a2]) (.gl k0 (.cons s1 .nil)) (allCons2 ⟨rfl,w0⟩ (allCons2 (Ykx rfl w1 z11 z12 z13 z14) (allCons2 ⟨rfl,wfb w2⟩ (allNil2 _))))
theorem said:Rows.FnExactPlanCoversSaid:=
 OpenClaim.holds_of_wide_leaving 5 Tryd.f5 rfl rfl rfl rfl rfl rfl rfl ⟨rfl,rfl,rfl,rfl,rfl⟩ rfl rfl rfl rfl rfl (by kernel_rfl) Tryd.func5 (by kernel_rfl)
  (of_decide_eq_true (by kernel_rfl)) (by unfold Func.isWrapper;first | (rw [if_pos (by decide +kernel)];kernel_rfl) | (rw [if_neg (by decide +kernel)];exact ⟨rfl,rfl⟩))
  (fun os started H enc _=>by rw [OpenClaim.pre_eq_preRow];exact lifted os started H enc)
theorem plain (f:FuncId) (fn:Func) (hf:Tryd.pinned.checked.prog.funcNamed Rows.fnExactPlanCoversRow.func=some f) (hfn:Tryd.pinned.checked.prog.funcs[f]? = some fn) :
  Rows.fnExactPlanCoversCard.stood.looks=Tryd.pinned.checked.prog.looks []∧∀ (j:Nat) t,fn.params[j]? = some t→Tryd.pinned.checked.prog.wantsStandIn t=false:=by
 obtain rfl:f=5:=Option.some.inj ((show prog.funcNamed Rows.fnExactPlanCoversRow.func=some 5 by kernel_rfl).symm.trans hf) |>.symm
 obtain rfl:fn=Tryd.f5:=(Option.some.inj (Tryd.func5.symm.trans hfn)).symm
 refine ⟨by kernel_rfl,fun j t ht=> ?_⟩
 have hall:∀ t ∈ Tryd.f5.params.toList,prog.wantsStandIn t=false:=of_decide_eq_true (by kernel_rfl)
 exact hall t (by simpa using Array.mem_of_getElem? ht)
theorem proved:Rows.FnExactPlanCoversCardSaid:=
 Zpw .later true _ _ _ _ said (by kernel_rfl) fnExactPlanCovers_row_tie rfl ⟨rfl,rfl⟩ (by kernel_rfl) rfl plain (by kernel_rfl)
#print axioms proved
end lawFnExactPlanCovers
end
end Go.Proofs.YtflnjkpejbohjaaDoor
