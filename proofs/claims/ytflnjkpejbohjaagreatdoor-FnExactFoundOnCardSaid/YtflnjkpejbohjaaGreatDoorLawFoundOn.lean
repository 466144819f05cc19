/- For every sea, plan and cells spec and program tell the same share that is found. -/
import Derived.Test.YtflnjkpejbohjaaGreatDoorRows
import Derived.Test.YtflnjkpejbohjaaGreatDoorChecked
import Derived.Test.YtflnjkpejbohjaaGreatDoorCpF
import Derived.Test.YtflnjkpejbohjaaGreatDoorVcG
import Derived.Test.YtflnjkpejbohjaaGreatDoorCards
import Derived.Test.YtflnjkpejbohjaaGreatDoorTie
namespace Go.Proofs.YtflnjkpejbohjaaGreatDoor
open Go.ChangeShapes Go.WideShapes Go.ChangeAt Go.RowKit Ve Vc
set_option linter.unusedVariables false
set_option linter.unusedSimpArgs false
set_option maxRecDepth 100000
noncomputable section
variable {F:Vc.Fd}
def Zjp:Cons:=(mkΓ [(6,con Zli),(7,con Zka),(8,con Zmk),(9,con Zls),(10,conG Zkg),(11,con Zkc),(12,con Zlu)])
theorem Znd (N:Nat) (a0 a1:Array Value) (a2:Int) (g_et:Addr) (b_a1x2:Option (Option Addr)) (n_a1x2:Nat) (a1x2:Array Value):ansV Tryz.prog Zjp N Tryz.f3 [] [.g a0 28,.r a1 31 [(2,1)],.i .u64 (a2)] [.gl 0 148 g_et 3000073,.sl (.came b_a1x2) n_a1x2 a1x2 101]=(bif decide ((Zdg a1 (1048576:Int) b_a1x2 n_a1x2 a1x2)<(0:Int)) then (some (.a (.b (true)),.none,true))
    else (bif decide (n_a1x2≤1048576) then (bif decide (n_a1x2≤1048576) then (bif (!((Zdo (fouV Tryz.prog a0 a1 n_a1x2 a1x2 a2) (fouV Tryz.prog a0 a1 n_a1x2 a1x2 a2)))) then (some (.a (.b (false)),.none,true))
          else (bif ((askC a0 a1 n_a1x2 a1x2 a2) != (askC a0 a1 n_a1x2 a1x2 a2)) then (some (.a (.b (false)),.none,true))
            else (bif decide (n_a1x2≤1048576) then (bif (!((Zd7 a1 a1 none n_a1x2 a1x2 none n_a1x2 a1x2))) then (some (.a (.b (false)),.none,true))
                else (some (.a (.b (true)),.none,true)))
              else (none))))
        else (none))
      else (none))):=by kernel_rfl
def Zb7 (P:Program) (a0 a1:Array Value) (a2:Int) (g_et:Addr) (b_a1x2:Option (Option Addr)) (n_a1x2:Nat) (a1x2:Array Value):Bool:=(bif decide ((Zdg a1 (1048576:Int) b_a1x2 n_a1x2 a1x2)<(0:Int)) then true else (bif (!((Zdo (fouV P a0 a1 n_a1x2 a1x2 a2) (fouV P a0 a1 n_a1x2 a1x2 a2)))) then false else (bif ((askC a0 a1 n_a1x2 a1x2 a2) != (askC a0 a1 n_a1x2 a1x2 a2)) then false else (bif (!((Zd7 a1 a1 none n_a1x2 a1x2 none n_a1x2 a1x2))) then false else true))))
def Zb8 (a0 a1:Array Value) (a2:Int) (g_et:Addr) (b_a1x2:Option (Option Addr)) (n_a1x2:Nat) (a1x2:Array Value):Bool:=(bif decide ((Zdg a1 (1048576:Int) b_a1x2 n_a1x2 a1x2)<(0:Int)) then true else (bif decide (n_a1x2≤1048576) then (bif decide (n_a1x2≤1048576) then (bif (!((Zdo (fouV Tryz.prog a0 a1 n_a1x2 a1x2 a2) (fouV Tryz.prog a0 a1 n_a1x2 a1x2 a2)))) then true else (bif ((askC a0 a1 n_a1x2 a1x2 a2) != (askC a0 a1 n_a1x2 a1x2 a2)) then true else decide (n_a1x2≤1048576))) else false) else false))
theorem Zm7 (a0 a1:Array Value) (a2:Int) (g_et:Addr) (b_a1x2:Option (Option Addr)) (n_a1x2:Nat) (a1x2:Array Value) (h_a0:WT Tryz.prog 28 a0) (h_a1:WT Tryz.prog 31 a1) (h_a2:IntKind.u64.min≤a2∧a2≤IntKind.u64.max) (h_a1x2:a1x2.size=n_a1x2*(lay Tryz.prog 101).length∧(∀ k,k<n_a1x2→WT Tryz.prog 101 (a1x2.extract (k*(lay Tryz.prog 101).length) (k*(lay Tryz.prog 101).length+(lay Tryz.prog 101).length)))∧n_a1x2≤9223372036854775807) (hg:((Zb8 a0 a1 a2 g_et b_a1x2 n_a1x2 a1x2))=true):ansV Tryz.prog Zjp 1000 Tryz.f3 [] [.g a0 28,.r a1 31 [(2,1)],.i .u64 (a2)] [.gl 0 148 g_et 3000073,.sl (.came b_a1x2) n_a1x2 a1x2 101]=some (.a (.b ((Zb7 Tryz.prog a0 a1 a2 g_et b_a1x2 n_a1x2 a1x2))),.none,true):=by
 refine (Znd 1000 a0 a1 a2 g_et b_a1x2 n_a1x2 a1x2).trans ?_
 unfold Zb8 at hg
 unfold Zb7
 revert hg
 generalize (decide ((Zdg a1 (1048576:Int) b_a1x2 n_a1x2 a1x2)<(0:Int)))=b2
 intro hg
 cases b2
 ·skip
  revert hg
  generalize (decide (n_a1x2≤1048576))=b4
  intro hg
  cases b4
  ·skip
   first | exact (nomatch (hg:false=true)) | (simp only [cond_true,cond_false,Bool.and_true,Bool.true_and,Bool.and_false,Bool.false_and];done) | rfl
  ·skip
   revert hg
   generalize ((!((Zdo (fouV Tryz.prog a0 a1 n_a1x2 a1x2 a2) (fouV Tryz.prog a0 a1 n_a1x2 a1x2 a2)))))=b6
   intro hg
   cases b6
   ·skip
    revert hg
    generalize (((askC a0 a1 n_a1x2 a1x2 a2) != (askC a0 a1 n_a1x2 a1x2 a2)))=b8
    intro hg
    cases b8
    ·skip
     revert hg
     generalize ((!((Zd7 a1 a1 none n_a1x2 a1x2 none n_a1x2 a1x2))))=b10
     intro hg
     cases b10
     ·skip
      first | (simp only [cond_true,cond_false,Bool.and_true,Bool.true_and,Bool.and_false,Bool.false_and];done) | rfl | exact (nomatch (hg:false=true))
     ·skip
      first | (simp only [cond_true,cond_false,Bool.and_true,Bool.true_and,Bool.and_false,Bool.false_and];done) | rfl | exact (nomatch (hg:false=true))
    ·skip
     first | (simp only [cond_true,cond_false,Bool.and_true,Bool.true_and,Bool.and_false,Bool.false_and];done) | rfl | exact (nomatch (hg:false=true))
   ·skip
    first | (simp only [cond_true,cond_false,Bool.and_true,Bool.true_and,Bool.and_false,Bool.false_and];done) | rfl | exact (nomatch (hg:false=true))
 ·skip
  first | (simp only [cond_true,cond_false,Bool.and_true,Bool.true_and,Bool.and_false,Bool.false_and];done) | rfl | exact (nomatch (hg:false=true))
def Zfn:Con:=fun args h=>match args,h with
 | [.g a0 28,.r a1 31 [(2,1)],.i .u64 a2],[.gl 0 148 g_et 3000073,.sl (.came b_a1x2) n_a1x2 a1x2 101]=>some (.a (.b ((Zb7 Tryz.prog a0 a1 a2 g_et b_a1x2 n_a1x2 a1x2))),.none,(Zb8 a0 a1 a2 g_et b_a1x2 n_a1x2 a1x2))
 | _,_=>none
theorem Zok:ConOkX (md F) Tryz.prog 3 Zfn:=(Zag (N:=1000) (by kernel_rfl) (mkΓ_consX (Zad Yb5) Zvv (mkΓ_consX (Zad Ybj) Zuv (mkΓ_consX (Zad Yd5) Zyq (mkΓ_consX (Zad Ych) Zwz (mkΓ_consX (Yh8 Yad) Zt6 (mkΓ_consX (Zad Yax) Zt8 (mkΓ_consX (Zad Yb4) Zwu mkΓ_nilX))))))) (fn:=Tryz.f3) (by kernel_rfl) (by kernel_rfl) []).of (by
 intro ρ h w args vals r e hA hH hr
 unfold Zfn at hr
 split at hr
 ·rename_i a0 a1 a2 g_et b_a1x2 n_a1x2 a1x2
  obtain ⟨rfl,hg⟩:=Prod.mk.inj (Option.some.inj hr)
  obtain ⟨rfl,hg2⟩:=Prod.mk.inj hg
  exact Zm7 a0 a1 a2 g_et b_a1x2 n_a1x2 a1x2 (hA.wt 0 rfl) (hA.wtr 1 rfl) (hA.rng 2 rfl) (hH.slw 1 rfl) hg2
 ·cases hr)
theorem szP (b:Int) (p:Array Value) (bb:Option (Option Addr)) (n:Nat) (A:Array Value) (h1: -1≤b) (h2:b≤1048576) (h3:n≤9223372036854775807):Zdg p b bb n A=if b - (n:Int)<0 then -1 else b - (n:Int):=by
 unfold Zdg Zbr
 rw [IntWalk.i64_in (b - (n:Int)) (by omega)]
 by_cases h:b - (n:Int)<0
 ·rw [if_pos h,decide_eq_true h];rfl
 ·rw [if_neg h,decide_eq_false h]
  simp only [cond_false,decide_eq_false h]
theorem eqP (p:Array Value) (n:Nat) (A:Array Value):Zd7 p p none n A none n A=true:=by
 unfold Zd7
 simp only [bne_self_eq_false,cond_false,Zqn,decide_true,Bool.and_self,Bool.not_true]
theorem Zmw (a0 a1:Array Value) (a2:Int) (g_et:Addr) (b_a1x2:Option (Option Addr)) (n_a1x2:Nat) (a1x2:Array Value) (h_a0:WT Tryz.prog 28 a0) (h_a1:WT Tryz.prog 31 a1) (h_a2:IntKind.u64.min≤a2∧a2≤IntKind.u64.max) (h_a1x2:n_a1x2≤9223372036854775807):((Zb8 a0 a1 a2 g_et b_a1x2 n_a1x2 a1x2))=true∧((Zb7 Tryz.prog a0 a1 a2 g_et b_a1x2 n_a1x2 a1x2))=true:=by
 unfold Zb8
 unfold Zb7
 rw [szP 1048576 a1 b_a1x2 n_a1x2 a1x2 (by omega) (by omega) h_a1x2,eqP]
 by_cases h:(1048576:Int) - (n_a1x2:Int)<0
 ·rw [if_pos h];exact ⟨rfl,rfl⟩
 ·rw [if_neg h,decide_eq_false h,decide_eq_true (show n_a1x2≤1048576 by omega)]
  simp only [Zdo,Zqn,bne_self_eq_false,Bool.not_true,cond_false,cond_true,Bool.and_self,and_self,Bool.not_false]
namespace lawFnExactFoundOn
theorem Ymf (Lk:Looks) (g:Bool) {p:Pinned} {s:OpenSpec} {c:OpenClaim} (kinds:List LaidKind) (tests:Bool) (har:Bool×String) (lk:Bool)
  (hc:c.holds p s) (hw:c.wfByText s=true)
  (htie:c.laidByTextAt Lk p kinds tests)
  (hst:c.start = .entering) (hnb:c.noBlocks=false∧c.again=false) (hm:p.checked.prog.mainIs=some (har.1,har.2.toList)) (hn:(!har.1&&har.2.isEmpty && !lk)=false)
  (hl:∀ f fn,p.checked.prog.funcNamed c.func=some f→p.checked.prog.funcs[f]? = some fn→lk=p.checked.prog.looks []∧∀ (j:Nat) t,fn.params[j]? = some t→p.checked.prog.wantsStandIn t=false)
  (hg:g=c.goesBy p.checked.prog) :
  Claim7.holds p (.plain s) { stood:={ row:=c,standIns:=[],harness:=har,looks:=lk },kinds:=[],alts:=[],goes:=g,laidByText:=true,laidKinds:=kinds,laidTests:=tests,laidLooks:=Lk }:=by
 have h6:∀ r:OpenClaim,Claim7.isSixth { stood:={ row:=r,standIns:=[],harness:=har,looks:=lk },kinds:=[] }=false:=fun r=>by simpa [Claim7.isSixth] using hn
 exact ⟨Claim7.tied_new_at Lk kinds tests (Claim7.new_of_sixth hc har lk hst hnb hm (h6 c) hl) hw,(fun D hD=>by cases hD),htie,(fun h=>by cases h),hg⟩
theorem own:ownKnob Tryz.prog.godebug=none:=by kernel_rfl
theorem laid_all {W:World} (h:laidMetH Tryz.prog Rows.fnExactFoundOnRow.laid W):BIs Tryz.prog idA [] W ⟨0,0⟩ (.gl 0 148 ⟨0,0,none⟩ 3000073):=by
 have h' : laidMet Tryz.prog [] W ∧ handlesMet Tryz.prog [("errors.errorType", Rows.laid_errors_errorType)] W := h
 exact Yhm (nm:=[101,114,114,111,114]) (E:=73) (NG:=2) h'.2 (List.Mem.head _) (by kernel_rfl) (by kernel_rfl) (by kernel_rfl) (by kernel_rfl) (by kernel_rfl) (by kernel_rfl) (by decide)
def laidWorld (os:Os):World:=
 let w0:=World.holding Tryz.prog os ⟨#[],#[],[]⟩
 { w0 with heap:=w0.heap.modify 0 fun
   | .cells _ t frozen=>.cells #[.iface 148 (.agg #[typeHandle Tryz.prog 73])] t frozen
   | o=>o }
theorem laid_met (os:Os) (args:Array Value):laidMetH Tryz.prog Rows.fnExactFoundOnRow.laid ((laidWorld os).forCall (fun _ _=>0) ⟨#[],args,[]⟩).memory:=
 laidMetH_of_parts (laidMet_of_run' 8 (by kernel_rfl) (by kernel_rfl)) (by kernel_rfl)
theorem reads (os:Os) {H:Type} (enc:TypeId×Value→H):∃ x,DataW.whole enc Tryz.prog ((laidWorld os).forCall (fun _ _=>0) ⟨#[],#[.agg (zc Tryz.prog 28),.agg (zc Tryz.prog 31),.int .u64 0],[]⟩).memory Tryz.f3.params.toList Rows.fnExactFoundOnSpec.vars false (#[.agg (zc Tryz.prog 28),.agg (zc Tryz.prog 31),.int .u64 0]:Array Value).toList 8=some x:=
 Option.isSome_iff_exists.1 (by kernel_rfl)
set_option maxRecDepth 100000 in
theorem lifted (os:Os) (started:os.Started) (H:Type) (enc:TypeId×Value→H) :
  ReturnsInLeavingWide {} Tryz.checked os 3 .any ((OpenSpec.ofChange Rows.fnExactFoundOnSpec).preRow enc Tryz.prog Tryz.f3 Rows.fnExactFoundOnRow.domain false Rows.fnExactFoundOnRow.laid) (Rows.fnExactFoundOnSpec.post enc Tryz.prog Tryz.f3 false true false false):=by
 obtain ⟨x,hx⟩:=reads os enc
 refine Zx1 (C:=Tryz.checked) (tb:=4) own (by kernel_rfl) Tryz.func3 (by kernel_rfl) Tryz.underlying4 (of_decide_eq_true (by kernel_rfl)) (by kernel_rfl) ?_ os started H enc
  (witness_row_at (enc:=enc) (C:=Tryz.checked) false (laidWorld os) #[.agg (zc Tryz.prog 28),.agg (zc Tryz.prog 31),.int .u64 0] rfl (by kernel_rfl) (by kernel_rfl) (by kernel_rfl)
   (OpenSpec.preRow_of_cond 8 hx (by kernel_rfl) (fun k hk=>by cases hk) (by kernel_rfl) (laid_met os _))) ?_
 ·intro H ds gs hds hgs
  rw [show Tryz.f3.params.toList.length=3 by kernel_rfl] at hds
  rw [show Rows.fnExactFoundOnSpec.vars.length=0 by kernel_rfl] at hgs
  match ds,hds,gs,hgs with
  | [_,_,_],_,[],_=>rfl
 ·intro W base args ds ps hval hA hL
  have k0:=laid_all hL
  rw [Tryz.params3] at hA hval
  obtain ⟨v0,vs0,d0,ds0,p0,q0,ha0,rfl,rfl,h0,r0⟩:=trodAll_cons hA
  obtain ⟨v1,vs1,d1,ds1,p1,q1,rfl,rfl,rfl,h1,r1⟩:=trodAll_cons r0
  obtain ⟨v2,vs2,d2,ds2,p2,q2,rfl,rfl,rfl,h2,r2⟩:=trodAll_cons r1
  obtain ⟨rfl,rfl,rfl⟩:=trodAll_nil r2
  have hargs:args=#[v0,v1,v2]:=by cases args;simp_all
  obtain ⟨a0,e0,w0⟩:=Ykv (t:=28) 8 (by kernel_rfl) (by kernel_rfl) (hval 0 28 v0 rfl (by rw [hargs];rfl)) h0
  obtain ⟨x_a1x2,n_a1x2,c_a1x2,a1x2,a1,D_a1,e1,s1,w1,z11,z12,z13,z14⟩:=open_rsl (P:=Tryz.prog) (t:=31) (e:=101) (ts:=29) 8 2 2 Tryz.underlying31 (by kernel_rfl) (by kernel_rfl) (by kernel_rfl) (by kernel_rfl) Tryz.underlying29 (by kernel_rfl) (by kernel_rfl) (Nat.lt_of_lt_of_eq (by decide:0<3) (by kernel_rfl)) (hval 1 31 v1 rfl (by rw [hargs];rfl)) h1
  obtain ⟨a2,e2,_,_,w2⟩:=open_int Tryz.underlying23 (hval 2 23 v2 rfl (by rw [hargs];rfl)) h2
  obtain rfl:args=#[.agg a0,.agg D_a1,.int .u64 a2]:=by rw [hargs,e0,e1,e2]
  obtain ⟨hg,hv⟩:=Zmw a0 a1 a2 ⟨0,0,none⟩ (some x_a1x2) n_a1x2 a1x2 w0 w1 (wfb w2) s1.2.2.1
  have hr:Zfn [.g a0 28,.r a1 31 [(2,1)],.i .u64 a2] [.gl 0 148 ⟨0,0,none⟩ 3000073,.sl (.came (some x_a1x2)) n_a1x2 a1x2 101]=some (.a (.b true),.none,true):=by
   show (some (SV.a (SA.b ((Zb7 Tryz.prog a0 a1 a2 ⟨0,0,none⟩ (some x_a1x2) n_a1x2 a1x2))),Eff.none,(Zb8 a0 a1 a2 ⟨0,0,none⟩ (some x_a1x2) n_a1x2 a1x2)):Option (SV×Eff×Bool))=_
   rw [hg,hv]
  exact Yl8 (by kernel_rfl) Zok (hh:=[.gl 0 148 ⟨0,0,none⟩ 3000073,.sl (.came (some x_a1x2)) n_a1x2 a1x2 101]) (by kernel_rfl) hr W (vals:=[.agg a0,.agg D_a1,.int .u64 a2]) (.gl k0 (.cons s1 .nil)) (allCons2 ⟨rfl,w0⟩ (allCons2 (is_rsl rfl w1 z11 z12 z13 z14) (allCons2 ⟨rfl,wfb w2⟩ (allNil2 _))))
theorem said:Rows.FnExactFoundOnSaid:=
 OpenClaim.holds_of_wide_leaving 3 Tryz.f3 rfl rfl rfl rfl rfl rfl rfl ⟨rfl,rfl,rfl,rfl,rfl⟩ rfl rfl rfl rfl rfl (by kernel_rfl) Tryz.func3 (by kernel_rfl)
  (of_decide_eq_true (by kernel_rfl)) (by unfold Func.isWrapper;first | (rw [if_pos (by decide +kernel)];kernel_rfl) | (rw [if_neg (by decide +kernel)];exact ⟨rfl,rfl⟩))
  (fun os started H enc _=>by rw [OpenClaim.pre_eq_preRow];exact lifted os started H enc)
theorem plain (f:FuncId) (fn:Func) (hf:Tryz.pinned.checked.prog.funcNamed Rows.fnExactFoundOnRow.func=some f) (hfn:Tryz.pinned.checked.prog.funcs[f]? = some fn) :
  Rows.fnExactFoundOnCard.stood.looks=Tryz.pinned.checked.prog.looks []∧∀ (j:Nat) t,fn.params[j]? = some t→Tryz.pinned.checked.prog.wantsStandIn t=false:=by
 obtain rfl:f=3:=Option.some.inj ((show Tryz.prog.funcNamed Rows.fnExactFoundOnRow.func=some 3 by kernel_rfl).symm.trans hf) |>.symm
 obtain rfl:fn=Tryz.f3:=(Option.some.inj (Tryz.func3.symm.trans hfn)).symm
 refine ⟨by kernel_rfl,fun j t ht=> ?_⟩
 have hall:∀ t ∈ Tryz.f3.params.toList,Tryz.prog.wantsStandIn t=false:=of_decide_eq_true (by kernel_rfl)
 exact hall t (by simpa using Array.mem_of_getElem? ht)
theorem proved:Rows.FnExactFoundOnCardSaid:=
 Ymf .later true _ _ _ _ said (by kernel_rfl) fnExactFoundOn_row_tie rfl ⟨rfl,rfl⟩ (by kernel_rfl) rfl plain (by kernel_rfl)
#print axioms proved
end lawFnExactFoundOn
end
end Go.Proofs.YtflnjkpejbohjaaGreatDoor
