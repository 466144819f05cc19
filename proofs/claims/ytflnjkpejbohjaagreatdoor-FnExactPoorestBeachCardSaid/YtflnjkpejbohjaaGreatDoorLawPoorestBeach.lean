/- For every sea, plan and cells spec and program tell the same poorest beach. -/
import Derived.Lib.LaidTab
import Derived.Test.YtflnjkpejbohjaaGreatDoorRows
import Derived.Test.YtflnjkpejbohjaaGreatDoorChecked
import Derived.Test.YtflnjkpejbohjaaGreatDoorCpH
import Derived.Test.YtflnjkpejbohjaaGreatDoorVcG
import Derived.Test.YtflnjkpejbohjaaGreatDoorCards
import Derived.Test.YtflnjkpejbohjaaGreatDoorTie
namespace Go.Proofs.YtflnjkpejbohjaaGreatDoor
open Go.ChangeShapes Go.WideShapes Go.ChangeAt Go.RowKit Ve Vc
set_option linter.unusedVariables false
set_option linter.unusedSimpArgs false
set_option maxRecDepth 100000
noncomputable section
variable {F:Vc.Fd}
def Zhf:Cons:=(mkΓ [(6,con Zld),(8,con Zmx),(9,con Zlq),(11,con Zkb),(12,con Zlk),(13,con Zg2),(14,conG Zgo)])
theorem Zk5 (N:Nat) (a0 a1:Array Value) (a2:Int) (g_et:Addr) (g_tb:Addr) (bQ:Option (Option Addr)) (nQ:Nat) (aQ:Array Value):ansV Tryz.prog Zhf N Tryz.f4 [] [.g a0 28,.r a1 31 [(2,2)],.i .u64 (a2)] [.gl 0 148 g_et 3000073,.gl 1 0 g_tb 1000000000,.sl (.came bQ) nQ aQ 101]=(bif decide ((Zdo a1 (1048576:Int) bQ nQ aQ)<(0:Int)) then (some (.a (.b (true)),.none,true))
    else (bif decide (nQ≤1048576) then (bif decide (nQ≤1048576) then (bif ((poaV Tryz.prog a0 a1 nQ aQ a2) != (poaV Tryz.prog a0 a1 nQ aQ a2)) then (some (.a (.b (false)),.none,true))
          else (bif (!((Zdp (poaS Tryz.prog a0 a1 nQ aQ a2) (poaS Tryz.prog a0 a1 nQ aQ a2)))) then (some (.a (.b (false)),.none,true))
            else (bif ((poaC a0 a1 nQ aQ a2) != (poaC a0 a1 nQ aQ a2)) then (some (.a (.b (false)),.none,true))
              else (bif decide (nQ≤1048576) then (bif (!((Zee a1 a1 none nQ aQ none nQ aQ))) then (some (.a (.b (false)),.none,true))
                  else (some (.a (.b (true)),.none,true)))
                else (none)))))
        else (none))
      else (none))):=by kernel_rfl
def Zbc (P:Program) (a0 a1:Array Value) (a2:Int) (g_et:Addr) (g_tb:Addr) (bQ:Option (Option Addr)) (nQ:Nat) (aQ:Array Value):Bool:=(bif decide ((Zdo a1 (1048576:Int) bQ nQ aQ)<(0:Int)) then true else (bif ((poaV P a0 a1 nQ aQ a2) != (poaV P a0 a1 nQ aQ a2)) then false else (bif (!((Zdp (poaS P a0 a1 nQ aQ a2) (poaS P a0 a1 nQ aQ a2)))) then false else (bif ((poaC a0 a1 nQ aQ a2) != (poaC a0 a1 nQ aQ a2)) then false else (bif (!((Zee a1 a1 none nQ aQ none nQ aQ))) then false else true)))))
def Zbf (a0 a1:Array Value) (a2:Int) (g_et:Addr) (g_tb:Addr) (bQ:Option (Option Addr)) (nQ:Nat) (aQ:Array Value):Bool:=(bif decide ((Zdo a1 (1048576:Int) bQ nQ aQ)<(0:Int)) then true else (bif decide (nQ≤1048576) then (bif decide (nQ≤1048576) then (bif ((poaV Tryz.prog a0 a1 nQ aQ a2) != (poaV Tryz.prog a0 a1 nQ aQ a2)) then true else (bif (!((Zdp (poaS Tryz.prog a0 a1 nQ aQ a2) (poaS Tryz.prog a0 a1 nQ aQ a2)))) then true else (bif ((poaC a0 a1 nQ aQ a2) != (poaC a0 a1 nQ aQ a2)) then true else decide (nQ≤1048576)))) else false) else false))
theorem Zj7 (a0 a1:Array Value) (a2:Int) (g_et:Addr) (g_tb:Addr) (bQ:Option (Option Addr)) (nQ:Nat) (aQ:Array Value) (h_a0:WT Tryz.prog 28 a0) (h_a1:WT Tryz.prog 31 a1) (h_a2:IntKind.u64.min≤a2∧a2≤IntKind.u64.max) (h_a1x2:aQ.size=nQ*(lay Tryz.prog 101).length∧(∀ k,k<nQ→WT Tryz.prog 101 (aQ.extract (k*(lay Tryz.prog 101).length) (k*(lay Tryz.prog 101).length+(lay Tryz.prog 101).length)))∧nQ≤9223372036854775807) (hg:((Zbf a0 a1 a2 g_et g_tb bQ nQ aQ))=true):ansV Tryz.prog Zhf 1000 Tryz.f4 [] [.g a0 28,.r a1 31 [(2,2)],.i .u64 (a2)] [.gl 0 148 g_et 3000073,.gl 1 0 g_tb 1000000000,.sl (.came bQ) nQ aQ 101]=some (.a (.b ((Zbc Tryz.prog a0 a1 a2 g_et g_tb bQ nQ aQ))),.none,true):=by
 refine (Zk5 1000 a0 a1 a2 g_et g_tb bQ nQ aQ).trans ?_
 unfold Zbf at hg
 unfold Zbc
 revert hg
 generalize (decide ((Zdo a1 (1048576:Int) bQ nQ aQ)<(0:Int)))=b2
 intro hg
 cases b2
 ·skip
  revert hg
  generalize (decide (nQ≤1048576))=b4
  intro hg
  cases b4
  ·skip
   first | exact (nomatch (hg:false=true)) | (simp only [cond_true,cond_false,Bool.and_true,Bool.true_and,Bool.and_false,Bool.false_and];done) | rfl
  ·skip
   revert hg
   generalize (((poaV Tryz.prog a0 a1 nQ aQ a2) != (poaV Tryz.prog a0 a1 nQ aQ a2)))=b6
   intro hg
   cases b6
   ·skip
    revert hg
    generalize ((!((Zdp (poaS Tryz.prog a0 a1 nQ aQ a2) (poaS Tryz.prog a0 a1 nQ aQ a2)))))=b8
    intro hg
    cases b8
    ·skip
     revert hg
     generalize (((poaC a0 a1 nQ aQ a2) != (poaC a0 a1 nQ aQ a2)))=b10
     intro hg
     cases b10
     ·skip
      revert hg
      generalize ((!((Zee a1 a1 none nQ aQ none nQ aQ))))=b12
      intro hg
      cases b12
      ·skip
       first | (simp only [cond_true,cond_false,Bool.and_true,Bool.true_and,Bool.and_false,Bool.false_and];done) | rfl | exact (nomatch (hg:false=true))
      ·skip
       first | (simp only [cond_true,cond_false,Bool.and_true,Bool.true_and,Bool.and_false,Bool.false_and];done) | rfl | exact (nomatch (hg:false=true))
     ·skip
      first | (simp only [cond_true,cond_false,Bool.and_true,Bool.true_and,Bool.and_false,Bool.false_and];done) | rfl | exact (nomatch (hg:false=true))
    ·skip
     first | (simp only [cond_true,cond_false,Bool.and_true,Bool.true_and,Bool.and_false,Bool.false_and];done) | rfl | exact (nomatch (hg:false=true))
   ·skip
    first | (simp only [cond_true,cond_false,Bool.and_true,Bool.true_and,Bool.and_false,Bool.false_and];done) | rfl | exact (nomatch (hg:false=true))
 ·skip
  first | (simp only [cond_true,cond_false,Bool.and_true,Bool.true_and,Bool.and_false,Bool.false_and];done) | rfl | exact (nomatch (hg:false=true))
def Zd6:Con:=fun args h=>match args,h with
 | [.g a0 28,.r a1 31 [(2,2)],.i .u64 a2],[.gl 0 148 g_et 3000073,.gl 1 0 g_tb 1000000000,.sl (.came bQ) nQ aQ 101]=>some (.a (.b ((Zbc Tryz.prog a0 a1 a2 g_et g_tb bQ nQ aQ))),.none,(Zbf a0 a1 a2 g_et g_tb bQ nQ aQ))
 | _,_=>none
theorem Zlz:Uad (md F) Tryz.prog 4 Zd6:=(Zah (N:=1000) (by kernel_rfl) (mkΓ_consX (Zad Yc3) Zw3 (mkΓ_consX (Zad Yew) Zyn (mkΓ_consX (Zad Ycr) Zww (mkΓ_consX (Zad Zz2) Zt1 (mkΓ_consX (Zad Ycj) Zwt (mkΓ_consX (Zad Zr3) Zoc (mkΓ_consX (Ye7 Zse) Zoj mkΓ_nilX))))))) (fn:=Tryz.f4) (by kernel_rfl) (by kernel_rfl) []).of (by
 intro ρ h w args vals r e hA hH hr
 unfold Zd6 at hr
 split at hr
 ·rename_i a0 a1 a2 g_et g_tb bQ nQ aQ
  obtain ⟨rfl,hg⟩:=Prod.mk.inj (Option.some.inj hr)
  obtain ⟨rfl,hg2⟩:=Prod.mk.inj hg
  exact Zj7 a0 a1 a2 g_et g_tb bQ nQ aQ (hA.wt 0 rfl) (hA.wtr 1 rfl) (hA.rng 2 rfl) (hH.slw 2 rfl) hg2
 ·cases hr)
theorem szP (b:Int) (p:Array Value) (bb:Option (Option Addr)) (n:Nat) (A:Array Value) (h1: -1≤b) (h2:b≤1048576) (h3:n≤9223372036854775807):Zdo p b bb n A=if b - (n:Int)<0 then -1 else b - (n:Int):=by
 unfold Zdo Zby
 rw [IntWalk.i64_in (b - (n:Int)) (by omega)]
 by_cases h:b - (n:Int)<0
 ·rw [if_pos h,decide_eq_true h];rfl
 ·rw [if_neg h,decide_eq_false h]
  simp only [cond_false,decide_eq_false h]
theorem eqP (p:Array Value) (n:Nat) (A:Array Value):Zee p p none n A none n A=true:=by
 unfold Zee
 simp only [bne_self_eq_false,cond_false,Zq6,decide_true,Bool.and_self,Bool.not_true]
theorem Zkf (a0 a1:Array Value) (a2:Int) (g_et:Addr) (g_tb:Addr) (bQ:Option (Option Addr)) (nQ:Nat) (aQ:Array Value) (h_a0:WT Tryz.prog 28 a0) (h_a1:WT Tryz.prog 31 a1) (h_a2:IntKind.u64.min≤a2∧a2≤IntKind.u64.max) (h_a1x2:nQ≤9223372036854775807):((Zbf a0 a1 a2 g_et g_tb bQ nQ aQ))=true∧((Zbc Tryz.prog a0 a1 a2 g_et g_tb bQ nQ aQ))=true:=by
 unfold Zbf
 unfold Zbc
 rw [szP 1048576 a1 bQ nQ aQ (by omega) (by omega) h_a1x2,eqP]
 by_cases h:(1048576:Int) - (nQ:Int)<0
 ·rw [if_pos h];exact ⟨rfl,rfl⟩
 ·rw [if_neg h,decide_eq_false h,decide_eq_true (show nQ≤1048576 by omega)]
  simp only [Zdp,Zq6,bne_self_eq_false,Bool.not_true,cond_false,cond_true,Bool.and_self,and_self,Bool.not_false]
namespace lawFnExactPoorestBeach
theorem Ylk (Lk:Looks) (g:Bool) {p:Pinned} {s:OpenSpec} {c:OpenClaim} (kinds:List LaidKind) (tests:Bool) (har:Bool×String) (lk:Bool)
  (hc:c.holds p s) (hw:c.wfByText s=true)
  (htie:c.laidByTextAt Lk p kinds tests)
  (hst:c.start = .entering) (hnb:c.noBlocks=false∧c.again=false) (hm:p.checked.prog.mainIs=some (har.1,har.2.toList)) (hn:(!har.1&&har.2.isEmpty && !lk)=false)
  (hl:∀ f fn,p.checked.prog.funcNamed c.func=some f→p.checked.prog.funcs[f]? = some fn→lk=p.checked.prog.looks []∧∀ (j:Nat) t,fn.params[j]? = some t→p.checked.prog.wantsStandIn t=false)
  (hg:g=c.goesBy p.checked.prog) :
  Claim7.holds p (.plain s) { stood:={ row:=c,standIns:=[],harness:=har,looks:=lk },kinds:=[],alts:=[],goes:=g,laidByText:=true,laidKinds:=kinds,laidTests:=tests,laidLooks:=Lk }:=by
 have h6:∀ r:OpenClaim,Claim7.isSixth { stood:={ row:=r,standIns:=[],harness:=har,looks:=lk },kinds:=[] }=false:=fun r=>by simpa [Claim7.isSixth] using hn
 exact ⟨Claim7.tied_new_at Lk kinds tests (Claim7.new_of_sixth hc har lk hst hnb hm (h6 c) hl) hw,(fun D hD=>by cases hD),htie,(fun h=>by cases h),hg⟩
theorem own:ownKnob Tryz.prog.godebug=none:=by kernel_rfl
theorem laid_all {W:World} (h:laidMetH Tryz.prog Rows.fnExactPoorestBeachRow.laid W):BIs Tryz.prog idA [] W ⟨0,0⟩ (.gl 0 148 ⟨0,0,none⟩ 3000073)∧BIs Tryz.prog idA [] W ⟨0,0⟩ (.gl 1 0 ⟨1,0,none⟩ 1000000000):=by
 have h' : laidMet Tryz.prog [("math/bits.deBruijn64tab", Rows.laid_math_bits_deBruijn64tab)] W ∧ handlesMet Tryz.prog [("errors.errorType", Rows.laid_errors_errorType)] W := h
 refine ⟨(Yif (nm:=[101,114,114,111,114]) (E:=73) (NG:=2) h'.2 (List.Mem.head _) (by kernel_rfl) (by kernel_rfl) (by kernel_rfl) (by kernel_rfl) (by kernel_rfl) (by kernel_rfl) (by decide) (by decide)),.inr ⟨by omega,rfl,.inr ⟨by omega,fun i hi=> ?_⟩⟩⟩
 have e:(Rows.laid_math_bits_deBruijn64tab:DataW Unit)=Lib.tabData .u8 Ufl:=by kernel_rfl
 have h1 : laidMet Tryz.prog (("math/bits.deBruijn64tab", Lib.tabData .u8 Ufl) :: []) W := by rw [← e]; exact h'.1
 have h2 : Lib.TabIs Tryz.prog W "math/bits.deBruijn64tab" .u8 Ufl := Lib.tabIs_of_head (g := 1) (t := 141) (e := 5) (n := 64) (by kernel_rfl) (by kernel_rfl) Tryz.underlying141 Tryz.underlying5 (by kernel_rfl) (by kernel_rfl) h1
 exact h2.cell (by kernel_rfl) i hi
def Uc7 (os:Os):World:=
 let w0:=World.holding Tryz.prog os ⟨#[],#[],[]⟩
 { w0 with heap:=(w0.heap.modify 0 fun
   | .cells _ t frozen=>.cells #[.iface 148 (.agg #[typeHandle Tryz.prog 73])] t frozen
   | o=>o).modify 1 fun
   | .cells _ t frozen=>.cells (Ufl.map fun z=>Value.int .u8 z).toArray t frozen
   | o=>o }
theorem laid_met (os:Os) (args:Array Value):laidMetH Tryz.prog Rows.fnExactPoorestBeachRow.laid ((Uc7 os).forCall (fun _ _=>0) ⟨#[],args,[]⟩).memory:=
 laidMetH_of_parts (laidMet_of_run' 8 (by kernel_rfl) (by kernel_rfl)) (by kernel_rfl)
theorem reads (os:Os) {H:Type} (enc:TypeId×Value→H):∃ x,DataW.whole enc Tryz.prog ((Uc7 os).forCall (fun _ _=>0) ⟨#[],#[.agg (zc Tryz.prog 28),.agg (zc Tryz.prog 31),.int .u64 0],[]⟩).memory Tryz.f4.params.toList Rows.fnExactPoorestBeachSpec.vars false (#[.agg (zc Tryz.prog 28),.agg (zc Tryz.prog 31),.int .u64 0]:Array Value).toList 8=some x:=
 Option.isSome_iff_exists.1 (by kernel_rfl)
set_option maxRecDepth 100000 in
theorem lifted (os:Os) (started:os.Started) (H:Type) (enc:TypeId×Value→H) :
  ReturnsInLeavingWide {} Tryz.checked os 4 .any ((OpenSpec.ofChange Rows.fnExactPoorestBeachSpec).preRow enc Tryz.prog Tryz.f4 Rows.fnExactPoorestBeachRow.domain false Rows.fnExactPoorestBeachRow.laid) (Rows.fnExactPoorestBeachSpec.post enc Tryz.prog Tryz.f4 false true false false):=by
 obtain ⟨x,hx⟩:=reads os enc
 refine Zzf (C:=Tryz.checked) (tb:=4) own (by kernel_rfl) Tryz.func4 (by kernel_rfl) Tryz.underlying4 (of_decide_eq_true (by kernel_rfl)) (by kernel_rfl) ?_ os started H enc
  (witness_row_at (enc:=enc) (C:=Tryz.checked) false (Uc7 os) #[.agg (zc Tryz.prog 28),.agg (zc Tryz.prog 31),.int .u64 0] rfl (by kernel_rfl) (by kernel_rfl) (by kernel_rfl)
   (OpenSpec.preRow_of_cond 8 hx (by kernel_rfl) (fun k hk=>by cases hk) (by kernel_rfl) (laid_met os _))) ?_
 ·intro H ds gs hds hgs
  rw [show Tryz.f4.params.toList.length=3 by kernel_rfl] at hds
  rw [show Rows.fnExactPoorestBeachSpec.vars.length=0 by kernel_rfl] at hgs
  match ds,hds,gs,hgs with
  | [_,_,_],_,[],_=>rfl
 ·intro W base args ds ps hval hA hL
  obtain ⟨k0,k1⟩:=laid_all hL
  rw [Tryz.params4] at hA hval
  obtain ⟨v0,vs0,d0,ds0,p0,q0,ha0,rfl,rfl,h0,r0⟩:=trodAll_cons hA
  obtain ⟨v1,vs1,d1,ds1,p1,q1,rfl,rfl,rfl,h1,r1⟩:=trodAll_cons r0
  obtain ⟨v2,vs2,d2,ds2,p2,q2,rfl,rfl,rfl,h2,r2⟩:=trodAll_cons r1
  obtain ⟨rfl,rfl,rfl⟩:=trodAll_nil r2
  have hargs:args=#[v0,v1,v2]:=by cases args;simp_all
  obtain ⟨a0,e0,w0⟩:=Yl1 (t:=28) 8 (by kernel_rfl) (by kernel_rfl) (hval 0 28 v0 rfl (by rw [hargs];rfl)) h0
  obtain ⟨x_a1x2,nQ,c_a1x2,aQ,a1,D_a1,e1,s1,w1,z11,z12,z13,z14⟩:=open_rsl (P:=Tryz.prog) (t:=31) (e:=101) (ts:=29) 8 2 2 Tryz.underlying31 (by kernel_rfl) (by kernel_rfl) (by kernel_rfl) (by kernel_rfl) Tryz.underlying29 (by kernel_rfl) (by kernel_rfl) (Nat.lt_of_lt_of_eq (by decide:0<3) (by kernel_rfl)) (hval 1 31 v1 rfl (by rw [hargs];rfl)) h1
  obtain ⟨a2,e2,_,_,w2⟩:=open_int Tryz.underlying23 (hval 2 23 v2 rfl (by rw [hargs];rfl)) h2
  obtain rfl:args=#[.agg a0,.agg D_a1,.int .u64 a2]:=by rw [hargs,e0,e1,e2]
  obtain ⟨hg,hv⟩:=Zkf a0 a1 a2 ⟨0,0,none⟩ ⟨1,0,none⟩ (some x_a1x2) nQ aQ w0 w1 (wfb w2) s1.2.2.1
  have hr:Zd6 [.g a0 28,.r a1 31 [(2,2)],.i .u64 a2] [.gl 0 148 ⟨0,0,none⟩ 3000073,.gl 1 0 ⟨1,0,none⟩ 1000000000,.sl (.came (some x_a1x2)) nQ aQ 101]=some (.a (.b true),.none,true):=by
   show (some (SV.a (SA.b ((Zbc Tryz.prog a0 a1 a2 ⟨0,0,none⟩ ⟨1,0,none⟩ (some x_a1x2) nQ aQ))),Eff.none,(Zbf a0 a1 a2 ⟨0,0,none⟩ ⟨1,0,none⟩ (some x_a1x2) nQ aQ)):Option (SV×Eff×Bool))=_
   rw [hg,hv]
  exact Ymp (by kernel_rfl) Zlz (hh:=[.gl 0 148 ⟨0,0,none⟩ 3000073,.gl 1 0 ⟨1,0,none⟩ 1000000000,.sl (.came (some x_a1x2)) nQ aQ 101]) (by kernel_rfl) hr W (vals:=[.agg a0,.agg D_a1,.int .u64 a2]) (.gl k0 (.gl k1 (.cons s1 .nil))) (Udn ⟨rfl,w0⟩ (Udn (is_rsl rfl w1 z11 z12 z13 z14) (Udn ⟨rfl,wfb w2⟩ (allNil2 _))))
theorem said:Rows.FnExactPoorestBeachSaid:=
 OpenClaim.holds_of_wide_leaving 4 Tryz.f4 rfl rfl rfl rfl rfl rfl rfl ⟨rfl,rfl,rfl,rfl,rfl⟩ rfl rfl rfl rfl rfl (by kernel_rfl) Tryz.func4 (by kernel_rfl)
  (of_decide_eq_true (by kernel_rfl)) (by unfold Func.isWrapper;first | (rw [if_pos (by decide +kernel)];kernel_rfl) | (rw [if_neg (by decide +kernel)];exact ⟨rfl,rfl⟩))
  (fun os started H enc _=>by rw [OpenClaim.pre_eq_preRow];exact lifted os started H enc)
theorem plain (f:FuncId) (fn:Func) (hf:Tryz.pinned.checked.prog.funcNamed Rows.fnExactPoorestBeachRow.func=some f) (hfn:Tryz.pinned.checked.prog.funcs[f]? = some fn) :
  Rows.fnExactPoorestBeachCard.stood.looks=Tryz.pinned.checked.prog.looks []∧∀ (j:Nat) t,fn.params[j]? = some t→Tryz.pinned.checked.prog.wantsStandIn t=false:=by
 obtain rfl:f=4:=Option.some.inj ((show Tryz.prog.funcNamed Rows.fnExactPoorestBeachRow.func=some 4 by kernel_rfl).symm.trans hf) |>.symm
 obtain rfl:fn=Tryz.f4:=(Option.some.inj (Tryz.func4.symm.trans hfn)).symm
 refine ⟨by kernel_rfl,fun j t ht=> ?_⟩
 have hall:∀ t ∈ Tryz.f4.params.toList,Tryz.prog.wantsStandIn t=false:=of_decide_eq_true (by kernel_rfl)
 exact hall t (by simpa using Array.mem_of_getElem? ht)
theorem proved:Rows.FnExactPoorestBeachCardSaid:=
 Ylk .later true _ _ _ _ said (by kernel_rfl) fnExactPoorestBeach_row_tie rfl ⟨rfl,rfl⟩ (by kernel_rfl) rfl plain (by kernel_rfl)
#print axioms proved
end lawFnExactPoorestBeach
end
end Go.Proofs.YtflnjkpejbohjaaGreatDoor
