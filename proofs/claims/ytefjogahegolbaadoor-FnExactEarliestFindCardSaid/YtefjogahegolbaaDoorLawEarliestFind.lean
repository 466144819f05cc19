/- For all seas, cells, tides and beaches spec and program tell the same earliest find. -/
import Derived.Test.YtefjogahegolbaaDoorRows
import Derived.Test.YtefjogahegolbaaDoorChecked
import Derived.Test.YtefjogahegolbaaDoorCeC
import Derived.Test.YtefjogahegolbaaDoorVcG
import Derived.Test.YtefjogahegolbaaDoorCards
import Derived.Test.YtefjogahegolbaaDoorTie
set_option linter.unusedVariables false
set_option linter.unusedSimpArgs false
namespace Go.Proofs.YtefjogahegolbaaDoor
open Go.ChangeShapes Go.WideShapes Go.ChangeAt Go.RowKit Ve Vc
open Go.Proofs.Tryd (prog)
open IntKind (i64)
set_option maxRecDepth 100000
noncomputable section
variable {F:Vc.Fd}
def Zg1:Cons:=(mkΓ [(5,con Zgq),(6,con Zlv),(7,conG Zgs)])
theorem Zkg(N:Nat)(a0:Array Value)(a1 a2 a3:Int)(g_e0 g_e1 g_e2 g_e3 g_e4:Addr):ansV prog Zg1 N Tryd.f3 [] [.g a0 28,.i .i64 a1,.i .i64 a2,.i .i64 a3] [.gl 1 140 g_e0 101973,.gl 2 140 g_e1 93330,.gl 0 140 g_e2 124718,.gl 3 140 g_e3 112315,.gl 4 140 g_e4 94254]=(bif ((bif okS a0 then (bif bl a0 a1 a2 a3 true then (bif Zab a1 a0 then (0:Int) else (bif Zab a3 a0 then (bif ((fstC prog a0 a1 a2 a3 14) != (0:Int)) then (fstC prog a0 a1 a2 a3 14) else (0:Int)) else (0:Int))) else (0:Int)) else (0:Int)) != (bif okS a0 then (bif bl a0 a1 a2 a3 true then (bif Zab a1 a0 then (0:Int) else (bif Zab a3 a0 then (bif ((fstC prog a0 a1 a2 a3 14) != (0:Int)) then (fstC prog a0 a1 a2 a3 14) else (0:Int)) else (0:Int))) else (0:Int)) else (0:Int))) then (some (.a (.b false),.none,true)) else (bif ((bif okS a0 then (bif bl a0 a1 a2 a3 true then (bif Zab a1 a0 then (4:Int) else (bif Zab a3 a0 then (bif ((fstC prog a0 a1 a2 a3 14) != (0:Int)) then (0:Int) else (6:Int)) else (4:Int))) else (2:Int)) else (1:Int)) != (bif okS a0 then (bif bl a0 a1 a2 a3 true then (bif Zab a1 a0 then (4:Int) else (bif Zab a3 a0 then (bif ((fstC prog a0 a1 a2 a3 14) != (0:Int)) then (0:Int) else (6:Int)) else (4:Int))) else (2:Int)) else (1:Int))) then (some (.a (.b false),.none,true)) else (some (.a (.b true),.none,true)))):=by kernel_rfl
def Zbf(P:Program)(a0:Array Value)(a1 a2 a3:Int)(g_e0 g_e1 g_e2 g_e3 g_e4:Addr):Bool:=(bif ((bif okS a0 then (bif bl a0 a1 a2 a3 true then (bif Zab a1 a0 then (0:Int) else (bif Zab a3 a0 then (bif ((fstC P a0 a1 a2 a3 14) != (0:Int)) then (fstC P a0 a1 a2 a3 14) else (0:Int)) else (0:Int))) else (0:Int)) else (0:Int)) != (bif okS a0 then (bif bl a0 a1 a2 a3 true then (bif Zab a1 a0 then (0:Int) else (bif Zab a3 a0 then (bif ((fstC P a0 a1 a2 a3 14) != (0:Int)) then (fstC P a0 a1 a2 a3 14) else (0:Int)) else (0:Int))) else (0:Int)) else (0:Int))) then false else (bif ((bif okS a0 then (bif bl a0 a1 a2 a3 true then (bif Zab a1 a0 then (4:Int) else (bif Zab a3 a0 then (bif ((fstC P a0 a1 a2 a3 14) != (0:Int)) then (0:Int) else (6:Int)) else (4:Int))) else (2:Int)) else (1:Int)) != (bif okS a0 then (bif bl a0 a1 a2 a3 true then (bif Zab a1 a0 then (4:Int) else (bif Zab a3 a0 then (bif ((fstC P a0 a1 a2 a3 14) != (0:Int)) then (0:Int) else (6:Int)) else (4:Int))) else (2:Int)) else (1:Int))) then false else true))
theorem Zjv(a0:Array Value)(a1 a2 a3:Int)(g_e0 g_e1 g_e2 g_e3 g_e4:Addr)(h_a0:WT prog 28 a0)(h_a1:i64.min<=a1/\a1<=i64.max)(h_a2:i64.min<=a2/\a2<=i64.max)(h_a3:i64.min<=a3/\a3<=i64.max)(hg:(true)=true):ansV prog Zg1 1000 Tryd.f3 [] [.g a0 28,.i .i64 a1,.i .i64 a2,.i .i64 a3] [.gl 1 140 g_e0 101973,.gl 2 140 g_e1 93330,.gl 0 140 g_e2 124718,.gl 3 140 g_e3 112315,.gl 4 140 g_e4 94254]=some (.a (.b ((Zbf prog a0 a1 a2 a3 g_e0 g_e1 g_e2 g_e3 g_e4))),.none,true):=by
 refine(Zkg 1000 a0 a1 a2 a3 g_e0 g_e1 g_e2 g_e3 g_e4).trans ?_;unfold Zbf;revert hg;generalize (((bif okS a0 then (bif bl a0 a1 a2 a3 true then (bif Zab a1 a0 then (0:Int) else (bif Zab a3 a0 then (bif ((fstC prog a0 a1 a2 a3 14) != (0:Int)) then (fstC prog a0 a1 a2 a3 14) else (0:Int)) else (0:Int))) else (0:Int)) else (0:Int)) != (bif okS a0 then (bif bl a0 a1 a2 a3 true then (bif Zab a1 a0 then (0:Int) else (bif Zab a3 a0 then (bif ((fstC prog a0 a1 a2 a3 14) != (0:Int)) then (fstC prog a0 a1 a2 a3 14) else (0:Int)) else (0:Int))) else (0:Int)) else (0:Int))))=b2;intro hg;cases b2
 ·skip
  revert hg;generalize (((bif okS a0 then (bif bl a0 a1 a2 a3 true then (bif Zab a1 a0 then (4:Int) else (bif Zab a3 a0 then (bif ((fstC prog a0 a1 a2 a3 14) != (0:Int)) then (0:Int) else (6:Int)) else (4:Int))) else (2:Int)) else (1:Int)) != (bif okS a0 then (bif bl a0 a1 a2 a3 true then (bif Zab a1 a0 then (4:Int) else (bif Zab a3 a0 then (bif ((fstC prog a0 a1 a2 a3 14) != (0:Int)) then (0:Int) else (6:Int)) else (4:Int))) else (2:Int)) else (1:Int))))=b4;intro hg;cases b4
  ·skip
   first|rfl|exact(nomatch (hg:false=true))
  ·skip
   first|rfl|exact(nomatch (hg:false=true))
 ·skip
  first|rfl|exact(nomatch (hg:false=true))
def Zdw:Con:=λargs h=>match args,h with|[.g a0 28,.i .i64 a1,.i .i64 a2,.i .i64 a3],[.gl 1 140 g_e0 101973,.gl 2 140 g_e1 93330,.gl 0 140 g_e2 124718,.gl 3 140 g_e3 112315,.gl 4 140 g_e4 94254]=>some (.a (.b ((Zbf prog a0 a1 a2 a3 g_e0 g_e1 g_e2 g_e3 g_e4))),.none,true)|_,_=>none
theorem Zk3:Uad (md F) prog 3 Zdw:=(ansY (N:=1000) (mKc (Zah Zqc) Zmi (mKc (Zah Ycl) Zw4 (mKc (Zdy Zqb) Zna mKn))) Tryd.f3 []).of (by
 intro ρ h w args vals r e hA hH hr;unfold Zdw at hr;split at hr
 ·rename_i a0 a1 a2 a3 g_e0 g_e1 g_e2 g_e3 g_e4;obtain⟨rfl,rfl,hg2⟩:=BQi hr;exact Zjv a0 a1 a2 a3 g_e0 g_e1 g_e2 g_e3 g_e4 (hA.wt 0 rfl) (hA.rng 1 rfl) (hA.rng 2 rfl) (hA.rng 3 rfl) hg2
 ·cases hr)
theorem Zj5(a0:Array Value)(a1 a2 a3:Int)(g_e0 g_e1 g_e2 g_e3 g_e4:Addr)(h_a0:WT prog 28 a0)(h_a1:i64.min<=a1/\a1<=i64.max)(h_a2:i64.min<=a2/\a2<=i64.max)(h_a3:i64.min<=a3/\a3<=i64.max):(true)=true/\((Zbf prog a0 a1 a2 a3 g_e0 g_e1 g_e2 g_e3 g_e4))=true:=by
 skip
 unfold Zbf;simp only[Yhz,bne_self_eq_false,Bool.not_true,Q2,Q1,and_self]
namespace lawFnExactEarliestFind
theorem Ykx(Lk:Looks)(g:Bool){p:Pinned}{s:OpenSpec}{c:OpenClaim}(kinds:List LaidKind)(tests:Bool)(har:Bool×String)(lk:Bool)
  (hc:c.holds p s) (hw:c.wfByText s=true)
  (htie:c.laidByTextAt Lk p kinds tests)
  (hst:c.start=.entering) (hnb:c.noBlocks=false/\c.again=false) (hm:p.checked.prog.mainIs=some (har.1,har.2.toList)) (hn:(!har.1&&har.2.isEmpty && !lk)=false)
  (hl:∀f fn,p.checked.prog.funcNamed c.func=some f->p.checked.prog.funcs[f]?=some fn->lk=p.checked.prog.looks []/\∀(j:Nat) t,fn.params[j]?=some t->p.checked.prog.wantsStandIn t=false)
  (hg:g=c.goesBy p.checked.prog) :
  Claim7.holds p (.plain s) { stood:={ row:=c,standIns:=[],harness:=har,looks:=lk },kinds:=[],alts:=[],goes:=g,laidByText:=true,laidKinds:=kinds,laidTests:=tests,laidLooks:=Lk }:=by
 have h6:∀r:OpenClaim,Claim7.isSixth { stood:={ row:=r,standIns:=[],harness:=har,looks:=lk },kinds:=[] }=false:=λr=>by simpa [Claim7.isSixth] using hn
 exact⟨Claim7.tied_new_at Lk kinds tests (Claim7.new_of_sixth hc har lk hst hnb hm (h6 c) hl) hw,(λD hD=>by cases hD),htie,(λh=>by cases h),hg⟩
theorem own:ownKnob prog.godebug=none:=by kernel_rfl
theorem star : "*" ++ "errors.errorString" = "*errors.errorString" := by decide
theorem Yer (u : TypeId) (h : prog.typeName? 3 u = some "*errors.errorString") : u = 140 :=
 typeName_ptr_named (nm := "errors.errorString") (by rw [star]; kernel_rfl) (by kernel_rfl) (by decide) u (by rw [star]; exact h)
theorem n_e0 : prog.globalNamed "loop.example/g01300/impl.errInvalid" = some 1 := by kernel_rfl
theorem t_e0:(prog.globals[1]?).map (·.type)=some 49:=by kernel_rfl
theorem n_e1 : prog.globalNamed "loop.example/g01300/impl.errRange" = some 2 := by kernel_rfl
theorem t_e1:(prog.globals[2]?).map (·.type)=some 49:=by kernel_rfl
theorem n_e2 : prog.globalNamed "loop.example/g01300/impl.errState" = some 0 := by kernel_rfl
theorem t_e2:(prog.globals[0]?).map (·.type)=some 49:=by kernel_rfl
theorem n_e3 : prog.globalNamed "loop.example/g01300/impl.errLimit" = some 3 := by kernel_rfl
theorem t_e3:(prog.globals[3]?).map (·.type)=some 49:=by kernel_rfl
theorem n_e4 : prog.globalNamed "loop.example/g01300/impl.errNotFound" = some 4 := by kernel_rfl
theorem t_e4:(prog.globals[4]?).map (·.type)=some 49:=by kernel_rfl
theorem laid_all{W:World}(h:laidMetH prog Rows.fnExactEarliestFindRow.laid W):∃b0 b1 b2 b3 b4:Addr,BIs prog idA [] W ⟨0,0⟩ (.gl 1 140 b0 36452)/\BIs prog idA [] W ⟨0,0⟩ (.gl 2 140 b1 27809)/\BIs prog idA [] W ⟨0,0⟩ (.gl 0 140 b2 59197)/\BIs prog idA [] W ⟨0,0⟩ (.gl 3 140 b3 46794)/\BIs prog idA [] W ⟨0,0⟩ (.gl 4 140 b4 28733):=by have h0:laidMet prog Rows.fnExactEarliestFindRow.laid W:=h;have h1:=laidMet.tail h0;have h2:=laidMet.tail h1;have h3:=laidMet.tail h2;have h4:=laidMet.tail h3;obtain⟨b0,k0⟩:=Zx9 h0 n_e0 t_e0 Tryd.underlying49 Yer Tryd.underlying140 Tryd.underlying166 rfl rfl Tryd.underlying9 (by kernel_rfl) (by kernel_rfl);obtain⟨b1,k1⟩:=Zx9 h1 n_e1 t_e1 Tryd.underlying49 Yer Tryd.underlying140 Tryd.underlying166 rfl rfl Tryd.underlying9 (by kernel_rfl) (by kernel_rfl);obtain⟨b2,k2⟩:=Zx9 h3 n_e2 t_e2 Tryd.underlying49 Yer Tryd.underlying140 Tryd.underlying166 rfl rfl Tryd.underlying9 (by kernel_rfl) (by kernel_rfl);obtain⟨b3,k3⟩:=Zx9 h2 n_e3 t_e3 Tryd.underlying49 Yer Tryd.underlying140 Tryd.underlying166 rfl rfl Tryd.underlying9 (by kernel_rfl) (by kernel_rfl);obtain⟨b4,k4⟩:=Zx9 h4 n_e4 t_e4 Tryd.underlying49 Yer Tryd.underlying140 Tryd.underlying166 rfl rfl Tryd.underlying9 (by kernel_rfl) (by kernel_rfl);exact⟨b0,b1,b2,b3,b4,k0,k1,k2,k3,k4⟩
def low:Nat:=(World.holding prog default ⟨#[],#[],[]⟩).heap.size
def Udc(os:Os):World:=
 let w0:=World.holding prog os ⟨#[.cells #[.string ⟨(#[116,104,101,32,115,101,97,32,111,114,32,116,104,101,32,102,105,110,100,115,32,97,114,101,32,110,111,116,32,118,97,108,105,100]:Array UInt8)⟩] 166,.cells #[.string ⟨(#[97,32,110,117,109,98,101,114,32,105,115,32,111,117,116,32,111,102,32,105,116,115,32,114,97,110,103,101]:Array UInt8)⟩] 166,.cells #[.string ⟨(#[108,97,110,100,32,105,115,32,119,104,101,114,101,32,119,97,116,101,114,32,104,97,115,32,116,111,32,98,101,44,32,111,114,32,119,97,116,101,114,32,119,104,101,114,101,32,108,97,110,100,32,104,97,115,32,116,111,32,98,101]:Array UInt8)⟩] 166,.cells #[.string ⟨(#[116,104,101,114,101,32,119,111,117,108,100,32,98,101,32,116,111,111,32,109,97,110,121,32,102,105,110,100,115]:Array UInt8)⟩] 166,.cells #[.string ⟨(#[116,104,101,114,101,32,105,115,32,110,111,116,104,105,110,103,32,111,102,32,116,104,105,115,32,107,105,110,100]:Array UInt8)⟩] 166],#[],[]⟩
 { w0 with heap:=((((w0.heap.modify 1 fun
   |.cells _ t frozen=>.cells #[.iface 140 (.pointer (some ⟨low+0,0,none⟩))] t frozen
   |o=>o).modify 2 fun
   |.cells _ t frozen=>.cells #[.iface 140 (.pointer (some ⟨low+1,0,none⟩))] t frozen
   |o=>o).modify 0 fun
   |.cells _ t frozen=>.cells #[.iface 140 (.pointer (some ⟨low+2,0,none⟩))] t frozen
   |o=>o).modify 3 fun
   |.cells _ t frozen=>.cells #[.iface 140 (.pointer (some ⟨low+3,0,none⟩))] t frozen
   |o=>o).modify 4 fun
   |.cells _ t frozen=>.cells #[.iface 140 (.pointer (some ⟨low+4,0,none⟩))] t frozen
   |o=>o }
theorem laid_met(os:Os)(args:Array Value):laidMet prog Rows.fnExactEarliestFindRow.laid ((Udc os).forCall (λ_ _=>0) ⟨#[],args,[]⟩).memory:=
 laidMet_of_run' 8 (by kernel_rfl) (by kernel_rfl)
theorem reads(os:Os){H:Type}(enc:TypeId×Value->H):∃x,DataW.whole enc prog ((Udc os).forCall (λ_ _=>0) ⟨#[],#[.agg (zc prog 28),.int .i64 0,.int .i64 0,.int .i64 0],[]⟩).memory Tryd.f3.params.toList Rows.fnExactEarliestFindSpec.vars false (#[.agg (zc prog 28),.int .i64 0,.int .i64 0,.int .i64 0]:Array Value).toList 8=some x:=
 Option.isSome_iff_exists.1 (by kernel_rfl)
set_option maxRecDepth 100000 in
theorem lifted(os:Os)(started:os.Started)(H:Type)(enc:TypeId×Value->H):
  ReturnsInLeavingWide {} Tryd.checked os 3 .any ((OpenSpec.ofChange Rows.fnExactEarliestFindSpec).preRow enc prog Tryd.f3 Rows.fnExactEarliestFindRow.domain false Rows.fnExactEarliestFindRow.laid) (Rows.fnExactEarliestFindSpec.post enc prog Tryd.f3 false true false false):=by
 obtain⟨x,hx⟩:=reads os enc;refine Zwu (C:=Tryd.checked) (tb:=4) own (by kernel_rfl) Tryd.func3 (by kernel_rfl) Tryd.underlying4 (of_decide_eq_true (by kernel_rfl)) (by kernel_rfl) ?_ os started H enc
  (witness_row_at (enc:=enc) (C:=Tryd.checked) false (Udc os) #[.agg (zc prog 28),.int .i64 0,.int .i64 0,.int .i64 0] rfl (by kernel_rfl) (by kernel_rfl) (by kernel_rfl)
   (OpenSpec.preRow_of_cond 8 hx (by kernel_rfl) (λk hk=>by cases hk) (by kernel_rfl) (laid_met os _))) ?_
 ·intro H ds gs hds hgs;rw[show Tryd.f3.params.toList.length=4 by kernel_rfl]at hds;rw[show Rows.fnExactEarliestFindSpec.vars.length=5 by kernel_rfl]at hgs
  match ds,hds,gs,hgs with|[_,_,_,_],_,[_,_,_,_,_],_=>rfl
 ·intro W base args ds ps hval hA hL;obtain⟨b0,b1,b2,b3,b4,k0,k1,k2,k3,k4⟩:=laid_all hL;rw[Tryd.params3]at hA hval;obtain⟨v0,vs0,d0,ds0,p0,q0,ha0,rfl,rfl,h0,r0⟩:=trodAll_cons hA;obtain⟨v1,vs1,d1,ds1,p1,q1,rfl,rfl,rfl,h1,r1⟩:=trodAll_cons r0;obtain⟨v2,vs2,d2,ds2,p2,q2,rfl,rfl,rfl,h2,r2⟩:=trodAll_cons r1;obtain⟨v3,vs3,d3,ds3,p3,q3,rfl,rfl,rfl,h3,r3⟩:=trodAll_cons r2;obtain⟨rfl,rfl,rfl⟩:=trodAll_nil r3;have hargs:args=#[v0,v1,v2,v3]:=by cases args;simp_all
  obtain⟨a0,e0,w0⟩:=Yjt (t:=28) 8 (by kernel_rfl) (by kernel_rfl) (hval 0 28 v0 rfl (by rw[hargs];rfl)) h0;obtain⟨a1,e1,_,_,w1⟩:=open_int Tryd.underlying2 (hval 1 2 v1 rfl (by rw[hargs];rfl)) h1;obtain⟨a2,e2,_,_,w2⟩:=open_int Tryd.underlying2 (hval 2 2 v2 rfl (by rw[hargs];rfl)) h2;obtain⟨a3,e3,_,_,w3⟩:=open_int Tryd.underlying2 (hval 3 2 v3 rfl (by rw[hargs];rfl)) h3;obtain rfl:args=#[.agg a0,.int .i64 a1,.int .i64 a2,.int .i64 a3]:=by rw[hargs,e0,e1,e2,e3]
  obtain⟨hg,hv⟩:=Zj5 a0 a1 a2 a3 b0 b1 b2 b3 b4  w0 (wfb w1) (wfb w2) (wfb w3);have hr:Zdw [.g a0 28,.i .i64 a1,.i .i64 a2,.i .i64 a3] [.gl 1 140 b0 101973,.gl 2 140 b1 93330,.gl 0 140 b2 124718,.gl 3 140 b3 112315,.gl 4 140 b4 94254]=some (.a (.b true),.none,true):=by
   show (some (SV.a (SA.b ((Zbf prog a0 a1 a2 a3 b0 b1 b2 b3 b4))),Eff.none,true):Option (SV×Eff×Bool))=_
   rw[hg,hv]
  exact Yjs (by kernel_rfl) Zk3 (hh:=[.gl 1 140 b0 36452,.gl 2 140 b1 27809,.gl 0 140 b2 59197,.gl 3 140 b3 46794,.gl 4 140 b4 28733]) (by kernel_rfl) hr W (vals:=[.agg a0,.int .i64 a1,.int .i64 a2,.int .i64 a3]) (.gl k0 (.gl k1 (.gl k2 (.gl k3 (.gl k4 .nil))))) (Uc6 ⟨rfl,w0⟩ (Uc6 ⟨rfl,wfb w1⟩ (Uc6 ⟨rfl,wfb w2⟩ (Uc6 ⟨rfl,wfb w3⟩ (allNil2 _)))))
theorem said:Rows.FnExactEarliestFindSaid:=
 OpenClaim.holds_of_wide_leaving 3 Tryd.f3 rfl rfl rfl rfl rfl rfl rfl ⟨rfl,rfl,rfl,rfl,rfl⟩ rfl rfl rfl rfl rfl (by kernel_rfl) Tryd.func3 (by kernel_rfl)
  (of_decide_eq_true (by kernel_rfl)) (by unfold Func.isWrapper;first | (rw[if_pos (by decide +kernel)];kernel_rfl) | (rw[if_neg (by decide +kernel)];exact⟨rfl,rfl⟩))
  (λos started H enc _=>by rw[OpenClaim.pre_eq_preRow];exact lifted os started H enc)
theorem plain(f:FuncId)(fn:Func)(hf:Tryd.pinned.checked.prog.funcNamed Rows.fnExactEarliestFindRow.func=some f)(hfn:Tryd.pinned.checked.prog.funcs[f]?=some fn):
  Rows.fnExactEarliestFindCard.stood.looks=Tryd.pinned.checked.prog.looks []/\∀(j:Nat) t,fn.params[j]?=some t->Tryd.pinned.checked.prog.wantsStandIn t=false:=by
 obtain rfl:f=3:=Q5 ((show prog.funcNamed Rows.fnExactEarliestFindRow.func=some 3 by kernel_rfl).symm.trans hf) |>.symm
 obtain rfl:fn=Tryd.f3:=(Q5 (Tryd.func3.symm.trans hfn)).symm;refine⟨by kernel_rfl,λj t ht=> ?_⟩;have hall:∀t∈Tryd.f3.params.toList,prog.wantsStandIn t=false:=of_decide_eq_true (by kernel_rfl);exact hall t (by simpa using Array.mem_of_getElem? ht)
theorem proved:Rows.FnExactEarliestFindCardSaid:=
 Ykx .later true _ _ _ _ said (by kernel_rfl) fnExactEarliestFind_row_tie rfl ⟨rfl,rfl⟩ (by kernel_rfl) rfl plain (by kernel_rfl)
#print axioms proved
end lawFnExactEarliestFind
end
end Go.Proofs.YtefjogahegolbaaDoor
