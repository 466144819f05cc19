/- For every sea and some cells spec and program tell the same fewest cells from which those can be reached. -/
import Derived.Lib.LaidTab
import Derived.Test.YtgllknjdblkhnaaDoorRows
import Derived.Test.YtgllknjdblkhnaaDoorChecked
import Derived.Test.YtgllknjdblkhnaaDoorCfF
import Derived.Test.YtgllknjdblkhnaaDoorVcG
import Derived.Test.YtgllknjdblkhnaaDoorLoX
import Derived.Test.YtgllknjdblkhnaaDoorCards
import Derived.Test.YtgllknjdblkhnaaDoorTie
set_option linter.unusedVariables false
set_option linter.unusedSimpArgs false
namespace Go.Proofs.YtgllknjdblkhnaaDoor
open Go.ChangeShapes Go.WideShapes Go.ChangeAt Go.RowKit Ve Vc
open Go.Proofs.Tryd (prog)
open IntKind (i64)
set_option maxRecDepth 100000
noncomputable section
variable {mn:Md}
def Zib:Cons:=(mkΓ [(5,con Zh9),(6,con Zm1),(7,conG Zh2)])
theorem Zlk(N:Nat)(a0:Array Value)(a1 a2 a3:Int)(g_et:Addr)(g_tb:Addr):ansV prog Zib N Tryd.f3 [] [.g a0 28,.i .i64 a1,.i .i64 a2,.i .u64 a3] [.gl 0 146 g_et 3000060,.gl 1 0 g_tb 1000000000]=(bif ((fcV prog a0 a1 a2 a3) != (fcV prog a0 a1 a2 a3)) then (some (.a (.b false),.none,true)) else (bif ((fcC prog a0 a1 a2 a3) != (fcC prog a0 a1 a2 a3)) then (some (.a (.b false),.none,true)) else (some (.a (.b true),.none,true)))):=by kernel_rfl
def Zbr(P:Program)(a0:Array Value)(a1 a2 a3:Int)(g_et:Addr)(g_tb:Addr):Bool:=(bif ((fcV P a0 a1 a2 a3) != (fcV P a0 a1 a2 a3)) then false else (bif ((fcC P a0 a1 a2 a3) != (fcC P a0 a1 a2 a3)) then false else true))
theorem Zlc(a0:Array Value)(a1 a2 a3:Int)(g_et:Addr)(g_tb:Addr)(h_a0:WT prog 28 a0)(h_a1:i64.min<=a1/\a1<=i64.max)(h_a2:i64.min<=a2/\a2<=i64.max)(h_a3:IntKind.u64.min<=a3/\a3<=IntKind.u64.max)(hg:(true)=true):ansV prog Zib 1000 Tryd.f3 [] [.g a0 28,.i .i64 a1,.i .i64 a2,.i .u64 a3] [.gl 0 146 g_et 3000060,.gl 1 0 g_tb 1000000000]=some (.a (.b ((Zbr prog a0 a1 a2 a3 g_et g_tb))),.none,true):=by
 refine(Zlk 1000 a0 a1 a2 a3 g_et g_tb).trans ?_;unfold Zbr;revert hg;generalize (((fcV prog a0 a1 a2 a3) != (fcV prog a0 a1 a2 a3)))=b2;intro hg;cases b2
 ·skip
  revert hg;generalize (((fcC prog a0 a1 a2 a3) != (fcC prog a0 a1 a2 a3)))=b4;intro hg;cases b4
  ·skip
   first|rfl|exact(nomatch (hg:false=true))
  ·skip
   first|rfl|exact(nomatch (hg:false=true))
 ·skip
  first|rfl|exact(nomatch (hg:false=true))
def Zez:Con:=λargs h=>match args,h with|[.g a0 28,.i .i64 a1,.i .i64 a2,.i .u64 a3],[.gl 0 146 g_et 3000060,.gl 1 0 g_tb 1000000000]=>some (.a (.b ((Zbr prog a0 a1 a2 a3 g_et g_tb))),.none,true)|_,_=>none
theorem Zma:Uad mn prog 3 Zez:=(ansY (N:=1000) (mKc (Zai Ztp) Zou (mKc (Zai Yef) Zyj (mKc (Zqz Zsx) Zo3 mKn))) Tryd.f3 []).of (by
 intro ρ h w args vals r e hA hH hr;unfold Zez at hr;split at hr
 ·rename_i a0 a1 a2 a3 g_et g_tb;obtain⟨rfl,rfl,hg2⟩:=BQi hr;exact Zlc a0 a1 a2 a3 g_et g_tb (hA.wt 0 rfl) (hA.rng 1 rfl) (hA.rng 2 rfl) (hA.rng 3 rfl) hg2
 ·cases hr)
theorem Zld(a0:Array Value)(a1 a2 a3:Int)(g_et:Addr)(g_tb:Addr)(h_a0:WT prog 28 a0)(h_a1:i64.min<=a1/\a1<=i64.max)(h_a2:i64.min<=a2/\a2<=i64.max)(h_a3:IntKind.u64.min<=a3/\a3<=IntKind.u64.max):(true)=true/\((Zbr prog a0 a1 a2 a3 g_et g_tb))=true:=by
 skip
 unfold Zbr;simp only[Yka,bne_self_eq_false,Bool.not_true,Q2,Q1,Bool.and_self,and_self,Bool.not_false]
namespace lawFnExactFewestCells
theorem own:ownKnob prog.godebug=none:=by kernel_rfl
theorem laid_all{W:World}(h:laidMetH prog Rows.fnExactFewestCellsRow.laid W):BIs prog idA [] W ⟨0,0⟩ (.gl 0 146 ⟨0,0,none⟩ 3000060)/\BIs prog idA [] W ⟨0,0⟩ (.gl 1 0 ⟨1,0,none⟩ 1000000000):=by
 have h' : laidMet prog [("math/bits.deBruijn64tab", Rows.laid_math_bits_deBruijn64tab)] W /\ handlesMet prog [("errors.errorType", Rows.laid_errors_errorType)] W := h
 refine⟨(Yhr (nm:=[101,114,114,111,114]) (E:=60) (NG:=2) h'.2 (List.Mem.head _) (by kernel_rfl) (by kernel_rfl) (by kernel_rfl) (by kernel_rfl) (by kernel_rfl) (by kernel_rfl) (by decide) (by decide)),.inr ⟨by omega,rfl,.inr ⟨by omega,λi hi=> ?_⟩⟩⟩;have e:(Rows.laid_math_bits_deBruijn64tab:DataW Unit)=Lib.tabData .u8 Ugq:=by kernel_rfl
 have h1 : laidMet prog (("math/bits.deBruijn64tab", Lib.tabData .u8 Ugq) :: []) W := by rw [<- e]; exact h'.1
 have h2 : Lib.TabIs prog W "math/bits.deBruijn64tab" .u8 Ugq := Lib.tabIs_of_head (g := 1) (t := 173) (e := 5) (n := 64) (by kernel_rfl) (by kernel_rfl) Tryd.underlying173 Tryd.underlying5 (by kernel_rfl) (by kernel_rfl) h1
 exact h2.cell (by kernel_rfl) i hi
def Uda(os:Os):World:=
 let w0:=World.holding prog os ⟨#[],#[],[]⟩
 { w0 with heap:=(w0.heap.modify 0 fun
   |.cells _ t frozen=>.cells #[.iface 146 (.agg #[typeHandle prog 60])] t frozen
   |o=>o).modify 1 fun
   |.cells _ t frozen=>.cells (Ugq.map λz=>Value.int .u8 z).toArray t frozen
   |o=>o }
theorem laid_met(os:Os)(args:Array Value):laidMetH prog Rows.fnExactFewestCellsRow.laid ((Uda os).forCall (λ_ _=>0) ⟨#[],args,[]⟩).memory:=
 laidMetH_of_parts (laidMet_of_run' 8 (by kernel_rfl) (by kernel_rfl)) (by kernel_rfl)
theorem reads(os:Os){H:Type}(enc:TypeId×Value->H):∃x,DataW.whole enc prog ((Uda os).forCall (λ_ _=>0) ⟨#[],#[.agg (zc prog 28),.int .i64 0,.int .i64 0,.int .u64 0],[]⟩).memory Tryd.f3.params.toList Rows.fnExactFewestCellsSpec.vars false (#[.agg (zc prog 28),.int .i64 0,.int .i64 0,.int .u64 0]:Array Value).toList 8=some x:=
 Option.isSome_iff_exists.1 (by kernel_rfl)
set_option maxRecDepth 100000 in
theorem lifted(os:Os)(started:os.Started)(H:Type)(enc:TypeId×Value->H):
  ReturnsInHanded {} Tryd.checked os 3 .any ((OpenSpec.ofChange Rows.fnExactFewestCellsSpec).preRow enc prog Tryd.f3 Rows.fnExactFewestCellsRow.domain false Rows.fnExactFewestCellsRow.laid) (Rows.fnExactFewestCellsSpec.post enc prog Tryd.f3 false true false false):=by
 obtain⟨x,hx⟩:=reads os enc;refine Ybs (C:=Tryd.checked) (tb:=4) own (by kernel_rfl) Tryd.func3 (by kernel_rfl) Tryd.underlying4 (of_decide_eq_true (by kernel_rfl)) (by kernel_rfl) ?_ os started H enc
  (witness_row_at (enc:=enc) (C:=Tryd.checked) false (Uda os) #[.agg (zc prog 28),.int .i64 0,.int .i64 0,.int .u64 0] rfl (by kernel_rfl) (by kernel_rfl) (by kernel_rfl)
   (OpenSpec.preRow_of_cond 8 hx (by kernel_rfl) (λk hk=>by cases hk) (by kernel_rfl) (laid_met os _))) ?_
 ·intro H ds gs hds hgs;rw[show Tryd.f3.params.toList.length=4 by kernel_rfl]at hds;rw[show Rows.fnExactFewestCellsSpec.vars.length=0 by kernel_rfl]at hgs
  match ds,hds,gs,hgs with|[_,_,_,_],_,[],_=>rfl
 ·intro W base args ds ps hval hA hL;obtain⟨k0,k1⟩:=laid_all hL;rw[Tryd.params3]at hA hval;obtain⟨v0,vs0,d0,ds0,p0,q0,ha0,rfl,rfl,h0,r0⟩:=trodAll_cons hA;obtain⟨v1,vs1,d1,ds1,p1,q1,rfl,rfl,rfl,h1,r1⟩:=trodAll_cons r0;obtain⟨v2,vs2,d2,ds2,p2,q2,rfl,rfl,rfl,h2,r2⟩:=trodAll_cons r1;obtain⟨v3,vs3,d3,ds3,p3,q3,rfl,rfl,rfl,h3,r3⟩:=trodAll_cons r2;obtain⟨rfl,rfl,rfl⟩:=trodAll_nil r3;have hargs:args=#[v0,v1,v2,v3]:=by cases args;simp_all
  obtain⟨a0,e0,w0⟩:=Ylr (t:=28) 8 (by kernel_rfl) (by kernel_rfl) (hval 0 28 v0 rfl (by rw[hargs];rfl)) h0;obtain⟨a1,e1,_,_,w1⟩:=open_int Tryd.underlying2 (hval 1 2 v1 rfl (by rw[hargs];rfl)) h1;obtain⟨a2,e2,_,_,w2⟩:=open_int Tryd.underlying2 (hval 2 2 v2 rfl (by rw[hargs];rfl)) h2;obtain⟨a3,e3,_,_,w3⟩:=open_int Tryd.underlying23 (hval 3 23 v3 rfl (by rw[hargs];rfl)) h3;obtain rfl:args=#[.agg a0,.int .i64 a1,.int .i64 a2,.int .u64 a3]:=by rw[hargs,e0,e1,e2,e3]
  obtain⟨hg,hv⟩:=Zld a0 a1 a2 a3 ⟨0,0,none⟩ ⟨1,0,none⟩  w0 (wfb w1) (wfb w2) (wfb w3);have hr:Zez [.g a0 28,.i .i64 a1,.i .i64 a2,.i .u64 a3] [.gl 0 146 ⟨0,0,none⟩ 3000060,.gl 1 0 ⟨1,0,none⟩ 1000000000]=some (.a (.b true),.none,true):=by
   show (some (SV.a (SA.b ((Zbr prog a0 a1 a2 a3 ⟨0,0,none⟩ ⟨1,0,none⟩))),Eff.none,true):Option (SV×Eff×Bool))=_
   rw[hg,hv]
  exact Yj1 (by kernel_rfl) Zma (hh:=[.gl 0 146 ⟨0,0,none⟩ 3000060,.gl 1 0 ⟨1,0,none⟩ 1000000000]) (by kernel_rfl) hr W (vals:=[.agg a0,.int .i64 a1,.int .i64 a2,.int .u64 a3]) (.gl k0 (.gl k1 .nil)) (Uc9 ⟨rfl,w0⟩ (Uc9 ⟨rfl,wfb w1⟩ (Uc9 ⟨rfl,wfb w2⟩ (Uc9 ⟨rfl,wfb w3⟩ (allNil2 _)))))
theorem said:Rows.FnExactFewestCellsSaid:=
 OpenClaim.holds_of_wide 3 Tryd.f3 rfl rfl rfl rfl rfl rfl rfl ⟨rfl,rfl,rfl,rfl,rfl⟩ rfl rfl rfl rfl rfl (by kernel_rfl) Tryd.func3 (by kernel_rfl)
  (of_decide_eq_true (by kernel_rfl)) (by unfold Func.isWrapper;first | (rw[if_pos (by decide +kernel)];kernel_rfl) | (rw[if_neg (by decide +kernel)];exact⟨rfl,rfl⟩))
  (λos started H enc _=>by rw[OpenClaim.pre_eq_preRow];exact lifted os started H enc)
theorem plain(f:FuncId)(fn:Func)(hf:Tryd.pinned.checked.prog.funcNamed Rows.fnExactFewestCellsRow.func=some f)(hfn:Tryd.pinned.checked.prog.funcs[f]?=some fn):
  Rows.fnExactFewestCellsCard.stood.looks=Tryd.pinned.checked.prog.looks []/\∀(j:Nat) t,fn.params[j]?=some t->Tryd.pinned.checked.prog.wantsStandIn t=false:=by
 obtain rfl:f=3:=Q5 ((show prog.funcNamed Rows.fnExactFewestCellsRow.func=some 3 by kernel_rfl).symm.trans hf) |>.symm
 obtain rfl:fn=Tryd.f3:=(Q5 (Tryd.func3.symm.trans hfn)).symm;refine⟨by kernel_rfl,λj t ht=> ?_⟩;have hall:∀t∈Tryd.f3.params.toList,prog.wantsStandIn t=false:=of_decide_eq_true (by kernel_rfl);exact hall t (by simpa using Array.mem_of_getElem? ht)
theorem proved:Rows.FnExactFewestCellsCardSaid:=
 Claim7.holds_tied_plain_at .later [] _ _ _ _ said (λ_ h=>by cases h) (by kernel_rfl) (λ_ h=>by cases h) fnExactFewestCells_row_tie rfl ⟨rfl,rfl⟩ (by kernel_rfl) rfl plain (by kernel_rfl)
#print axioms proved
end lawFnExactFewestCells
end
end Go.Proofs.YtgllknjdblkhnaaDoor
