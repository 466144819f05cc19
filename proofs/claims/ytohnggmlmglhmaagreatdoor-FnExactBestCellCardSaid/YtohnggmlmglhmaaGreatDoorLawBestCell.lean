/- For every sea, plan and cells spec and program tell the same best cell and hour of a release. -/
import Derived.Lib.LaidTab
import Derived.Test.YtohnggmlmglhmaaGreatDoorRows
import Derived.Test.YtohnggmlmglhmaaGreatDoorChecked
import Derived.Test.YtohnggmlmglhmaaGreatDoorCnH
import Derived.Test.YtohnggmlmglhmaaGreatDoorVcG
import Derived.Test.YtohnggmlmglhmaaGreatDoorLoX
import Derived.Test.YtohnggmlmglhmaaGreatDoorCards
import Derived.Test.YtohnggmlmglhmaaGreatDoorTie
namespace Go.Proofs.YtohnggmlmglhmaaGreatDoor
open Go.ChangeShapes Go.WideShapes Go.ChangeAt Go.RowKit Ve Vc
set_option linter.unusedVariables false
set_option linter.unusedSimpArgs false
set_option maxRecDepth 100000
noncomputable section
variable {mn:Md}
def Zkg:Cons:=(mkΓ [(7,con Zmt),(9,con Zn6),(10,con Zma),(12,con Zlk),(13,con Zmh),(14,con Zkt),(15,conG Zkp)])
theorem Zo8 (N:Nat) (a0 a1:Array Value) (a2:Int) (g_et:Addr) (g_tb:Addr) (bQ:Option (Option Addr)) (nQ:Nat) (aQ:Array Value):ansV Tryz.prog Zkg N Tryz.f4 [] [.g a0 28,.r a1 31 [(2,2)],.i .u64 (a2)] [.gl 0 184 g_et 3000075,.gl 1 0 g_tb 1000000000,.sl (.came bQ) nQ aQ 114]=(bif decide ((Zd1 a1 (1048576:Int) bQ nQ aQ)<(0:Int)) then (some (.a (.b (true)),.none,true))
    else (bif decide (nQ≤1048576) then (bif decide (nQ≤1048576) then (bif ((celC Tryz.prog a0 a1 nQ aQ a2) != (celC Tryz.prog a0 a1 nQ aQ a2)) then (some (.a (.b (false)),.none,true))
          else (bif ((houC Tryz.prog a0 a1 nQ aQ a2) != (houC Tryz.prog a0 a1 nQ aQ a2)) then (some (.a (.b (false)),.none,true))
            else (bif (!((Zd7 (shaC Tryz.prog a0 a1 nQ aQ a2) (shaC Tryz.prog a0 a1 nQ aQ a2)))) then (some (.a (.b (false)),.none,true))
              else (bif ((codC Tryz.prog a0 a1 nQ aQ a2) != (codC Tryz.prog a0 a1 nQ aQ a2)) then (some (.a (.b (false)),.none,true))
                else (bif decide (nQ≤1048576) then (bif (!((Zev a1 a1 none nQ aQ none nQ aQ))) then (some (.a (.b (false)),.none,true))
                    else (some (.a (.b (true)),.none,true)))
                  else (none))))))
        else (none))
      else (none))):=by kernel_rfl
def Zch (P:Program) (a0 a1:Array Value) (a2:Int) (g_et:Addr) (g_tb:Addr) (bQ:Option (Option Addr)) (nQ:Nat) (aQ:Array Value):Bool:=(bif decide ((Zd1 a1 (1048576:Int) bQ nQ aQ)<(0:Int)) then true else (bif ((celC P a0 a1 nQ aQ a2) != (celC P a0 a1 nQ aQ a2)) then false else (bif ((houC P a0 a1 nQ aQ a2) != (houC P a0 a1 nQ aQ a2)) then false else (bif (!((Zd7 (shaC P a0 a1 nQ aQ a2) (shaC P a0 a1 nQ aQ a2)))) then false else (bif ((codC P a0 a1 nQ aQ a2) != (codC P a0 a1 nQ aQ a2)) then false else (bif (!((Zev a1 a1 none nQ aQ none nQ aQ))) then false else true))))))
def Zcg (a0 a1:Array Value) (a2:Int) (g_et:Addr) (g_tb:Addr) (bQ:Option (Option Addr)) (nQ:Nat) (aQ:Array Value):Bool:=(bif decide ((Zd1 a1 (1048576:Int) bQ nQ aQ)<(0:Int)) then true else (bif decide (nQ≤1048576) then (bif decide (nQ≤1048576) then (bif ((celC Tryz.prog a0 a1 nQ aQ a2) != (celC Tryz.prog a0 a1 nQ aQ a2)) then true else (bif ((houC Tryz.prog a0 a1 nQ aQ a2) != (houC Tryz.prog a0 a1 nQ aQ a2)) then true else (bif (!((Zd7 (shaC Tryz.prog a0 a1 nQ aQ a2) (shaC Tryz.prog a0 a1 nQ aQ a2)))) then true else (bif ((codC Tryz.prog a0 a1 nQ aQ a2) != (codC Tryz.prog a0 a1 nQ aQ a2)) then true else decide (nQ≤1048576))))) else false) else false))
theorem Znx (a0 a1:Array Value) (a2:Int) (g_et:Addr) (g_tb:Addr) (bQ:Option (Option Addr)) (nQ:Nat) (aQ:Array Value) (h_a0:WT Tryz.prog 28 a0) (h_a1:WT Tryz.prog 31 a1) (h_a2:IntKind.u64.min≤a2∧a2≤IntKind.u64.max) (h_a1x2:aQ.size=nQ*(lay Tryz.prog 114).length∧(∀ k,k<nQ→WT Tryz.prog 114 (aQ.extract (k*(lay Tryz.prog 114).length) (k*(lay Tryz.prog 114).length+(lay Tryz.prog 114).length)))∧nQ≤9223372036854775807) (hg:((Zcg a0 a1 a2 g_et g_tb bQ nQ aQ))=true):ansV Tryz.prog Zkg 1000 Tryz.f4 [] [.g a0 28,.r a1 31 [(2,2)],.i .u64 (a2)] [.gl 0 184 g_et 3000075,.gl 1 0 g_tb 1000000000,.sl (.came bQ) nQ aQ 114]=some (.a (.b ((Zch Tryz.prog a0 a1 a2 g_et g_tb bQ nQ aQ))),.none,true):=by
 refine (Zo8 1000 a0 a1 a2 g_et g_tb bQ nQ aQ).trans ?_
 unfold Zcg at hg
 unfold Zch
 revert hg
 generalize (decide ((Zd1 a1 (1048576:Int) bQ nQ aQ)<(0:Int)))=b2
 intro hg
 cases b2
 ·skip
  revert hg
  generalize (decide (nQ≤1048576))=b4
  intro hg
  cases b4
  ·skip
   first | exact (nomatch (hg:false=true)) | (simp only [Q1,Q2,BQ6];done) | rfl
  ·skip
   revert hg
   generalize (((celC Tryz.prog a0 a1 nQ aQ a2) != (celC Tryz.prog a0 a1 nQ aQ a2)))=b6
   intro hg
   cases b6
   ·skip
    revert hg
    generalize (((houC Tryz.prog a0 a1 nQ aQ a2) != (houC Tryz.prog a0 a1 nQ aQ a2)))=b8
    intro hg
    cases b8
    ·skip
     revert hg
     generalize ((!((Zd7 (shaC Tryz.prog a0 a1 nQ aQ a2) (shaC Tryz.prog a0 a1 nQ aQ a2)))))=b10
     intro hg
     cases b10
     ·skip
      revert hg
      generalize (((codC Tryz.prog a0 a1 nQ aQ a2) != (codC Tryz.prog a0 a1 nQ aQ a2)))=b12
      intro hg
      cases b12
      ·skip
       revert hg
       generalize ((!((Zev a1 a1 none nQ aQ none nQ aQ))))=b14
       intro hg
       cases b14
       ·skip
        first | (simp only [Q1,Q2,BQ6];done) | rfl | exact (nomatch (hg:false=true))
       ·skip
        first | (simp only [Q1,Q2,BQ6];done) | rfl | exact (nomatch (hg:false=true))
      ·skip
       first | (simp only [Q1,Q2,BQ6];done) | rfl | exact (nomatch (hg:false=true))
     ·skip
      first | (simp only [Q1,Q2,BQ6];done) | rfl | exact (nomatch (hg:false=true))
    ·skip
     first | (simp only [Q1,Q2,BQ6];done) | rfl | exact (nomatch (hg:false=true))
   ·skip
    first | (simp only [Q1,Q2,BQ6];done) | rfl | exact (nomatch (hg:false=true))
 ·skip
  first | (simp only [Q1,Q2,BQ6];done) | rfl | exact (nomatch (hg:false=true))
def Zfy:Con:=fun args h=>match args,h with
 | [.g a0 28,.r a1 31 [(2,2)],.i .u64 a2],[.gl 0 184 g_et 3000075,.gl 1 0 g_tb 1000000000,.sl (.came bQ) nQ aQ 114]=>some (.a (.b ((Zch Tryz.prog a0 a1 a2 g_et g_tb bQ nQ aQ))),.none,(Zcg a0 a1 a2 g_et g_tb bQ nQ aQ))
 | _,_=>none
theorem Zpr:Uad mn Tryz.prog 4 Zfy:=(Zai (N:=1000) (by kernel_rfl) (mkΓ_consX (Zad Yez) Zzc (mkΓ_consX (Zad Yhi) Ya7 (mkΓ_consX (Zad Yet) Zzk (mkΓ_consX (Zad Yed) Zxs (mkΓ_consX (Zad Ye8) Zz2 (mkΓ_consX (Zad Ybe) Zvu (mkΓ_consX (Zl3 Ya4) Zuz mkΓ_nilX))))))) (fn:=Tryz.f4) (by kernel_rfl) (by kernel_rfl) []).of (by
 intro ρ h w args vals r e hA hH hr
 unfold Zfy at hr
 split at hr
 ·rename_i a0 a1 a2 g_et g_tb bQ nQ aQ
  obtain ⟨rfl,rfl,hg2⟩:=BQi hr
  exact Znx a0 a1 a2 g_et g_tb bQ nQ aQ (hA.wt 0 rfl) (hA.wtr 1 rfl) (hA.rng 2 rfl) (hH.slw 2 rfl) hg2
 ·cases hr)
theorem szP (b:Int) (p:Array Value) (bb:Option (Option Addr)) (n:Nat) (A:Array Value) (h1: -1≤b) (h2:b≤1048576) (h3:n≤9223372036854775807):Zd1 p b bb n A=if b - (n:Int)<0 then -1 else b - (n:Int):=by
 unfold Zd1 Zb4
 rw [IntWalk.i64_in (b - (n:Int)) (by omega)]
 by_cases h:b - (n:Int)<0
 ·rw [if_pos h,Q3 h];rfl
 ·rw [if_neg h,Q4 h]
  simp only [Q2,Q4 h]
theorem eqP (p:Array Value) (n:Nat) (A:Array Value):Zev p p none n A none n A=true:=by
 unfold Zev
 simp only [bne_self_eq_false,Q2,Zsw,decide_true,Bool.and_self,Bool.not_true]
theorem Znr (a0 a1:Array Value) (a2:Int) (g_et:Addr) (g_tb:Addr) (bQ:Option (Option Addr)) (nQ:Nat) (aQ:Array Value) (h_a0:WT Tryz.prog 28 a0) (h_a1:WT Tryz.prog 31 a1) (h_a2:IntKind.u64.min≤a2∧a2≤IntKind.u64.max) (h_a1x2:nQ≤9223372036854775807):((Zcg a0 a1 a2 g_et g_tb bQ nQ aQ))=true∧((Zch Tryz.prog a0 a1 a2 g_et g_tb bQ nQ aQ))=true:=by
 unfold Zcg
 unfold Zch
 rw [szP 1048576 a1 bQ nQ aQ (by omega) (by omega) h_a1x2,eqP]
 by_cases h:(1048576:Int) - (nQ:Int)<0
 ·rw [if_pos h];exact ⟨rfl,rfl⟩
 ·rw [if_neg h,Q4 h,Q3 (show nQ≤1048576 by omega)]
  simp only [Zd7,Zsw,bne_self_eq_false,Bool.not_true,Q2,Q1,Bool.and_self,and_self,Bool.not_false]
namespace lawFnExactBestCell
theorem own:ownKnob Tryz.prog.godebug=none:=by kernel_rfl
theorem laid_all {W:World} (h:laidMetH Tryz.prog Rows.fnExactBestCellRow.laid W):BIs Tryz.prog idA [] W ⟨0,0⟩ (.gl 0 184 ⟨0,0,none⟩ 3000075)∧BIs Tryz.prog idA [] W ⟨0,0⟩ (.gl 1 0 ⟨1,0,none⟩ 1000000000):=by
 have h' : laidMet Tryz.prog [("math/bits.deBruijn64tab", Rows.laid_math_bits_deBruijn64tab)] W ∧ handlesMet Tryz.prog [("errors.errorType", Rows.laid_errors_errorType)] W := h
 refine ⟨(Ykz (nm:=[101,114,114,111,114]) (E:=75) (NG:=2) h'.2 (List.Mem.head _) (by kernel_rfl) (by kernel_rfl) (by kernel_rfl) (by kernel_rfl) (by kernel_rfl) (by kernel_rfl) (by decide) (by decide)),.inr ⟨by omega,rfl,.inr ⟨by omega,fun i hi=> ?_⟩⟩⟩
 have e:(Rows.laid_math_bits_deBruijn64tab:DataW Unit)=Lib.tabData .u8 Ufa:=by kernel_rfl
 have h1 : laidMet Tryz.prog (("math/bits.deBruijn64tab", Lib.tabData .u8 Ufa) :: []) W := by rw [← e]; exact h'.1
 have h2 : Lib.TabIs Tryz.prog W "math/bits.deBruijn64tab" .u8 Ufa := Lib.tabIs_of_head (g := 1) (t := 207) (e := 5) (n := 64) (by kernel_rfl) (by kernel_rfl) Tryz.underlying207 Tryz.underlying5 (by kernel_rfl) (by kernel_rfl) h1
 exact h2.cell (by kernel_rfl) i hi
def Ucy (os:Os):World:=
 let w0:=World.holding Tryz.prog os ⟨#[],#[],[]⟩
 { w0 with heap:=(w0.heap.modify 0 fun
   | .cells _ t frozen=>.cells #[.iface 184 (.agg #[typeHandle Tryz.prog 75])] t frozen
   | o=>o).modify 1 fun
   | .cells _ t frozen=>.cells (Ufa.map fun z=>Value.int .u8 z).toArray t frozen
   | o=>o }
theorem laid_met (os:Os) (args:Array Value):laidMetH Tryz.prog Rows.fnExactBestCellRow.laid ((Ucy os).forCall (fun _ _=>0) ⟨#[],args,[]⟩).memory:=
 laidMetH_of_parts (laidMet_of_run' 8 (by kernel_rfl) (by kernel_rfl)) (by kernel_rfl)
theorem reads (os:Os) {H:Type} (enc:TypeId×Value→H):∃ x,DataW.whole enc Tryz.prog ((Ucy os).forCall (fun _ _=>0) ⟨#[],#[.agg (zc Tryz.prog 28),.agg (zc Tryz.prog 31),.int .u64 0],[]⟩).memory Tryz.f4.params.toList Rows.fnExactBestCellSpec.vars false (#[.agg (zc Tryz.prog 28),.agg (zc Tryz.prog 31),.int .u64 0]:Array Value).toList 8=some x:=
 Option.isSome_iff_exists.1 (by kernel_rfl)
set_option maxRecDepth 100000 in
theorem lifted (os:Os) (started:os.Started) (H:Type) (enc:TypeId×Value→H) :
  ReturnsInHanded {} Tryz.checked os 4 .any ((OpenSpec.ofChange Rows.fnExactBestCellSpec).preRow enc Tryz.prog Tryz.f4 Rows.fnExactBestCellRow.domain false Rows.fnExactBestCellRow.laid) (Rows.fnExactBestCellSpec.post enc Tryz.prog Tryz.f4 false true false false):=by
 obtain ⟨x,hx⟩:=reads os enc
 refine Yes (C:=Tryz.checked) (tb:=4) own (by kernel_rfl) Tryz.func4 (by kernel_rfl) Tryz.underlying4 (of_decide_eq_true (by kernel_rfl)) (by kernel_rfl) ?_ os started H enc
  (witness_row_at (enc:=enc) (C:=Tryz.checked) false (Ucy os) #[.agg (zc Tryz.prog 28),.agg (zc Tryz.prog 31),.int .u64 0] rfl (by kernel_rfl) (by kernel_rfl) (by kernel_rfl)
   (OpenSpec.preRow_of_cond 8 hx (by kernel_rfl) (fun k hk=>by cases hk) (by kernel_rfl) (laid_met os _))) ?_
 ·intro H ds gs hds hgs
  rw [show Tryz.f4.params.toList.length=3 by kernel_rfl] at hds
  rw [show Rows.fnExactBestCellSpec.vars.length=0 by kernel_rfl] at hgs
  match ds,hds,gs,hgs with
  | [_,_,_],_,[],_=>rfl
 ·intro W base args ds ps hval hA hL
  obtain ⟨k0,k1⟩:=laid_all hL
  rw [Tryz.params4] at hA hval
  obtain ⟨v0,vs0,d0,ds0,p0,q0,ha0,rfl,rfl,h0,r0⟩:=trodAll_cons hA
  obtain ⟨v1,vs1,d1,ds1,p1,q1,rfl,rfl,rfl,h1,r1⟩:=trodAll_cons r0
  obtain ⟨v2,vs2,d2,ds2,p2,q2,rfl,rfl,rfl,h2,r2⟩:=trodAll_cons r1
  obtain ⟨rfl,rfl,rfl⟩:=trodAll_nil r2
  have hargs:args=#[v0,v1,v2]:=by cases args;simp_all
  obtain ⟨a0,e0,w0⟩:=Yo5 (t:=28) 8 (by kernel_rfl) (by kernel_rfl) (hval 0 28 v0 rfl (by rw [hargs];rfl)) h0
  obtain ⟨x_a1x2,nQ,c_a1x2,aQ,a1,D_a1,e1,s1,w1,z11,z12,z13,z14⟩:=open_rsl (P:=Tryz.prog) (t:=31) (e:=114) (ts:=29) 8 2 2 Tryz.underlying31 (by kernel_rfl) (by kernel_rfl) (by kernel_rfl) (by kernel_rfl) Tryz.underlying29 (by kernel_rfl) (by kernel_rfl) (Nat.lt_of_lt_of_eq (by decide:0<3) (by kernel_rfl)) (hval 1 31 v1 rfl (by rw [hargs];rfl)) h1
  obtain ⟨a2,e2,_,_,w2⟩:=open_int Tryz.underlying23 (hval 2 23 v2 rfl (by rw [hargs];rfl)) h2
  obtain rfl:args=#[.agg a0,.agg D_a1,.int .u64 a2]:=by rw [hargs,e0,e1,e2]
  obtain ⟨hg,hv⟩:=Znr a0 a1 a2 ⟨0,0,none⟩ ⟨1,0,none⟩ (some x_a1x2) nQ aQ w0 w1 (wfb w2) s1.2.2.1
  have hr:Zfy [.g a0 28,.r a1 31 [(2,2)],.i .u64 a2] [.gl 0 184 ⟨0,0,none⟩ 3000075,.gl 1 0 ⟨1,0,none⟩ 1000000000,.sl (.came (some x_a1x2)) nQ aQ 114]=some (.a (.b true),.none,true):=by
   show (some (SV.a (SA.b ((Zch Tryz.prog a0 a1 a2 ⟨0,0,none⟩ ⟨1,0,none⟩ (some x_a1x2) nQ aQ))),Eff.none,(Zcg a0 a1 a2 ⟨0,0,none⟩ ⟨1,0,none⟩ (some x_a1x2) nQ aQ)):Option (SV×Eff×Bool))=_
   rw [hg,hv]
  exact Ymx (by kernel_rfl) Zpr (hh:=[.gl 0 184 ⟨0,0,none⟩ 3000075,.gl 1 0 ⟨1,0,none⟩ 1000000000,.sl (.came (some x_a1x2)) nQ aQ 114]) (by kernel_rfl) hr W (vals:=[.agg a0,.agg D_a1,.int .u64 a2]) (.gl k0 (.gl k1 (.cons s1 .nil))) (Udy ⟨rfl,w0⟩ (Udy (is_rsl rfl w1 z11 z12 z13 z14) (Udy ⟨rfl,wfb w2⟩ (allNil2 _))))
theorem said:Rows.FnExactBestCellSaid:=
 OpenClaim.holds_of_wide 4 Tryz.f4 rfl rfl rfl rfl rfl rfl rfl ⟨rfl,rfl,rfl,rfl,rfl⟩ rfl rfl rfl rfl rfl (by kernel_rfl) Tryz.func4 (by kernel_rfl)
  (of_decide_eq_true (by kernel_rfl)) (by unfold Func.isWrapper;first | (rw [if_pos (by decide +kernel)];kernel_rfl) | (rw [if_neg (by decide +kernel)];exact ⟨rfl,rfl⟩))
  (fun os started H enc _=>by rw [OpenClaim.pre_eq_preRow];exact lifted os started H enc)
theorem plain (f:FuncId) (fn:Func) (hf:Tryz.pinned.checked.prog.funcNamed Rows.fnExactBestCellRow.func=some f) (hfn:Tryz.pinned.checked.prog.funcs[f]? = some fn) :
  Rows.fnExactBestCellCard.stood.looks=Tryz.pinned.checked.prog.looks []∧∀ (j:Nat) t,fn.params[j]? = some t→Tryz.pinned.checked.prog.wantsStandIn t=false:=by
 obtain rfl:f=4:=Q5 ((show Tryz.prog.funcNamed Rows.fnExactBestCellRow.func=some 4 by kernel_rfl).symm.trans hf) |>.symm
 obtain rfl:fn=Tryz.f4:=(Q5 (Tryz.func4.symm.trans hfn)).symm
 refine ⟨by kernel_rfl,fun j t ht=> ?_⟩
 have hall:∀ t ∈ Tryz.f4.params.toList,Tryz.prog.wantsStandIn t=false:=of_decide_eq_true (by kernel_rfl)
 exact hall t (by simpa using Array.mem_of_getElem? ht)
theorem proved:Rows.FnExactBestCellCardSaid:=
 Claim7.holds_tied_plain_at .later [] _ _ _ _ said (fun _ h=>by cases h) (by kernel_rfl) (fun _ h=>by cases h) fnExactBestCell_row_tie rfl ⟨rfl,rfl⟩ (by kernel_rfl) rfl plain (by kernel_rfl)
#print axioms proved
end lawFnExactBestCell
end
end Go.Proofs.YtohnggmlmglhmaaGreatDoor
