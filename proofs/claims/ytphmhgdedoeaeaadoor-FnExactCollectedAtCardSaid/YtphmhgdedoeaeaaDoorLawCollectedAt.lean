/- For every sea, cell, tide, beach, pace and number of visits spec and program tell the same that each visit collects. -/
import Derived.Test.YtphmhgdedoeaeaaDoorRows
import Derived.Test.YtphmhgdedoeaeaaDoorChecked
import Derived.Test.YtphmhgdedoeaeaaDoorCyM
import Derived.Test.YtphmhgdedoeaeaaDoorVcG
import Derived.Test.YtphmhgdedoeaeaaDoorCards
import Derived.Test.YtphmhgdedoeaeaaDoorTie
namespace Go.Proofs.YtphmhgdedoeaeaaDoor
open Go.ChangeShapes Go.WideShapes Go.ChangeAt Go.RowKit Ve Vc
open Go.Proofs.Tryd (prog)
open IntKind (i64)
set_option linter.unusedVariables false
set_option linter.unusedSimpArgs false
set_option maxRecDepth 100000
noncomputable section
variable {F:Vc.Fd}
noncomputable def laws_FnExactCollectedAt_G:Cons:=(mkΓw [(41,conSW laws_markShareS_scon)] [(14,con laws_toSea_con),(38,con spec_CollectedAt_con),(39,conG impl_CollectedAt_con),(40,con laws_eqShareS_con),(42,con laws_heldShareS_con)] [] [])
theorem laws_FnExactCollectedAt_ans (N:Nat) (a0:Array Value) (a1 a2 a3 a4 a5:Int) (g_e0 g_e1 g_e2 g_e3 g_e4:Addr):ansV prog laws_FnExactCollectedAt_G N Tryd.f10 [] [.g a0 28,.i .i64 (a1),.i .i64 (a2),.i .i64 (a3),.i .i64 (a4),.i .i64 (a5)] [.gl 0 184 g_e0 101973,.gl 1 184 g_e1 93330,.gl 3 184 g_e2 112315,.gl 2 184 g_e3 124718,.gl 4 184 g_e4 94254]=(bif (!((decide (((colN a0 a1 a2 a3 a4 a5))=((colN a0 a1 a2 a3 a4 a5)))&&sameB (colD a0 a1 a2 a3 a4 a5) (colD a0 a1 a2 a3 a4 a5)))) then (some (.a (.b (false)),.none,true))
    else (bif ((colE a0 a1 a2 a3 a4 a5) != (colE a0 a1 a2 a3 a4 a5)) then (some (.a (.b (false)),.none,true))
      else (bif Nat.beq ((colN a0 a1 a2 a3 a4 a5)) 0 then (bif ((Nat.ble ((colN a0 a1 a2 a3 a4 a5)) 100000)&&((decide (0≤(1:Int))&&decide ((1:Int)≤1000000))&&sameB (colD a0 a1 a2 a3 a4 a5) (mkA (((colN a0 a1 a2 a3 a4 a5))*2) (1:Int)))) then (bif decide (((1:Int)+((((colN a0 a1 a2 a3 a4 a5))*2:Nat):Int))<(0:Int)) then (some (.a (.b (false)),.none,true))
            else (bif (((1:Int)+((((colN a0 a1 a2 a3 a4 a5))*2:Nat):Int)) != (1:Int)) then (some (.a (.b (false)),.none,true))
              else (bif (!((decide (((colN a0 a1 a2 a3 a4 a5))=((colN a0 a1 a2 a3 a4 a5)))&&sameB (colD a0 a1 a2 a3 a4 a5) (colD a0 a1 a2 a3 a4 a5)))) then (some (.a (.b (false)),.none,true))
                else (bif ((colE a0 a1 a2 a3 a4 a5) != (colE a0 a1 a2 a3 a4 a5)) then (some (.a (.b (false)),.none,true))
                  else (bif ((Nat.ble ((colN a0 a1 a2 a3 a4 a5)) 100000)&&((decide (0≤(1:Int))&&decide ((1:Int)≤1000000))&&sameB (colD a0 a1 a2 a3 a4 a5) (mkA (((colN a0 a1 a2 a3 a4 a5))*2) (1:Int)))) then (bif decide (((1:Int)+((((colN a0 a1 a2 a3 a4 a5))*2:Nat):Int))<(0:Int)) then (some (.a (.b (false)),.none,true))
                      else (bif (((1:Int)+((((colN a0 a1 a2 a3 a4 a5))*2:Nat):Int)) != (1:Int)) then (some (.a (.b (false)),.none,true))
                        else (some (.a (.b (true)),.none,true))))
                    else (none))))))
          else (none))
        else (bif ((Nat.ble ((colN a0 a1 a2 a3 a4 a5)) 100000)&&(decide (0≤(1:Int))&&decide ((1:Int)≤1000000))) then (bif ((Nat.ble ((colN a0 a1 a2 a3 a4 a5)) 100000)&&((decide (0≤(1:Int))&&decide ((1:Int)≤1000000))&&sameB (mkA (((colN a0 a1 a2 a3 a4 a5))*2) (1:Int)) (mkA (((colN a0 a1 a2 a3 a4 a5))*2) (1:Int)))) then (bif decide (((1:Int)+((((colN a0 a1 a2 a3 a4 a5))*2:Nat):Int))<(0:Int)) then (some (.a (.b (false)),.none,true))
              else (bif (((1:Int)+((((colN a0 a1 a2 a3 a4 a5))*2:Nat):Int)) != ((1:Int)+((((colN a0 a1 a2 a3 a4 a5))*2:Nat):Int))) then (some (.a (.b (false)),.none,true))
                else (bif (!((decide (((colN a0 a1 a2 a3 a4 a5))=((colN a0 a1 a2 a3 a4 a5)))&&sameB (colD a0 a1 a2 a3 a4 a5) (colD a0 a1 a2 a3 a4 a5)))) then (some (.a (.b (false)),.none,true))
                  else (bif ((colE a0 a1 a2 a3 a4 a5) != (colE a0 a1 a2 a3 a4 a5)) then (some (.a (.b (false)),.none,true))
                    else (bif ((Nat.ble ((colN a0 a1 a2 a3 a4 a5)) 100000)&&((decide (0≤(1:Int))&&decide ((1:Int)≤1000000))&&sameB (mkA (((colN a0 a1 a2 a3 a4 a5))*2) (1:Int)) (mkA (((colN a0 a1 a2 a3 a4 a5))*2) (1:Int)))) then (bif decide (((1:Int)+((((colN a0 a1 a2 a3 a4 a5))*2:Nat):Int))<(0:Int)) then (some (.a (.b (false)),.none,true))
                        else (bif (((1:Int)+((((colN a0 a1 a2 a3 a4 a5))*2:Nat):Int)) != ((1:Int)+((((colN a0 a1 a2 a3 a4 a5))*2:Nat):Int))) then (some (.a (.b (false)),.none,true))
                          else (some (.a (.b (true)),.none,true))))
                      else (none))))))
            else (none))
          else (none))))):=by kernel_rfl
noncomputable def laws_FnExactCollectedAt_v0 (a0:Array Value) (a1 a2 a3 a4 a5:Int) (g_e0 g_e1 g_e2 g_e3 g_e4:Addr):Bool:=(bif (!((decide (((colN a0 a1 a2 a3 a4 a5))=((colN a0 a1 a2 a3 a4 a5)))&&sameB (colD a0 a1 a2 a3 a4 a5) (colD a0 a1 a2 a3 a4 a5)))) then false else (bif ((colE a0 a1 a2 a3 a4 a5) != (colE a0 a1 a2 a3 a4 a5)) then false else (bif Nat.beq ((colN a0 a1 a2 a3 a4 a5)) 0 then (bif decide (((1:Int)+((((colN a0 a1 a2 a3 a4 a5))*2:Nat):Int))<(0:Int)) then false else (bif (((1:Int)+((((colN a0 a1 a2 a3 a4 a5))*2:Nat):Int)) != (1:Int)) then false else (bif (!((decide (((colN a0 a1 a2 a3 a4 a5))=((colN a0 a1 a2 a3 a4 a5)))&&sameB (colD a0 a1 a2 a3 a4 a5) (colD a0 a1 a2 a3 a4 a5)))) then false else (bif ((colE a0 a1 a2 a3 a4 a5) != (colE a0 a1 a2 a3 a4 a5)) then false else (bif decide (((1:Int)+((((colN a0 a1 a2 a3 a4 a5))*2:Nat):Int))<(0:Int)) then false else (bif (((1:Int)+((((colN a0 a1 a2 a3 a4 a5))*2:Nat):Int)) != (1:Int)) then false else true)))))) else (bif decide (((1:Int)+((((colN a0 a1 a2 a3 a4 a5))*2:Nat):Int))<(0:Int)) then false else (bif (((1:Int)+((((colN a0 a1 a2 a3 a4 a5))*2:Nat):Int)) != ((1:Int)+((((colN a0 a1 a2 a3 a4 a5))*2:Nat):Int))) then false else (bif (!((decide (((colN a0 a1 a2 a3 a4 a5))=((colN a0 a1 a2 a3 a4 a5)))&&sameB (colD a0 a1 a2 a3 a4 a5) (colD a0 a1 a2 a3 a4 a5)))) then false else (bif ((colE a0 a1 a2 a3 a4 a5) != (colE a0 a1 a2 a3 a4 a5)) then false else (bif decide (((1:Int)+((((colN a0 a1 a2 a3 a4 a5))*2:Nat):Int))<(0:Int)) then false else (bif (((1:Int)+((((colN a0 a1 a2 a3 a4 a5))*2:Nat):Int)) != ((1:Int)+((((colN a0 a1 a2 a3 a4 a5))*2:Nat):Int))) then false else true)))))))))
noncomputable def laws_FnExactCollectedAt_gd (a0:Array Value) (a1 a2 a3 a4 a5:Int) (g_e0 g_e1 g_e2 g_e3 g_e4:Addr):Bool:=(bif (!((decide (((colN a0 a1 a2 a3 a4 a5))=((colN a0 a1 a2 a3 a4 a5)))&&sameB (colD a0 a1 a2 a3 a4 a5) (colD a0 a1 a2 a3 a4 a5)))) then true else (bif ((colE a0 a1 a2 a3 a4 a5) != (colE a0 a1 a2 a3 a4 a5)) then true else (bif Nat.beq ((colN a0 a1 a2 a3 a4 a5)) 0 then (bif ((Nat.ble ((colN a0 a1 a2 a3 a4 a5)) 100000)&&((decide (0≤(1:Int))&&decide ((1:Int)≤1000000))&&sameB (colD a0 a1 a2 a3 a4 a5) (mkA (((colN a0 a1 a2 a3 a4 a5))*2) (1:Int)))) then (bif decide (((1:Int)+((((colN a0 a1 a2 a3 a4 a5))*2:Nat):Int))<(0:Int)) then true else (bif (((1:Int)+((((colN a0 a1 a2 a3 a4 a5))*2:Nat):Int)) != (1:Int)) then true else (bif (!((decide (((colN a0 a1 a2 a3 a4 a5))=((colN a0 a1 a2 a3 a4 a5)))&&sameB (colD a0 a1 a2 a3 a4 a5) (colD a0 a1 a2 a3 a4 a5)))) then true else (bif ((colE a0 a1 a2 a3 a4 a5) != (colE a0 a1 a2 a3 a4 a5)) then true else ((Nat.ble ((colN a0 a1 a2 a3 a4 a5)) 100000)&&((decide (0≤(1:Int))&&decide ((1:Int)≤1000000))&&sameB (colD a0 a1 a2 a3 a4 a5) (mkA (((colN a0 a1 a2 a3 a4 a5))*2) (1:Int)))))))) else false) else (bif ((Nat.ble ((colN a0 a1 a2 a3 a4 a5)) 100000)&&(decide (0≤(1:Int))&&decide ((1:Int)≤1000000))) then (bif ((Nat.ble ((colN a0 a1 a2 a3 a4 a5)) 100000)&&((decide (0≤(1:Int))&&decide ((1:Int)≤1000000))&&sameB (mkA (((colN a0 a1 a2 a3 a4 a5))*2) (1:Int)) (mkA (((colN a0 a1 a2 a3 a4 a5))*2) (1:Int)))) then (bif decide (((1:Int)+((((colN a0 a1 a2 a3 a4 a5))*2:Nat):Int))<(0:Int)) then true else (bif (((1:Int)+((((colN a0 a1 a2 a3 a4 a5))*2:Nat):Int)) != ((1:Int)+((((colN a0 a1 a2 a3 a4 a5))*2:Nat):Int))) then true else (bif (!((decide (((colN a0 a1 a2 a3 a4 a5))=((colN a0 a1 a2 a3 a4 a5)))&&sameB (colD a0 a1 a2 a3 a4 a5) (colD a0 a1 a2 a3 a4 a5)))) then true else (bif ((colE a0 a1 a2 a3 a4 a5) != (colE a0 a1 a2 a3 a4 a5)) then true else ((Nat.ble ((colN a0 a1 a2 a3 a4 a5)) 100000)&&((decide (0≤(1:Int))&&decide ((1:Int)≤1000000))&&sameB (mkA (((colN a0 a1 a2 a3 a4 a5))*2) (1:Int)) (mkA (((colN a0 a1 a2 a3 a4 a5))*2) (1:Int)))))))) else false) else false))))
theorem laws_FnExactCollectedAt_main (a0:Array Value) (a1 a2 a3 a4 a5:Int) (g_e0 g_e1 g_e2 g_e3 g_e4:Addr) (h_a0:WT prog 28 a0) (h_a1:i64.min≤a1∧a1≤i64.max) (h_a2:i64.min≤a2∧a2≤i64.max) (h_a3:i64.min≤a3∧a3≤i64.max) (h_a4:i64.min≤a4∧a4≤i64.max) (h_a5:i64.min≤a5∧a5≤i64.max) (hg:((laws_FnExactCollectedAt_gd a0 a1 a2 a3 a4 a5 g_e0 g_e1 g_e2 g_e3 g_e4))=true):ansV prog laws_FnExactCollectedAt_G 1000 Tryd.f10 [] [.g a0 28,.i .i64 (a1),.i .i64 (a2),.i .i64 (a3),.i .i64 (a4),.i .i64 (a5)] [.gl 0 184 g_e0 101973,.gl 1 184 g_e1 93330,.gl 3 184 g_e2 112315,.gl 2 184 g_e3 124718,.gl 4 184 g_e4 94254]=some (.a (.b ((laws_FnExactCollectedAt_v0 a0 a1 a2 a3 a4 a5 g_e0 g_e1 g_e2 g_e3 g_e4))),.none,true):=by
 refine (laws_FnExactCollectedAt_ans 1000 a0 a1 a2 a3 a4 a5 g_e0 g_e1 g_e2 g_e3 g_e4).trans ?_
 unfold laws_FnExactCollectedAt_gd at hg
 unfold laws_FnExactCollectedAt_v0
 revert hg
 generalize ((!((decide (((colN a0 a1 a2 a3 a4 a5))=((colN a0 a1 a2 a3 a4 a5)))&&sameB (colD a0 a1 a2 a3 a4 a5) (colD a0 a1 a2 a3 a4 a5)))))=b2
 intro hg
 cases b2
 ·skip
  revert hg
  generalize (((colE a0 a1 a2 a3 a4 a5) != (colE a0 a1 a2 a3 a4 a5)))=b4
  intro hg
  cases b4
  ·skip
   revert hg
   generalize (Nat.beq ((colN a0 a1 a2 a3 a4 a5)) 0)=b6
   intro hg
   cases b6
   ·skip
    revert hg
    generalize (((Nat.ble ((colN a0 a1 a2 a3 a4 a5)) 100000)&&(decide (0≤(1:Int))&&decide ((1:Int)≤1000000))))=b8
    intro hg
    cases b8
    ·skip
     first | exact (nomatch (hg:false=true)) | (simp only [cond_true,cond_false,Bool.and_true,Bool.true_and,Bool.and_false,Bool.false_and];done) | rfl
    ·skip
     revert hg
     generalize (((Nat.ble ((colN a0 a1 a2 a3 a4 a5)) 100000)&&((decide (0≤(1:Int))&&decide ((1:Int)≤1000000))&&sameB (mkA (((colN a0 a1 a2 a3 a4 a5))*2) (1:Int)) (mkA (((colN a0 a1 a2 a3 a4 a5))*2) (1:Int)))))=b10
     intro hg
     cases b10
     ·skip
      first | exact (nomatch (hg:false=true)) | (simp only [cond_true,cond_false,Bool.and_true,Bool.true_and,Bool.and_false,Bool.false_and];done) | rfl
     ·skip
      revert hg
      generalize (decide (((1:Int)+((((colN a0 a1 a2 a3 a4 a5))*2:Nat):Int))<(0:Int)))=b12
      intro hg
      cases b12
      ·skip
       revert hg
       generalize ((((1:Int)+((((colN a0 a1 a2 a3 a4 a5))*2:Nat):Int)) != ((1:Int)+((((colN a0 a1 a2 a3 a4 a5))*2:Nat):Int))))=b14
       intro hg
       cases b14
       ·skip
        first | (simp only [cond_true,cond_false,Bool.and_true,Bool.true_and,Bool.and_false,Bool.false_and];done) | rfl | exact (nomatch (hg:false=true))
       ·skip
        first | (simp only [cond_true,cond_false,Bool.and_true,Bool.true_and,Bool.and_false,Bool.false_and];done) | rfl | exact (nomatch (hg:false=true))
      ·skip
       first | (simp only [cond_true,cond_false,Bool.and_true,Bool.true_and,Bool.and_false,Bool.false_and];done) | rfl | exact (nomatch (hg:false=true))
   ·skip
    revert hg
    generalize (((Nat.ble ((colN a0 a1 a2 a3 a4 a5)) 100000)&&((decide (0≤(1:Int))&&decide ((1:Int)≤1000000))&&sameB (colD a0 a1 a2 a3 a4 a5) (mkA (((colN a0 a1 a2 a3 a4 a5))*2) (1:Int)))))=b8
    intro hg
    cases b8
    ·skip
     first | exact (nomatch (hg:false=true)) | (simp only [cond_true,cond_false,Bool.and_true,Bool.true_and,Bool.and_false,Bool.false_and];done) | rfl
    ·skip
     revert hg
     generalize (decide (((1:Int)+((((colN a0 a1 a2 a3 a4 a5))*2:Nat):Int))<(0:Int)))=b10
     intro hg
     cases b10
     ·skip
      revert hg
      generalize ((((1:Int)+((((colN a0 a1 a2 a3 a4 a5))*2:Nat):Int)) != (1:Int)))=b12
      intro hg
      cases b12
      ·skip
       first | (simp only [cond_true,cond_false,Bool.and_true,Bool.true_and,Bool.and_false,Bool.false_and];done) | rfl | exact (nomatch (hg:false=true))
      ·skip
       first | (simp only [cond_true,cond_false,Bool.and_true,Bool.true_and,Bool.and_false,Bool.false_and];done) | rfl | exact (nomatch (hg:false=true))
     ·skip
      first | (simp only [cond_true,cond_false,Bool.and_true,Bool.true_and,Bool.and_false,Bool.false_and];done) | rfl | exact (nomatch (hg:false=true))
  ·skip
   first | (simp only [cond_true,cond_false,Bool.and_true,Bool.true_and,Bool.and_false,Bool.false_and];done) | rfl | exact (nomatch (hg:false=true))
 ·skip
  first | (simp only [cond_true,cond_false,Bool.and_true,Bool.true_and,Bool.and_false,Bool.false_and];done) | rfl | exact (nomatch (hg:false=true))
noncomputable def laws_FnExactCollectedAt_con:Con:=fun args h=>match args,h with
 | [.g a0 28,.i .i64 a1,.i .i64 a2,.i .i64 a3,.i .i64 a4,.i .i64 a5],[.gl 0 184 g_e0 101973,.gl 1 184 g_e1 93330,.gl 3 184 g_e2 112315,.gl 2 184 g_e3 124718,.gl 4 184 g_e4 94254]=>some (.a (.b ((laws_FnExactCollectedAt_v0 a0 a1 a2 a3 a4 a5 g_e0 g_e1 g_e2 g_e3 g_e4))),.none,(laws_FnExactCollectedAt_gd a0 a1 a2 a3 a4 a5 g_e0 g_e1 g_e2 g_e3 g_e4))
 | _,_=>none
theorem laws_FnExactCollectedAt_ok:ConOkX (md F) prog 10 laws_FnExactCollectedAt_con:=(ansX_ok (N:=1000) (by kernel_rfl) (mkΓw_sX (conSW_okX laws_markShareS_sok) laws_markShareS_enter (mkΓw_cX (con_okX laws_toSea_ok) laws_toSea_enter (mkΓw_cX (con_okX spec_CollectedAt_ok) spec_CollectedAt_enter (mkΓw_cX (conG_okX impl_CollectedAt_ok) impl_CollectedAt_enter (mkΓw_cX (con_okX laws_eqShareS_ok) laws_eqShareS_enter (mkΓw_cX (con_okX laws_heldShareS_ok) laws_heldShareS_enter mkΓx_nilX)))))) (fn:=Tryd.f10) (by kernel_rfl) (by kernel_rfl) []).of (by
 intro ρ h w args vals r e hA hH hr
 unfold laws_FnExactCollectedAt_con at hr
 split at hr
 ·rename_i a0 a1 a2 a3 a4 a5 g_e0 g_e1 g_e2 g_e3 g_e4
  obtain ⟨rfl,hg⟩:=Prod.mk.inj (Option.some.inj hr)
  obtain ⟨rfl,hg2⟩:=Prod.mk.inj hg
  exact laws_FnExactCollectedAt_main a0 a1 a2 a3 a4 a5 g_e0 g_e1 g_e2 g_e3 g_e4 (hA.wt 0 rfl) (hA.rng 1 rfl) (hA.rng 2 rfl) (hA.rng 3 rfl) (hA.rng 4 rfl) (hA.rng 5 rfl) hg2
 ·cases hr)
theorem laws_FnExactCollectedAt_true (a0:Array Value) (a1 a2 a3 a4 a5:Int) (g_e0 g_e1 g_e2 g_e3 g_e4:Addr) (h_a0:WT prog 28 a0) (h_a1:i64.min≤a1∧a1≤i64.max) (h_a2:i64.min≤a2∧a2≤i64.max) (h_a3:i64.min≤a3∧a3≤i64.max) (h_a4:i64.min≤a4∧a4≤i64.max) (h_a5:i64.min≤a5∧a5≤i64.max):((laws_FnExactCollectedAt_gd a0 a1 a2 a3 a4 a5 g_e0 g_e1 g_e2 g_e3 g_e4))=true∧((laws_FnExactCollectedAt_v0 a0 a1 a2 a3 a4 a5 g_e0 g_e1 g_e2 g_e3 g_e4))=true:=by
 have hN:=colN_le a0 a1 a2 a3 a4 a5
 have hD:=colD_size a0 a1 a2 a3 a4 a5
 unfold laws_FnExactCollectedAt_gd laws_FnExactCollectedAt_v0
 generalize colN a0 a1 a2 a3 a4 a5=n at hN hD⊢
 generalize colD a0 a1 a2 a3 a4 a5=D at hD⊢
 have b1:Nat.ble n 100000=true:=Nat.ble_eq_true_of_le (by omega)
 have c1:decide (((1:Int)+((n*2:Nat):Int))<(0:Int))=false:=decide_eq_false (by omega)
 have c2:decide (0≤(1:Int))=true:=rfl
 have c3:decide ((1:Int)≤1000000)=true:=rfl
 cases hz:Nat.beq n 0 with
 | true=>
  obtain rfl:=Nat.eq_of_beq_eq_true hz
  obtain rfl:D=#[]:=Array.eq_empty_of_size_eq_zero (by rw [hD])
  have c4:((1:Int)+((0*2:Nat):Int) != (1:Int))=false:=rfl
  have c5:mkA (0*2) (1:Int)=(#[]:Array Value):=rfl
  simp only [b1,c1,c2,c3,c4,c5,decide_true,Bool.and_self,sameB_self,bne_self_eq_false,Bool.not_true,cond_false,cond_true,and_self]
 | false=>
  simp only [b1,c1,c2,c3,decide_true,Bool.and_self,sameB_self,bne_self_eq_false,Bool.not_true,cond_false,cond_true,and_self]
namespace lawFnExactCollectedAt
theorem tied_goes (Lk:Looks) (g:Bool) {p:Pinned} {s:OpenSpec} {c:OpenClaim} (kinds:List LaidKind) (tests:Bool) (har:Bool×String) (lk:Bool)
  (hc:c.holds p s) (hw:c.wfByText s=true)
  (htie:c.laidByTextAt Lk p kinds tests)
  (hst:c.start = .entering) (hnb:c.noBlocks=false∧c.again=false) (hm:p.checked.prog.mainIs=some (har.1,har.2.toList)) (hn:(!har.1&&har.2.isEmpty && !lk)=false)
  (hl:∀ f fn,p.checked.prog.funcNamed c.func=some f→p.checked.prog.funcs[f]? = some fn→lk=p.checked.prog.looks []∧∀ (j:Nat) t,fn.params[j]? = some t→p.checked.prog.wantsStandIn t=false)
  (hg:g=c.goesBy p.checked.prog) :
  Claim7.holds p (.plain s) { stood:={ row:=c,standIns:=[],harness:=har,looks:=lk },kinds:=[],alts:=[],goes:=g,laidByText:=true,laidKinds:=kinds,laidTests:=tests,laidLooks:=Lk }:=by
 have h6:∀ r:OpenClaim,Claim7.isSixth { stood:={ row:=r,standIns:=[],harness:=har,looks:=lk },kinds:=[] }=false:=fun r=>by simpa [Claim7.isSixth] using hn
 exact ⟨Claim7.tied_new_at Lk kinds tests (Claim7.new_of_sixth hc har lk hst hnb hm (h6 c) hl) hw,(fun D hD=>by cases hD),htie,(fun h=>by cases h),hg⟩
theorem own:ownKnob prog.godebug=none:=by kernel_rfl
theorem star : "*" ++ "errors.errorString" = "*errors.errorString" := by decide
theorem row_pe (u : TypeId) (h : prog.typeName? 3 u = some "*errors.errorString") : u = 184 :=
 typeName_ptr_named (nm := "errors.errorString") (by rw [star]; kernel_rfl) (by kernel_rfl) (by decide) u (by rw [star]; exact h)
theorem n_e0 : prog.globalNamed "loop.example/g01300/impl.errInvalid" = some 0 := by kernel_rfl
theorem t_e0:(prog.globals[0]?).map (·.type)=some 85:=by kernel_rfl
theorem n_e1 : prog.globalNamed "loop.example/g01300/impl.errRange" = some 1 := by kernel_rfl
theorem t_e1:(prog.globals[1]?).map (·.type)=some 85:=by kernel_rfl
theorem n_e2 : prog.globalNamed "loop.example/g01300/impl.errLimit" = some 3 := by kernel_rfl
theorem t_e2:(prog.globals[3]?).map (·.type)=some 85:=by kernel_rfl
theorem n_e3 : prog.globalNamed "loop.example/g01300/impl.errState" = some 2 := by kernel_rfl
theorem t_e3:(prog.globals[2]?).map (·.type)=some 85:=by kernel_rfl
theorem n_e4 : prog.globalNamed "loop.example/g01300/impl.errNotFound" = some 4 := by kernel_rfl
theorem t_e4:(prog.globals[4]?).map (·.type)=some 85:=by kernel_rfl
theorem laid_all {W:World} (h:laidMetH prog Rows.fnExactCollectedAtRow.laid W):∃ b0 b1 b2 b3 b4:Addr,BIs prog idA [] W ⟨0,0⟩ (.gl 0 184 b0 36452)∧BIs prog idA [] W ⟨0,0⟩ (.gl 1 184 b1 27809)∧BIs prog idA [] W ⟨0,0⟩ (.gl 3 184 b2 46794)∧BIs prog idA [] W ⟨0,0⟩ (.gl 2 184 b3 59197)∧BIs prog idA [] W ⟨0,0⟩ (.gl 4 184 b4 28733):=by
 have h0:laidMet prog Rows.fnExactCollectedAtRow.laid W:=h
 obtain ⟨b0,k0⟩:=laid_gl h0 n_e0 t_e0 Tryd.underlying85 row_pe Tryd.underlying184 Tryd.underlying210 rfl rfl Tryd.underlying9 (by kernel_rfl) (by kernel_rfl)
 have h1:=laidMet.tail h0
 obtain ⟨b1,k1⟩:=laid_gl h1 n_e1 t_e1 Tryd.underlying85 row_pe Tryd.underlying184 Tryd.underlying210 rfl rfl Tryd.underlying9 (by kernel_rfl) (by kernel_rfl)
 have h2:=laidMet.tail h1
 obtain ⟨b2,k2⟩:=laid_gl h2 n_e2 t_e2 Tryd.underlying85 row_pe Tryd.underlying184 Tryd.underlying210 rfl rfl Tryd.underlying9 (by kernel_rfl) (by kernel_rfl)
 have h3:=laidMet.tail h2
 obtain ⟨b3,k3⟩:=laid_gl h3 n_e3 t_e3 Tryd.underlying85 row_pe Tryd.underlying184 Tryd.underlying210 rfl rfl Tryd.underlying9 (by kernel_rfl) (by kernel_rfl)
 have h4:=laidMet.tail h3
 obtain ⟨b4,k4⟩:=laid_gl h4 n_e4 t_e4 Tryd.underlying85 row_pe Tryd.underlying184 Tryd.underlying210 rfl rfl Tryd.underlying9 (by kernel_rfl) (by kernel_rfl)
 exact ⟨b0,b1,b2,b3,b4,k0,k1,k2,k3,k4⟩
noncomputable def low:Nat:=(World.holding prog default ⟨#[],#[],[]⟩).heap.size
noncomputable def laidWorld (os:Os):World:=
 let w0:=World.holding prog os ⟨#[.cells #[.string ⟨(#[116,104,101,32,115,101,97,32,111,114,32,116,104,101,32,102,105,110,100,115,32,97,114,101,32,110,111,116,32,118,97,108,105,100]:Array UInt8)⟩] 210,.cells #[.string ⟨(#[97,32,110,117,109,98,101,114,32,105,115,32,111,117,116,32,111,102,32,105,116,115,32,114,97,110,103,101]:Array UInt8)⟩] 210,.cells #[.string ⟨(#[116,104,101,114,101,32,119,111,117,108,100,32,98,101,32,116,111,111,32,109,97,110,121,32,102,105,110,100,115]:Array UInt8)⟩] 210,.cells #[.string ⟨(#[108,97,110,100,32,105,115,32,119,104,101,114,101,32,119,97,116,101,114,32,104,97,115,32,116,111,32,98,101,44,32,111,114,32,119,97,116,101,114,32,119,104,101,114,101,32,108,97,110,100,32,104,97,115,32,116,111,32,98,101]:Array UInt8)⟩] 210,.cells #[.string ⟨(#[116,104,101,114,101,32,105,115,32,110,111,116,104,105,110,103,32,111,102,32,116,104,105,115,32,107,105,110,100]:Array UInt8)⟩] 210],#[],[]⟩
 { w0 with heap:=((((w0.heap.modify 0 fun
   | .cells _ t frozen=>.cells #[.iface 184 (.pointer (some ⟨low+0,0,none⟩))] t frozen
   | o=>o).modify 1 fun
   | .cells _ t frozen=>.cells #[.iface 184 (.pointer (some ⟨low+1,0,none⟩))] t frozen
   | o=>o).modify 3 fun
   | .cells _ t frozen=>.cells #[.iface 184 (.pointer (some ⟨low+2,0,none⟩))] t frozen
   | o=>o).modify 2 fun
   | .cells _ t frozen=>.cells #[.iface 184 (.pointer (some ⟨low+3,0,none⟩))] t frozen
   | o=>o).modify 4 fun
   | .cells _ t frozen=>.cells #[.iface 184 (.pointer (some ⟨low+4,0,none⟩))] t frozen
   | o=>o }
theorem laid_met (os:Os) (args:Array Value):laidMet prog Rows.fnExactCollectedAtRow.laid ((laidWorld os).forCall (fun _ _=>0) ⟨#[],args,[]⟩).memory:=
 laidMet_of_run' 8 (by kernel_rfl) (by kernel_rfl)
theorem reads (os:Os) {H:Type} (enc:TypeId×Value→H):∃ x,DataW.whole enc prog ((laidWorld os).forCall (fun _ _=>0) ⟨#[],#[.agg (zc prog 28),.int .i64 0,.int .i64 0,.int .i64 0,.int .i64 0,.int .i64 0],[]⟩).memory Tryd.f10.params.toList Rows.fnExactCollectedAtSpec.vars false (#[.agg (zc prog 28),.int .i64 0,.int .i64 0,.int .i64 0,.int .i64 0,.int .i64 0]:Array Value).toList 8=some x:=
 Option.isSome_iff_exists.1 (by kernel_rfl)
set_option maxRecDepth 100000 in
theorem lifted (os:Os) (started:os.Started) (H:Type) (enc:TypeId×Value→H) :
  ReturnsInLeavingWide {} Tryd.checked os 10 .any ((OpenSpec.ofChange Rows.fnExactCollectedAtSpec).preRow enc prog Tryd.f10 Rows.fnExactCollectedAtRow.domain false Rows.fnExactCollectedAtRow.laid) (Rows.fnExactCollectedAtSpec.post enc prog Tryd.f10 false true false false):=by
 obtain ⟨x,hx⟩:=reads os enc
 refine law_laid_leaving (C:=Tryd.checked) (tb:=4) own (by kernel_rfl) Tryd.func10 (by kernel_rfl) Tryd.underlying4 (of_decide_eq_true (by kernel_rfl)) (by kernel_rfl) ?_ os started H enc
  (witness_row_at (enc:=enc) (C:=Tryd.checked) false (laidWorld os) #[.agg (zc prog 28),.int .i64 0,.int .i64 0,.int .i64 0,.int .i64 0,.int .i64 0] rfl (by kernel_rfl) (by kernel_rfl) (by kernel_rfl)
   (OpenSpec.preRow_of_cond 8 hx (by kernel_rfl) (fun k hk=>by cases hk) (by kernel_rfl) (laid_met os _))) ?_
 ·intro H ds gs hds hgs
  rw [show Tryd.f10.params.toList.length=6 by kernel_rfl] at hds
  rw [show Rows.fnExactCollectedAtSpec.vars.length=5 by kernel_rfl] at hgs
  match ds,hds,gs,hgs with
  | [_,_,_,_,_,_],_,[_,_,_,_,_],_=>rfl
 ·intro W base args ds ps hval hA hL
  obtain ⟨b0,b1,b2,b3,b4,k0,k1,k2,k3,k4⟩:=laid_all hL
  rw [Tryd.params10] at hA hval
  obtain ⟨v0,vs0,d0,ds0,p0,q0,ha0,rfl,rfl,h0,r0⟩:=trodAll_cons hA
  obtain ⟨v1,vs1,d1,ds1,p1,q1,rfl,rfl,rfl,h1,r1⟩:=trodAll_cons r0
  obtain ⟨v2,vs2,d2,ds2,p2,q2,rfl,rfl,rfl,h2,r2⟩:=trodAll_cons r1
  obtain ⟨v3,vs3,d3,ds3,p3,q3,rfl,rfl,rfl,h3,r3⟩:=trodAll_cons r2
  obtain ⟨v4,vs4,d4,ds4,p4,q4,rfl,rfl,rfl,h4,r4⟩:=trodAll_cons r3
  obtain ⟨v5,vs5,d5,ds5,p5,q5,rfl,rfl,rfl,h5,r5⟩:=trodAll_cons r4
  obtain ⟨rfl,rfl,rfl⟩:=trodAll_nil r5
  have hargs:args=#[v0,v1,v2,v3,v4,v5]:=by cases args;simp_all
  obtain ⟨a0,e0,w0⟩:=open_data (t:=28) 8 (by kernel_rfl) (by kernel_rfl) (hval 0 28 v0 rfl (by rw [hargs];rfl)) h0
  obtain ⟨a1,e1,_,_,w1⟩:=open_int Tryd.underlying2 (hval 1 2 v1 rfl (by rw [hargs];rfl)) h1
  obtain ⟨a2,e2,_,_,w2⟩:=open_int Tryd.underlying2 (hval 2 2 v2 rfl (by rw [hargs];rfl)) h2
  obtain ⟨a3,e3,_,_,w3⟩:=open_int Tryd.underlying2 (hval 3 2 v3 rfl (by rw [hargs];rfl)) h3
  obtain ⟨a4,e4,_,_,w4⟩:=open_int Tryd.underlying2 (hval 4 2 v4 rfl (by rw [hargs];rfl)) h4
  obtain ⟨a5,e5,_,_,w5⟩:=open_int Tryd.underlying2 (hval 5 2 v5 rfl (by rw [hargs];rfl)) h5
  obtain rfl:args=#[.agg a0,.int .i64 a1,.int .i64 a2,.int .i64 a3,.int .i64 a4,.int .i64 a5]:=by rw [hargs,e0,e1,e2,e3,e4,e5]
  obtain ⟨hg,hv⟩:=laws_FnExactCollectedAt_true a0 a1 a2 a3 a4 a5 b0 b1 b2 b3 b4  w0 (wfb w1) (wfb w2) (wfb w3) (wfb w4) (wfb w5)
  have hr:laws_FnExactCollectedAt_con [.g a0 28,.i .i64 a1,.i .i64 a2,.i .i64 a3,.i .i64 a4,.i .i64 a5] [.gl 0 184 b0 101973,.gl 1 184 b1 93330,.gl 3 184 b2 112315,.gl 2 184 b3 124718,.gl 4 184 b4 94254]=some (.a (.b true),.none,true):=by
   show (some (SV.a (SA.b ((laws_FnExactCollectedAt_v0 a0 a1 a2 a3 a4 a5 b0 b1 b2 b3 b4))),Eff.none,(laws_FnExactCollectedAt_gd a0 a1 a2 a3 a4 a5 b0 b1 b2 b3 b4)):Option (SV×Eff×Bool))=_
   rw [hg,hv]
  exact ends_con2 (by kernel_rfl) laws_FnExactCollectedAt_ok (hh:=[.gl 0 184 b0 36452,.gl 1 184 b1 27809,.gl 3 184 b2 46794,.gl 2 184 b3 59197,.gl 4 184 b4 28733]) (by kernel_rfl) hr W (vals:=[.agg a0,.int .i64 a1,.int .i64 a2,.int .i64 a3,.int .i64 a4,.int .i64 a5]) (.gl k0 (.gl k1 (.gl k2 (.gl k3 (.gl k4 .nil))))) (allCons2 ⟨rfl,w0⟩ (allCons2 ⟨rfl,wfb w1⟩ (allCons2 ⟨rfl,wfb w2⟩ (allCons2 ⟨rfl,wfb w3⟩ (allCons2 ⟨rfl,wfb w4⟩ (allCons2 ⟨rfl,wfb w5⟩ (allNil2 _)))))))
theorem said:Rows.FnExactCollectedAtSaid:=
 OpenClaim.holds_of_wide_leaving 10 Tryd.f10 rfl rfl rfl rfl rfl rfl rfl ⟨rfl,rfl,rfl,rfl,rfl⟩ rfl rfl rfl rfl rfl (by kernel_rfl) Tryd.func10 (by kernel_rfl)
  (of_decide_eq_true (by kernel_rfl)) (by unfold Func.isWrapper;first | (rw [if_pos (by decide +kernel)];kernel_rfl) | (rw [if_neg (by decide +kernel)];exact ⟨rfl,rfl⟩))
  (fun os started H enc _=>by rw [OpenClaim.pre_eq_preRow];exact lifted os started H enc)
theorem plain (f:FuncId) (fn:Func) (hf:Tryd.pinned.checked.prog.funcNamed Rows.fnExactCollectedAtRow.func=some f) (hfn:Tryd.pinned.checked.prog.funcs[f]? = some fn) :
  Rows.fnExactCollectedAtCard.stood.looks=Tryd.pinned.checked.prog.looks []∧∀ (j:Nat) t,fn.params[j]? = some t→Tryd.pinned.checked.prog.wantsStandIn t=false:=by
 obtain rfl:f=10:=Option.some.inj ((show prog.funcNamed Rows.fnExactCollectedAtRow.func=some 10 by kernel_rfl).symm.trans hf) |>.symm
 obtain rfl:fn=Tryd.f10:=(Option.some.inj (Tryd.func10.symm.trans hfn)).symm
 refine ⟨by kernel_rfl,fun j t ht=> ?_⟩
 have hall:∀ t ∈ Tryd.f10.params.toList,prog.wantsStandIn t=false:=of_decide_eq_true (by kernel_rfl)
 exact hall t (by simpa using Array.mem_of_getElem? ht)
theorem proved:Rows.FnExactCollectedAtCardSaid:=
 tied_goes .later true _ _ _ _ said (by kernel_rfl) fnExactCollectedAt_row_tie rfl ⟨rfl,rfl⟩ (by kernel_rfl) rfl plain (by kernel_rfl)
#print axioms proved
end lawFnExactCollectedAt
end
end Go.Proofs.YtphmhgdedoeaeaaDoor
