/- Records of what has stranded, in company; where and when a bottle is released. -/
import Derived.Test.YtphmhgdedoeaeaaDoorProg
import Derived.Test.YtphmhgdedoeaeaaDoorCxK
import Derived.Test.YtphmhgdedoeaeaaDoorCxEachLand
import Derived.Test.YtphmhgdedoeaeaaDoorIsX
namespace Go.Proofs.YtphmhgdedoeaeaaDoor
open Go.ChangeShapes Go.WideShapes Go.ChangeAt Go.RowKit Ve Vc
open Tryd (prog)
open IntKind (i64)
set_option linter.unusedVariables false
set_option linter.unusedSimpArgs false
set_option maxRecDepth 100000
noncomputable section
variable {F:Vc.Fd}
noncomputable def impl_codeOf_con:Con:=ansV prog (mkΓ [(91,conG isCon)]) 1000 Tryd.f54 []
theorem impl_codeOf_enter:EntX prog 54:=entX_ok (fn:=Tryd.f54) (by kernel_rfl) (by kernel_rfl) (by kernel_rfl)
theorem impl_codeOf_ok:ConOkX (md F) prog 54 impl_codeOf_con:=ansX_ok (N:=1000) (by kernel_rfl) (mkΓ_consX (conG_okX isCon_ok) isCon_enter mkΓ_nilX) (fn:=Tryd.f54) (by kernel_rfl) (by kernel_rfl) []
theorem spec_l03Hour_ans (N:Nat) (a0:Int):ansV prog (mkΓ [(69,con spec_l00In_con)]) N Tryd.f49 [] [.i .i64 (a0)] []=(some (.a (.b ((spec_l00In_v0 a0 (1:Int) (14:Int)))),.none,true)):=by kernel_rfl
theorem spec_l03Hour_main (a0:Int) (h_a0:i64.min≤a0∧a0≤i64.max) (hg:(true)=true):ansV prog (mkΓ [(69,con spec_l00In_con)]) 1000 Tryd.f49 [] [.i .i64 (a0)] []=some (.a (.b ((spec_l00In_v0 a0 (1:Int) (14:Int)))),.none,true):=by
 refine (spec_l03Hour_ans 1000 a0).trans ?_
 rfl
noncomputable def spec_l03Hour_con:Con:=fun args h=>match args,h with
 | [.i .i64 a0],[]=>some (.a (.b ((spec_l00In_v0 a0 (1:Int) (14:Int)))),.none,true)
 | _,_=>none
theorem spec_l03Hour_enter:EntX prog 49:=entX_ok (fn:=Tryd.f49) (by kernel_rfl) (by kernel_rfl) (by kernel_rfl)
theorem spec_l03Hour_ok:ConOkX (md F) prog 49 spec_l03Hour_con:=(ansX_ok (N:=1000) (by kernel_rfl) (mkΓ_consX (con_okX spec_l00In_ok) spec_l00In_enter mkΓ_nilX) (fn:=Tryd.f49) (by kernel_rfl) (by kernel_rfl) []).of (by
 intro ρ h w args vals r e hA hH hr
 unfold spec_l03Hour_con at hr
 split at hr
 ·rename_i a0
  obtain ⟨rfl,hg⟩:=Prod.mk.inj (Option.some.inj hr)
  obtain ⟨rfl,hg2⟩:=Prod.mk.inj hg
  exact spec_l03Hour_main a0 (hA.rng 0 rfl) hg2
 ·cases hr)
theorem impl_hasHour_ans (N:Nat) (a0:Int):ansV prog (mkΓ []) N Tryd.f53 [] [.i .i64 (a0)] []=(bif decide (a0 ≥ (1:Int)) then (some (.a (.b (decide (a0≤(14:Int)))),.none,true))
  else (some (.a (.b (false)),.none,true))):=by kernel_rfl
noncomputable def impl_hasHour_v0 (a0:Int):Bool:=(bif decide (a0 ≥ (1:Int)) then decide (a0≤(14:Int)) else false)
theorem impl_hasHour_main (a0:Int) (h_a0:i64.min≤a0∧a0≤i64.max) (hg:(true)=true):ansV prog (mkΓ []) 1000 Tryd.f53 [] [.i .i64 (a0)] []=some (.a (.b ((impl_hasHour_v0 a0))),.none,true):=by
 refine (impl_hasHour_ans 1000 a0).trans ?_
 unfold impl_hasHour_v0
 revert hg
 generalize (decide (a0 ≥ (1:Int)))=b2
 intro hg
 cases b2
 ·skip
  first | (simp only [cond_true,cond_false,Bool.and_true,Bool.true_and,Bool.and_false,Bool.false_and];done) | rfl | exact (nomatch (hg:false=true))
 ·skip
  first | (simp only [cond_true,cond_false,Bool.and_true,Bool.true_and,Bool.and_false,Bool.false_and];done) | rfl | exact (nomatch (hg:false=true))
noncomputable def impl_hasHour_con:Con:=fun args h=>match args,h with
 | [.i .i64 a0],[]=>some (.a (.b ((impl_hasHour_v0 a0))),.none,true)
 | _,_=>none
theorem impl_hasHour_enter:EntX prog 53:=entX_ok (fn:=Tryd.f53) (by kernel_rfl) (by kernel_rfl) (by kernel_rfl)
theorem impl_hasHour_ok:ConOkX (md F) prog 53 impl_hasHour_con:=(ansX_ok (N:=1000) (by kernel_rfl) mkΓ_nilX (fn:=Tryd.f53) (by kernel_rfl) (by kernel_rfl) []).of (by
 intro ρ h w args vals r e hA hH hr
 unfold impl_hasHour_con at hr
 split at hr
 ·rename_i a0
  obtain ⟨rfl,hg⟩:=Prod.mk.inj (Option.some.inj hr)
  obtain ⟨rfl,hg2⟩:=Prod.mk.inj hg
  exact impl_hasHour_main a0 (hA.rng 0 rfl) hg2
 ·cases hr)
noncomputable def spec_l03From_G:Cons:=(mkΓ [(82,con spec_l01Ok_con),(83,con spec_l01Is_con),(84,con spec_l01Tide_con),(85,con spec_l01Dry_con)])
theorem spec_l03From_ans (N:Nat) (a1 a2:Int) (a3:Bool) (a0:Array Value):ansV prog spec_l03From_G N Tryd.f48 [] [.w 0,.i .i64 (a1),.i .i64 (a2),.b (a3)] [.row a0 36]=(bif (!((okS a0))) then (some (.a (.i .i64 (1:Int)),.none,true))
    else (bif (!((spec_l01Is_v0 a1 a0))) then (some (.a (.i .i64 (2:Int)),.none,true))
      else (bif (!((spec_l00In_v0 a2 (0:Int) (1:Int)))) then (some (.a (.i .i64 (2:Int)),.none,true))
        else (bif (!(a3)) then (some (.a (.i .i64 (2:Int)),.none,true))
          else (bif decide (0≤(IntKind.u64.wrap a1)) then (bif (spec_l01Dry_v0 a1 a0) then (some (.a (.i .i64 (4:Int)),.none,true))
              else (some (.a (.i .i64 (0:Int)),.none,true)))
            else (none)))))):=by kernel_rfl
noncomputable def spec_l03From_v0 (a1 a2:Int) (a3:Bool) (a0:Array Value):Int:=(bif (!((okS a0))) then (1:Int) else (bif (!((spec_l01Is_v0 a1 a0))) then (2:Int) else (bif (!((spec_l00In_v0 a2 (0:Int) (1:Int)))) then (2:Int) else (bif (!(a3)) then (2:Int) else (bif (spec_l01Dry_v0 a1 a0) then (4:Int) else (0:Int))))))
noncomputable def spec_l03From_gd (a1 a2:Int) (a3:Bool) (a0:Array Value):Bool:=(bif (!((okS a0))) then true else (bif (!((spec_l01Is_v0 a1 a0))) then true else (bif (!((spec_l00In_v0 a2 (0:Int) (1:Int)))) then true else (bif (!(a3)) then true else decide (0≤(IntKind.u64.wrap a1))))))
theorem spec_l03From_main (a1 a2:Int) (a3:Bool) (a0:Array Value) (h_a1:i64.min≤a1∧a1≤i64.max) (h_a2:i64.min≤a2∧a2≤i64.max) (h_a0:WT prog 36 a0) (hg:((spec_l03From_gd a1 a2 a3 a0))=true):ansV prog spec_l03From_G 1000 Tryd.f48 [] [.w 0,.i .i64 (a1),.i .i64 (a2),.b (a3)] [.row a0 36]=some (.a (.i .i64 (spec_l03From_v0 a1 a2 a3 a0)),.none,true):=by
 refine (spec_l03From_ans 1000 a1 a2 a3 a0).trans ?_
 unfold spec_l03From_gd at hg
 unfold spec_l03From_v0
 revert hg
 generalize ((!((okS a0))))=b2
 intro hg
 cases b2
 ·skip
  revert hg
  generalize ((!((spec_l01Is_v0 a1 a0))))=b4
  intro hg
  cases b4
  ·skip
   revert hg
   generalize ((!((spec_l00In_v0 a2 (0:Int) (1:Int)))))=b6
   intro hg
   cases b6
   ·skip
    revert hg
    generalize ((!(a3)))=b8
    intro hg
    cases b8
    ·skip
     revert hg
     generalize (decide (0≤(IntKind.u64.wrap a1)))=b10
     intro hg
     cases b10
     ·skip
      first | exact (nomatch (hg:false=true)) | (simp only [cond_true,cond_false,Bool.and_true,Bool.true_and,Bool.and_false,Bool.false_and];done) | rfl
     ·skip
      revert hg
      generalize ((spec_l01Dry_v0 a1 a0))=b12
      intro hg
      cases b12
      ·skip
       first | (simp only [cond_true,cond_false,Bool.and_true,Bool.true_and,Bool.and_false,Bool.false_and];done) | rfl | exact (nomatch (hg:false=true))
      ·skip
       first | (simp only [cond_true,cond_false,Bool.and_true,Bool.true_and,Bool.and_false,Bool.false_and];done) | rfl | exact (nomatch (hg:false=true))
    ·skip
     first | (simp only [cond_true,cond_false,Bool.and_true,Bool.true_and,Bool.and_false,Bool.false_and];done) | rfl | exact (nomatch (hg:false=true))
   ·skip
    first | (simp only [cond_true,cond_false,Bool.and_true,Bool.true_and,Bool.and_false,Bool.false_and];done) | rfl | exact (nomatch (hg:false=true))
  ·skip
   first | (simp only [cond_true,cond_false,Bool.and_true,Bool.true_and,Bool.and_false,Bool.false_and];done) | rfl | exact (nomatch (hg:false=true))
 ·skip
  first | (simp only [cond_true,cond_false,Bool.and_true,Bool.true_and,Bool.and_false,Bool.false_and];done) | rfl | exact (nomatch (hg:false=true))
noncomputable def spec_l03From_con:Con:=fun args h=>match args,h with
 | [.w 0,.i .i64 a1,.i .i64 a2,.b a3],[.row a0 36]=>some (.a (.i .i64 (spec_l03From_v0 a1 a2 a3 a0)),.none,(spec_l03From_gd a1 a2 a3 a0))
 | _,_=>none
theorem spec_l03From_enter:EntX prog 48:=entX_ok (fn:=Tryd.f48) (by kernel_rfl) (by kernel_rfl) (by kernel_rfl)
theorem spec_l03From_ok:ConOkX (md F) prog 48 spec_l03From_con:=(ansX_ok (N:=1000) (by kernel_rfl) (mkΓ_consX (con_okX spec_l01Ok_ok) spec_l01Ok_enter (mkΓ_consX (con_okX spec_l01Is_ok) spec_l01Is_enter (mkΓ_consX (con_okX spec_l01Tide_ok) spec_l01Tide_enter (mkΓ_consX (con_okX spec_l01Dry_ok) spec_l01Dry_enter mkΓ_nilX)))) (fn:=Tryd.f48) (by kernel_rfl) (by kernel_rfl) []).of (by
 intro ρ h w args vals r e hA hH hr
 unfold spec_l03From_con at hr
 split at hr
 ·rename_i a1 a2 a3 a0
  obtain ⟨rfl,hg⟩:=Prod.mk.inj (Option.some.inj hr)
  obtain ⟨rfl,hg2⟩:=Prod.mk.inj hg
  exact spec_l03From_main a1 a2 a3 a0 (hA.rng 1 rfl) (hA.rng 2 rfl) (hH.wt 0 rfl) hg2
 ·cases hr)
theorem in_of {x a b:Int} (h:a≤x∧x≤b):spec_l00In_v0 x a b=true:=by
 unfold spec_l00In_v0;rw [decide_eq_true (show x ≥ a from h.1),decide_eq_true h.2];rfl
theorem land_all {S:Array Value} (hS:WT prog 36 S) {c:Int} (hc:0≤c∧c≤35):impl_isLand_v0 S c=spec_l01Dry_v0 c S:=by
 obtain ⟨k,rfl⟩:=Int.eq_ofNat_of_zero_le hc.1
 exact land_dry hS (by omega)
theorem dry_free (c:Int):decide (0≤IntKind.u64.wrap c)=true:=decide_eq_true (wrap_in .u64 _).1
theorem from_gd (c b:Int) (f:Bool) (S:Array Value):spec_l03From_gd c b f S=true:=by
 unfold spec_l03From_gd
 rw [dry_free]
 cases okS S<;>cases spec_l01Is_v0 c S<;>cases spec_l00In_v0 b 0 1<;>cases f<;>rfl
noncomputable def rl (S:Array Value) (c b:Int) (f:Bool):Bool:=spec_l01Is_v0 c S&&(spec_l00In_v0 b 0 1&&f)
theorem from_eq (c b:Int) (f:Bool) (S:Array Value):spec_l03From_v0 c b f S=bif okS S then (bif rl S c b f then (bif spec_l01Dry_v0 c S then 4 else 0) else 2) else 1:=by
 unfold spec_l03From_v0 rl
 cases okS S<;>cases spec_l01Is_v0 c S<;>cases spec_l00In_v0 b 0 1<;>cases f<;>rfl
noncomputable def impl_releaseError_G:Cons:=(mkΓ [(87,con impl_ValidSea_con),(88,con impl_hasCell_con),(89,con impl_hasTide_con),(90,con impl_isLand_con)])
theorem impl_releaseError_ans (N:Nat) (a0:Array Value) (a1 a2:Int) (a3:Bool) (g_e0 g_e1 g_e2 g_e3 g_e4:Addr):ansV prog impl_releaseError_G N Tryd.f52 [] [.g a0 36,.i .i64 (a1),.i .i64 (a2),.b (a3)] [.gl 0 184 g_e0 101973,.gl 1 184 g_e1 93330,.gl 3 184 g_e2 112315,.gl 2 184 g_e3 124718,.gl 4 184 g_e4 94254]=(bif (!((okS a0))) then (some (.a (.e 0),.none,true))
    else (bif (!((impl_hasCell_v0 a0 a1))) then (some (.a (.e 1),.none,true))
      else (bif (!((impl_hasTide_v0 a2))) then (some (.a (.e 1),.none,true))
        else (bif (!(a3)) then (some (.a (.e 1),.none,true))
          else (bif decide (0≤a1) then (bif (impl_isLand_v0 a0 a1) then (some (.a (.e 3),.none,true))
              else (some (.a (.v (.nilIface)),.none,true)))
            else (none)))))):=by kernel_rfl
theorem impl_releaseError_main0 (a0:Array Value) (a1 a2:Int) (a3:Bool) (g_e0 g_e1 g_e2 g_e3 g_e4:Addr) (h_a0:WT prog 36 a0) (h_a1:i64.min≤a1∧a1≤i64.max) (h_a2:i64.min≤a2∧a2≤i64.max) (hc0:(okS a0)=false) (hg:(true)=true):ansV prog impl_releaseError_G 1000 Tryd.f52 [] [.g a0 36,.i .i64 (a1),.i .i64 (a2),.b (a3)] [.gl 0 184 g_e0 101973,.gl 1 184 g_e1 93330,.gl 3 184 g_e2 112315,.gl 2 184 g_e3 124718,.gl 4 184 g_e4 94254]=some (.a (.e 0),.none,true):=by
 refine (impl_releaseError_ans 1000 a0 a1 a2 a3 g_e0 g_e1 g_e2 g_e3 g_e4).trans ?_
 simp only [hc0,Bool.not_false,cond_true]
theorem impl_releaseError_main1 (a0:Array Value) (a1 a2:Int) (a3:Bool) (g_e0 g_e1 g_e2 g_e3 g_e4:Addr) (h_a0:WT prog 36 a0) (h_a1:i64.min≤a1∧a1≤i64.max) (h_a2:i64.min≤a2∧a2≤i64.max) (hc0:(okS a0)=true) (hc1:(rl a0 a1 a2 a3)=false) (hg:(true)=true):ansV prog impl_releaseError_G 1000 Tryd.f52 [] [.g a0 36,.i .i64 (a1),.i .i64 (a2),.b (a3)] [.gl 0 184 g_e0 101973,.gl 1 184 g_e1 93330,.gl 3 184 g_e2 112315,.gl 2 184 g_e3 124718,.gl 4 184 g_e4 94254]=some (.a (.e 1),.none,true):=by
 refine (impl_releaseError_ans 1000 a0 a1 a2 a3 g_e0 g_e1 g_e2 g_e3 g_e4).trans ?_
 have ht:impl_hasTide_v0 a2=spec_l00In_v0 a2 0 1:=tide_eq a2
 rw [cell_is,ht]
 unfold rl at hc1
 rw [hc0]
 cases q1:spec_l01Is_v0 a1 a0 with
 | false=>rfl
 | true=>
  cases q2:spec_l00In_v0 a2 0 1 with
  | false=>rfl
  | true=>
   cases q3:a3 with
   | false=>rfl
   | true=>rw [q1,q2,q3] at hc1;cases hc1
theorem impl_releaseError_main2 (a0:Array Value) (a1 a2:Int) (a3:Bool) (g_e0 g_e1 g_e2 g_e3 g_e4:Addr) (h_a0:WT prog 36 a0) (h_a1:i64.min≤a1∧a1≤i64.max) (h_a2:i64.min≤a2∧a2≤i64.max) (hc0:(okS a0)=true) (hc1:(rl a0 a1 a2 a3)=true) (hc2:(spec_l01Dry_v0 a1 a0)=false) (hg:(true)=true):ansV prog impl_releaseError_G 1000 Tryd.f52 [] [.g a0 36,.i .i64 (a1),.i .i64 (a2),.b (a3)] [.gl 0 184 g_e0 101973,.gl 1 184 g_e1 93330,.gl 3 184 g_e2 112315,.gl 2 184 g_e3 124718,.gl 4 184 g_e4 94254]=some (.a (.v (.nilIface)),.none,true):=by
 refine (impl_releaseError_ans 1000 a0 a1 a2 a3 g_e0 g_e1 g_e2 g_e3 g_e4).trans ?_
 have ht:impl_hasTide_v0 a2=spec_l00In_v0 a2 0 1:=tide_eq a2
 rw [cell_is,ht]
 unfold rl at hc1
 simp only [Bool.and_eq_true] at hc1
 obtain ⟨q1,q2,q3⟩:=hc1
 have hr:=is_range q1
 rw [hc0,q1,q2,q3,land_all h_a0 hr,hc2,decide_eq_true hr.1]
 rfl
theorem impl_releaseError_main3 (a0:Array Value) (a1 a2:Int) (a3:Bool) (g_e0 g_e1 g_e2 g_e3 g_e4:Addr) (h_a0:WT prog 36 a0) (h_a1:i64.min≤a1∧a1≤i64.max) (h_a2:i64.min≤a2∧a2≤i64.max) (hc0:(okS a0)=true) (hc1:(rl a0 a1 a2 a3)=true) (hc2:(spec_l01Dry_v0 a1 a0)=true) (hg:(true)=true):ansV prog impl_releaseError_G 1000 Tryd.f52 [] [.g a0 36,.i .i64 (a1),.i .i64 (a2),.b (a3)] [.gl 0 184 g_e0 101973,.gl 1 184 g_e1 93330,.gl 3 184 g_e2 112315,.gl 2 184 g_e3 124718,.gl 4 184 g_e4 94254]=some (.a (.e 3),.none,true):=by
 refine (impl_releaseError_ans 1000 a0 a1 a2 a3 g_e0 g_e1 g_e2 g_e3 g_e4).trans ?_
 have ht:impl_hasTide_v0 a2=spec_l00In_v0 a2 0 1:=tide_eq a2
 rw [cell_is,ht]
 unfold rl at hc1
 simp only [Bool.and_eq_true] at hc1
 obtain ⟨q1,q2,q3⟩:=hc1
 have hr:=is_range q1
 rw [hc0,q1,q2,q3,land_all h_a0 hr,hc2,decide_eq_true hr.1]
 rfl
noncomputable def impl_releaseError_scon:SCon:=fun args h=>match args,h with
 | [.g a0 36,.i .i64 a1,.i .i64 a2,.b a3],[.gl 0 184 g_e0 101973,.gl 1 184 g_e1 93330,.gl 3 184 g_e2 112315,.gl 2 184 g_e3 124718,.gl 4 184 g_e4 94254]=>.two (okS a0) (.two (rl a0 a1 a2 a3) (.two (spec_l01Dry_v0 a1 a0) (.one (some (.a (.e 3),.none,true))) (.one (some (.a (.v (.nilIface)),.none,true)))) (.one (some (.a (.e 1),.none,true)))) (.one (some (.a (.e 0),.none,true)))
 | _,_=>.one none
theorem impl_releaseError_enter:EntX prog 52:=entX_ok (fn:=Tryd.f52) (by kernel_rfl) (by kernel_rfl) (by kernel_rfl)
theorem impl_releaseError_sok:ConOkX (md F) prog 52 (fun args h=>wayRes (impl_releaseError_scon args h)):=by
 intro ρ h w args vals r e hn hr hA hH
 dsimp only at hr
 unfold impl_releaseError_scon at hr
 split at hr
 ·rename_i a0 a1 a2 a3 g_e0 g_e1 g_e2 g_e3 g_e4
  simp only [wayRes] at hr
  cases hc0:(okS a0)
  ·rw [hc0] at hr
   simp only [wayRes,cond_true,cond_false] at hr
   obtain ⟨rfl,hg⟩:=Prod.mk.inj (Option.some.inj hr)
   obtain ⟨rfl,hg2⟩:=Prod.mk.inj hg
   exact ((ansX_ok (N:=1000) (by kernel_rfl) (mkΓ_consX (con_okX impl_ValidSea_ok) impl_ValidSea_enter (mkΓ_consX (con_okX impl_hasCell_ok) impl_hasCell_enter (mkΓ_consX (con_okX impl_hasTide_ok) impl_hasTide_enter (mkΓ_consX (con_okX impl_isLand_ok) impl_isLand_enter mkΓ_nilX)))) (fn:=Tryd.f52) (by kernel_rfl) (by kernel_rfl) [])) ρ _ w _ vals _ _ hn ((impl_releaseError_main0 a0 a1 a2 a3 g_e0 g_e1 g_e2 g_e3 g_e4 (hA.wt 0 rfl) (hA.rng 1 rfl) (hA.rng 2 rfl) hc0 hg2)) hA hH
  ·rw [hc0] at hr
   simp only [wayRes,cond_true,cond_false] at hr
   cases hc1:(rl a0 a1 a2 a3)
   ·rw [hc1] at hr
    simp only [wayRes,cond_true,cond_false] at hr
    obtain ⟨rfl,hg⟩:=Prod.mk.inj (Option.some.inj hr)
    obtain ⟨rfl,hg2⟩:=Prod.mk.inj hg
    exact ((ansX_ok (N:=1000) (by kernel_rfl) (mkΓ_consX (con_okX impl_ValidSea_ok) impl_ValidSea_enter (mkΓ_consX (con_okX impl_hasCell_ok) impl_hasCell_enter (mkΓ_consX (con_okX impl_hasTide_ok) impl_hasTide_enter (mkΓ_consX (con_okX impl_isLand_ok) impl_isLand_enter mkΓ_nilX)))) (fn:=Tryd.f52) (by kernel_rfl) (by kernel_rfl) [])) ρ _ w _ vals _ _ hn ((impl_releaseError_main1 a0 a1 a2 a3 g_e0 g_e1 g_e2 g_e3 g_e4 (hA.wt 0 rfl) (hA.rng 1 rfl) (hA.rng 2 rfl) hc0 hc1 hg2)) hA hH
   ·rw [hc1] at hr
    simp only [wayRes,cond_true,cond_false] at hr
    cases hc2:(spec_l01Dry_v0 a1 a0)
    ·rw [hc2] at hr
     simp only [wayRes,cond_true,cond_false] at hr
     obtain ⟨rfl,hg⟩:=Prod.mk.inj (Option.some.inj hr)
     obtain ⟨rfl,hg2⟩:=Prod.mk.inj hg
     exact ((ansX_ok (N:=1000) (by kernel_rfl) (mkΓ_consX (con_okX impl_ValidSea_ok) impl_ValidSea_enter (mkΓ_consX (con_okX impl_hasCell_ok) impl_hasCell_enter (mkΓ_consX (con_okX impl_hasTide_ok) impl_hasTide_enter (mkΓ_consX (con_okX impl_isLand_ok) impl_isLand_enter mkΓ_nilX)))) (fn:=Tryd.f52) (by kernel_rfl) (by kernel_rfl) [])) ρ _ w _ vals _ _ hn ((impl_releaseError_main2 a0 a1 a2 a3 g_e0 g_e1 g_e2 g_e3 g_e4 (hA.wt 0 rfl) (hA.rng 1 rfl) (hA.rng 2 rfl) hc0 hc1 hc2 hg2)) hA hH
    ·rw [hc2] at hr
     simp only [wayRes,cond_true,cond_false] at hr
     obtain ⟨rfl,hg⟩:=Prod.mk.inj (Option.some.inj hr)
     obtain ⟨rfl,hg2⟩:=Prod.mk.inj hg
     exact ((ansX_ok (N:=1000) (by kernel_rfl) (mkΓ_consX (con_okX impl_ValidSea_ok) impl_ValidSea_enter (mkΓ_consX (con_okX impl_hasCell_ok) impl_hasCell_enter (mkΓ_consX (con_okX impl_hasTide_ok) impl_hasTide_enter (mkΓ_consX (con_okX impl_isLand_ok) impl_isLand_enter mkΓ_nilX)))) (fn:=Tryd.f52) (by kernel_rfl) (by kernel_rfl) [])) ρ _ w _ vals _ _ hn ((impl_releaseError_main3 a0 a1 a2 a3 g_e0 g_e1 g_e2 g_e3 g_e4 (hA.wt 0 rfl) (hA.rng 1 rfl) (hA.rng 2 rfl) hc0 hc1 hc2 hg2)) hA hH
 ·simp only [wayRes] at hr
  cases hr
theorem spec_l03Behind_ans (N:Nat) (a1 a2 a3:Int) (a0:Array Value):ansV prog (mkΓ [(102,con spec_l02Drift_con)]) N Tryd.f73 [] [.w 0,.i .i64 (a1),.i .i64 (a2),.i .i64 (a3)] [.row a0 36]=(bif (decide (0≤a1)&&decide (a1<36)) then (bif (okS a0&&((decide (0≤num ((((zc prog 108).setIfInBounds 0 (.int .i8 (IntKind.i8.wrap a2))).setIfInBounds 2 (.int .i64 (1:Int))).setIfInBounds (3+((a1).toNat*1)) (.int .i64 (1:Int))) 0)&&decide (num ((((zc prog 108).setIfInBounds 0 (.int .i8 (IntKind.i8.wrap a2))).setIfInBounds 2 (.int .i64 (1:Int))).setIfInBounds (3+((a1).toNat*1)) (.int .i64 (1:Int))) 0<2))&&((decide (0≤num ((((zc prog 108).setIfInBounds 0 (.int .i8 (IntKind.i8.wrap a2))).setIfInBounds 2 (.int .i64 (1:Int))).setIfInBounds (3+((a1).toNat*1)) (.int .i64 (1:Int))) 1)&&decide (num ((((zc prog 108).setIfInBounds 0 (.int .i8 (IntKind.i8.wrap a2))).setIfInBounds 2 (.int .i64 (1:Int))).setIfInBounds (3+((a1).toNat*1)) (.int .i64 (1:Int))) 1≤14))&&(decide (0≤a3)&&decide (a3≤14))))) then (some (.a (.g (driftV prog a0 ((((zc prog 108).setIfInBounds 0 (.int .i8 (IntKind.i8.wrap a2))).setIfInBounds 2 (.int .i64 (1:Int))).setIfInBounds (3+((a1).toNat*1)) (.int .i64 (1:Int))) a3.toNat) 108),.none,true))
   else (none))
  else (none)):=by kernel_rfl
noncomputable def oneX (P:Program) (c b:Int):Array Value:=(((zc P 108).setIfInBounds 0 (.int .i8 (IntKind.i8.wrap b))).setIfInBounds 2 (.int .i64 1)).setIfInBounds (3+c.toNat*1) (.int .i64 1)
theorem oneX_num {c b:Int} (hb:0≤b∧b≤1) (hc:0≤c∧c≤35):num (oneX prog c b) 0=b∧num (oneX prog c b) 1=0∧(oneX prog c b).size=40∧∀ i,i<36→num (oneX prog c b) (3+i)=if i=c.toNat then 1 else 0:=by
 have hz:(zc prog 108).size=40:=by kernel_rfl
 have hc0:(List.range 36).all (fun k=>match (zc prog 108)[3+k]? with | some (.int .i64 0)=>true | _=>false)=true:=by kernel_rfl
 have h1:(zc prog 108)[1]? = some (.int .i8 0):=by kernel_rfl
 unfold oneX
 refine ⟨?_, ?_,by simp [hz],fun i hi=> ?_⟩
 ·unfold num;rw [Array.getElem?_setIfInBounds,if_neg (by omega),Array.getElem?_setIfInBounds,if_neg (by omega),Array.getElem?_setIfInBounds,if_pos rfl,if_pos (by omega)]
  exact IntWalk.i8_in _ (by omega)
 ·unfold num;rw [Array.getElem?_setIfInBounds,if_neg (by omega),Array.getElem?_setIfInBounds,if_neg (by omega),Array.getElem?_setIfInBounds,if_neg (by omega),h1]
 ·unfold num
  rw [Array.getElem?_setIfInBounds]
  by_cases e:i=c.toNat
  ·rw [if_pos (by omega),if_pos (by simp;omega),if_pos e]
  ·rw [if_neg (by omega),if_neg e,Array.getElem?_setIfInBounds,if_neg (by omega),Array.getElem?_setIfInBounds,if_neg (by omega)]
   have:=List.all_eq_true.1 hc0 i (List.mem_range.2 hi)
   split at this
   ·rename_i e2;rw [e2]
   ·cases this
theorem spec_l03Behind_main (a1 a2 a3:Int) (a0:Array Value) (h_a1:i64.min≤a1∧a1≤i64.max) (h_a2:i64.min≤a2∧a2≤i64.max) (h_a3:i64.min≤a3∧a3≤i64.max) (h_a0:WT prog 36 a0) (hg:((okS a0&&((spec_l01Is_v0 a1 a0&&spec_l00In_v0 a2 0 1)&&spec_l00In_v0 a3 0 14)))=true):ansV prog (mkΓ [(102,con spec_l02Drift_con)]) 1000 Tryd.f73 [] [.w 0,.i .i64 (a1),.i .i64 (a2),.i .i64 (a3)] [.row a0 36]=some (.a (.g (driftV prog a0 (oneX prog a1 a2) a3.toNat) 108),.none,true):=by
 simp only [Bool.and_eq_true] at hg
 obtain ⟨hok,⟨his,htd⟩,hhr⟩:=hg
 have hc:=is_range his
 have hb:=in_range htd
 have hh:=in_range hhr
 obtain ⟨n0,n1,_,_⟩:=oneX_num (c:=a1) (b:=a2) hb hc
 refine (spec_l03Behind_ans 1000 a1 a2 a3 a0).trans ?_
 unfold oneX at n0 n1
 rw [dec2 hc.1 (show a1<36 by omega),n0,n1,hok,dec2 hb.1 (show a2<2 by omega),decide_eq_true hh.1,decide_eq_true hh.2]
 rfl
noncomputable def spec_l03Behind_con:Con:=fun args h=>match args,h with
 | [.w 0,.i .i64 a1,.i .i64 a2,.i .i64 a3],[.row a0 36]=>some (.a (.g (driftV prog a0 (oneX prog a1 a2) a3.toNat) 108),.none,(okS a0&&((spec_l01Is_v0 a1 a0&&spec_l00In_v0 a2 0 1)&&spec_l00In_v0 a3 0 14)))
 | _,_=>none
theorem spec_l03Behind_enter:EntX prog 73:=entX_ok (fn:=Tryd.f73) (by kernel_rfl) (by kernel_rfl) (by kernel_rfl)
theorem spec_l03Behind_ok:ConOkX (md F) prog 73 spec_l03Behind_con:=(ansX_ok (N:=1000) (by kernel_rfl) (mkΓ_consX (con_okX spec_l02Drift_ok) spec_l02Drift_enter mkΓ_nilX) (fn:=Tryd.f73) (by kernel_rfl) (by kernel_rfl) []).of (by
 intro ρ h w args vals r e hA hH hr
 unfold spec_l03Behind_con at hr
 split at hr
 ·rename_i a1 a2 a3 a0
  obtain ⟨rfl,hg⟩:=Prod.mk.inj (Option.some.inj hr)
  obtain ⟨rfl,hg2⟩:=Prod.mk.inj hg
  exact spec_l03Behind_main a1 a2 a3 a0 (hA.rng 1 rfl) (hA.rng 2 rfl) (hA.rng 3 rfl) (hH.wt 0 rfl) hg2
 ·cases hr)
theorem impl_spreadAt_ans (N:Nat) (a0 a1 a2:Int):ansV prog (mkΓ []) N Tryd.f76 [] [.i .i64 (a0),.i .i64 (a1),.i .i64 (a2)] []=(bif (decide (0≤a0)&&decide (a0<36)) then (some (.a (.g ((((zc prog 108).setIfInBounds 0 (.int .i8 (IntKind.i8.wrap a2))).setIfInBounds 2 (.int .i64 (a1))).setIfInBounds (3+((a0).toNat*1)) (.int .i64 (a1))) 108),.none,true))
  else (none)):=by kernel_rfl
noncomputable def impl_spreadAt_v0 (P:Program) (a0 a1 a2:Int):Array Value:=((((zc P 108).setIfInBounds 0 (.int .i8 (IntKind.i8.wrap a2))).setIfInBounds 2 (.int .i64 (a1))).setIfInBounds (3+((a0).toNat*1)) (.int .i64 (a1)))
theorem impl_spreadAt_main (a0 a1 a2:Int) (h_a0:i64.min≤a0∧a0≤i64.max) (h_a1:i64.min≤a1∧a1≤i64.max) (h_a2:i64.min≤a2∧a2≤i64.max) (hg:((decide (0≤a0)&&decide (a0<36)))=true):ansV prog (mkΓ []) 1000 Tryd.f76 [] [.i .i64 (a0),.i .i64 (a1),.i .i64 (a2)] []=some (.a (.g (impl_spreadAt_v0 prog a0 a1 a2) 108),.none,true):=by
 refine (impl_spreadAt_ans 1000 a0 a1 a2).trans ?_
 unfold impl_spreadAt_v0
 revert hg
 generalize (decide (0≤a0))=b2
 intro hg
 cases b2
 ·skip
  first | exact (nomatch (hg:false=true)) | (simp only [cond_true,cond_false,Bool.and_true,Bool.true_and,Bool.and_false,Bool.false_and];done) | rfl
 ·skip
  revert hg
  generalize (decide (a0<36))=b4
  intro hg
  cases b4
  ·skip
   first | exact (nomatch (hg:false=true)) | (simp only [cond_true,cond_false,Bool.and_true,Bool.true_and,Bool.and_false,Bool.false_and];done) | rfl
  ·skip
   first | (simp only [cond_true,cond_false,Bool.and_true,Bool.true_and,Bool.and_false,Bool.false_and];done) | rfl | exact (nomatch (hg:false=true))
noncomputable def impl_spreadAt_con:Con:=fun args h=>match args,h with
 | [.i .i64 a0,.i .i64 a1,.i .i64 a2],[]=>some (.a (.g (impl_spreadAt_v0 prog a0 a1 a2) 108),.none,(decide (0≤a0)&&decide (a0<36)))
 | _,_=>none
theorem impl_spreadAt_enter:EntX prog 76:=entX_ok (fn:=Tryd.f76) (by kernel_rfl) (by kernel_rfl) (by kernel_rfl)
theorem impl_spreadAt_ok:ConOkX (md F) prog 76 impl_spreadAt_con:=(ansX_ok (N:=1000) (by kernel_rfl) mkΓ_nilX (fn:=Tryd.f76) (by kernel_rfl) (by kernel_rfl) []).of (by
 intro ρ h w args vals r e hA hH hr
 unfold impl_spreadAt_con at hr
 split at hr
 ·rename_i a0 a1 a2
  obtain ⟨rfl,hg⟩:=Prod.mk.inj (Option.some.inj hr)
  obtain ⟨rfl,hg2⟩:=Prod.mk.inj hg
  exact impl_spreadAt_main a0 a1 a2 (hA.rng 0 rfl) (hA.rng 1 rfl) (hA.rng 2 rfl) hg2
 ·cases hr)
noncomputable def landF (X:Array Value) (r:Array Value) (k:Nat):Array Value:=r.setIfInBounds (k*1) (.int .i64 (num X (3+k*1)))
noncomputable def landV (P:Program) (S X:Array Value):Array Value:=folds (fun r k=>if inC (num S 0) (num S 1) k&&impl_isLand_v0 S (k:Int) then landF X r k else r) (zc P 29) 36
noncomputable def byV (P:Program) (S:Array Value) (c b:Int) (n:Nat):Array Value:=landV P S (driftV P S (oneX P c b) n)
noncomputable def subF (D:Array Value) (m:Int) (r:Array Value) (k:Nat):Array Value:=r.setIfInBounds (k*1) (.int .i64 (i64.wrap (num r (k*1) - i64.wrap (num D (k*1)*m))))
noncomputable def subV (C D:Array Value) (m:Int):Array Value:=folds (subF D m) C 36
noncomputable def impl_onLand_G:Cons:=(mkΓx [] [(80,impl_eachLand_nc)] [(107,impl_eachLand_1_ic)])
noncomputable def impl_onLand_t0 (a0 a1:Array Value):St:=(⟨.a (.g a0 36) :: .a (.g a1 108) :: .a (.w 0) :: .a (.w 1) :: .a (.w 2) :: .a (.w 3) :: .a (.u) :: .a (.g a0 36) :: .a (.c 107 [7])::us 8 ([]),[.row a0 36,.row a1 108,.row (zc prog 29) 29,.row (zc prog 29) 29,.no,.no,.no,.row a0 36,.no,.no,.no,.no],[]⟩:St)
noncomputable def impl_onLand_e0:Array Value→BS
 | r0_3=>([.row r0_3 29]:BS)
noncomputable def impl_onLand_x0:Empty→Exit×BS:=fun x=>nomatch x
noncomputable def impl_onLand_g0 (P:Program) (a0 a1:Array Value) (x0:Int):Array Value→Option (Stp (Array Value) Empty)
 | r0_3=>bif (decide (0≤x0)&&decide (x0<36)) then (bif (decide (0≤x0)&&decide (x0<36)) then (some (.more (r0_3.setIfInBounds ((x0).toNat*1) (.int .i64 (num a1 (3+((x0).toNat*1)))))))
   else (none))
  else (none)
theorem impl_onLand_s0 (N:Nat) (a0 a1:Array Value) (x0:Int):∀ t:Array Value,stepI prog impl_onLand_G N (cAt (codeOf Tryd.f92) [1,1,0,1,0,0]) (pAt (mkPlan (codeOf Tryd.f92) [([],[3])]).1 [1,1,0,1,0]) 12 [3] [9] [(6,9)] (impl_onLand_t0 a0 a1) [.i .i64 (x0)] (impl_onLand_e0 t)=mapS impl_onLand_e0 impl_onLand_x0 (impl_onLand_g0 prog a0 a1 x0 t):=by
 rintro r0_3
 refine Eq.trans (b:=(bif (decide (0≤x0)&&decide (x0<36)) then (bif (decide (0≤x0)&&decide (x0<36)) then (some (.more ([.row (r0_3.setIfInBounds ((x0).toNat*1) (.int .i64 (num a1 (3+((x0).toNat*1))))) 29]:BS)))
   else (none))
  else (none))) (by kernel_rfl) ?_
 simp only [impl_onLand_g0,mapS_cond,mapS_more,mapS_done,mapS_none,impl_onLand_e0,impl_onLand_x0]
noncomputable def impl_onLand_k0_n (P:Program) (N:Nat) (a0 a1:Array Value) (q0_3:Array Value):Option (SV×Eff×Bool):=some (.a (.g q0_3 29),.none,true)
theorem impl_onLand_k0_n_eq (N:Nat) (a0 a1:Array Value) (q0_3:Array Value):(kBlock 0 (kSeq (veC prog impl_onLand_G N (cAt (codeOf Tryd.f92) [1,1,1]) (pAt (mkPlan (codeOf Tryd.f92) [([],[3])]).1 [1,1,1]) (SV×Eff×Bool)) (finK prog [] [.cell 4 29]))) .normal (leftI [3] (impl_onLand_t0 a0 a1) ([.row q0_3 29]:BS))=impl_onLand_k0_n prog N a0 a1 q0_3:=by
 refine Eq.trans (b:=(some (.a (.g q0_3 29),.none,true))) (by kernel_rfl) ?_
 rfl
theorem impl_onLand_n0 (N:Nat) (a0 a1:Array Value):bindI (foldI (fun (x0:Int) (hb:BS)=>stepI prog impl_onLand_G N (cAt (codeOf Tryd.f92) [1,1,0,1,0,0]) (pAt (mkPlan (codeOf Tryd.f92) [([],[3])]).1 [1,1,0,1,0]) 12 [3] [9] [(6,9)] (impl_onLand_t0 a0 a1) [.i .i64 (x0)] hb) ((cellsL (num a0 0) (num a0 1) 36).filter (impl_isLand_v0 a0)) ([.row (zc prog 29) 29]:BS)) (fun hb=>(kBlock 0 (kSeq (veC prog impl_onLand_G N (cAt (codeOf Tryd.f92) [1,1,1]) (pAt (mkPlan (codeOf Tryd.f92) [([],[3])]).1 [1,1,1]) (SV×Eff×Bool)) (finK prog [] [.cell 4 29]))) .normal (leftI [3] (impl_onLand_t0 a0 a1) hb)) (fun e hb=>(kBlock 0 (kSeq (veC prog impl_onLand_G N (cAt (codeOf Tryd.f92) [1,1,1]) (pAt (mkPlan (codeOf Tryd.f92) [([],[3])]).1 [1,1,1]) (SV×Eff×Bool)) (finK prog [] [.cell 4 29]))) e (leftI [3] (impl_onLand_t0 a0 a1) hb))=nodeI (foldI (impl_onLand_g0 prog a0 a1) ((cellsL (num a0 0) (num a0 1) 36).filter (impl_isLand_v0 a0)) (zc prog 29)) (fun x=>impl_onLand_k0_n prog N a0 a1 x) (fun x:Empty=>nomatch x):=by
 refine iter_node impl_onLand_e0 impl_onLand_x0 _ _ (fun y t=>impl_onLand_s0 N a0 a1 y t) _ (zc prog 29) _ _ _ _ ?_ ?_
 ·intro x;exact impl_onLand_k0_n_eq N a0 a1 x
 ·intro x;exact nomatch x
theorem impl_onLand_ans (N:Nat) (a0 a1:Array Value):ansV prog impl_onLand_G N Tryd.f92 [([],[3])] [.g a0 36,.g a1 108] []=(bif (decide (0≤num a0 0)&&decide (num a0 0≤6)&&(decide (0≤num a0 1)&&decide (num a0 1≤6))) then (nodeI (foldI (impl_onLand_g0 prog a0 a1) ((cellsL (num a0 0) (num a0 1) 36).filter (impl_isLand_v0 a0)) (zc prog 29)) (fun x=>impl_onLand_k0_n prog N a0 a1 x) (fun x:Empty=>nomatch x))
  else (none)):=by
 refine Eq.trans (b:=(bif (decide (0≤num a0 0)&&decide (num a0 0≤6)&&(decide (0≤num a0 1)&&decide (num a0 1≤6))) then (bindI (foldI (fun (x0:Int) (hb:BS)=>stepI prog impl_onLand_G N (cAt (codeOf Tryd.f92) [1,1,0,1,0,0]) (pAt (mkPlan (codeOf Tryd.f92) [([],[3])]).1 [1,1,0,1,0]) 12 [3] [9] [(6,9)] (impl_onLand_t0 a0 a1) [.i .i64 (x0)] hb) ((cellsL (num a0 0) (num a0 1) 36).filter (impl_isLand_v0 a0)) ([.row (zc prog 29) 29]:BS)) (fun hb=>(kBlock 0 (kSeq (veC prog impl_onLand_G N (cAt (codeOf Tryd.f92) [1,1,1]) (pAt (mkPlan (codeOf Tryd.f92) [([],[3])]).1 [1,1,1]) (SV×Eff×Bool)) (finK prog [] [.cell 4 29]))) .normal (leftI [3] (impl_onLand_t0 a0 a1) hb)) (fun e hb=>(kBlock 0 (kSeq (veC prog impl_onLand_G N (cAt (codeOf Tryd.f92) [1,1,1]) (pAt (mkPlan (codeOf Tryd.f92) [([],[3])]).1 [1,1,1]) (SV×Eff×Bool)) (finK prog [] [.cell 4 29]))) e (leftI [3] (impl_onLand_t0 a0 a1) hb)))
  else (none))) (by kernel_rfl) ?_
 simp only [impl_onLand_n0 N a0 a1]
theorem impl_onLand_main (a0 a1:Array Value) (h_a0:WT prog 36 a0) (h_a1:WT prog 108 a1) (hg:(okS a0)=true):ansV prog impl_onLand_G 1000 Tryd.f92 [([],[3])] [.g a0 36,.g a1 108] []=some (.a (.g (landV prog a0 a1) 29),.none,true):=by
 refine (impl_onLand_ans 1000 a0 a1).trans ?_
 rw [okS_iter hg,cond_true]
 have h:=foldI_cells (X:=Empty) (g:=impl_onLand_g0 prog a0 a1) (q:=impl_isLand_v0 a0) (landF a1) (wd:=num a0 0) (hi:=num a0 1) (fun r k hk hi hq=>by
  have h1:decide ((k:Int)<36)=true:=decide_eq_true (by omega)
  have h0:decide (0≤(k:Int))=true:=decide_eq_true (by omega)
  simp only [impl_onLand_g0,h0,h1,Int.toNat_natCast,Bool.and_self,cond_true]
  rfl) (zc prog 29)
 rw [h]
 rfl
noncomputable def impl_onLand_con:Con:=fun args h=>match args,h with
 | [.g a0 36,.g a1 108],[]=>some (.a (.g (landV prog a0 a1) 29),.none,okS a0)
 | _,_=>none
theorem impl_onLand_enter:EntX prog 92:=entX_ok (fn:=Tryd.f92) (by kernel_rfl) (by kernel_rfl) (by kernel_rfl)
theorem impl_onLand_ok:ConOkX (md F) prog 92 impl_onLand_con:=(ansX_ok (N:=1000) (by kernel_rfl) (mkΓx_nX impl_eachLand_nok impl_eachLand_enter (mkΓx_iX impl_eachLand_1_iok impl_eachLand_1_enter mkΓx_nilX)) (fn:=Tryd.f92) (by kernel_rfl) (by kernel_rfl) [([],[3])]).of (by
 intro ρ h w args vals r e hA hH hr
 unfold impl_onLand_con at hr
 split at hr
 ·rename_i a0 a1
  obtain ⟨rfl,hg⟩:=Prod.mk.inj (Option.some.inj hr)
  obtain ⟨rfl,hg2⟩:=Prod.mk.inj hg
  exact impl_onLand_main a0 a1 (hA.wt 0 rfl) (hA.wt 1 rfl) hg2
 ·cases hr)
noncomputable def spec_l03By_G:Cons:=(mkΓ [(73,con spec_l03Behind_con),(83,con spec_l01Is_con),(85,con spec_l01Dry_con)])
noncomputable def spec_l03By_t0 (a1 a2 a3:Int) (a0:Array Value):St:=(⟨.a (.w 0) :: .a (.i .i64 (a1)) :: .a (.i .i64 (a2)) :: .a (.i .i64 (a3))::us 4 (.a (.w 1) :: .a (.w 7) :: .a (.w 10) :: .a (.i .i64 (0:Int)) :: .a (.w 0) :: .a (.i .i64 (a1)) :: .a (.i .i64 (a2)) :: .a (.i .i64 (a3)) :: .a (.g (driftV prog a0 (oneX prog a1 a2) a3.toNat) 108) :: .a (.g (zc prog 29) 29)::us 19 ([])),[.row a0 36,.row (zc prog 29) 29,.no,.no,.no,.no,.no,.row (driftV prog a0 (oneX prog a1 a2) a3.toNat) 108,.no,.no,.row (zc prog 29) 29,.no],[10,7]⟩:St)
noncomputable def spec_l03By_e0:Int×Array Value→LS
 | (y0_11,r0_10)=>([.a (.i .i64 (y0_11))],[.row r0_10 29])
noncomputable def spec_l03By_x0:Int×Array Value→Exit×LS
 | t=>((.exit 0),spec_l03By_e0 t)
noncomputable def spec_l03By_g0 (P : Program) (a1 a2 a3 : Int) (a0 : Array Value) : Int × Array Value → Option (Stp (Int × Array Value) (Int × Array Value))
 | (y0_11, r0_10) => bif decide (y0_11 < (36 : Int)) then (bif (spec_l01Is_v0 y0_11 a0) then (bif decide (0 ≤ (IntKind.u64.wrap y0_11)) then (bif (spec_l01Dry_v0 y0_11 a0) then (bif (decide (0 ≤ y0_11) && decide (y0_11 < 36)) then (bif (decide (0 ≤ y0_11) && decide (y0_11 < 36)) then (some (.more ((i64.wrap (y0_11 + (1 : Int))), (r0_10.setIfInBounds ((y0_11).toNat * 1) (.int .i64 (num (driftV prog a0 (oneX prog a1 a2) a3.toNat) (3 + ((y0_11).toNat * 1))))))))
       else (none))
      else (none))
     else (some (.more ((i64.wrap (y0_11 + (1 : Int))), r0_10))))
    else (none))
   else (some (.more ((i64.wrap (y0_11 + (1 : Int))), r0_10))))
  else (some (.done (y0_11, r0_10)))
theorem spec_l03By_s0 (N:Nat) (a1 a2 a3:Int) (a0:Array Value):∀ t:Int×Array Value,stepV prog spec_l03By_G N (cAt (codeOf Tryd.f57) [1,1,1,0,1,0,0]) (pAt (mkPlan (codeOf Tryd.f57) [([11],[10])]).1 [1,1,1,0,1,0]) [11] [10] (spec_l03By_t0 a1 a2 a3 a0) (spec_l03By_e0 t)=mapS spec_l03By_e0 spec_l03By_x0 (spec_l03By_g0 prog a1 a2 a3 a0 t):=by
 rintro ⟨y0_11,r0_10⟩
 refine Eq.trans (b:=(bif decide (y0_11<(36:Int)) then (bif (spec_l01Is_v0 y0_11 a0) then (bif decide (0≤(IntKind.u64.wrap y0_11)) then (bif (spec_l01Dry_v0 y0_11 a0) then (bif (decide (0≤y0_11)&&decide (y0_11<36)) then (bif (decide (0≤y0_11)&&decide (y0_11<36)) then (some (.more ([.a (.i .i64 (i64.wrap (y0_11+(1:Int))))],[.row (r0_10.setIfInBounds ((y0_11).toNat*1) (.int .i64 (num (driftV prog a0 (oneX prog a1 a2) a3.toNat) (3+((y0_11).toNat*1))))) 29])))
       else (none))
      else (none))
     else (some (.more ([.a (.i .i64 (i64.wrap (y0_11+(1:Int))))],[.row r0_10 29]))))
    else (none))
   else (some (.more ([.a (.i .i64 (i64.wrap (y0_11+(1:Int))))],[.row r0_10 29]))))
  else (some (.done ((.exit 0),([.a (.i .i64 (y0_11))],[.row r0_10 29])))))) (by kernel_rfl) ?_
 simp only [spec_l03By_g0,mapS_cond,mapS_more,mapS_done,mapS_none,spec_l03By_e0,spec_l03By_x0]
noncomputable def spec_l03By_k0_0 (P:Program) (N:Nat) (a1 a2 a3:Int) (a0:Array Value) (z0_11:Int) (q0_10:Array Value):Option (SV×Eff×Bool):=some (.a (.g q0_10 29),.none,true)
theorem spec_l03By_k0_0_eq (N:Nat) (a1 a2 a3:Int) (a0:Array Value) (z0_11:Int) (q0_10:Array Value):(kBlock 0 (kSeq (veC prog spec_l03By_G N (cAt (codeOf Tryd.f57) [1,1,1,1]) (pAt (mkPlan (codeOf Tryd.f57) [([11],[10])]).1 [1,1,1,1]) (SV×Eff×Bool)) (finK prog [.row a0 36] [.cell 8 29]))) (.exit 0) (left (writes (cAt (codeOf Tryd.f57) [1,1,1,0,1,0,0])) [11] [10] (spec_l03By_t0 a1 a2 a3 a0) ([.a (.i .i64 (z0_11))],[.row q0_10 29]))=spec_l03By_k0_0 prog N a1 a2 a3 a0 z0_11 q0_10:=by
 refine Eq.trans (b:=(some (.a (.g q0_10 29),.none,true))) (by kernel_rfl) ?_
 rfl
theorem spec_l03By_n0 (N:Nat) (a1 a2 a3:Int) (a0:Array Value):bindX (iterO (stepV prog spec_l03By_G N (cAt (codeOf Tryd.f57) [1,1,1,0,1,0,0]) (pAt (mkPlan (codeOf Tryd.f57) [([11],[10])]).1 [1,1,1,0,1,0]) [11] [10] (spec_l03By_t0 a1 a2 a3 a0)) N ([.a (.i .i64 (0:Int))],[.row (zc prog 29) 29])) (fun e s=>(kBlock 0 (kSeq (veC prog spec_l03By_G N (cAt (codeOf Tryd.f57) [1,1,1,1]) (pAt (mkPlan (codeOf Tryd.f57) [([11],[10])]).1 [1,1,1,1]) (SV×Eff×Bool)) (finK prog [.row a0 36] [.cell 8 29]))) e (left (writes (cAt (codeOf Tryd.f57) [1,1,1,0,1,0,0])) [11] [10] (spec_l03By_t0 a1 a2 a3 a0) s))=nodeX (iterO (spec_l03By_g0 prog a1 a2 a3 a0) N ((0:Int),(zc prog 29))) (fun x=>spec_l03By_k0_0 prog N a1 a2 a3 a0 x.1 x.2):=by
 refine loop_node spec_l03By_e0 spec_l03By_x0 _ _ (spec_l03By_s0 N a1 a2 a3 a0) N ((0:Int),(zc prog 29)) _ _ ?_
 intro x;exact spec_l03By_k0_0_eq N a1 a2 a3 a0 x.1 x.2
theorem spec_l03By_ans (N:Nat) (a1 a2 a3:Int) (a0:Array Value):ansV prog spec_l03By_G N Tryd.f57 [([11],[10])] [.w 0,.i .i64 (a1),.i .i64 (a2),.i .i64 (a3)] [.row a0 36]=(bif (okS a0&&((spec_l01Is_v0 a1 a0&&spec_l00In_v0 a2 0 1)&&spec_l00In_v0 a3 0 14)) then (nodeX (iterO (spec_l03By_g0 prog a1 a2 a3 a0) N ((0:Int),(zc prog 29))) (fun x=>spec_l03By_k0_0 prog N a1 a2 a3 a0 x.1 x.2))
  else (none)):=by
 refine Eq.trans (b:=(bif (okS a0&&((spec_l01Is_v0 a1 a0&&spec_l00In_v0 a2 0 1)&&spec_l00In_v0 a3 0 14)) then (bindX (iterO (stepV prog spec_l03By_G N (cAt (codeOf Tryd.f57) [1,1,1,0,1,0,0]) (pAt (mkPlan (codeOf Tryd.f57) [([11],[10])]).1 [1,1,1,0,1,0]) [11] [10] (spec_l03By_t0 a1 a2 a3 a0)) N ([.a (.i .i64 (0:Int))],[.row (zc prog 29) 29])) (fun e s=>(kBlock 0 (kSeq (veC prog spec_l03By_G N (cAt (codeOf Tryd.f57) [1,1,1,1]) (pAt (mkPlan (codeOf Tryd.f57) [([11],[10])]).1 [1,1,1,1]) (SV×Eff×Bool)) (finK prog [.row a0 36] [.cell 8 29]))) e (left (writes (cAt (codeOf Tryd.f57) [1,1,1,0,1,0,0])) [11] [10] (spec_l03By_t0 a1 a2 a3 a0) s)))
  else (none))) (by kernel_rfl) ?_
 simp only [spec_l03By_n0 N a1 a2 a3 a0]
theorem spec_l03By_main (a1 a2 a3:Int) (a0:Array Value) (h_a1:i64.min≤a1∧a1≤i64.max) (h_a2:i64.min≤a2∧a2≤i64.max) (h_a3:i64.min≤a3∧a3≤i64.max) (h_a0:WT prog 36 a0) (hg:((okS a0&&((spec_l01Is_v0 a1 a0&&spec_l00In_v0 a2 0 1)&&spec_l00In_v0 a3 0 14)))=true):ansV prog spec_l03By_G 1000 Tryd.f57 [([11],[10])] [.w 0,.i .i64 (a1),.i .i64 (a2),.i .i64 (a3)] [.row a0 36]=some (.a (.g (byV prog a0 a1 a2 a3.toNat) 29),.none,true):=by
 refine (spec_l03By_ans 1000 a1 a2 a3 a0).trans ?_
 rw [hg,cond_true]
 have h:=iter_folds (g:=spec_l03By_g0 prog a1 a2 a3 a0) (fun r k=>((k:Int),r)) (fun r k=>if inC (num a0 0) (num a0 1) k&&impl_isLand_v0 a0 (k:Int) then landF (driftV prog a0 (oneX prog a1 a2) a3.toNat) r k else r) (m:=36) (t:=zc prog 29) (x:=((36:Int),byV prog a0 a1 a2 a3.toNat)) (N:=1000) (fun k s hk _=>by
  have h1:decide ((k:Int)<36)=true:=decide_eq_true (by omega)
  have h0:decide (0≤(k:Int))=true:=decide_eq_true (by omega)
  have h3:i64.wrap ((k:Int)+1)=((k+1:Nat):Int):=by rw [w64 (by omega)];omega
  rw [land_dry h_a0 hk]
  simp only [spec_l03By_g0,h1,h0,h3,is_inC h_a0 hk,dry_free,Int.toNat_natCast,Bool.and_self,cond_true]
  cases inC (num a0 0) (num a0 1) k with
  | false=>rfl
  | true=>cases spec_l01Dry_v0 (k:Int) a0<;>rfl) (by
  have h1:decide (((36:Nat):Int)<36)=false:=by decide
  simp only [spec_l03By_g0,h1,cond_false]
  rfl) (by omega)
 have h':iterO (spec_l03By_g0 prog a1 a2 a3 a0) 1000 ((0:Int),(zc prog 29))=some ((36:Int),byV prog a0 a1 a2 a3.toNat):=h
 rw [h']
 rfl
noncomputable def spec_l03By_con:Con:=fun args h=>match args,h with
 | [.w 0,.i .i64 a1,.i .i64 a2,.i .i64 a3],[.row a0 36]=>some (.a (.g (byV prog a0 a1 a2 a3.toNat) 29),.none,(okS a0&&((spec_l01Is_v0 a1 a0&&spec_l00In_v0 a2 0 1)&&spec_l00In_v0 a3 0 14)))
 | _,_=>none
theorem spec_l03By_enter:EntX prog 57:=entX_ok (fn:=Tryd.f57) (by kernel_rfl) (by kernel_rfl) (by kernel_rfl)
theorem spec_l03By_ok:ConOkX (md F) prog 57 spec_l03By_con:=(ansX_ok (N:=1000) (by kernel_rfl) (mkΓ_consX (con_okX spec_l03Behind_ok) spec_l03Behind_enter (mkΓ_consX (con_okX spec_l01Is_ok) spec_l01Is_enter (mkΓ_consX (con_okX spec_l01Dry_ok) spec_l01Dry_enter mkΓ_nilX))) (fn:=Tryd.f57) (by kernel_rfl) (by kernel_rfl) [([11],[10])]).of (by
 intro ρ h w args vals r e hA hH hr
 unfold spec_l03By_con at hr
 split at hr
 ·rename_i a1 a2 a3 a0
  obtain ⟨rfl,hg⟩:=Prod.mk.inj (Option.some.inj hr)
  obtain ⟨rfl,hg2⟩:=Prod.mk.inj hg
  exact spec_l03By_main a1 a2 a3 a0 (hA.rng 1 rfl) (hA.rng 2 rfl) (hA.rng 3 rfl) (hH.wt 0 rfl) hg2
 ·cases hr)
theorem row_zero:(zc prog 29).size=36:=by kernel_rfl
theorem bytes_row:bytesOf prog 29=288:=by kernel_rfl
theorem one_row (P:Program) (T:TypeId) {r:Array Value} (h:r.size=(zc P T).size):spl (repC (zc P T) 1) 0 r.toList=r:=by
 have e:repC (zc P T) 1=zc P T:=by unfold repC repL repL;simp
 rw [e];exact spl_all h
theorem landV_size (S X:Array Value):(landV prog S X).size=36:=by
 unfold landV
 refine folds_inv (fun _ (r:Array Value)=>r.size=36) row_zero (fun k s _ hs=> ?_) 36 (Nat.le_refl _)
 unfold landF
 split
 ·rw [Array.size_setIfInBounds];exact hs
 ·exact hs
theorem byV_size (S:Array Value) (c b:Int) (n:Nat):(byV prog S c b n).size=36:=landV_size _ _
theorem oneX_wt {c b:Int} (hc:0≤c∧c≤35):WT prog 108 (oneX prog c b):=by
 have o1:i64.min≤(1:Int)∧(1:Int)≤i64.max:=by
  have e1:i64.min = -9223372036854775808:=rfl
  have e2:i64.max=9223372036854775807:=rfl
  omega
 unfold oneX
 exact wt_setK (k:=.i64) (wt_setK (k:=.i64) (wt_setK (k:=.i8) (WT.zero (by kernel_rfl)) lay_01.1 (wrap_in .i8 _)) (lay_at (by omega) (by omega)) o1) (lay_at (by omega) (by omega)) o1
theorem one_low {S:Array Value} {c b:Int} (hc:spec_l01Is_v0 c S=true) (hb:spec_l00In_v0 b 0 1=true):(0≤num (oneX prog c b) 0∧num (oneX prog c b) 0<2)∧(0≤num (oneX prog c b) 1∧num (oneX prog c b) 1≤14):=by
 have h1:=in_range hb
 obtain ⟨n0,n1,_,_⟩:=oneX_num (c:=c) (b:=b) h1 (is_range hc)
 rw [n0,n1]
 omega
theorem one_zero {S:Array Value} (hS:WT prog 36 S) {c b:Int} (hc:spec_l01Is_v0 c S=true) (hb:spec_l00In_v0 b 0 1=true):ZO S (oneX prog c b):=by
 intro k hk hf
 have hr:=is_range hc
 rw [(oneX_num (c:=c) (b:=b) (in_range hb) hr).2.2.2 k hk,if_neg]
 intro e
 have hkc:(k:Int)=c:=by omega
 rw [← hkc,is_inC hS hk,hf] at hc
 cases hc
theorem one_go {S:Array Value} (hS:WT prog 36 S) (hok:okS S=true) {c b:Int} (hc:spec_l01Is_v0 c S=true) (hb:spec_l00In_v0 b 0 1=true) {j:Nat} (hj:j≤14):goG S (driftV prog S (oneX prog c b) j)=true:=by
 obtain ⟨l0,l1⟩:=one_low hc hb
 have hl:=drift_low (S:=S) l0 l1 j hj
 have n1:=(oneX_num (c:=c) (b:=b) (in_range hb) (is_range hc)).2.1
 exact goG_iff.2 ⟨hok,by rw [hl.1];exact l0,by rw [hl.2,n1];omega,drift_zero (oneX_wt (is_range hc)) hok hS (one_zero hS hc hb) j⟩
noncomputable def recC (P:Program) (S:Array Value) (c b:Int):Nat→Array Value
 | 0=>byV P S c b 0
 | n+1=>recC P S c b n++byV P S c b (n+1)
theorem recC_size (S:Array Value) (c b:Int):∀ n,(recC prog S c b n).size=(n+1)*36
 | 0=>byV_size _ _ _ _
 | n+1=>by rw [recC,Array.size_append,recC_size S c b n,byV_size];omega
theorem recC_at (S:Array Value) (c b:Int):∀ (n j:Nat),j≤n→(recC prog S c b n).extract (j*36) (j*36+36)=byV prog S c b j
 | 0,j,hj=>by
  obtain rfl:j=0:=by omega
  rw [recC];exact extract_all (byV_size _ _ _ _)
 | n+1,j,hj=>by
  have hz:=recC_size S c b n
  by_cases h:j≤n
  ·rw [← recC_at S c b n j h,recC]
   refine Array.ext_getElem? fun i=> ?_
   rw [Array.getElem?_extract,Array.getElem?_extract,Array.size_append,hz,byV_size]
   by_cases hi:i<min (j*36+36) ((n+1)*36) - j*36
   ·rw [if_pos (by omega),if_pos hi,Array.getElem?_append,if_pos (by omega)]
   ·rw [if_neg (by omega),if_neg hi]
  ·obtain rfl:j=n+1:=by omega
   rw [recC]
   refine Array.ext_getElem? fun i=> ?_
   rw [Array.getElem?_extract,Array.size_append,hz,byV_size]
   by_cases hi:i<36
   ·rw [if_pos (by omega),Array.getElem?_append,if_neg (by omega),hz,show (n+1)*36+i - (n+1)*36=i by omega]
   ·rw [if_neg (by omega),Array.getElem?_eq_none (by rw [byV_size];omega)]
theorem num_sub1 (a:Int) (h:1≤a∧a≤14):i64.wrap (a - 1)=a - 1∧(i64.wrap (a - 1)).toNat=a.toNat - 1:=by
 rw [w64 (by omega)];omega
noncomputable def spec_l03In_t0 (a1 a2 a3:Int) (a0:Array Value):St:=(⟨.a (.w 0) :: .a (.i .i64 (a1)) :: .a (.i .i64 (a2)) :: .a (.i .i64 (a3))::us 4 (.a (.w 1) :: .a (.w 7) :: .a (.w 15) :: .a (.i .i64 (0:Int)) :: .a (.w 0) :: .a (.i .i64 (a1)) :: .a (.i .i64 (a2)) :: .a (.i .i64 (a3)) :: .a (.g (byV prog a0 a1 a2 a3.toNat) 29) :: .a (.w 0) :: .a (.i .i64 (a1)) :: .a (.i .i64 (a2)) :: .a (.i .i64 (a3)) :: .a (.i .i64 (i64.wrap (a3 - (1:Int)))) :: .a (.g (byV prog a0 a1 a2 (i64.wrap (a3 - (1:Int))).toNat) 29)::us 14 ([])),[.row a0 36,.row (zc prog 29) 29,.no,.no,.no,.no,.no,.row (byV prog a0 a1 a2 a3.toNat) 29,.no,.no,.no,.no,.no,.no,.no,.row (byV prog a0 a1 a2 (i64.wrap (a3 - (1:Int))).toNat) 29,.no],[15,7]⟩:St)
noncomputable def spec_l03In_e0:Int×Array Value→LS
 | (y0_11,r0_7)=>([.a (.i .i64 (y0_11))],[.row r0_7 29])
noncomputable def spec_l03In_x0:Int×Array Value→Exit×LS
 | t=>((.exit 0),spec_l03In_e0 t)
noncomputable def spec_l03In_g0 (P : Program) (a1 a2 a3 : Int) (a0 : Array Value) : Int × Array Value → Option (Stp (Int × Array Value) (Int × Array Value))
 | (y0_11, r0_7) => bif decide (y0_11 < (36 : Int)) then (bif (decide (0 ≤ y0_11) && decide (y0_11 < 36)) then (bif (decide (0 ≤ y0_11) && decide (y0_11 < 36)) then (bif (decide (0 ≤ y0_11) && decide (y0_11 < 36)) then (some (.more ((i64.wrap (y0_11 + (1 : Int))), (r0_7.setIfInBounds ((y0_11).toNat * 1) (.int .i64 (i64.wrap ((num r0_7 ((y0_11).toNat * 1)) - (i64.wrap ((12 : Int) * (num (byV prog a0 a1 a2 (i64.wrap (a3 - (1 : Int))).toNat) ((y0_11).toNat * 1)))))))))))
     else (none))
    else (none))
   else (none))
  else (some (.done (y0_11, r0_7)))
theorem spec_l03In_s0 (N:Nat) (a1 a2 a3:Int) (a0:Array Value):∀ t:Int×Array Value,stepV prog (mkΓ [(57,con spec_l03By_con)]) N (cAt (codeOf Tryd.f50) [1,1,1,0,1,0,0]) (pAt (mkPlan (codeOf Tryd.f50) [([11],[7])]).1 [1,1,1,0,1,0]) [11] [7] (spec_l03In_t0 a1 a2 a3 a0) (spec_l03In_e0 t)=mapS spec_l03In_e0 spec_l03In_x0 (spec_l03In_g0 prog a1 a2 a3 a0 t):=by
 rintro ⟨y0_11,r0_7⟩
 refine Eq.trans (b:=(bif decide (y0_11<(36:Int)) then (bif (decide (0≤y0_11)&&decide (y0_11<36)) then (bif (decide (0≤y0_11)&&decide (y0_11<36)) then (bif (decide (0≤y0_11)&&decide (y0_11<36)) then (some (.more ([.a (.i .i64 (i64.wrap (y0_11+(1:Int))))],[.row (r0_7.setIfInBounds ((y0_11).toNat*1) (.int .i64 (i64.wrap ((num r0_7 ((y0_11).toNat*1)) - (i64.wrap ((12:Int)*(num (byV prog a0 a1 a2 (i64.wrap (a3 - (1:Int))).toNat) ((y0_11).toNat*1)))))))) 29])))
     else (none))
    else (none))
   else (none))
  else (some (.done ((.exit 0),([.a (.i .i64 (y0_11))],[.row r0_7 29])))))) (by kernel_rfl) ?_
 simp only [spec_l03In_g0,mapS_cond,mapS_more,mapS_done,mapS_none,spec_l03In_e0,spec_l03In_x0]
noncomputable def spec_l03In_k0_0 (P:Program) (N:Nat) (a1 a2 a3:Int) (a0:Array Value) (z0_11:Int) (q0_7:Array Value):Option (SV×Eff×Bool):=some (.a (.g q0_7 29),.none,true)
theorem spec_l03In_k0_0_eq (N:Nat) (a1 a2 a3:Int) (a0:Array Value) (z0_11:Int) (q0_7:Array Value):(kBlock 0 (kSeq (veC prog (mkΓ [(57,con spec_l03By_con)]) N (cAt (codeOf Tryd.f50) [1,1,1,1]) (pAt (mkPlan (codeOf Tryd.f50) [([11],[7])]).1 [1,1,1,1]) (SV×Eff×Bool)) (finK prog [.row a0 36] [.cell 8 29]))) (.exit 0) (left (writes (cAt (codeOf Tryd.f50) [1,1,1,0,1,0,0])) [11] [7] (spec_l03In_t0 a1 a2 a3 a0) ([.a (.i .i64 (z0_11))],[.row q0_7 29]))=spec_l03In_k0_0 prog N a1 a2 a3 a0 z0_11 q0_7:=by
 refine Eq.trans (b:=(some (.a (.g q0_7 29),.none,true))) (by kernel_rfl) ?_
 rfl
theorem spec_l03In_n0 (N:Nat) (a1 a2 a3:Int) (a0:Array Value):bindX (iterO (stepV prog (mkΓ [(57,con spec_l03By_con)]) N (cAt (codeOf Tryd.f50) [1,1,1,0,1,0,0]) (pAt (mkPlan (codeOf Tryd.f50) [([11],[7])]).1 [1,1,1,0,1,0]) [11] [7] (spec_l03In_t0 a1 a2 a3 a0)) N ([.a (.i .i64 (0:Int))],[.row (byV prog a0 a1 a2 a3.toNat) 29])) (fun e s=>(kBlock 0 (kSeq (veC prog (mkΓ [(57,con spec_l03By_con)]) N (cAt (codeOf Tryd.f50) [1,1,1,1]) (pAt (mkPlan (codeOf Tryd.f50) [([11],[7])]).1 [1,1,1,1]) (SV×Eff×Bool)) (finK prog [.row a0 36] [.cell 8 29]))) e (left (writes (cAt (codeOf Tryd.f50) [1,1,1,0,1,0,0])) [11] [7] (spec_l03In_t0 a1 a2 a3 a0) s))=nodeX (iterO (spec_l03In_g0 prog a1 a2 a3 a0) N ((0:Int),(byV prog a0 a1 a2 a3.toNat))) (fun x=>spec_l03In_k0_0 prog N a1 a2 a3 a0 x.1 x.2):=by
 refine loop_node spec_l03In_e0 spec_l03In_x0 _ _ (spec_l03In_s0 N a1 a2 a3 a0) N ((0:Int),(byV prog a0 a1 a2 a3.toNat)) _ _ ?_
 intro x;exact spec_l03In_k0_0_eq N a1 a2 a3 a0 x.1 x.2
theorem spec_l03In_ans (N:Nat) (a1 a2 a3:Int) (a0:Array Value):ansV prog (mkΓ [(57,con spec_l03By_con)]) N Tryd.f50 [([11],[7])] [.w 0,.i .i64 (a1),.i .i64 (a2),.i .i64 (a3)] [.row a0 36]=(bif (okS a0&&((spec_l01Is_v0 a1 a0&&spec_l00In_v0 a2 0 1)&&spec_l00In_v0 a3 0 14)) then (bif (okS a0&&((spec_l01Is_v0 a1 a0&&spec_l00In_v0 a2 0 1)&&spec_l00In_v0 (i64.wrap (a3 - (1:Int))) 0 14)) then (nodeX (iterO (spec_l03In_g0 prog a1 a2 a3 a0) N ((0:Int),(byV prog a0 a1 a2 a3.toNat))) (fun x=>spec_l03In_k0_0 prog N a1 a2 a3 a0 x.1 x.2))
   else (none))
  else (none)):=by
 refine Eq.trans (b:=(bif (okS a0&&((spec_l01Is_v0 a1 a0&&spec_l00In_v0 a2 0 1)&&spec_l00In_v0 a3 0 14)) then (bif (okS a0&&((spec_l01Is_v0 a1 a0&&spec_l00In_v0 a2 0 1)&&spec_l00In_v0 (i64.wrap (a3 - (1:Int))) 0 14)) then (bindX (iterO (stepV prog (mkΓ [(57,con spec_l03By_con)]) N (cAt (codeOf Tryd.f50) [1,1,1,0,1,0,0]) (pAt (mkPlan (codeOf Tryd.f50) [([11],[7])]).1 [1,1,1,0,1,0]) [11] [7] (spec_l03In_t0 a1 a2 a3 a0)) N ([.a (.i .i64 (0:Int))],[.row (byV prog a0 a1 a2 a3.toNat) 29])) (fun e s=>(kBlock 0 (kSeq (veC prog (mkΓ [(57,con spec_l03By_con)]) N (cAt (codeOf Tryd.f50) [1,1,1,1]) (pAt (mkPlan (codeOf Tryd.f50) [([11],[7])]).1 [1,1,1,1]) (SV×Eff×Bool)) (finK prog [.row a0 36] [.cell 8 29]))) e (left (writes (cAt (codeOf Tryd.f50) [1,1,1,0,1,0,0])) [11] [7] (spec_l03In_t0 a1 a2 a3 a0) s)))
   else (none))
  else (none))) (by kernel_rfl) ?_
 simp only [spec_l03In_n0 N a1 a2 a3 a0]
theorem spec_l03In_main (a1 a2 a3:Int) (a0:Array Value) (h_a1:i64.min≤a1∧a1≤i64.max) (h_a2:i64.min≤a2∧a2≤i64.max) (h_a3:i64.min≤a3∧a3≤i64.max) (h_a0:WT prog 36 a0) (hg:((okS a0&&((spec_l01Is_v0 a1 a0&&spec_l00In_v0 a2 0 1)&&spec_l00In_v0 a3 1 14)))=true):ansV prog (mkΓ [(57,con spec_l03By_con)]) 1000 Tryd.f50 [([11],[7])] [.w 0,.i .i64 (a1),.i .i64 (a2),.i .i64 (a3)] [.row a0 36]=some (.a (.g (subV (byV prog a0 a1 a2 a3.toNat) (byV prog a0 a1 a2 (a3.toNat - 1)) 12) 29),.none,true):=by
 simp only [Bool.and_eq_true] at hg
 obtain ⟨q0,⟨q1,q2⟩,q3⟩:=hg
 have r3:=in_range q3
 obtain ⟨e1,e2⟩:=num_sub1 a3 r3
 refine (spec_l03In_ans 1000 a1 a2 a3 a0).trans ?_
 rw [q0,q1,q2,in_of (x:=a3) (a:=0) (b:=14) (by omega),in_of (x:=i64.wrap (a3 - 1)) (a:=0) (b:=14) (by omega)]
 simp only [Bool.and_self,cond_true]
 have h:=iter_folds (g:=spec_l03In_g0 prog a1 a2 a3 a0) (fun r k=>((k:Int),r)) (subF (byV prog a0 a1 a2 (a3.toNat - 1)) 12) (m:=36) (t:=byV prog a0 a1 a2 a3.toNat) (x:=((36:Int),subV (byV prog a0 a1 a2 a3.toNat) (byV prog a0 a1 a2 (a3.toNat - 1)) 12)) (N:=1000) (fun k s hk _=>by
  have h1:decide ((k:Int)<36)=true:=decide_eq_true (by omega)
  have h0:decide (0≤(k:Int))=true:=decide_eq_true (by omega)
  have h3:i64.wrap ((k:Int)+1)=((k+1:Nat):Int):=by rw [w64 (by omega)];omega
  simp only [spec_l03In_g0,h1,h0,h3,e2,Int.toNat_natCast,Bool.and_self,cond_true]
  unfold subF
  rw [Int.mul_comm (12:Int)]) (by
  have h1:decide (((36:Nat):Int)<36)=false:=by decide
  simp only [spec_l03In_g0,h1,cond_false]
  rfl) (by omega)
 have hq:∀ q,iterO (spec_l03In_g0 prog a1 a2 a3 a0) 1000 ((0:Int),byV prog a0 a1 a2 a3.toNat)=some ((36:Int),q)→nodeX (iterO (spec_l03In_g0 prog a1 a2 a3 a0) 1000 ((0:Int),byV prog a0 a1 a2 a3.toNat)) (fun x=>spec_l03In_k0_0 prog 1000 a1 a2 a3 a0 x.1 x.2)=some (.a (.g q 29),.none,true):=fun q e=>by rw [e];rfl
 exact hq _ h
noncomputable def spec_l03In_con:Con:=fun args h=>match args,h with
 | [.w 0,.i .i64 a1,.i .i64 a2,.i .i64 a3],[.row a0 36]=>some (.a (.g (subV (byV prog a0 a1 a2 a3.toNat) (byV prog a0 a1 a2 (a3.toNat - 1)) 12) 29),.none,(okS a0&&((spec_l01Is_v0 a1 a0&&spec_l00In_v0 a2 0 1)&&spec_l00In_v0 a3 1 14)))
 | _,_=>none
theorem spec_l03In_enter:EntX prog 50:=entX_ok (fn:=Tryd.f50) (by kernel_rfl) (by kernel_rfl) (by kernel_rfl)
theorem spec_l03In_ok:ConOkX (md F) prog 50 spec_l03In_con:=(ansX_ok (N:=1000) (by kernel_rfl) (mkΓ_consX (con_okX spec_l03By_ok) spec_l03By_enter mkΓ_nilX) (fn:=Tryd.f50) (by kernel_rfl) (by kernel_rfl) [([11],[7])]).of (by
 intro ρ h w args vals r e hA hH hr
 unfold spec_l03In_con at hr
 split at hr
 ·rename_i a1 a2 a3 a0
  obtain ⟨rfl,hg⟩:=Prod.mk.inj (Option.some.inj hr)
  obtain ⟨rfl,hg2⟩:=Prod.mk.inj hg
  exact spec_l03In_main a1 a2 a3 a0 (hA.rng 1 rfl) (hA.rng 2 rfl) (hA.rng 3 rfl) (hH.wt 0 rfl) hg2
 ·cases hr)
noncomputable def impl_record_since_t0 (a1 a2:Int) (b_a0:Option (Option Addr)) (n_a0:Nat) (a0:Array Value):St:=(⟨.a (.l 0) :: .a (.i .i64 (a1)) :: .a (.i .i64 (a2))::us 3 (.a (.w 1) :: .a (.w 6) :: .a (.u) :: .a (.u) :: .a (.l 0) :: .a (.i .i64 (a2)) :: .a (.q 0 (((a2).toNat*36)) 29) :: .a (.g (a0.extract ((a2).toNat*36) (((a2).toNat*36)+36)) 29) :: .a (.l 0) :: .a (.i .i64 (a1)) :: .a (.q 0 (((a1).toNat*36)) 29) :: .a (.g (a0.extract ((a1).toNat*36) (((a1).toNat*36)+36)) 29) :: .a (.i .i64 (0:Int))::us 16 ([])),[.sl (.came b_a0) n_a0 a0 29,.row (zc prog 29) 29,.no,.no,.no,.no,.row (a0.extract ((a2).toNat*36) (((a2).toNat*36)+36)) 29,.no],[6]⟩:St)
noncomputable def impl_record_since_e0:Int×Array Value→LS
 | (y0_18,r0_6)=>([.a (.i .i64 (y0_18))],[.row r0_6 29])
noncomputable def impl_record_since_x0:Int×Array Value→Exit×LS
 | t=>((.exit 0),impl_record_since_e0 t)
noncomputable def impl_record_since_g0 (P : Program) (a1 a2 : Int) (b_a0 : Option (Option Addr)) (n_a0 : Nat) (a0 : Array Value) : Int × Array Value → Option (Stp (Int × Array Value) (Int × Array Value))
 | (y0_18, r0_6) => bif decide (y0_18 < (36 : Int)) then (bif (decide (0 ≤ y0_18) && decide (y0_18 < 36)) then (bif (decide (0 ≤ y0_18) && decide (y0_18 < 36)) then (bif (decide (0 ≤ (i64.wrap (a2 - a1))) && decide ((i64.wrap (a2 - a1)) ≤ 14)) then (bif (decide (0 ≤ y0_18) && decide (y0_18 < 36)) then (some (.more ((i64.wrap (y0_18 + (1 : Int))), (r0_6.setIfInBounds ((y0_18).toNat * 1) (.int .i64 (i64.wrap ((num r0_6 ((y0_18).toNat * 1)) - (i64.wrap ((num (a0.extract ((a1).toNat * 36) (((a1).toNat * 36) + 36)) ((y0_18).toNat * 1)) * (12 ^ (i64.wrap (a2 - a1)).toNat))))))))))
      else (none))
     else (none))
    else (none))
   else (none))
  else (some (.done (y0_18, r0_6)))
theorem impl_record_since_s0 (N:Nat) (a1 a2:Int) (b_a0:Option (Option Addr)) (n_a0:Nat) (a0:Array Value):∀ t:Int×Array Value,stepV prog (mkΓ [(81,con impl_partsAfter_con)]) N (cAt (codeOf Tryd.f56) [1,1,0,1,0,0]) (pAt (mkPlan (codeOf Tryd.f56) [([18],[6])]).1 [1,1,0,1,0]) [18] [6] (impl_record_since_t0 a1 a2 b_a0 n_a0 a0) (impl_record_since_e0 t)=mapS impl_record_since_e0 impl_record_since_x0 (impl_record_since_g0 prog a1 a2 b_a0 n_a0 a0 t):=by
 rintro ⟨y0_18,r0_6⟩
 refine Eq.trans (b:=(bif decide (y0_18<(36:Int)) then (bif (decide (0≤y0_18)&&decide (y0_18<36)) then (bif (decide (0≤y0_18)&&decide (y0_18<36)) then (bif (decide (0≤(i64.wrap (a2 - a1)))&&decide ((i64.wrap (a2 - a1))≤14)) then (bif (decide (0≤y0_18)&&decide (y0_18<36)) then (some (.more ([.a (.i .i64 (i64.wrap (y0_18+(1:Int))))],[.row (r0_6.setIfInBounds ((y0_18).toNat*1) (.int .i64 (i64.wrap ((num r0_6 ((y0_18).toNat*1)) - (i64.wrap ((num (a0.extract ((a1).toNat*36) (((a1).toNat*36)+36)) ((y0_18).toNat*1))*(12^(i64.wrap (a2 - a1)).toNat))))))) 29])))
      else (none))
     else (none))
    else (none))
   else (none))
  else (some (.done ((.exit 0),([.a (.i .i64 (y0_18))],[.row r0_6 29])))))) (by kernel_rfl) ?_
 simp only [impl_record_since_g0,mapS_cond,mapS_more,mapS_done,mapS_none,impl_record_since_e0,impl_record_since_x0]
noncomputable def impl_record_since_k0_0 (P:Program) (N:Nat) (a1 a2:Int) (b_a0:Option (Option Addr)) (n_a0:Nat) (a0:Array Value) (z0_18:Int) (q0_6:Array Value):Option (SV×Eff×Bool):=some (.a (.g q0_6 29),.none,true)
theorem impl_record_since_k0_0_eq (N:Nat) (a1 a2:Int) (b_a0:Option (Option Addr)) (n_a0:Nat) (a0:Array Value) (z0_18:Int) (q0_6:Array Value):(kBlock 0 (kSeq (veC prog (mkΓ [(81,con impl_partsAfter_con)]) N (cAt (codeOf Tryd.f56) [1,1,1]) (pAt (mkPlan (codeOf Tryd.f56) [([18],[6])]).1 [1,1,1]) (SV×Eff×Bool)) (finK prog [.sl (.came b_a0) n_a0 a0 29] [.cell 6 29]))) (.exit 0) (left (writes (cAt (codeOf Tryd.f56) [1,1,0,1,0,0])) [18] [6] (impl_record_since_t0 a1 a2 b_a0 n_a0 a0) ([.a (.i .i64 (z0_18))],[.row q0_6 29]))=impl_record_since_k0_0 prog N a1 a2 b_a0 n_a0 a0 z0_18 q0_6:=by
 refine Eq.trans (b:=(some (.a (.g q0_6 29),.none,true))) (by kernel_rfl) ?_
 rfl
theorem impl_record_since_n0 (N:Nat) (a1 a2:Int) (b_a0:Option (Option Addr)) (n_a0:Nat) (a0:Array Value):bindX (iterO (stepV prog (mkΓ [(81,con impl_partsAfter_con)]) N (cAt (codeOf Tryd.f56) [1,1,0,1,0,0]) (pAt (mkPlan (codeOf Tryd.f56) [([18],[6])]).1 [1,1,0,1,0]) [18] [6] (impl_record_since_t0 a1 a2 b_a0 n_a0 a0)) N ([.a (.i .i64 (0:Int))],[.row (a0.extract ((a2).toNat*36) (((a2).toNat*36)+36)) 29])) (fun e s=>(kBlock 0 (kSeq (veC prog (mkΓ [(81,con impl_partsAfter_con)]) N (cAt (codeOf Tryd.f56) [1,1,1]) (pAt (mkPlan (codeOf Tryd.f56) [([18],[6])]).1 [1,1,1]) (SV×Eff×Bool)) (finK prog [.sl (.came b_a0) n_a0 a0 29] [.cell 6 29]))) e (left (writes (cAt (codeOf Tryd.f56) [1,1,0,1,0,0])) [18] [6] (impl_record_since_t0 a1 a2 b_a0 n_a0 a0) s))=nodeX (iterO (impl_record_since_g0 prog a1 a2 b_a0 n_a0 a0) N ((0:Int),(a0.extract ((a2).toNat*36) (((a2).toNat*36)+36)))) (fun x=>impl_record_since_k0_0 prog N a1 a2 b_a0 n_a0 a0 x.1 x.2):=by
 refine loop_node impl_record_since_e0 impl_record_since_x0 _ _ (impl_record_since_s0 N a1 a2 b_a0 n_a0 a0) N ((0:Int),(a0.extract ((a2).toNat*36) (((a2).toNat*36)+36))) _ _ ?_
 intro x;exact impl_record_since_k0_0_eq N a1 a2 b_a0 n_a0 a0 x.1 x.2
theorem impl_record_since_ans (N:Nat) (a1 a2:Int) (b_a0:Option (Option Addr)) (n_a0:Nat) (a0:Array Value):ansV prog (mkΓ [(81,con impl_partsAfter_con)]) N Tryd.f56 [([18],[6])] [.l 0,.i .i64 (a1),.i .i64 (a2)] [.sl (.came b_a0) n_a0 a0 29]=(bif (decide (0≤a2)&&decide (a2<(n_a0:Int))) then (bif (decide (0≤a1)&&decide (a1<(n_a0:Int))) then (nodeX (iterO (impl_record_since_g0 prog a1 a2 b_a0 n_a0 a0) N ((0:Int),(a0.extract ((a2).toNat*36) (((a2).toNat*36)+36)))) (fun x=>impl_record_since_k0_0 prog N a1 a2 b_a0 n_a0 a0 x.1 x.2))
   else (none))
  else (none)):=by
 refine Eq.trans (b:=(bif (decide (0≤a2)&&decide (a2<(n_a0:Int))) then (bif (decide (0≤a1)&&decide (a1<(n_a0:Int))) then (bindX (iterO (stepV prog (mkΓ [(81,con impl_partsAfter_con)]) N (cAt (codeOf Tryd.f56) [1,1,0,1,0,0]) (pAt (mkPlan (codeOf Tryd.f56) [([18],[6])]).1 [1,1,0,1,0]) [18] [6] (impl_record_since_t0 a1 a2 b_a0 n_a0 a0)) N ([.a (.i .i64 (0:Int))],[.row (a0.extract ((a2).toNat*36) (((a2).toNat*36)+36)) 29])) (fun e s=>(kBlock 0 (kSeq (veC prog (mkΓ [(81,con impl_partsAfter_con)]) N (cAt (codeOf Tryd.f56) [1,1,1]) (pAt (mkPlan (codeOf Tryd.f56) [([18],[6])]).1 [1,1,1]) (SV×Eff×Bool)) (finK prog [.sl (.came b_a0) n_a0 a0 29] [.cell 6 29]))) e (left (writes (cAt (codeOf Tryd.f56) [1,1,0,1,0,0])) [18] [6] (impl_record_since_t0 a1 a2 b_a0 n_a0 a0) s)))
   else (none))
  else (none))) (by kernel_rfl) ?_
 simp only [impl_record_since_n0 N a1 a2 b_a0 n_a0 a0]
theorem impl_record_since_main (a1 a2:Int) (b_a0:Option (Option Addr)) (n_a0:Nat) (a0:Array Value) (h_a1:i64.min≤a1∧a1≤i64.max) (h_a2:i64.min≤a2∧a2≤i64.max) (h_a0:a0.size=n_a0*(lay prog 29).length∧(∀ k,k<n_a0→WT prog 29 (a0.extract (k*(lay prog 29).length) (k*(lay prog 29).length+(lay prog 29).length)))∧n_a0≤9223372036854775807) (hg:(((decide (0≤a1)&&decide (a1≤a2))&&(decide (a2≤a1+14)&&decide (a2<(n_a0:Int)))))=true):ansV prog (mkΓ [(81,con impl_partsAfter_con)]) 1000 Tryd.f56 [([18],[6])] [.l 0,.i .i64 (a1),.i .i64 (a2)] [.sl (.came b_a0) n_a0 a0 29]=some (.a (.g (subV (a0.extract (a2.toNat*36) (a2.toNat*36+36)) (a0.extract (a1.toNat*36) (a1.toNat*36+36)) (12^(a2 - a1).toNat)) 29),.none,true):=by
 simp only [Bool.and_eq_true,decide_eq_true_eq] at hg
 obtain ⟨⟨q0,q1⟩,q2,q3⟩:=hg
 have ew:i64.wrap (a2 - a1)=a2 - a1:=w64 (by omega)
 refine (impl_record_since_ans 1000 a1 a2 b_a0 n_a0 a0).trans ?_
 rw [dec2 (show 0≤a2 by omega) q3,dec2 q0 (show a1<(n_a0:Int) by omega)]
 simp only [cond_true]
 have hq:∀ q,iterO (impl_record_since_g0 prog a1 a2 b_a0 n_a0 a0) 1000 ((0:Int),a0.extract (a2.toNat*36) (a2.toNat*36+36))=some ((36:Int),q)→nodeX (iterO (impl_record_since_g0 prog a1 a2 b_a0 n_a0 a0) 1000 ((0:Int),a0.extract (a2.toNat*36) (a2.toNat*36+36))) (fun x=>impl_record_since_k0_0 prog 1000 a1 a2 b_a0 n_a0 a0 x.1 x.2)=some (.a (.g q 29),.none,true):=fun q e=>by rw [e];rfl
 refine hq _ ?_
 unfold subV
 have hF:∀ (k:Nat) (s:Array Value),k<36→impl_record_since_g0 prog a1 a2 b_a0 n_a0 a0 ((k:Int),s)=some (.more (((k+1:Nat):Int),subF (a0.extract (a1.toNat*36) (a1.toNat*36+36)) (12^(a2 - a1).toNat) s k)):=fun k s hk=>by
  have h1:decide ((k:Int)<36)=true:=decide_eq_true (by omega)
  have h0:decide (0≤(k:Int))=true:=decide_eq_true (by omega)
  have h3:i64.wrap ((k:Int)+1)=((k+1:Nat):Int):=by rw [w64 (by omega)];omega
  have h4:decide (0≤a2 - a1)=true:=decide_eq_true (by omega)
  have h5:decide (a2 - a1≤14)=true:=decide_eq_true (by omega)
  simp only [impl_record_since_g0,h1,h0,h3,ew,h4,h5,Int.toNat_natCast,Bool.and_self,cond_true,subF]
 generalize a0.extract (a2.toNat*36) (a2.toNat*36+36)=C
 generalize hD:a0.extract (a1.toNat*36) (a1.toNat*36+36)=D at hF⊢
 generalize hm:(12:Int)^(a2 - a1).toNat=m at hF⊢
 exact iter_folds (g:=impl_record_since_g0 prog a1 a2 b_a0 n_a0 a0) (fun r k=>((k:Int),r)) (subF D m) (m:=36) (t:=C) (x:=((36:Int),folds (subF D m) C 36)) (N:=1000) (fun k s hk _=>hF k s hk) (by
  have h1:decide (((36:Nat):Int)<36)=false:=by decide
  generalize folds (subF D m) C 36=q
  simp only [impl_record_since_g0,h1,cond_false]
  rfl) (by omega)
noncomputable def impl_record_since_con:Con:=fun args h=>match args,h with
 | [.l 0,.i .i64 a1,.i .i64 a2],[.sl (.came b_a0) n_a0 a0 29]=>some (.a (.g (subV (a0.extract (a2.toNat*36) (a2.toNat*36+36)) (a0.extract (a1.toNat*36) (a1.toNat*36+36)) (12^(a2 - a1).toNat)) 29),.none,((decide (0≤a1)&&decide (a1≤a2))&&(decide (a2≤a1+14)&&decide (a2<(n_a0:Int)))))
 | _,_=>none
theorem impl_record_since_enter:EntX prog 56:=entX_ok (fn:=Tryd.f56) (by kernel_rfl) (by kernel_rfl) (by kernel_rfl)
theorem impl_record_since_ok:ConOkX (md F) prog 56 impl_record_since_con:=(ansX_ok (N:=1000) (by kernel_rfl) (mkΓ_consX (con_okX impl_partsAfter_ok) impl_partsAfter_enter mkΓ_nilX) (fn:=Tryd.f56) (by kernel_rfl) (by kernel_rfl) [([18],[6])]).of (by
 intro ρ h w args vals r e hA hH hr
 unfold impl_record_since_con at hr
 split at hr
 ·rename_i a1 a2 b_a0 n_a0 a0
  obtain ⟨rfl,hg⟩:=Prod.mk.inj (Option.some.inj hr)
  obtain ⟨rfl,hg2⟩:=Prod.mk.inj hg
  exact impl_record_since_main a1 a2 b_a0 n_a0 a0 (hA.rng 1 rfl) (hA.rng 2 rfl) (hH.slw 0 rfl) hg2
 ·cases hr)
noncomputable def impl_recordOf_G:Cons:=(mkΓ [(76,con impl_spreadAt_con),(77,con impl_driftOn_con),(92,con impl_onLand_con)])
noncomputable def impl_recordOf_t0 (a0:Array Value) (a1 a2 a3:Int):St:=(⟨.a (.g a0 36) :: .a (.i .i64 (a1)) :: .a (.i .i64 (a2)) :: .a (.i .i64 (a3)) :: .a (.w 0)::us 3 (.a (.v (.slice none 0 0)) :: .a (.w 5) :: .a (.l 12) :: .a (.i .i64 (a1)) :: .a (.i .i64 (a2)) :: .a (.g (impl_spreadAt_v0 prog a1 (1:Int) a2) 108) :: .a (.g a0 36) :: .a (.g (impl_spreadAt_v0 prog a1 (1:Int) a2) 108) :: .a (.g (landV prog a0 (impl_spreadAt_v0 prog a1 (1:Int) a2)) 29) :: .a (.l 10) :: .a (.i .i64 (a3)) :: .a (.i .i64 (0:Int))::us 12 ([])),[.row a0 36,.no,.no,.no,.no,.row (impl_spreadAt_v0 prog a1 (1:Int) a2) 108,.no,.no,.no,.no,.sp,.no,.sl .own 1 (spl (repC (zc prog 29) 1) 0 (landV prog a0 (impl_spreadAt_v0 prog a1 (1:Int) a2)).toList) 29],[10,5]⟩:St)
noncomputable def impl_recordOf_e0:Int×Array Value×Nat×Array Value→LS
 | (y0_19,r0_5,m0_10,y0_10)=>([.a (.i .i64 (y0_19)),.a (.l 12)],[.row r0_5 108,.sl .own m0_10 y0_10 29])
noncomputable def impl_recordOf_x0:Int×Array Value×Nat×Array Value→Exit×LS
 | t=>((.exit 0),impl_recordOf_e0 t)
noncomputable def impl_recordOf_g0 (P : Program) (a0 : Array Value) (a1 a2 a3 : Int) : Int × Array Value × Nat × Array Value → Option (Stp (Int × Array Value × Nat × Array Value) (Int × Array Value × Nat × Array Value))
 | (y0_19, r0_5, m0_10, y0_10) => bif decide (y0_19 < a3) then (bif (goG a0 r0_5) then (bif okS a0 then (bif (Nat.ble ((m0_10 + 1) * bytesOf prog 29) 140737488355328) then (some (.more ((i64.wrap (y0_19 + (1 : Int))), (hourV prog a0 r0_5), (m0_10 + 1), (y0_10 ++ (spl (repC (zc prog 29) 1) 0 (landV prog a0 (hourV prog a0 r0_5)).toList)))))
     else (none))
    else (none))
   else (none))
  else (some (.done (y0_19, r0_5, m0_10, y0_10)))
theorem impl_recordOf_s0 (N:Nat) (a0:Array Value) (a1 a2 a3:Int):∀ t:Int×Array Value×Nat×Array Value,stepVG prog impl_recordOf_G N (cAt (codeOf Tryd.f55) [1,1,1,0,1,0,0]) (pAt (mkPlan (codeOf Tryd.f55) [([19],[5,1000010,29])]).1 [1,1,1,0,1,0]) [19] [5] 10 29 12 (impl_recordOf_t0 a0 a1 a2 a3) (impl_recordOf_e0 t)=mapS impl_recordOf_e0 impl_recordOf_x0 (impl_recordOf_g0 prog a0 a1 a2 a3 t):=by
 rintro ⟨y0_19,r0_5,m0_10,y0_10⟩
 refine Eq.trans (b:=(bif decide (y0_19<a3) then (bif (goG a0 r0_5) then (bif okS a0 then (bif (Nat.ble ((m0_10+1)*bytesOf prog 29) 140737488355328) then (some (.more ([.a (.i .i64 (i64.wrap (y0_19+(1:Int)))),.a (.l 12)],[.row (hourV prog a0 r0_5) 108,.sl .own (m0_10+1) (y0_10++(spl (repC (zc prog 29) 1) 0 (landV prog a0 (hourV prog a0 r0_5)).toList)) 29])))
     else (none))
    else (none))
   else (none))
  else (some (.done ((.exit 0),([.a (.i .i64 (y0_19)),.a (.l 12)],[.row r0_5 108,.sl .own m0_10 y0_10 29])))))) (by kernel_rfl) ?_
 simp only [impl_recordOf_g0,mapS_cond,mapS_more,mapS_done,mapS_none,impl_recordOf_e0,impl_recordOf_x0]
noncomputable def impl_recordOf_k0_0 (P:Program) (N:Nat) (a0:Array Value) (a1 a2 a3:Int) (z0_19:Int) (q0_5:Array Value) (p0_10:Nat) (z0_10:Array Value):Option (SV×Eff×Bool):=some (.a .x,.newS none p0_10 z0_10 29,true)
theorem impl_recordOf_k0_0_eq (N:Nat) (a0:Array Value) (a1 a2 a3:Int) (z0_19:Int) (q0_5:Array Value) (p0_10:Nat) (z0_10:Array Value):(kBlock 0 (kSeq (veC prog impl_recordOf_G N (cAt (codeOf Tryd.f55) [1,1,1,1]) (pAt (mkPlan (codeOf Tryd.f55) [([19],[5,1000010,29])]).1 [1,1,1,1]) (SV×Eff×Bool)) (finK prog [] [.tmp 8]))) (.exit 0) (left (writes (cAt (codeOf Tryd.f55) [1,1,1,0,1,0,0])) [19,10] [5,12] (impl_recordOf_t0 a0 a1 a2 a3) ([.a (.i .i64 (z0_19)),.a (.l 12)],[.row q0_5 108,.sl .own p0_10 z0_10 29]))=impl_recordOf_k0_0 prog N a0 a1 a2 a3 z0_19 q0_5 p0_10 z0_10:=by
 refine Eq.trans (b:=(some (.a .x,.newS none p0_10 z0_10 29,true))) (by kernel_rfl) ?_
 rfl
theorem impl_recordOf_n0 (N:Nat) (a0:Array Value) (a1 a2 a3:Int):bindX (iterO (stepVG prog impl_recordOf_G N (cAt (codeOf Tryd.f55) [1,1,1,0,1,0,0]) (pAt (mkPlan (codeOf Tryd.f55) [([19],[5,1000010,29])]).1 [1,1,1,0,1,0]) [19] [5] 10 29 12 (impl_recordOf_t0 a0 a1 a2 a3)) N ([.a (.i .i64 (0:Int)),.a (.l 12)],[.row (impl_spreadAt_v0 prog a1 (1:Int) a2) 108,.sl .own 1 (spl (repC (zc prog 29) 1) 0 (landV prog a0 (impl_spreadAt_v0 prog a1 (1:Int) a2)).toList) 29])) (fun e s=>(kBlock 0 (kSeq (veC prog impl_recordOf_G N (cAt (codeOf Tryd.f55) [1,1,1,1]) (pAt (mkPlan (codeOf Tryd.f55) [([19],[5,1000010,29])]).1 [1,1,1,1]) (SV×Eff×Bool)) (finK prog [] [.tmp 8]))) e (left (writes (cAt (codeOf Tryd.f55) [1,1,1,0,1,0,0])) [19,10] [5,12] (impl_recordOf_t0 a0 a1 a2 a3) s))=nodeX (iterO (impl_recordOf_g0 prog a0 a1 a2 a3) N ((0:Int),(impl_spreadAt_v0 prog a1 (1:Int) a2),1,(spl (repC (zc prog 29) 1) 0 (landV prog a0 (impl_spreadAt_v0 prog a1 (1:Int) a2)).toList))) (fun x=>impl_recordOf_k0_0 prog N a0 a1 a2 a3 x.1 x.2.1 x.2.2.1 x.2.2.2):=by
 refine loop_node impl_recordOf_e0 impl_recordOf_x0 _ _ (impl_recordOf_s0 N a0 a1 a2 a3) N ((0:Int),(impl_spreadAt_v0 prog a1 (1:Int) a2),1,(spl (repC (zc prog 29) 1) 0 (landV prog a0 (impl_spreadAt_v0 prog a1 (1:Int) a2)).toList)) _ _ ?_
 intro x;exact impl_recordOf_k0_0_eq N a0 a1 a2 a3 x.1 x.2.1 x.2.2.1 x.2.2.2
theorem impl_recordOf_ans (N:Nat) (a0:Array Value) (a1 a2 a3:Int):ansV prog impl_recordOf_G N Tryd.f55 [([19],[5,1000010,29])] [.g a0 36,.i .i64 (a1),.i .i64 (a2),.i .i64 (a3)] []=(bif (decide (0≤a1)&&decide (a1<36)) then (bif okS a0 then (nodeX (iterO (impl_recordOf_g0 prog a0 a1 a2 a3) N ((0:Int),(impl_spreadAt_v0 prog a1 (1:Int) a2),1,(spl (repC (zc prog 29) 1) 0 (landV prog a0 (impl_spreadAt_v0 prog a1 (1:Int) a2)).toList))) (fun x=>impl_recordOf_k0_0 prog N a0 a1 a2 a3 x.1 x.2.1 x.2.2.1 x.2.2.2))
   else (none))
  else (none)):=by
 refine Eq.trans (b:=(bif (decide (0≤a1)&&decide (a1<36)) then (bif okS a0 then (bindX (iterO (stepVG prog impl_recordOf_G N (cAt (codeOf Tryd.f55) [1,1,1,0,1,0,0]) (pAt (mkPlan (codeOf Tryd.f55) [([19],[5,1000010,29])]).1 [1,1,1,0,1,0]) [19] [5] 10 29 12 (impl_recordOf_t0 a0 a1 a2 a3)) N ([.a (.i .i64 (0:Int)),.a (.l 12)],[.row (impl_spreadAt_v0 prog a1 (1:Int) a2) 108,.sl .own 1 (spl (repC (zc prog 29) 1) 0 (landV prog a0 (impl_spreadAt_v0 prog a1 (1:Int) a2)).toList) 29])) (fun e s=>(kBlock 0 (kSeq (veC prog impl_recordOf_G N (cAt (codeOf Tryd.f55) [1,1,1,1]) (pAt (mkPlan (codeOf Tryd.f55) [([19],[5,1000010,29])]).1 [1,1,1,1]) (SV×Eff×Bool)) (finK prog [] [.tmp 8]))) e (left (writes (cAt (codeOf Tryd.f55) [1,1,1,0,1,0,0])) [19,10] [5,12] (impl_recordOf_t0 a0 a1 a2 a3) s)))
   else (none))
  else (none))) (by kernel_rfl) ?_
 simp only [impl_recordOf_n0 N a0 a1 a2 a3]
theorem impl_recordOf_main (a0:Array Value) (a1 a2 a3:Int) (h_a0:WT prog 36 a0) (h_a1:i64.min≤a1∧a1≤i64.max) (h_a2:i64.min≤a2∧a2≤i64.max) (h_a3:i64.min≤a3∧a3≤i64.max) (hg:((okS a0&&((spec_l01Is_v0 a1 a0&&spec_l00In_v0 a2 0 1)&&spec_l00In_v0 a3 0 14)))=true):ansV prog impl_recordOf_G 1000 Tryd.f55 [([19],[5,1000010,29])] [.g a0 36,.i .i64 (a1),.i .i64 (a2),.i .i64 (a3)] []=some (.a .x,.newS none (a3.toNat+1) (recC prog a0 a1 a2 a3.toNat) 29,true):=by
 simp only [Bool.and_eq_true] at hg
 obtain ⟨q0,⟨q1,q2⟩,q3⟩:=hg
 have r1:=is_range q1
 have r3:=in_range q3
 obtain ⟨m,rfl⟩:=Int.eq_ofNat_of_zero_le r3.1
 refine (impl_recordOf_ans 1000 a0 a1 a2 (m:Int)).trans ?_
 rw [dec2 r1.1 (show a1<36 by omega),q0]
 simp only [cond_true]
 have e0:impl_spreadAt_v0 prog a1 1 a2=oneX prog a1 a2:=rfl
 have e1:spl (repC (zc prog 29) 1) 0 (landV prog a0 (oneX prog a1 a2)).toList=recC prog a0 a1 a2 0:=one_row prog 29 (by rw [landV_size,row_zero])
 rw [e0,e1,Int.toNat_natCast]
 have h:=iter_all (g:=impl_recordOf_g0 prog a0 a1 a2 (m:Int)) (fun j=>((j:Int),driftV prog a0 (oneX prog a1 a2) j,j+1,recC prog a0 a1 a2 j)) (m:=m) (x:=((m:Int),driftV prog a0 (oneX prog a1 a2) m,m+1,recC prog a0 a1 a2 m)) (N:=1000) (fun j hj=>by
  have h1:decide ((j:Int)<(m:Int))=true:=decide_eq_true (by omega)
  have h3:i64.wrap ((j:Int)+1)=((j+1:Nat):Int):=by rw [w64 (by omega)];omega
  have h4:=one_go h_a0 q0 q1 q2 (show j≤14 by omega)
  have h6:Nat.ble ((j+1+1)*bytesOf prog 29) 140737488355328=true:=Nat.ble_eq_true_of_le (by rw [bytes_row];omega)
  have h7:spl (repC (zc prog 29) 1) 0 (landV prog a0 (hourV prog a0 (driftV prog a0 (oneX prog a1 a2) j))).toList=byV prog a0 a1 a2 (j+1):=one_row prog 29 (by rw [landV_size,row_zero])
  simp only [impl_recordOf_g0,h1,h3,h4,q0,h6,h7,cond_true]
  rfl) (by
  have h1:decide ((m:Int)<(m:Int))=false:=decide_eq_false (by omega)
  simp only [impl_recordOf_g0,h1,cond_false]) (by omega)
 have h':iterO (impl_recordOf_g0 prog a0 a1 a2 (m:Int)) 1000 ((0:Int),oneX prog a1 a2,1,recC prog a0 a1 a2 0)=some ((m:Int),driftV prog a0 (oneX prog a1 a2) m,m+1,recC prog a0 a1 a2 m):=h
 rw [h']
 rfl
noncomputable def impl_recordOf_con:Con:=fun args h=>match args,h with
 | [.g a0 36,.i .i64 a1,.i .i64 a2,.i .i64 a3],[]=>some (.a .x,.newS none (a3.toNat+1) (recC prog a0 a1 a2 a3.toNat) 29,(okS a0&&((spec_l01Is_v0 a1 a0&&spec_l00In_v0 a2 0 1)&&spec_l00In_v0 a3 0 14)))
 | _,_=>none
theorem impl_recordOf_enter:EntX prog 55:=entX_ok (fn:=Tryd.f55) (by kernel_rfl) (by kernel_rfl) (by kernel_rfl)
theorem impl_recordOf_ok:ConOkX (md F) prog 55 impl_recordOf_con:=(ansX_ok (N:=1000) (by kernel_rfl) (mkΓ_consX (con_okX impl_spreadAt_ok) impl_spreadAt_enter (mkΓ_consX (con_okX impl_driftOn_ok) impl_driftOn_enter (mkΓ_consX (con_okX impl_onLand_ok) impl_onLand_enter mkΓ_nilX))) (fn:=Tryd.f55) (by kernel_rfl) (by kernel_rfl) [([19],[5,1000010,29])]).of (by
 intro ρ h w args vals r e hA hH hr
 unfold impl_recordOf_con at hr
 split at hr
 ·rename_i a0 a1 a2 a3
  obtain ⟨rfl,hg⟩:=Prod.mk.inj (Option.some.inj hr)
  obtain ⟨rfl,hg2⟩:=Prod.mk.inj hg
  exact impl_recordOf_main a0 a1 a2 a3 (hA.wt 0 rfl) (hA.rng 1 rfl) (hA.rng 2 rfl) (hA.rng 3 rfl) hg2
 ·cases hr)
end
end Go.Proofs.YtphmhgdedoeaeaaDoor
