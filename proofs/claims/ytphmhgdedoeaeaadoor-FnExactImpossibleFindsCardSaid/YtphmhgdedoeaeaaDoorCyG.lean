/- Whether a find can be: both sides. -/
import Derived.Test.YtphmhgdedoeaeaaDoorProg
import Derived.Test.YtphmhgdedoeaeaaDoorCyF
namespace Go.Proofs.YtphmhgdedoeaeaaDoor
open Go.ChangeShapes Go.WideShapes Go.ChangeAt Go.RowKit Ve Vc
open Tryd (prog)
open IntKind (i64)
set_option linter.unusedVariables false
set_option linter.unusedSimpArgs false
set_option maxRecDepth 100000
noncomputable section
variable {F:Vc.Fd}
noncomputable def impl_findsFromError_G:Cons:=(mkΓw [(52,conSG impl_releaseError_scon),(97,conSG impl_findsError_scon)] [] [] [])
theorem impl_findsFromError_ans (N:Nat) (a0:Array Value) (a1 a2:Int) (g_e0 g_e1 g_e2 g_e3 g_e4:Addr) (b_a3:Option (Option Addr)) (n_a3:Nat) (a3:Array Value):ansV prog impl_findsFromError_G N Tryd.f65 [] [.g a0 36,.i .i64 (a1),.i .i64 (a2),.l 5] [.gl 0 184 g_e0 101973,.gl 1 184 g_e1 93330,.gl 3 184 g_e2 112315,.gl 2 184 g_e3 124718,.gl 4 184 g_e4 94254,.sl (.came b_a3) n_a3 a3 50]=(bif vf a0 n_a3 a3 then (bif okS a0 then (bif rl a0 a1 a2 true then (bif spec_l01Dry_v0 a1 a0 then (some (.a (.e 3),.none,true))
     else (some (.a (.v (.nilIface)),.none,true)))
    else (some (.a (.e 1),.none,true)))
   else (some (.a (.e 0),.none,true)))
  else (some (.a (.e 0),.none,true))):=by kernel_rfl
theorem impl_findsFromError_main0 (a0:Array Value) (a1 a2:Int) (g_e0 g_e1 g_e2 g_e3 g_e4:Addr) (b_a3:Option (Option Addr)) (n_a3:Nat) (a3:Array Value) (h_a0:WT prog 36 a0) (h_a1:i64.min≤a1∧a1≤i64.max) (h_a2:i64.min≤a2∧a2≤i64.max) (h_a3:a3.size=n_a3*(lay prog 50).length∧(∀ k,k<n_a3→WT prog 50 (a3.extract (k*(lay prog 50).length) (k*(lay prog 50).length+(lay prog 50).length)))∧n_a3≤9223372036854775807) (hc0:(vf a0 n_a3 a3)=false) (hg:(true)=true):ansV prog impl_findsFromError_G 1000 Tryd.f65 [] [.g a0 36,.i .i64 (a1),.i .i64 (a2),.l 5] [.gl 0 184 g_e0 101973,.gl 1 184 g_e1 93330,.gl 3 184 g_e2 112315,.gl 2 184 g_e3 124718,.gl 4 184 g_e4 94254,.sl (.came b_a3) n_a3 a3 50]=some (.a (.e 0),.none,true):=by
 refine (impl_findsFromError_ans 1000 a0 a1 a2 g_e0 g_e1 g_e2 g_e3 g_e4 b_a3 n_a3 a3).trans ?_
 simp only [hc0,Bool.and_self,Bool.and_true,Bool.true_and,Bool.and_false,Bool.false_and,Bool.not_false,Bool.not_true,cond_true,cond_false]
theorem impl_findsFromError_main1 (a0:Array Value) (a1 a2:Int) (g_e0 g_e1 g_e2 g_e3 g_e4:Addr) (b_a3:Option (Option Addr)) (n_a3:Nat) (a3:Array Value) (h_a0:WT prog 36 a0) (h_a1:i64.min≤a1∧a1≤i64.max) (h_a2:i64.min≤a2∧a2≤i64.max) (h_a3:a3.size=n_a3*(lay prog 50).length∧(∀ k,k<n_a3→WT prog 50 (a3.extract (k*(lay prog 50).length) (k*(lay prog 50).length+(lay prog 50).length)))∧n_a3≤9223372036854775807) (hc0:(vf a0 n_a3 a3)=true) (hc1:(rl a0 a1 a2 true)=false) (hg:(true)=true):ansV prog impl_findsFromError_G 1000 Tryd.f65 [] [.g a0 36,.i .i64 (a1),.i .i64 (a2),.l 5] [.gl 0 184 g_e0 101973,.gl 1 184 g_e1 93330,.gl 3 184 g_e2 112315,.gl 2 184 g_e3 124718,.gl 4 184 g_e4 94254,.sl (.came b_a3) n_a3 a3 50]=some (.a (.e 1),.none,true):=by
 refine (impl_findsFromError_ans 1000 a0 a1 a2 g_e0 g_e1 g_e2 g_e3 g_e4 b_a3 n_a3 a3).trans ?_
 have hok:=(vf_of hc0).1
 simp only [hc0,hc1,hok,Bool.and_self,Bool.and_true,Bool.true_and,Bool.and_false,Bool.false_and,Bool.not_false,Bool.not_true,cond_true,cond_false]
theorem impl_findsFromError_main2 (a0:Array Value) (a1 a2:Int) (g_e0 g_e1 g_e2 g_e3 g_e4:Addr) (b_a3:Option (Option Addr)) (n_a3:Nat) (a3:Array Value) (h_a0:WT prog 36 a0) (h_a1:i64.min≤a1∧a1≤i64.max) (h_a2:i64.min≤a2∧a2≤i64.max) (h_a3:a3.size=n_a3*(lay prog 50).length∧(∀ k,k<n_a3→WT prog 50 (a3.extract (k*(lay prog 50).length) (k*(lay prog 50).length+(lay prog 50).length)))∧n_a3≤9223372036854775807) (hc0:(vf a0 n_a3 a3)=true) (hc1:(rl a0 a1 a2 true)=true) (hc2:(spec_l01Dry_v0 a1 a0)=false) (hg:(true)=true):ansV prog impl_findsFromError_G 1000 Tryd.f65 [] [.g a0 36,.i .i64 (a1),.i .i64 (a2),.l 5] [.gl 0 184 g_e0 101973,.gl 1 184 g_e1 93330,.gl 3 184 g_e2 112315,.gl 2 184 g_e3 124718,.gl 4 184 g_e4 94254,.sl (.came b_a3) n_a3 a3 50]=some (.a (.v (.nilIface)),.none,true):=by
 refine (impl_findsFromError_ans 1000 a0 a1 a2 g_e0 g_e1 g_e2 g_e3 g_e4 b_a3 n_a3 a3).trans ?_
 have hok:=(vf_of hc0).1
 simp only [hc0,hc1,hc2,hok,Bool.and_self,Bool.and_true,Bool.true_and,Bool.and_false,Bool.false_and,Bool.not_false,Bool.not_true,cond_true,cond_false]
theorem impl_findsFromError_main3 (a0:Array Value) (a1 a2:Int) (g_e0 g_e1 g_e2 g_e3 g_e4:Addr) (b_a3:Option (Option Addr)) (n_a3:Nat) (a3:Array Value) (h_a0:WT prog 36 a0) (h_a1:i64.min≤a1∧a1≤i64.max) (h_a2:i64.min≤a2∧a2≤i64.max) (h_a3:a3.size=n_a3*(lay prog 50).length∧(∀ k,k<n_a3→WT prog 50 (a3.extract (k*(lay prog 50).length) (k*(lay prog 50).length+(lay prog 50).length)))∧n_a3≤9223372036854775807) (hc0:(vf a0 n_a3 a3)=true) (hc1:(rl a0 a1 a2 true)=true) (hc2:(spec_l01Dry_v0 a1 a0)=true) (hg:(true)=true):ansV prog impl_findsFromError_G 1000 Tryd.f65 [] [.g a0 36,.i .i64 (a1),.i .i64 (a2),.l 5] [.gl 0 184 g_e0 101973,.gl 1 184 g_e1 93330,.gl 3 184 g_e2 112315,.gl 2 184 g_e3 124718,.gl 4 184 g_e4 94254,.sl (.came b_a3) n_a3 a3 50]=some (.a (.e 3),.none,true):=by
 refine (impl_findsFromError_ans 1000 a0 a1 a2 g_e0 g_e1 g_e2 g_e3 g_e4 b_a3 n_a3 a3).trans ?_
 have hok:=(vf_of hc0).1
 simp only [hc0,hc1,hc2,hok,Bool.and_self,Bool.and_true,Bool.true_and,Bool.and_false,Bool.false_and,Bool.not_false,Bool.not_true,cond_true,cond_false]
noncomputable def impl_findsFromError_scon:SCon:=fun args h=>match args,h with
 | [.g a0 36,.i .i64 a1,.i .i64 a2,.l 5],[.gl 0 184 g_e0 101973,.gl 1 184 g_e1 93330,.gl 3 184 g_e2 112315,.gl 2 184 g_e3 124718,.gl 4 184 g_e4 94254,.sl (.came b_a3) n_a3 a3 50]=>.two (vf a0 n_a3 a3) (.two (rl a0 a1 a2 true) (.two (spec_l01Dry_v0 a1 a0) (.one (some (.a (.e 3),.none,true))) (.one (some (.a (.v (.nilIface)),.none,true)))) (.one (some (.a (.e 1),.none,true)))) (.one (some (.a (.e 0),.none,true)))
 | _,_=>.one none
theorem impl_findsFromError_enter:EntX prog 65:=entX_ok (fn:=Tryd.f65) (by kernel_rfl) (by kernel_rfl) (by kernel_rfl)
theorem impl_findsFromError_sok:ConOkX (md F) prog 65 (fun args h=>wayRes (impl_findsFromError_scon args h)):=by
 intro ρ h w args vals r e hn hr hA hH
 dsimp only at hr
 unfold impl_findsFromError_scon at hr
 split at hr
 ·rename_i a0 a1 a2 g_e0 g_e1 g_e2 g_e3 g_e4 b_a3 n_a3 a3
  simp only [wayRes] at hr
  cases hc0:(vf a0 n_a3 a3)
  ·rw [hc0] at hr
   simp only [wayRes,cond_true,cond_false] at hr
   obtain ⟨rfl,hg⟩:=Prod.mk.inj (Option.some.inj hr)
   obtain ⟨rfl,hg2⟩:=Prod.mk.inj hg
   exact ((ansX_ok (N:=1000) (by kernel_rfl) (mkΓw_sX (conSG_okX impl_releaseError_sok) impl_releaseError_enter (mkΓw_sX (conSG_okX impl_findsError_sok) impl_findsError_enter mkΓx_nilX)) (fn:=Tryd.f65) (by kernel_rfl) (by kernel_rfl) [])) ρ _ w _ vals _ _ hn ((impl_findsFromError_main0 a0 a1 a2 g_e0 g_e1 g_e2 g_e3 g_e4 b_a3 n_a3 a3 (hA.wt 0 rfl) (hA.rng 1 rfl) (hA.rng 2 rfl) (hH.slw 5 rfl) hc0 hg2)) hA hH
  ·rw [hc0] at hr
   simp only [wayRes,cond_true,cond_false] at hr
   cases hc1:(rl a0 a1 a2 true)
   ·rw [hc1] at hr
    simp only [wayRes,cond_true,cond_false] at hr
    obtain ⟨rfl,hg⟩:=Prod.mk.inj (Option.some.inj hr)
    obtain ⟨rfl,hg2⟩:=Prod.mk.inj hg
    exact ((ansX_ok (N:=1000) (by kernel_rfl) (mkΓw_sX (conSG_okX impl_releaseError_sok) impl_releaseError_enter (mkΓw_sX (conSG_okX impl_findsError_sok) impl_findsError_enter mkΓx_nilX)) (fn:=Tryd.f65) (by kernel_rfl) (by kernel_rfl) [])) ρ _ w _ vals _ _ hn ((impl_findsFromError_main1 a0 a1 a2 g_e0 g_e1 g_e2 g_e3 g_e4 b_a3 n_a3 a3 (hA.wt 0 rfl) (hA.rng 1 rfl) (hA.rng 2 rfl) (hH.slw 5 rfl) hc0 hc1 hg2)) hA hH
   ·rw [hc1] at hr
    simp only [wayRes,cond_true,cond_false] at hr
    cases hc2:(spec_l01Dry_v0 a1 a0)
    ·rw [hc2] at hr
     simp only [wayRes,cond_true,cond_false] at hr
     obtain ⟨rfl,hg⟩:=Prod.mk.inj (Option.some.inj hr)
     obtain ⟨rfl,hg2⟩:=Prod.mk.inj hg
     exact ((ansX_ok (N:=1000) (by kernel_rfl) (mkΓw_sX (conSG_okX impl_releaseError_sok) impl_releaseError_enter (mkΓw_sX (conSG_okX impl_findsError_sok) impl_findsError_enter mkΓx_nilX)) (fn:=Tryd.f65) (by kernel_rfl) (by kernel_rfl) [])) ρ _ w _ vals _ _ hn ((impl_findsFromError_main2 a0 a1 a2 g_e0 g_e1 g_e2 g_e3 g_e4 b_a3 n_a3 a3 (hA.wt 0 rfl) (hA.rng 1 rfl) (hA.rng 2 rfl) (hH.slw 5 rfl) hc0 hc1 hc2 hg2)) hA hH
    ·rw [hc2] at hr
     simp only [wayRes,cond_true,cond_false] at hr
     obtain ⟨rfl,hg⟩:=Prod.mk.inj (Option.some.inj hr)
     obtain ⟨rfl,hg2⟩:=Prod.mk.inj hg
     exact ((ansX_ok (N:=1000) (by kernel_rfl) (mkΓw_sX (conSG_okX impl_releaseError_sok) impl_releaseError_enter (mkΓw_sX (conSG_okX impl_findsError_sok) impl_findsError_enter mkΓx_nilX)) (fn:=Tryd.f65) (by kernel_rfl) (by kernel_rfl) [])) ρ _ w _ vals _ _ hn ((impl_findsFromError_main3 a0 a1 a2 g_e0 g_e1 g_e2 g_e3 g_e4 b_a3 n_a3 a3 (hA.wt 0 rfl) (hA.rng 1 rfl) (hA.rng 2 rfl) (hH.slw 5 rfl) hc0 hc1 hc2 hg2)) hA hH
 ·simp only [wayRes] at hr
  cases hr
noncomputable def impl_findsFromError_con0:Con:=fun args h=>match args,h with
 | [.g a0 36,.i .i64 a1,.i .i64 a2,.l 5],[.gl 0 184 g_e0 101973,.gl 1 184 g_e1 93330,.gl 3 184 g_e2 112315,.gl 2 184 g_e3 124718,.gl 4 184 g_e4 94254,.sl (.came b_a3) n_a3 a3 50]=>some (.a (.e 3),.none,(vf a0 n_a3 a3&&(rl a0 a1 a2 true&&(spec_l01Dry_v0 a1 a0))))
 | _,_=>none
theorem impl_findsFromError_ok0:ConOkX (md F) prog 65 impl_findsFromError_con0:=ConOkX.of impl_findsFromError_sok (by
 intro ρ h w args vals r e hA hH hr
 unfold impl_findsFromError_con0 at hr
 split at hr
 ·rename_i a0 a1 a2 g_e0 g_e1 g_e2 g_e3 g_e4 b_a3 n_a3 a3
  obtain ⟨rfl,hg⟩:=Prod.mk.inj (Option.some.inj hr)
  obtain ⟨rfl,hg2⟩:=Prod.mk.inj hg
  simp only [Bool.and_eq_true,Bool.not_eq_true'] at hg2
  obtain ⟨q0,q1,q2⟩:=hg2
  show wayRes (impl_findsFromError_scon _ _)=_
  unfold impl_findsFromError_scon
  simp only [wayRes,q0,q1,q2,cond_true,cond_false]
 ·cases hr)
noncomputable def impl_findsFromError_con1:Con:=fun args h=>match args,h with
 | [.g a0 36,.i .i64 a1,.i .i64 a2,.l 5],[.gl 0 184 g_e0 101973,.gl 1 184 g_e1 93330,.gl 3 184 g_e2 112315,.gl 2 184 g_e3 124718,.gl 4 184 g_e4 94254,.sl (.came b_a3) n_a3 a3 50]=>some (.a (.v (.nilIface)),.none,(vf a0 n_a3 a3&&(rl a0 a1 a2 true&&((!(spec_l01Dry_v0 a1 a0))))))
 | _,_=>none
theorem impl_findsFromError_ok1:ConOkX (md F) prog 65 impl_findsFromError_con1:=ConOkX.of impl_findsFromError_sok (by
 intro ρ h w args vals r e hA hH hr
 unfold impl_findsFromError_con1 at hr
 split at hr
 ·rename_i a0 a1 a2 g_e0 g_e1 g_e2 g_e3 g_e4 b_a3 n_a3 a3
  obtain ⟨rfl,hg⟩:=Prod.mk.inj (Option.some.inj hr)
  obtain ⟨rfl,hg2⟩:=Prod.mk.inj hg
  simp only [Bool.and_eq_true,Bool.not_eq_true'] at hg2
  obtain ⟨q0,q1,q2⟩:=hg2
  show wayRes (impl_findsFromError_scon _ _)=_
  unfold impl_findsFromError_scon
  simp only [wayRes,q0,q1,q2,cond_true,cond_false]
 ·cases hr)
noncomputable def impl_findsFromError_con2:Con:=fun args h=>match args,h with
 | [.g a0 36,.i .i64 a1,.i .i64 a2,.l 5],[.gl 0 184 g_e0 101973,.gl 1 184 g_e1 93330,.gl 3 184 g_e2 112315,.gl 2 184 g_e3 124718,.gl 4 184 g_e4 94254,.sl (.came b_a3) n_a3 a3 50]=>some (.a (.e 1),.none,(vf a0 n_a3 a3&&((!(rl a0 a1 a2 true)))))
 | _,_=>none
theorem impl_findsFromError_ok2:ConOkX (md F) prog 65 impl_findsFromError_con2:=ConOkX.of impl_findsFromError_sok (by
 intro ρ h w args vals r e hA hH hr
 unfold impl_findsFromError_con2 at hr
 split at hr
 ·rename_i a0 a1 a2 g_e0 g_e1 g_e2 g_e3 g_e4 b_a3 n_a3 a3
  obtain ⟨rfl,hg⟩:=Prod.mk.inj (Option.some.inj hr)
  obtain ⟨rfl,hg2⟩:=Prod.mk.inj hg
  simp only [Bool.and_eq_true,Bool.not_eq_true'] at hg2
  obtain ⟨q0,q1⟩:=hg2
  show wayRes (impl_findsFromError_scon _ _)=_
  unfold impl_findsFromError_scon
  simp only [wayRes,q0,q1,cond_true,cond_false]
 ·cases hr)
noncomputable def impl_findsFromError_con3:Con:=fun args h=>match args,h with
 | [.g a0 36,.i .i64 a1,.i .i64 a2,.l 5],[.gl 0 184 g_e0 101973,.gl 1 184 g_e1 93330,.gl 3 184 g_e2 112315,.gl 2 184 g_e3 124718,.gl 4 184 g_e4 94254,.sl (.came b_a3) n_a3 a3 50]=>some (.a (.e 0),.none,(!(vf a0 n_a3 a3)))
 | _,_=>none
theorem impl_findsFromError_ok3:ConOkX (md F) prog 65 impl_findsFromError_con3:=ConOkX.of impl_findsFromError_sok (by
 intro ρ h w args vals r e hA hH hr
 unfold impl_findsFromError_con3 at hr
 split at hr
 ·rename_i a0 a1 a2 g_e0 g_e1 g_e2 g_e3 g_e4 b_a3 n_a3 a3
  obtain ⟨rfl,hg⟩:=Prod.mk.inj (Option.some.inj hr)
  obtain ⟨rfl,hg2⟩:=Prod.mk.inj hg
  simp only [Bool.and_eq_true,Bool.not_eq_true'] at hg2
  have q0:=hg2
  show wayRes (impl_findsFromError_scon _ _)=_
  unfold impl_findsFromError_scon
  simp only [wayRes,q0,cond_true,cond_false]
 ·cases hr)
end
end Go.Proofs.YtphmhgdedoeaeaaDoor
