/- Whether a find can be: both sides. -/
import Derived.Test.YtphmhgdedoeaeaaDoorProg
import Derived.Test.YtphmhgdedoeaeaaDoorCyF
namespace Go.Proofs.YtphmhgdedoeaeaaDoor
open Go.ChangeShapes Go.WideShapes Go.ChangeAt Go.RowKit Ve Vc
open Tryd (prog)
open IntKind (i64)
set_option linter.unusedVariables false
set_option linter.unusedSimpArgs false
set_option maxRecDepth 100000
noncomputable section
variable {F : Vc.Fd}
noncomputable def impl_findsFromError_G : Cons := (mkΓw [(52, conSG impl_releaseError_scon), (97, conSG impl_findsError_scon)] [] [] [])
theorem impl_findsFromError_ans (N : Nat) (a0 : Array Value) (a1 : Int) (a2 : Int) (g_e0 : Addr) (g_e1 : Addr) (g_e2 : Addr) (g_e3 : Addr) (g_e4 : Addr) (b_a3 : Option (Option Addr)) (n_a3 : Nat) (a3 : Array Value) : ansV prog impl_findsFromError_G N Tryd.f65 [] [.g a0 36, .i .i64 (a1), .i .i64 (a2), .l 5] [.gl 0 184 g_e0 101973, .gl 1 184 g_e1 93330, .gl 3 184 g_e2 112315, .gl 2 184 g_e3 124718, .gl 4 184 g_e4 94254, .sl (.came b_a3) n_a3 a3 50] = (bif vf a0 n_a3 a3 then (bif okS a0 then (bif rl a0 a1 a2 true then (bif spec_l01Dry_v0 a1 a0 then (some (.a (.e 3), .none, true))
     else (some (.a (.v (.nilIface)), .none, true)))
    else (some (.a (.e 1), .none, true)))
   else (some (.a (.e 0), .none, true)))
  else (some (.a (.e 0), .none, true))) := by kernel_rfl
theorem impl_findsFromError_main0 (a0 : Array Value) (a1 : Int) (a2 : Int) (g_e0 : Addr) (g_e1 : Addr) (g_e2 : Addr) (g_e3 : Addr) (g_e4 : Addr) (b_a3 : Option (Option Addr)) (n_a3 : Nat) (a3 : Array Value) (h_a0 : WT prog 36 a0) (h_a1 : i64.min ≤ a1 ∧ a1 ≤ i64.max) (h_a2 : i64.min ≤ a2 ∧ a2 ≤ i64.max) (h_a3 : a3.size = n_a3 * (lay prog 50).length ∧ (∀ k, k < n_a3 → WT prog 50 (a3.extract (k * (lay prog 50).length) (k * (lay prog 50).length + (lay prog 50).length))) ∧ n_a3 ≤ 9223372036854775807) (hc0 : (vf a0 n_a3 a3) = false) (hg : (true) = true) : ansV prog impl_findsFromError_G 1000 Tryd.f65 [] [.g a0 36, .i .i64 (a1), .i .i64 (a2), .l 5] [.gl 0 184 g_e0 101973, .gl 1 184 g_e1 93330, .gl 3 184 g_e2 112315, .gl 2 184 g_e3 124718, .gl 4 184 g_e4 94254, .sl (.came b_a3) n_a3 a3 50] = some (.a (.e 0), .none, true) := by
 refine (impl_findsFromError_ans 1000 a0 a1 a2 g_e0 g_e1 g_e2 g_e3 g_e4 b_a3 n_a3 a3).trans ?_
 simp only [hc0, Bool.and_self, Bool.and_true, Bool.true_and, Bool.and_false, Bool.false_and, Bool.not_false, Bool.not_true, cond_true, cond_false]
theorem impl_findsFromError_main1 (a0 : Array Value) (a1 : Int) (a2 : Int) (g_e0 : Addr) (g_e1 : Addr) (g_e2 : Addr) (g_e3 : Addr) (g_e4 : Addr) (b_a3 : Option (Option Addr)) (n_a3 : Nat) (a3 : Array Value) (h_a0 : WT prog 36 a0) (h_a1 : i64.min ≤ a1 ∧ a1 ≤ i64.max) (h_a2 : i64.min ≤ a2 ∧ a2 ≤ i64.max) (h_a3 : a3.size = n_a3 * (lay prog 50).length ∧ (∀ k, k < n_a3 → WT prog 50 (a3.extract (k * (lay prog 50).length) (k * (lay prog 50).length + (lay prog 50).length))) ∧ n_a3 ≤ 9223372036854775807) (hc0 : (vf a0 n_a3 a3) = true) (hc1 : (rl a0 a1 a2 true) = false) (hg : (true) = true) : ansV prog impl_findsFromError_G 1000 Tryd.f65 [] [.g a0 36, .i .i64 (a1), .i .i64 (a2), .l 5] [.gl 0 184 g_e0 101973, .gl 1 184 g_e1 93330, .gl 3 184 g_e2 112315, .gl 2 184 g_e3 124718, .gl 4 184 g_e4 94254, .sl (.came b_a3) n_a3 a3 50] = some (.a (.e 1), .none, true) := by
 refine (impl_findsFromError_ans 1000 a0 a1 a2 g_e0 g_e1 g_e2 g_e3 g_e4 b_a3 n_a3 a3).trans ?_
 have hok := (vf_of hc0).1
 simp only [hc0, hc1, hok, Bool.and_self, Bool.and_true, Bool.true_and, Bool.and_false, Bool.false_and, Bool.not_false, Bool.not_true, cond_true, cond_false]
theorem impl_findsFromError_main2 (a0 : Array Value) (a1 : Int) (a2 : Int) (g_e0 : Addr) (g_e1 : Addr) (g_e2 : Addr) (g_e3 : Addr) (g_e4 : Addr) (b_a3 : Option (Option Addr)) (n_a3 : Nat) (a3 : Array Value) (h_a0 : WT prog 36 a0) (h_a1 : i64.min ≤ a1 ∧ a1 ≤ i64.max) (h_a2 : i64.min ≤ a2 ∧ a2 ≤ i64.max) (h_a3 : a3.size = n_a3 * (lay prog 50).length ∧ (∀ k, k < n_a3 → WT prog 50 (a3.extract (k * (lay prog 50).length) (k * (lay prog 50).length + (lay prog 50).length))) ∧ n_a3 ≤ 9223372036854775807) (hc0 : (vf a0 n_a3 a3) = true) (hc1 : (rl a0 a1 a2 true) = true) (hc2 : (spec_l01Dry_v0 a1 a0) = false) (hg : (true) = true) : ansV prog impl_findsFromError_G 1000 Tryd.f65 [] [.g a0 36, .i .i64 (a1), .i .i64 (a2), .l 5] [.gl 0 184 g_e0 101973, .gl 1 184 g_e1 93330, .gl 3 184 g_e2 112315, .gl 2 184 g_e3 124718, .gl 4 184 g_e4 94254, .sl (.came b_a3) n_a3 a3 50] = some (.a (.v (.nilIface)), .none, true) := by
 refine (impl_findsFromError_ans 1000 a0 a1 a2 g_e0 g_e1 g_e2 g_e3 g_e4 b_a3 n_a3 a3).trans ?_
 have hok := (vf_of hc0).1
 simp only [hc0, hc1, hc2, hok, Bool.and_self, Bool.and_true, Bool.true_and, Bool.and_false, Bool.false_and, Bool.not_false, Bool.not_true, cond_true, cond_false]
theorem impl_findsFromError_main3 (a0 : Array Value) (a1 : Int) (a2 : Int) (g_e0 : Addr) (g_e1 : Addr) (g_e2 : Addr) (g_e3 : Addr) (g_e4 : Addr) (b_a3 : Option (Option Addr)) (n_a3 : Nat) (a3 : Array Value) (h_a0 : WT prog 36 a0) (h_a1 : i64.min ≤ a1 ∧ a1 ≤ i64.max) (h_a2 : i64.min ≤ a2 ∧ a2 ≤ i64.max) (h_a3 : a3.size = n_a3 * (lay prog 50).length ∧ (∀ k, k < n_a3 → WT prog 50 (a3.extract (k * (lay prog 50).length) (k * (lay prog 50).length + (lay prog 50).length))) ∧ n_a3 ≤ 9223372036854775807) (hc0 : (vf a0 n_a3 a3) = true) (hc1 : (rl a0 a1 a2 true) = true) (hc2 : (spec_l01Dry_v0 a1 a0) = true) (hg : (true) = true) : ansV prog impl_findsFromError_G 1000 Tryd.f65 [] [.g a0 36, .i .i64 (a1), .i .i64 (a2), .l 5] [.gl 0 184 g_e0 101973, .gl 1 184 g_e1 93330, .gl 3 184 g_e2 112315, .gl 2 184 g_e3 124718, .gl 4 184 g_e4 94254, .sl (.came b_a3) n_a3 a3 50] = some (.a (.e 3), .none, true) := by
 refine (impl_findsFromError_ans 1000 a0 a1 a2 g_e0 g_e1 g_e2 g_e3 g_e4 b_a3 n_a3 a3).trans ?_
 have hok := (vf_of hc0).1
 simp only [hc0, hc1, hc2, hok, Bool.and_self, Bool.and_true, Bool.true_and, Bool.and_false, Bool.false_and, Bool.not_false, Bool.not_true, cond_true, cond_false]
noncomputable def impl_findsFromError_scon : SCon := fun args h => match args, h with
 | [.g a0 36, .i .i64 a1, .i .i64 a2, .l 5], [.gl 0 184 g_e0 101973, .gl 1 184 g_e1 93330, .gl 3 184 g_e2 112315, .gl 2 184 g_e3 124718, .gl 4 184 g_e4 94254, .sl (.came b_a3) n_a3 a3 50] => .two (vf a0 n_a3 a3) (.two (rl a0 a1 a2 true) (.two (spec_l01Dry_v0 a1 a0) (.one (some (.a (.e 3), .none, true))) (.one (some (.a (.v (.nilIface)), .none, true)))) (.one (some (.a (.e 1), .none, true)))) (.one (some (.a (.e 0), .none, true)))
 | _, _ => .one none
theorem impl_findsFromError_enter : EntX prog 65 := entX_ok (fn := Tryd.f65) (by kernel_rfl) (by kernel_rfl) (by kernel_rfl)
theorem impl_findsFromError_sok : ConOkX (md F) prog 65 (fun args h => wayRes (impl_findsFromError_scon args h)) := by
 intro ρ h w args vals r e hn hr hA hH
 dsimp only at hr
 unfold impl_findsFromError_scon at hr
 split at hr
 ·rename_i a0 a1 a2 g_e0 g_e1 g_e2 g_e3 g_e4 b_a3 n_a3 a3
  simp only [wayRes] at hr
  cases hc0 : (vf a0 n_a3 a3)
  ·rw [hc0] at hr
   simp only [wayRes, cond_true, cond_false] at hr
   obtain ⟨rfl, hg⟩ := Prod.mk.inj (Option.some.inj hr)
   obtain ⟨rfl, hg2⟩ := Prod.mk.inj hg
   exact ((ansX_ok (N := 1000) (by kernel_rfl) (mkΓw_sX (conSG_okX impl_releaseError_sok) impl_releaseError_enter (mkΓw_sX (conSG_okX impl_findsError_sok) impl_findsError_enter mkΓx_nilX)) (fn := Tryd.f65) (by kernel_rfl) (by kernel_rfl) [])) ρ _ w _ vals _ _ hn ((impl_findsFromError_main0 a0 a1 a2 g_e0 g_e1 g_e2 g_e3 g_e4 b_a3 n_a3 a3 (hA.wt 0 rfl) (hA.rng 1 rfl) (hA.rng 2 rfl) (hH.slw 5 rfl) hc0 hg2)) hA hH
  ·rw [hc0] at hr
   simp only [wayRes, cond_true, cond_false] at hr
   cases hc1 : (rl a0 a1 a2 true)
   ·rw [hc1] at hr
    simp only [wayRes, cond_true, cond_false] at hr
    obtain ⟨rfl, hg⟩ := Prod.mk.inj (Option.some.inj hr)
    obtain ⟨rfl, hg2⟩ := Prod.mk.inj hg
    exact ((ansX_ok (N := 1000) (by kernel_rfl) (mkΓw_sX (conSG_okX impl_releaseError_sok) impl_releaseError_enter (mkΓw_sX (conSG_okX impl_findsError_sok) impl_findsError_enter mkΓx_nilX)) (fn := Tryd.f65) (by kernel_rfl) (by kernel_rfl) [])) ρ _ w _ vals _ _ hn ((impl_findsFromError_main1 a0 a1 a2 g_e0 g_e1 g_e2 g_e3 g_e4 b_a3 n_a3 a3 (hA.wt 0 rfl) (hA.rng 1 rfl) (hA.rng 2 rfl) (hH.slw 5 rfl) hc0 hc1 hg2)) hA hH
   ·rw [hc1] at hr
    simp only [wayRes, cond_true, cond_false] at hr
    cases hc2 : (spec_l01Dry_v0 a1 a0)
    ·rw [hc2] at hr
     simp only [wayRes, cond_true, cond_false] at hr
     obtain ⟨rfl, hg⟩ := Prod.mk.inj (Option.some.inj hr)
     obtain ⟨rfl, hg2⟩ := Prod.mk.inj hg
     exact ((ansX_ok (N := 1000) (by kernel_rfl) (mkΓw_sX (conSG_okX impl_releaseError_sok) impl_releaseError_enter (mkΓw_sX (conSG_okX impl_findsError_sok) impl_findsError_enter mkΓx_nilX)) (fn := Tryd.f65) (by kernel_rfl) (by kernel_rfl) [])) ρ _ w _ vals _ _ hn ((impl_findsFromError_main2 a0 a1 a2 g_e0 g_e1 g_e2 g_e3 g_e4 b_a3 n_a3 a3 (hA.wt 0 rfl) (hA.rng 1 rfl) (hA.rng 2 rfl) (hH.slw 5 rfl) hc0 hc1 hc2 hg2)) hA hH
    ·rw [hc2] at hr
     simp only [wayRes, cond_true, cond_false] at hr
     obtain ⟨rfl, hg⟩ := Prod.mk.inj (Option.some.inj hr)
     obtain ⟨rfl, hg2⟩ := Prod.mk.inj hg
     exact ((ansX_ok (N := 1000) (by kernel_rfl) (mkΓw_sX (conSG_okX impl_releaseError_sok) impl_releaseError_enter (mkΓw_sX (conSG_okX impl_findsError_sok) impl_findsError_enter mkΓx_nilX)) (fn := Tryd.f65) (by kernel_rfl) (by kernel_rfl) [])) ρ _ w _ vals _ _ hn ((impl_findsFromError_main3 a0 a1 a2 g_e0 g_e1 g_e2 g_e3 g_e4 b_a3 n_a3 a3 (hA.wt 0 rfl) (hA.rng 1 rfl) (hA.rng 2 rfl) (hH.slw 5 rfl) hc0 hc1 hc2 hg2)) hA hH
 ·simp only [wayRes] at hr
  cases hr
noncomputable def impl_findsFromError_con0 : Con := fun args h => match args, h with
 | [.g a0 36, .i .i64 a1, .i .i64 a2, .l 5], [.gl 0 184 g_e0 101973, .gl 1 184 g_e1 93330, .gl 3 184 g_e2 112315, .gl 2 184 g_e3 124718, .gl 4 184 g_e4 94254, .sl (.came b_a3) n_a3 a3 50] => some (.a (.e 3), .none, (vf a0 n_a3 a3 && (rl a0 a1 a2 true && (spec_l01Dry_v0 a1 a0))))
 | _, _ => none
theorem impl_findsFromError_ok0 : ConOkX (md F) prog 65 impl_findsFromError_con0 := ConOkX.of impl_findsFromError_sok (by
 intro ρ h w args vals r e hA hH hr
 unfold impl_findsFromError_con0 at hr
 split at hr
 ·rename_i a0 a1 a2 g_e0 g_e1 g_e2 g_e3 g_e4 b_a3 n_a3 a3
  obtain ⟨rfl, hg⟩ := Prod.mk.inj (Option.some.inj hr)
  obtain ⟨rfl, hg2⟩ := Prod.mk.inj hg
  simp only [Bool.and_eq_true, Bool.not_eq_true'] at hg2
  obtain ⟨q0, q1, q2⟩ := hg2
  show wayRes (impl_findsFromError_scon _ _) = _
  unfold impl_findsFromError_scon
  simp only [wayRes, q0, q1, q2, cond_true, cond_false]
 ·cases hr)
noncomputable def impl_findsFromError_con1 : Con := fun args h => match args, h with
 | [.g a0 36, .i .i64 a1, .i .i64 a2, .l 5], [.gl 0 184 g_e0 101973, .gl 1 184 g_e1 93330, .gl 3 184 g_e2 112315, .gl 2 184 g_e3 124718, .gl 4 184 g_e4 94254, .sl (.came b_a3) n_a3 a3 50] => some (.a (.v (.nilIface)), .none, (vf a0 n_a3 a3 && (rl a0 a1 a2 true && ((!(spec_l01Dry_v0 a1 a0))))))
 | _, _ => none
theorem impl_findsFromError_ok1 : ConOkX (md F) prog 65 impl_findsFromError_con1 := ConOkX.of impl_findsFromError_sok (by
 intro ρ h w args vals r e hA hH hr
 unfold impl_findsFromError_con1 at hr
 split at hr
 ·rename_i a0 a1 a2 g_e0 g_e1 g_e2 g_e3 g_e4 b_a3 n_a3 a3
  obtain ⟨rfl, hg⟩ := Prod.mk.inj (Option.some.inj hr)
  obtain ⟨rfl, hg2⟩ := Prod.mk.inj hg
  simp only [Bool.and_eq_true, Bool.not_eq_true'] at hg2
  obtain ⟨q0, q1, q2⟩ := hg2
  show wayRes (impl_findsFromError_scon _ _) = _
  unfold impl_findsFromError_scon
  simp only [wayRes, q0, q1, q2, cond_true, cond_false]
 ·cases hr)
noncomputable def impl_findsFromError_con2 : Con := fun args h => match args, h with
 | [.g a0 36, .i .i64 a1, .i .i64 a2, .l 5], [.gl 0 184 g_e0 101973, .gl 1 184 g_e1 93330, .gl 3 184 g_e2 112315, .gl 2 184 g_e3 124718, .gl 4 184 g_e4 94254, .sl (.came b_a3) n_a3 a3 50] => some (.a (.e 1), .none, (vf a0 n_a3 a3 && ((!(rl a0 a1 a2 true)))))
 | _, _ => none
theorem impl_findsFromError_ok2 : ConOkX (md F) prog 65 impl_findsFromError_con2 := ConOkX.of impl_findsFromError_sok (by
 intro ρ h w args vals r e hA hH hr
 unfold impl_findsFromError_con2 at hr
 split at hr
 ·rename_i a0 a1 a2 g_e0 g_e1 g_e2 g_e3 g_e4 b_a3 n_a3 a3
  obtain ⟨rfl, hg⟩ := Prod.mk.inj (Option.some.inj hr)
  obtain ⟨rfl, hg2⟩ := Prod.mk.inj hg
  simp only [Bool.and_eq_true, Bool.not_eq_true'] at hg2
  obtain ⟨q0, q1⟩ := hg2
  show wayRes (impl_findsFromError_scon _ _) = _
  unfold impl_findsFromError_scon
  simp only [wayRes, q0, q1, cond_true, cond_false]
 ·cases hr)
noncomputable def impl_findsFromError_con3 : Con := fun args h => match args, h with
 | [.g a0 36, .i .i64 a1, .i .i64 a2, .l 5], [.gl 0 184 g_e0 101973, .gl 1 184 g_e1 93330, .gl 3 184 g_e2 112315, .gl 2 184 g_e3 124718, .gl 4 184 g_e4 94254, .sl (.came b_a3) n_a3 a3 50] => some (.a (.e 0), .none, (!(vf a0 n_a3 a3)))
 | _, _ => none
theorem impl_findsFromError_ok3 : ConOkX (md F) prog 65 impl_findsFromError_con3 := ConOkX.of impl_findsFromError_sok (by
 intro ρ h w args vals r e hA hH hr
 unfold impl_findsFromError_con3 at hr
 split at hr
 ·rename_i a0 a1 a2 g_e0 g_e1 g_e2 g_e3 g_e4 b_a3 n_a3 a3
  obtain ⟨rfl, hg⟩ := Prod.mk.inj (Option.some.inj hr)
  obtain ⟨rfl, hg2⟩ := Prod.mk.inj hg
  simp only [Bool.and_eq_true, Bool.not_eq_true'] at hg2
  have q0 := hg2
  show wayRes (impl_findsFromError_scon _ _) = _
  unfold impl_findsFromError_scon
  simp only [wayRes, q0, cond_true, cond_false]
 ·cases hr)
noncomputable def w0impl_CanBeFound_G : Cons := (mkΓ [(54, conG impl_codeOf_con), (55, con impl_recordOf_con), (65, conG impl_findsFromError_con0), (66, con impl_record_has_con)])
theorem w0impl_CanBeFound_ans (N : Nat) (a0 : Array Value) (a1 : Int) (a2 : Int) (a3 : Array Value) (g_e0 : Addr) (g_e1 : Addr) (g_e2 : Addr) (g_e3 : Addr) (g_e4 : Addr) : ansV prog w0impl_CanBeFound_G N Tryd.f24 [] [.g a0 36, .i .i64 (a1), .i .i64 (a2), .g a3 50] [.gl 0 184 g_e0 101973, .gl 1 184 g_e1 93330, .gl 3 184 g_e2 112315, .gl 2 184 g_e3 124718, .gl 4 184 g_e4 94254] = (bif (vf a0 1 (spl (#[.int .i8 (0 : Int), .int .i8 (0 : Int)] : Array Value) 0 a3.toList) && (rl a0 a1 a2 true && (spec_l01Dry_v0 a1 a0))) then (some (.t [.b (false), .i .i64 (4 : Int)], .none, true))
  else (none)) := by kernel_rfl
noncomputable def w1impl_CanBeFound_G : Cons := (mkΓ [(54, conG impl_codeOf_con), (55, con impl_recordOf_con), (65, conG impl_findsFromError_con1), (66, con impl_record_has_con)])
theorem w1impl_CanBeFound_ans (N : Nat) (a0 : Array Value) (a1 : Int) (a2 : Int) (a3 : Array Value) (g_e0 : Addr) (g_e1 : Addr) (g_e2 : Addr) (g_e3 : Addr) (g_e4 : Addr) : ansV prog w1impl_CanBeFound_G N Tryd.f24 [] [.g a0 36, .i .i64 (a1), .i .i64 (a2), .g a3 50] [.gl 0 184 g_e0 101973, .gl 1 184 g_e1 93330, .gl 3 184 g_e2 112315, .gl 2 184 g_e3 124718, .gl 4 184 g_e4 94254] = (bif (vf a0 1 (spl (#[.int .i8 (0 : Int), .int .i8 (0 : Int)] : Array Value) 0 a3.toList) && (rl a0 a1 a2 true && ((!(spec_l01Dry_v0 a1 a0))))) then (bif (okS a0 && ((spec_l01Is_v0 a1 a0 && spec_l00In_v0 a2 0 1) && spec_l00In_v0 (i64.wrap (num a3 1)) 0 14)) then (bif (impl_record_has_gd a3 none (((i64.wrap (num a3 1)).toNat + 1)) (recC prog a0 a1 a2 (i64.wrap (num a3 1)).toNat)) then (some (.t [.b ((impl_record_has_v0 a3 none (((i64.wrap (num a3 1)).toNat + 1)) (recC prog a0 a1 a2 (i64.wrap (num a3 1)).toNat))), .i .i64 (0 : Int)], .none, true))
    else (none))
   else (none))
  else (none)) := by kernel_rfl
noncomputable def w2impl_CanBeFound_G : Cons := (mkΓ [(54, conG impl_codeOf_con), (55, con impl_recordOf_con), (65, conG impl_findsFromError_con2), (66, con impl_record_has_con)])
theorem w2impl_CanBeFound_ans (N : Nat) (a0 : Array Value) (a1 : Int) (a2 : Int) (a3 : Array Value) (g_e0 : Addr) (g_e1 : Addr) (g_e2 : Addr) (g_e3 : Addr) (g_e4 : Addr) : ansV prog w2impl_CanBeFound_G N Tryd.f24 [] [.g a0 36, .i .i64 (a1), .i .i64 (a2), .g a3 50] [.gl 0 184 g_e0 101973, .gl 1 184 g_e1 93330, .gl 3 184 g_e2 112315, .gl 2 184 g_e3 124718, .gl 4 184 g_e4 94254] = (bif (vf a0 1 (spl (#[.int .i8 (0 : Int), .int .i8 (0 : Int)] : Array Value) 0 a3.toList) && ((!(rl a0 a1 a2 true)))) then (some (.t [.b (false), .i .i64 (2 : Int)], .none, true))
  else (none)) := by kernel_rfl
noncomputable def w3impl_CanBeFound_G : Cons := (mkΓ [(54, conG impl_codeOf_con), (55, con impl_recordOf_con), (65, conG impl_findsFromError_con3), (66, con impl_record_has_con)])
theorem w3impl_CanBeFound_ans (N : Nat) (a0 : Array Value) (a1 : Int) (a2 : Int) (a3 : Array Value) (g_e0 : Addr) (g_e1 : Addr) (g_e2 : Addr) (g_e3 : Addr) (g_e4 : Addr) : ansV prog w3impl_CanBeFound_G N Tryd.f24 [] [.g a0 36, .i .i64 (a1), .i .i64 (a2), .g a3 50] [.gl 0 184 g_e0 101973, .gl 1 184 g_e1 93330, .gl 3 184 g_e2 112315, .gl 2 184 g_e3 124718, .gl 4 184 g_e4 94254] = (bif (!(vf a0 1 (spl (#[.int .i8 (0 : Int), .int .i8 (0 : Int)] : Array Value) 0 a3.toList))) then (some (.t [.b (false), .i .i64 (1 : Int)], .none, true))
  else (none)) := by kernel_rfl
theorem impl_CanBeFound_main0 (a0 : Array Value) (a1 : Int) (a2 : Int) (a3 : Array Value) (g_e0 : Addr) (g_e1 : Addr) (g_e2 : Addr) (g_e3 : Addr) (g_e4 : Addr) (h_a0 : WT prog 36 a0) (h_a1 : i64.min ≤ a1 ∧ a1 ≤ i64.max) (h_a2 : i64.min ≤ a2 ∧ a2 ≤ i64.max) (h_a3 : WT prog 50 a3) (hc0 : (vf a0 1 a3) = false) (hg : (true) = true) : ansV prog w3impl_CanBeFound_G 1000 Tryd.f24 [] [.g a0 36, .i .i64 (a1), .i .i64 (a2), .g a3 50] [.gl 0 184 g_e0 101973, .gl 1 184 g_e1 93330, .gl 3 184 g_e2 112315, .gl 2 184 g_e3 124718, .gl 4 184 g_e4 94254] = some (.t [.b (false), .i .i64 (1 : Int)], .none, true) := by
 refine (w3impl_CanBeFound_ans 1000 a0 a1 a2 a3 g_e0 g_e1 g_e2 g_e3 g_e4).trans ?_
 obtain ⟨z, e0, e1, e2, e3⟩ := find_nums h_a3
 rw [one_find z]
 simp only [hc0, Bool.and_self, Bool.and_true, Bool.true_and, Bool.and_false, Bool.false_and, Bool.not_false, Bool.not_true, cond_true, cond_false]
theorem impl_CanBeFound_main1 (a0 : Array Value) (a1 : Int) (a2 : Int) (a3 : Array Value) (g_e0 : Addr) (g_e1 : Addr) (g_e2 : Addr) (g_e3 : Addr) (g_e4 : Addr) (h_a0 : WT prog 36 a0) (h_a1 : i64.min ≤ a1 ∧ a1 ≤ i64.max) (h_a2 : i64.min ≤ a2 ∧ a2 ≤ i64.max) (h_a3 : WT prog 50 a3) (hc0 : (vf a0 1 a3) = true) (hc1 : (rl a0 a1 a2 true) = false) (hg : (true) = true) : ansV prog w2impl_CanBeFound_G 1000 Tryd.f24 [] [.g a0 36, .i .i64 (a1), .i .i64 (a2), .g a3 50] [.gl 0 184 g_e0 101973, .gl 1 184 g_e1 93330, .gl 3 184 g_e2 112315, .gl 2 184 g_e3 124718, .gl 4 184 g_e4 94254] = some (.t [.b (false), .i .i64 (2 : Int)], .none, true) := by
 refine (w2impl_CanBeFound_ans 1000 a0 a1 a2 a3 g_e0 g_e1 g_e2 g_e3 g_e4).trans ?_
 obtain ⟨z, e0, e1, e2, e3⟩ := find_nums h_a3
 rw [one_find z]
 simp only [hc0, hc1, Bool.and_self, Bool.and_true, Bool.true_and, Bool.and_false, Bool.false_and, Bool.not_false, Bool.not_true, cond_true, cond_false]
theorem impl_CanBeFound_main2 (a0 : Array Value) (a1 : Int) (a2 : Int) (a3 : Array Value) (g_e0 : Addr) (g_e1 : Addr) (g_e2 : Addr) (g_e3 : Addr) (g_e4 : Addr) (h_a0 : WT prog 36 a0) (h_a1 : i64.min ≤ a1 ∧ a1 ≤ i64.max) (h_a2 : i64.min ≤ a2 ∧ a2 ≤ i64.max) (h_a3 : WT prog 50 a3) (hc0 : (vf a0 1 a3) = true) (hc1 : (rl a0 a1 a2 true) = true) (hc2 : (spec_l01Dry_v0 a1 a0) = false) (hg : (true) = true) : ansV prog w1impl_CanBeFound_G 1000 Tryd.f24 [] [.g a0 36, .i .i64 (a1), .i .i64 (a2), .g a3 50] [.gl 0 184 g_e0 101973, .gl 1 184 g_e1 93330, .gl 3 184 g_e2 112315, .gl 2 184 g_e3 124718, .gl 4 184 g_e4 94254] = some (.t [.b ((canB prog a0 a1 a2 (num a3 0) (num a3 1))), .i .i64 (0 : Int)], .none, true) := by
 refine (w1impl_CanBeFound_ans 1000 a0 a1 a2 a3 g_e0 g_e1 g_e2 g_e3 g_e4).trans ?_
 obtain ⟨z, e0, e1, e2, e3⟩ := find_nums h_a3
 rw [one_find z]
 simp only [hc0, hc1, hc2, Bool.and_self, Bool.and_true, Bool.true_and, Bool.and_false, Bool.false_and, Bool.not_false, Bool.not_true, cond_true, cond_false]
 obtain ⟨q0, _, hf⟩ := vf_of hc0
 obtain ⟨f1, f2, f3⟩ := fnd_of (hf 0 (by omega))
 rw [e2] at f1
 rw [e3] at f3
 obtain ⟨q1, q2, _⟩ := rl_of hc1
 have r3 := in_range f3
 have r4 := is_range f1
 have g1 : decide (num a3 1 < (((num a3 1).toNat : Nat) : Int) + 1) = true := decide_eq_true (by omega)
 have g1' : decide (num a3 1 < (((num a3 1).toNat + 1 : Nat) : Int)) = true := decide_eq_true (by omega)
 have g2 : decide (0 ≤ num a3 0) = true := decide_eq_true r4.1
 have g3 : decide (num a3 0 < 36) = true := decide_eq_true (by omega)
 obtain ⟨m, hm⟩ := Int.eq_ofNat_of_zero_le (show 0 ≤ num a3 1 by omega)
 unfold canB
 simp only [q0, q1, q2, f3, in_of (x := num a3 1) (a := 0) (b := 14) (by omega), e1, g1, g1', g2, g3, impl_record_has_gd, impl_record_has_v0, Bool.and_self, cond_true, recC_at a0 a1 a2 (num a3 1).toNat (num a3 1).toNat (Nat.le_refl _), recC_at a0 a1 a2 (num a3 1).toNat ((num a3 1).toNat - 1) (by omega)]
theorem impl_CanBeFound_main3 (a0 : Array Value) (a1 : Int) (a2 : Int) (a3 : Array Value) (g_e0 : Addr) (g_e1 : Addr) (g_e2 : Addr) (g_e3 : Addr) (g_e4 : Addr) (h_a0 : WT prog 36 a0) (h_a1 : i64.min ≤ a1 ∧ a1 ≤ i64.max) (h_a2 : i64.min ≤ a2 ∧ a2 ≤ i64.max) (h_a3 : WT prog 50 a3) (hc0 : (vf a0 1 a3) = true) (hc1 : (rl a0 a1 a2 true) = true) (hc2 : (spec_l01Dry_v0 a1 a0) = true) (hg : (true) = true) : ansV prog w0impl_CanBeFound_G 1000 Tryd.f24 [] [.g a0 36, .i .i64 (a1), .i .i64 (a2), .g a3 50] [.gl 0 184 g_e0 101973, .gl 1 184 g_e1 93330, .gl 3 184 g_e2 112315, .gl 2 184 g_e3 124718, .gl 4 184 g_e4 94254] = some (.t [.b (false), .i .i64 (4 : Int)], .none, true) := by
 refine (w0impl_CanBeFound_ans 1000 a0 a1 a2 a3 g_e0 g_e1 g_e2 g_e3 g_e4).trans ?_
 obtain ⟨z, e0, e1, e2, e3⟩ := find_nums h_a3
 rw [one_find z]
 simp only [hc0, hc1, hc2, Bool.and_self, Bool.and_true, Bool.true_and, Bool.and_false, Bool.false_and, Bool.not_false, Bool.not_true, cond_true, cond_false]
noncomputable def impl_CanBeFound_scon : SCon := fun args h => match args, h with
 | [.g a0 36, .i .i64 a1, .i .i64 a2, .g a3 50], [.gl 0 184 g_e0 101973, .gl 1 184 g_e1 93330, .gl 3 184 g_e2 112315, .gl 2 184 g_e3 124718, .gl 4 184 g_e4 94254] => .two (vf a0 1 a3) (.two (rl a0 a1 a2 true) (.two (spec_l01Dry_v0 a1 a0) (.one (some (.t [.b (false), .i .i64 (4 : Int)], .none, true))) (.one (some (.t [.b ((canB prog a0 a1 a2 (num a3 0) (num a3 1))), .i .i64 (0 : Int)], .none, true)))) (.one (some (.t [.b (false), .i .i64 (2 : Int)], .none, true)))) (.one (some (.t [.b (false), .i .i64 (1 : Int)], .none, true)))
 | _, _ => .one none
theorem impl_CanBeFound_enter : EntX prog 24 := entX_ok (fn := Tryd.f24) (by kernel_rfl) (by kernel_rfl) (by kernel_rfl)
theorem impl_CanBeFound_sok : ConOkX (md F) prog 24 (fun args h => wayRes (impl_CanBeFound_scon args h)) := by
 intro ρ h w args vals r e hn hr hA hH
 dsimp only at hr
 unfold impl_CanBeFound_scon at hr
 split at hr
 ·rename_i a0 a1 a2 a3 g_e0 g_e1 g_e2 g_e3 g_e4
  simp only [wayRes] at hr
  cases hc0 : (vf a0 1 a3)
  ·rw [hc0] at hr
   simp only [wayRes, cond_true, cond_false] at hr
   obtain ⟨rfl, hg⟩ := Prod.mk.inj (Option.some.inj hr)
   obtain ⟨rfl, hg2⟩ := Prod.mk.inj hg
   exact ((ansX_ok (N := 1000) (by kernel_rfl) (mkΓ_consX (conG_okX impl_codeOf_ok) impl_codeOf_enter (mkΓ_consX (con_okX impl_recordOf_ok) impl_recordOf_enter (mkΓ_consX (conG_okX impl_findsFromError_ok3) impl_findsFromError_enter (mkΓ_consX (con_okX impl_record_has_ok) impl_record_has_enter mkΓ_nilX)))) (fn := Tryd.f24) (by kernel_rfl) (by kernel_rfl) [])) ρ _ w _ vals _ _ hn ((impl_CanBeFound_main0 a0 a1 a2 a3 g_e0 g_e1 g_e2 g_e3 g_e4 (hA.wt 0 rfl) (hA.rng 1 rfl) (hA.rng 2 rfl) (hA.wt 3 rfl) hc0 hg2)) hA hH
  ·rw [hc0] at hr
   simp only [wayRes, cond_true, cond_false] at hr
   cases hc1 : (rl a0 a1 a2 true)
   ·rw [hc1] at hr
    simp only [wayRes, cond_true, cond_false] at hr
    obtain ⟨rfl, hg⟩ := Prod.mk.inj (Option.some.inj hr)
    obtain ⟨rfl, hg2⟩ := Prod.mk.inj hg
    exact ((ansX_ok (N := 1000) (by kernel_rfl) (mkΓ_consX (conG_okX impl_codeOf_ok) impl_codeOf_enter (mkΓ_consX (con_okX impl_recordOf_ok) impl_recordOf_enter (mkΓ_consX (conG_okX impl_findsFromError_ok2) impl_findsFromError_enter (mkΓ_consX (con_okX impl_record_has_ok) impl_record_has_enter mkΓ_nilX)))) (fn := Tryd.f24) (by kernel_rfl) (by kernel_rfl) [])) ρ _ w _ vals _ _ hn ((impl_CanBeFound_main1 a0 a1 a2 a3 g_e0 g_e1 g_e2 g_e3 g_e4 (hA.wt 0 rfl) (hA.rng 1 rfl) (hA.rng 2 rfl) (hA.wt 3 rfl) hc0 hc1 hg2)) hA hH
   ·rw [hc1] at hr
    simp only [wayRes, cond_true, cond_false] at hr
    cases hc2 : (spec_l01Dry_v0 a1 a0)
    ·rw [hc2] at hr
     simp only [wayRes, cond_true, cond_false] at hr
     obtain ⟨rfl, hg⟩ := Prod.mk.inj (Option.some.inj hr)
     obtain ⟨rfl, hg2⟩ := Prod.mk.inj hg
     exact ((ansX_ok (N := 1000) (by kernel_rfl) (mkΓ_consX (conG_okX impl_codeOf_ok) impl_codeOf_enter (mkΓ_consX (con_okX impl_recordOf_ok) impl_recordOf_enter (mkΓ_consX (conG_okX impl_findsFromError_ok1) impl_findsFromError_enter (mkΓ_consX (con_okX impl_record_has_ok) impl_record_has_enter mkΓ_nilX)))) (fn := Tryd.f24) (by kernel_rfl) (by kernel_rfl) [])) ρ _ w _ vals _ _ hn ((impl_CanBeFound_main2 a0 a1 a2 a3 g_e0 g_e1 g_e2 g_e3 g_e4 (hA.wt 0 rfl) (hA.rng 1 rfl) (hA.rng 2 rfl) (hA.wt 3 rfl) hc0 hc1 hc2 hg2)) hA hH
    ·rw [hc2] at hr
     simp only [wayRes, cond_true, cond_false] at hr
     obtain ⟨rfl, hg⟩ := Prod.mk.inj (Option.some.inj hr)
     obtain ⟨rfl, hg2⟩ := Prod.mk.inj hg
     exact ((ansX_ok (N := 1000) (by kernel_rfl) (mkΓ_consX (conG_okX impl_codeOf_ok) impl_codeOf_enter (mkΓ_consX (con_okX impl_recordOf_ok) impl_recordOf_enter (mkΓ_consX (conG_okX impl_findsFromError_ok0) impl_findsFromError_enter (mkΓ_consX (con_okX impl_record_has_ok) impl_record_has_enter mkΓ_nilX)))) (fn := Tryd.f24) (by kernel_rfl) (by kernel_rfl) [])) ρ _ w _ vals _ _ hn ((impl_CanBeFound_main3 a0 a1 a2 a3 g_e0 g_e1 g_e2 g_e3 g_e4 (hA.wt 0 rfl) (hA.rng 1 rfl) (hA.rng 2 rfl) (hA.wt 3 rfl) hc0 hc1 hc2 hg2)) hA hH
 ·simp only [wayRes] at hr
  cases hr
noncomputable def impl_CanBeFound_con : Con := fun args h => match args, h with
 | [.g a0 36, .i .i64 a1, .i .i64 a2, .g a3 50], [.gl 0 184 g_e0 101973, .gl 1 184 g_e1 93330, .gl 3 184 g_e2 112315, .gl 2 184 g_e3 124718, .gl 4 184 g_e4 94254] => some (.t [.b ((bif vf a0 1 a3 then (bif rl a0 a1 a2 true then (bif spec_l01Dry_v0 a1 a0 then false else (canB prog a0 a1 a2 (num a3 0) (num a3 1))) else false) else false)), .i .i64 (bif vf a0 1 a3 then (bif rl a0 a1 a2 true then (bif spec_l01Dry_v0 a1 a0 then (4 : Int) else (0 : Int)) else (2 : Int)) else (1 : Int))], .none, true)
 | _, _ => none
theorem impl_CanBeFound_ok : ConOkX (md F) prog 24 impl_CanBeFound_con := ConOkX.of impl_CanBeFound_sok (by
 intro ρ h w args vals r e hA hH hr
 unfold impl_CanBeFound_con at hr
 split at hr
 ·rename_i a0 a1 a2 a3 g_e0 g_e1 g_e2 g_e3 g_e4
  obtain ⟨rfl, hg⟩ := Prod.mk.inj (Option.some.inj hr)
  obtain ⟨rfl, hg2⟩ := Prod.mk.inj hg
  show wayRes (impl_CanBeFound_scon _ _) = _
  unfold impl_CanBeFound_scon
  simp only [wayRes]
  cases (vf a0 1 a3) <;> cases (rl a0 a1 a2 true) <;> cases (spec_l01Dry_v0 a1 a0) <;> simp only [cond_true, cond_false]
 ·cases hr)
noncomputable def spec_CanBeFound_G : Cons := (mkΓ [(63, con spec_l03Listed_con), (64, con spec_l03Can_con)])
theorem spec_CanBeFound_ans (N : Nat) (a0 : Array Value) (a1 : Int) (a2 : Int) (a3 : Array Value) : ansV prog spec_CanBeFound_G N Tryd.f22 [] [.g a0 36, .i .i64 (a1), .i .i64 (a2), .g a3 50] [] = (bif ((bif vf a0 1 (spl (#[.int .i8 (0 : Int), .int .i8 (0 : Int)] : Array Value) 0 a3.toList) then spec_l03From_v0 a1 a2 true a0 else 1) != (0 : Int)) then (some (.t [.b (false), .i .i64 (bif vf a0 1 (spl (#[.int .i8 (0 : Int), .int .i8 (0 : Int)] : Array Value) 0 a3.toList) then spec_l03From_v0 a1 a2 true a0 else 1)], .none, true))
  else (bif ((okS a0 && (spec_l01Is_v0 a1 a0 && spec_l00In_v0 a2 0 1)) && (spec_l00In_v0 (num a3 1) 1 14 && (decide (0 ≤ num a3 0) && decide (num a3 0 < 36)))) then (some (.t [.b ((canB prog a0 a1 a2 (num a3 0) (num a3 1))), .i .i64 (0 : Int)], .none, true))
   else (none))) := by kernel_rfl
theorem spec_CanBeFound_main (a0 : Array Value) (a1 : Int) (a2 : Int) (a3 : Array Value) (h_a0 : WT prog 36 a0) (h_a1 : i64.min ≤ a1 ∧ a1 ≤ i64.max) (h_a2 : i64.min ≤ a2 ∧ a2 ≤ i64.max) (h_a3 : WT prog 50 a3) (hg : (true) = true) : ansV prog spec_CanBeFound_G 1000 Tryd.f22 [] [.g a0 36, .i .i64 (a1), .i .i64 (a2), .g a3 50] [] = some (.t [.b ((bif vf a0 1 a3 then (bif rl a0 a1 a2 true then (bif spec_l01Dry_v0 a1 a0 then false else (canB prog a0 a1 a2 (num a3 0) (num a3 1))) else false) else false)), .i .i64 (bif vf a0 1 a3 then (bif rl a0 a1 a2 true then (bif spec_l01Dry_v0 a1 a0 then (4 : Int) else (0 : Int)) else (2 : Int)) else (1 : Int))], .none, true) := by
 obtain ⟨z, e0, e1, e2, e3⟩ := find_nums h_a3
 refine (spec_CanBeFound_ans 1000 a0 a1 a2 a3).trans ?_
 rw [one_find z, from_eq]
 cases hv : vf a0 1 a3 with
 | false => simp only [cond_true, cond_false, show ((1 : Int) != 0) = true from rfl, show ((2 : Int) != 0) = true from rfl, show ((4 : Int) != 0) = true from rfl, show ((0 : Int) != 0) = false from rfl]
 | true =>
  obtain ⟨q0, _, hf⟩ := vf_of hv
  obtain ⟨f1, f2, f3⟩ := fnd_of (hf 0 (by omega))
  rw [e2] at f1
  rw [e3] at f3
  have r4 := is_range f1
  cases hrl : rl a0 a1 a2 true with
  | false => simp only [q0, cond_true, cond_false, show ((1 : Int) != 0) = true from rfl, show ((2 : Int) != 0) = true from rfl, show ((4 : Int) != 0) = true from rfl, show ((0 : Int) != 0) = false from rfl]
  | true =>
   cases hdr : spec_l01Dry_v0 a1 a0 with
   | true => simp only [q0, cond_true, cond_false, show ((1 : Int) != 0) = true from rfl, show ((2 : Int) != 0) = true from rfl, show ((4 : Int) != 0) = true from rfl, show ((0 : Int) != 0) = false from rfl]
   | false =>
    obtain ⟨q1, q2, _⟩ := rl_of hrl
    simp only [q0, q1, q2, f3, decide_eq_true r4.1, decide_eq_true (show num a3 0 < 36 by omega), Bool.and_self, cond_true, cond_false, show ((1 : Int) != 0) = true from rfl, show ((2 : Int) != 0) = true from rfl, show ((4 : Int) != 0) = true from rfl, show ((0 : Int) != 0) = false from rfl]
noncomputable def spec_CanBeFound_con : Con := fun args h => match args, h with
 | [.g a0 36, .i .i64 a1, .i .i64 a2, .g a3 50], [] => some (.t [.b ((bif vf a0 1 a3 then (bif rl a0 a1 a2 true then (bif spec_l01Dry_v0 a1 a0 then false else (canB prog a0 a1 a2 (num a3 0) (num a3 1))) else false) else false)), .i .i64 (bif vf a0 1 a3 then (bif rl a0 a1 a2 true then (bif spec_l01Dry_v0 a1 a0 then (4 : Int) else (0 : Int)) else (2 : Int)) else (1 : Int))], .none, true)
 | _, _ => none
theorem spec_CanBeFound_enter : EntX prog 22 := entX_ok (fn := Tryd.f22) (by kernel_rfl) (by kernel_rfl) (by kernel_rfl)
theorem spec_CanBeFound_ok : ConOkX (md F) prog 22 spec_CanBeFound_con := (ansX_ok (N := 1000) (by kernel_rfl) (mkΓ_consX (con_okX spec_l03Listed_ok) spec_l03Listed_enter (mkΓ_consX (con_okX spec_l03Can_ok) spec_l03Can_enter mkΓ_nilX)) (fn := Tryd.f22) (by kernel_rfl) (by kernel_rfl) []).of (by
 intro ρ h w args vals r e hA hH hr
 unfold spec_CanBeFound_con at hr
 split at hr
 ·rename_i a0 a1 a2 a3
  obtain ⟨rfl, hg⟩ := Prod.mk.inj (Option.some.inj hr)
  obtain ⟨rfl, hg2⟩ := Prod.mk.inj hg
  exact spec_CanBeFound_main a0 a1 a2 a3 (hA.wt 0 rfl) (hA.rng 1 rfl) (hA.rng 2 rfl) (hA.wt 3 rfl) hg2
 ·cases hr)
end
end Go.Proofs.YtphmhgdedoeaeaaDoor
