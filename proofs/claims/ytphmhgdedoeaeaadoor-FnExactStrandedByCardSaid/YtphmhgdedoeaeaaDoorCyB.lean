/- What strands in an hour, and by an hour: both sides. -/
import Derived.Test.YtphmhgdedoeaeaaDoorProg
import Derived.Test.YtphmhgdedoeaeaaDoorCyR
namespace Go.Proofs.YtphmhgdedoeaeaaDoor
open Go.ChangeShapes Go.WideShapes Go.ChangeAt Go.RowKit Ve Vc
open Tryd (prog)
open IntKind (i64)
set_option linter.unusedVariables false
set_option linter.unusedSimpArgs false
set_option maxRecDepth 100000
noncomputable section
variable {F : Vc.Fd}
noncomputable def w0impl_StrandsIn_G : Cons := (mkΓ [(52, conG impl_releaseError_con0), (53, con impl_hasHour_con), (54, conG impl_codeOf_con), (55, con impl_recordOf_con), (56, con impl_record_since_con)])
theorem w0impl_StrandsIn_ans (N : Nat) (a0 : Array Value) (a1 : Int) (a2 : Int) (a3 : Int) (g_e0 : Addr) (g_e1 : Addr) (g_e2 : Addr) (g_e3 : Addr) (g_e4 : Addr) : ansV prog w0impl_StrandsIn_G N Tryd.f15 [] [.g a0 36, .i .i64 (a1), .i .i64 (a2), .i .i64 (a3)] [.gl 0 184 g_e0 101973, .gl 1 184 g_e1 93330, .gl 3 184 g_e2 112315, .gl 2 184 g_e3 124718, .gl 4 184 g_e4 94254] = (bif (okS a0 && (rl a0 a1 a2 (impl_hasHour_v0 a3) && (spec_l01Dry_v0 a1 a0))) then (some (.t [.g (zc prog 29) 29, .i .i64 (4 : Int)], .none, true))
  else (none)) := by kernel_rfl
noncomputable def w1impl_StrandsIn_G : Cons := (mkΓ [(52, conG impl_releaseError_con1), (53, con impl_hasHour_con), (54, conG impl_codeOf_con), (55, con impl_recordOf_con), (56, con impl_record_since_con)])
theorem w1impl_StrandsIn_ans (N : Nat) (a0 : Array Value) (a1 : Int) (a2 : Int) (a3 : Int) (g_e0 : Addr) (g_e1 : Addr) (g_e2 : Addr) (g_e3 : Addr) (g_e4 : Addr) : ansV prog w1impl_StrandsIn_G N Tryd.f15 [] [.g a0 36, .i .i64 (a1), .i .i64 (a2), .i .i64 (a3)] [.gl 0 184 g_e0 101973, .gl 1 184 g_e1 93330, .gl 3 184 g_e2 112315, .gl 2 184 g_e3 124718, .gl 4 184 g_e4 94254] = (bif (okS a0 && (rl a0 a1 a2 (impl_hasHour_v0 a3) && ((!(spec_l01Dry_v0 a1 a0))))) then (bif (okS a0 && ((spec_l01Is_v0 a1 a0 && spec_l00In_v0 a2 0 1) && spec_l00In_v0 a3 0 14)) then (bif ((decide (0 ≤ (i64.wrap (a3 - (1 : Int)))) && decide ((i64.wrap (a3 - (1 : Int))) ≤ a3)) && (decide (a3 ≤ (i64.wrap (a3 - (1 : Int))) + 14) && decide (a3 < (((a3.toNat + 1)) : Int)))) then (some (.t [.g (subV ((recC prog a0 a1 a2 a3.toNat).extract (a3.toNat * 36) (a3.toNat * 36 + 36)) ((recC prog a0 a1 a2 a3.toNat).extract ((i64.wrap (a3 - (1 : Int))).toNat * 36) ((i64.wrap (a3 - (1 : Int))).toNat * 36 + 36)) (12 ^ (a3 - (i64.wrap (a3 - (1 : Int)))).toNat)) 29, .i .i64 (0 : Int)], .none, true))
    else (none))
   else (none))
  else (none)) := by kernel_rfl
noncomputable def w2impl_StrandsIn_G : Cons := (mkΓ [(52, conG impl_releaseError_con2), (53, con impl_hasHour_con), (54, conG impl_codeOf_con), (55, con impl_recordOf_con), (56, con impl_record_since_con)])
theorem w2impl_StrandsIn_ans (N : Nat) (a0 : Array Value) (a1 : Int) (a2 : Int) (a3 : Int) (g_e0 : Addr) (g_e1 : Addr) (g_e2 : Addr) (g_e3 : Addr) (g_e4 : Addr) : ansV prog w2impl_StrandsIn_G N Tryd.f15 [] [.g a0 36, .i .i64 (a1), .i .i64 (a2), .i .i64 (a3)] [.gl 0 184 g_e0 101973, .gl 1 184 g_e1 93330, .gl 3 184 g_e2 112315, .gl 2 184 g_e3 124718, .gl 4 184 g_e4 94254] = (bif (okS a0 && ((!(rl a0 a1 a2 (impl_hasHour_v0 a3))))) then (some (.t [.g (zc prog 29) 29, .i .i64 (2 : Int)], .none, true))
  else (none)) := by kernel_rfl
noncomputable def w3impl_StrandsIn_G : Cons := (mkΓ [(52, conG impl_releaseError_con3), (53, con impl_hasHour_con), (54, conG impl_codeOf_con), (55, con impl_recordOf_con), (56, con impl_record_since_con)])
theorem w3impl_StrandsIn_ans (N : Nat) (a0 : Array Value) (a1 : Int) (a2 : Int) (a3 : Int) (g_e0 : Addr) (g_e1 : Addr) (g_e2 : Addr) (g_e3 : Addr) (g_e4 : Addr) : ansV prog w3impl_StrandsIn_G N Tryd.f15 [] [.g a0 36, .i .i64 (a1), .i .i64 (a2), .i .i64 (a3)] [.gl 0 184 g_e0 101973, .gl 1 184 g_e1 93330, .gl 3 184 g_e2 112315, .gl 2 184 g_e3 124718, .gl 4 184 g_e4 94254] = (bif (!(okS a0)) then (some (.t [.g (zc prog 29) 29, .i .i64 (1 : Int)], .none, true))
  else (none)) := by kernel_rfl
theorem impl_StrandsIn_main0 (a0 : Array Value) (a1 : Int) (a2 : Int) (a3 : Int) (g_e0 : Addr) (g_e1 : Addr) (g_e2 : Addr) (g_e3 : Addr) (g_e4 : Addr) (h_a0 : WT prog 36 a0) (h_a1 : i64.min ≤ a1 ∧ a1 ≤ i64.max) (h_a2 : i64.min ≤ a2 ∧ a2 ≤ i64.max) (h_a3 : i64.min ≤ a3 ∧ a3 ≤ i64.max) (hc0 : (okS a0) = false) (hg : (true) = true) : ansV prog w3impl_StrandsIn_G 1000 Tryd.f15 [] [.g a0 36, .i .i64 (a1), .i .i64 (a2), .i .i64 (a3)] [.gl 0 184 g_e0 101973, .gl 1 184 g_e1 93330, .gl 3 184 g_e2 112315, .gl 2 184 g_e3 124718, .gl 4 184 g_e4 94254] = some (.t [.g (zc prog 29) 29, .i .i64 (1 : Int)], .none, true) := by
 refine (w3impl_StrandsIn_ans 1000 a0 a1 a2 a3 g_e0 g_e1 g_e2 g_e3 g_e4).trans ?_
 try rw [hour_eq14]
 simp only [hc0, Bool.and_self, Bool.and_true, Bool.true_and, Bool.not_false, cond_true, cond_false]
theorem impl_StrandsIn_main1 (a0 : Array Value) (a1 : Int) (a2 : Int) (a3 : Int) (g_e0 : Addr) (g_e1 : Addr) (g_e2 : Addr) (g_e3 : Addr) (g_e4 : Addr) (h_a0 : WT prog 36 a0) (h_a1 : i64.min ≤ a1 ∧ a1 ≤ i64.max) (h_a2 : i64.min ≤ a2 ∧ a2 ≤ i64.max) (h_a3 : i64.min ≤ a3 ∧ a3 ≤ i64.max) (hc0 : (okS a0) = true) (hc1 : (rl a0 a1 a2 (spec_l00In_v0 a3 1 14)) = false) (hg : (true) = true) : ansV prog w2impl_StrandsIn_G 1000 Tryd.f15 [] [.g a0 36, .i .i64 (a1), .i .i64 (a2), .i .i64 (a3)] [.gl 0 184 g_e0 101973, .gl 1 184 g_e1 93330, .gl 3 184 g_e2 112315, .gl 2 184 g_e3 124718, .gl 4 184 g_e4 94254] = some (.t [.g (zc prog 29) 29, .i .i64 (2 : Int)], .none, true) := by
 refine (w2impl_StrandsIn_ans 1000 a0 a1 a2 a3 g_e0 g_e1 g_e2 g_e3 g_e4).trans ?_
 try rw [hour_eq14]
 simp only [hc0, hc1, Bool.and_self, Bool.and_true, Bool.true_and, Bool.not_false, cond_true, cond_false]
theorem impl_StrandsIn_main2 (a0 : Array Value) (a1 : Int) (a2 : Int) (a3 : Int) (g_e0 : Addr) (g_e1 : Addr) (g_e2 : Addr) (g_e3 : Addr) (g_e4 : Addr) (h_a0 : WT prog 36 a0) (h_a1 : i64.min ≤ a1 ∧ a1 ≤ i64.max) (h_a2 : i64.min ≤ a2 ∧ a2 ≤ i64.max) (h_a3 : i64.min ≤ a3 ∧ a3 ≤ i64.max) (hc0 : (okS a0) = true) (hc1 : (rl a0 a1 a2 (spec_l00In_v0 a3 1 14)) = true) (hc2 : (spec_l01Dry_v0 a1 a0) = false) (hg : (true) = true) : ansV prog w1impl_StrandsIn_G 1000 Tryd.f15 [] [.g a0 36, .i .i64 (a1), .i .i64 (a2), .i .i64 (a3)] [.gl 0 184 g_e0 101973, .gl 1 184 g_e1 93330, .gl 3 184 g_e2 112315, .gl 2 184 g_e3 124718, .gl 4 184 g_e4 94254] = some (.t [.g (subV (byV prog a0 a1 a2 a3.toNat) (byV prog a0 a1 a2 (a3.toNat - 1)) 12) 29, .i .i64 (0 : Int)], .none, true) := by
 refine (w1impl_StrandsIn_ans 1000 a0 a1 a2 a3 g_e0 g_e1 g_e2 g_e3 g_e4).trans ?_
 try rw [hour_eq14]
 simp only [hc0, hc1, hc2, Bool.and_self, Bool.and_true, Bool.true_and, Bool.not_false, cond_true, cond_false]
 obtain ⟨q1, q2, q3⟩ := rl_of hc1
 have r3 := in_range q3
 obtain ⟨m, rfl⟩ := Int.eq_ofNat_of_zero_le (show 0 ≤ a3 by omega)
 have e1 : i64.wrap ((m : Int) - 1) = ((m - 1 : Nat) : Int) := by rw [w64 (by omega)]; omega
 have g1 : decide (0 ≤ (m : Int)) = true := decide_eq_true (by omega)
 have g2 : decide ((m : Int) < (m : Int) + 1) = true := decide_eq_true (by omega)
 have g3 : decide (0 ≤ ((m - 1 : Nat) : Int)) = true := decide_eq_true (by omega)
 have g4 : decide (((m - 1 : Nat) : Int) ≤ (m : Int)) = true := decide_eq_true (by omega)
 have g5 : decide ((m : Int) ≤ ((m - 1 : Nat) : Int) + 14) = true := decide_eq_true (by omega)
 have g6 : ((m : Int) - ((m - 1 : Nat) : Int)).toNat = 1 := by omega
 have g7 : (12 : Int) ^ 1 = 12 := by decide
 simp only [q1, q2, in_of (x := (m : Int)) (a := 0) (b := 14) (by omega), e1, g1, g2, g3, g4, g5, g6, g7, cond_true, cond_false, Bool.and_self, Int.toNat_natCast, recC_at a0 a1 a2 m m (Nat.le_refl _), recC_at a0 a1 a2 m (m - 1) (by omega)]
theorem impl_StrandsIn_main3 (a0 : Array Value) (a1 : Int) (a2 : Int) (a3 : Int) (g_e0 : Addr) (g_e1 : Addr) (g_e2 : Addr) (g_e3 : Addr) (g_e4 : Addr) (h_a0 : WT prog 36 a0) (h_a1 : i64.min ≤ a1 ∧ a1 ≤ i64.max) (h_a2 : i64.min ≤ a2 ∧ a2 ≤ i64.max) (h_a3 : i64.min ≤ a3 ∧ a3 ≤ i64.max) (hc0 : (okS a0) = true) (hc1 : (rl a0 a1 a2 (spec_l00In_v0 a3 1 14)) = true) (hc2 : (spec_l01Dry_v0 a1 a0) = true) (hg : (true) = true) : ansV prog w0impl_StrandsIn_G 1000 Tryd.f15 [] [.g a0 36, .i .i64 (a1), .i .i64 (a2), .i .i64 (a3)] [.gl 0 184 g_e0 101973, .gl 1 184 g_e1 93330, .gl 3 184 g_e2 112315, .gl 2 184 g_e3 124718, .gl 4 184 g_e4 94254] = some (.t [.g (zc prog 29) 29, .i .i64 (4 : Int)], .none, true) := by
 refine (w0impl_StrandsIn_ans 1000 a0 a1 a2 a3 g_e0 g_e1 g_e2 g_e3 g_e4).trans ?_
 try rw [hour_eq14]
 simp only [hc0, hc1, hc2, Bool.and_self, Bool.and_true, Bool.true_and, Bool.not_false, cond_true, cond_false]
noncomputable def impl_StrandsIn_scon : SCon := fun args h => match args, h with
 | [.g a0 36, .i .i64 a1, .i .i64 a2, .i .i64 a3], [.gl 0 184 g_e0 101973, .gl 1 184 g_e1 93330, .gl 3 184 g_e2 112315, .gl 2 184 g_e3 124718, .gl 4 184 g_e4 94254] => .two (okS a0) (.two (rl a0 a1 a2 (spec_l00In_v0 a3 1 14)) (.two (spec_l01Dry_v0 a1 a0) (.one (some (.t [.g (zc prog 29) 29, .i .i64 (4 : Int)], .none, true))) (.one (some (.t [.g (subV (byV prog a0 a1 a2 a3.toNat) (byV prog a0 a1 a2 (a3.toNat - 1)) 12) 29, .i .i64 (0 : Int)], .none, true)))) (.one (some (.t [.g (zc prog 29) 29, .i .i64 (2 : Int)], .none, true)))) (.one (some (.t [.g (zc prog 29) 29, .i .i64 (1 : Int)], .none, true)))
 | _, _ => .one none
theorem impl_StrandsIn_enter : EntX prog 15 := entX_ok (fn := Tryd.f15) (by kernel_rfl) (by kernel_rfl) (by kernel_rfl)
theorem impl_StrandsIn_sok : ConOkX (md F) prog 15 (fun args h => wayRes (impl_StrandsIn_scon args h)) := by
 intro ρ h w args vals r e hn hr hA hH
 dsimp only at hr
 unfold impl_StrandsIn_scon at hr
 split at hr
 ·rename_i a0 a1 a2 a3 g_e0 g_e1 g_e2 g_e3 g_e4
  simp only [wayRes] at hr
  cases hc0 : (okS a0)
  ·rw [hc0] at hr
   simp only [wayRes, cond_true, cond_false] at hr
   obtain ⟨rfl, hg⟩ := Prod.mk.inj (Option.some.inj hr)
   obtain ⟨rfl, hg2⟩ := Prod.mk.inj hg
   exact ((ansX_ok (N := 1000) (by kernel_rfl) (mkΓ_consX (conG_okX impl_releaseError_ok3) impl_releaseError_enter (mkΓ_consX (con_okX impl_hasHour_ok) impl_hasHour_enter (mkΓ_consX (conG_okX impl_codeOf_ok) impl_codeOf_enter (mkΓ_consX (con_okX impl_recordOf_ok) impl_recordOf_enter (mkΓ_consX (con_okX impl_record_since_ok) impl_record_since_enter mkΓ_nilX))))) (fn := Tryd.f15) (by kernel_rfl) (by kernel_rfl) [])) ρ _ w _ vals _ _ hn ((impl_StrandsIn_main0 a0 a1 a2 a3 g_e0 g_e1 g_e2 g_e3 g_e4 (hA.wt 0 rfl) (hA.rng 1 rfl) (hA.rng 2 rfl) (hA.rng 3 rfl) hc0 hg2)) hA hH
  ·rw [hc0] at hr
   simp only [wayRes, cond_true, cond_false] at hr
   cases hc1 : (rl a0 a1 a2 (spec_l00In_v0 a3 1 14))
   ·rw [hc1] at hr
    simp only [wayRes, cond_true, cond_false] at hr
    obtain ⟨rfl, hg⟩ := Prod.mk.inj (Option.some.inj hr)
    obtain ⟨rfl, hg2⟩ := Prod.mk.inj hg
    exact ((ansX_ok (N := 1000) (by kernel_rfl) (mkΓ_consX (conG_okX impl_releaseError_ok2) impl_releaseError_enter (mkΓ_consX (con_okX impl_hasHour_ok) impl_hasHour_enter (mkΓ_consX (conG_okX impl_codeOf_ok) impl_codeOf_enter (mkΓ_consX (con_okX impl_recordOf_ok) impl_recordOf_enter (mkΓ_consX (con_okX impl_record_since_ok) impl_record_since_enter mkΓ_nilX))))) (fn := Tryd.f15) (by kernel_rfl) (by kernel_rfl) [])) ρ _ w _ vals _ _ hn ((impl_StrandsIn_main1 a0 a1 a2 a3 g_e0 g_e1 g_e2 g_e3 g_e4 (hA.wt 0 rfl) (hA.rng 1 rfl) (hA.rng 2 rfl) (hA.rng 3 rfl) hc0 hc1 hg2)) hA hH
   ·rw [hc1] at hr
    simp only [wayRes, cond_true, cond_false] at hr
    cases hc2 : (spec_l01Dry_v0 a1 a0)
    ·rw [hc2] at hr
     simp only [wayRes, cond_true, cond_false] at hr
     obtain ⟨rfl, hg⟩ := Prod.mk.inj (Option.some.inj hr)
     obtain ⟨rfl, hg2⟩ := Prod.mk.inj hg
     exact ((ansX_ok (N := 1000) (by kernel_rfl) (mkΓ_consX (conG_okX impl_releaseError_ok1) impl_releaseError_enter (mkΓ_consX (con_okX impl_hasHour_ok) impl_hasHour_enter (mkΓ_consX (conG_okX impl_codeOf_ok) impl_codeOf_enter (mkΓ_consX (con_okX impl_recordOf_ok) impl_recordOf_enter (mkΓ_consX (con_okX impl_record_since_ok) impl_record_since_enter mkΓ_nilX))))) (fn := Tryd.f15) (by kernel_rfl) (by kernel_rfl) [])) ρ _ w _ vals _ _ hn ((impl_StrandsIn_main2 a0 a1 a2 a3 g_e0 g_e1 g_e2 g_e3 g_e4 (hA.wt 0 rfl) (hA.rng 1 rfl) (hA.rng 2 rfl) (hA.rng 3 rfl) hc0 hc1 hc2 hg2)) hA hH
    ·rw [hc2] at hr
     simp only [wayRes, cond_true, cond_false] at hr
     obtain ⟨rfl, hg⟩ := Prod.mk.inj (Option.some.inj hr)
     obtain ⟨rfl, hg2⟩ := Prod.mk.inj hg
     exact ((ansX_ok (N := 1000) (by kernel_rfl) (mkΓ_consX (conG_okX impl_releaseError_ok0) impl_releaseError_enter (mkΓ_consX (con_okX impl_hasHour_ok) impl_hasHour_enter (mkΓ_consX (conG_okX impl_codeOf_ok) impl_codeOf_enter (mkΓ_consX (con_okX impl_recordOf_ok) impl_recordOf_enter (mkΓ_consX (con_okX impl_record_since_ok) impl_record_since_enter mkΓ_nilX))))) (fn := Tryd.f15) (by kernel_rfl) (by kernel_rfl) [])) ρ _ w _ vals _ _ hn ((impl_StrandsIn_main3 a0 a1 a2 a3 g_e0 g_e1 g_e2 g_e3 g_e4 (hA.wt 0 rfl) (hA.rng 1 rfl) (hA.rng 2 rfl) (hA.rng 3 rfl) hc0 hc1 hc2 hg2)) hA hH
 ·simp only [wayRes] at hr
  cases hr
noncomputable def impl_StrandsIn_con : Con := fun args h => match args, h with
 | [.g a0 36, .i .i64 a1, .i .i64 a2, .i .i64 a3], [.gl 0 184 g_e0 101973, .gl 1 184 g_e1 93330, .gl 3 184 g_e2 112315, .gl 2 184 g_e3 124718, .gl 4 184 g_e4 94254] => some (.t [.g (bif okS a0 then (bif rl a0 a1 a2 (spec_l00In_v0 a3 1 14) then (bif spec_l01Dry_v0 a1 a0 then (zc prog 29) else (subV (byV prog a0 a1 a2 a3.toNat) (byV prog a0 a1 a2 (a3.toNat - 1)) 12)) else (zc prog 29)) else (zc prog 29)) 29, .i .i64 (bif okS a0 then (bif rl a0 a1 a2 (spec_l00In_v0 a3 1 14) then (bif spec_l01Dry_v0 a1 a0 then (4 : Int) else (0 : Int)) else (2 : Int)) else (1 : Int))], .none, true)
 | _, _ => none
theorem impl_StrandsIn_ok : ConOkX (md F) prog 15 impl_StrandsIn_con := ConOkX.of impl_StrandsIn_sok (by
 intro ρ h w args vals r e hA hH hr
 unfold impl_StrandsIn_con at hr
 split at hr
 ·rename_i a0 a1 a2 a3 g_e0 g_e1 g_e2 g_e3 g_e4
  obtain ⟨rfl, hg⟩ := Prod.mk.inj (Option.some.inj hr)
  obtain ⟨rfl, hg2⟩ := Prod.mk.inj hg
  show wayRes (impl_StrandsIn_scon _ _) = _
  unfold impl_StrandsIn_scon
  simp only [wayRes]
  cases (okS a0) <;> cases (rl a0 a1 a2 (spec_l00In_v0 a3 1 14)) <;> cases (spec_l01Dry_v0 a1 a0) <;> simp only [cond_true, cond_false]
 ·cases hr)
noncomputable def spec_StrandsIn_G : Cons := (mkΓ [(48, con spec_l03From_con), (49, con spec_l03Hour_con), (50, con spec_l03In_con)])
theorem spec_StrandsIn_ans (N : Nat) (a0 : Array Value) (a1 : Int) (a2 : Int) (a3 : Int) : ansV prog spec_StrandsIn_G N Tryd.f13 [] [.g a0 36, .i .i64 (a1), .i .i64 (a2), .i .i64 (a3)] [] = (bif (spec_l03From_gd a1 a2 (spec_l00In_v0 a3 (1 : Int) (14 : Int)) a0) then (bif ((spec_l03From_v0 a1 a2 (spec_l00In_v0 a3 (1 : Int) (14 : Int)) a0) != (0 : Int)) then (some (.t [.g (zc prog 29) 29, .i .i64 (spec_l03From_v0 a1 a2 (spec_l00In_v0 a3 (1 : Int) (14 : Int)) a0)], .none, true))
   else (bif (okS a0 && ((spec_l01Is_v0 a1 a0 && spec_l00In_v0 a2 0 1) && spec_l00In_v0 a3 1 14)) then (some (.t [.g (subV (byV prog a0 a1 a2 a3.toNat) (byV prog a0 a1 a2 (a3.toNat - 1)) 12) 29, .i .i64 (0 : Int)], .none, true))
    else (none)))
  else (none)) := by kernel_rfl
theorem spec_StrandsIn_main (a0 : Array Value) (a1 : Int) (a2 : Int) (a3 : Int) (h_a0 : WT prog 36 a0) (h_a1 : i64.min ≤ a1 ∧ a1 ≤ i64.max) (h_a2 : i64.min ≤ a2 ∧ a2 ≤ i64.max) (h_a3 : i64.min ≤ a3 ∧ a3 ≤ i64.max) (hg : (true) = true) : ansV prog spec_StrandsIn_G 1000 Tryd.f13 [] [.g a0 36, .i .i64 (a1), .i .i64 (a2), .i .i64 (a3)] [] = some (.t [.g (bif okS a0 then (bif rl a0 a1 a2 (spec_l00In_v0 a3 1 14) then (bif spec_l01Dry_v0 a1 a0 then (zc prog 29) else (subV (byV prog a0 a1 a2 a3.toNat) (byV prog a0 a1 a2 (a3.toNat - 1)) 12)) else (zc prog 29)) else (zc prog 29)) 29, .i .i64 (bif okS a0 then (bif rl a0 a1 a2 (spec_l00In_v0 a3 1 14) then (bif spec_l01Dry_v0 a1 a0 then (4 : Int) else (0 : Int)) else (2 : Int)) else (1 : Int))], .none, true) := by
 refine (spec_StrandsIn_ans 1000 a0 a1 a2 a3).trans ?_
 rw [from_gd, from_eq]
 cases hok : okS a0 with
 | false => simp only [cond_true, cond_false, show ((1 : Int) != 0) = true from rfl, show ((2 : Int) != 0) = true from rfl, show ((4 : Int) != 0) = true from rfl, show ((0 : Int) != 0) = false from rfl]
 | true =>
  cases hrl : rl a0 a1 a2 (spec_l00In_v0 a3 1 14) with
  | false => simp only [cond_true, cond_false, show ((1 : Int) != 0) = true from rfl, show ((2 : Int) != 0) = true from rfl, show ((4 : Int) != 0) = true from rfl, show ((0 : Int) != 0) = false from rfl]
  | true =>
   cases hdr : spec_l01Dry_v0 a1 a0 with
   | true => simp only [cond_true, cond_false, show ((1 : Int) != 0) = true from rfl, show ((2 : Int) != 0) = true from rfl, show ((4 : Int) != 0) = true from rfl, show ((0 : Int) != 0) = false from rfl]
   | false =>
    obtain ⟨q1, q2, q3⟩ := rl_of hrl
    have r3 := in_range q3
    simp only [q1, q2, q3, in_of (x := a3) (a := 0) (b := 14) (by omega), cond_true, cond_false, Bool.and_self, show ((0 : Int) != 0) = false from rfl]
noncomputable def spec_StrandsIn_con : Con := fun args h => match args, h with
 | [.g a0 36, .i .i64 a1, .i .i64 a2, .i .i64 a3], [] => some (.t [.g (bif okS a0 then (bif rl a0 a1 a2 (spec_l00In_v0 a3 1 14) then (bif spec_l01Dry_v0 a1 a0 then (zc prog 29) else (subV (byV prog a0 a1 a2 a3.toNat) (byV prog a0 a1 a2 (a3.toNat - 1)) 12)) else (zc prog 29)) else (zc prog 29)) 29, .i .i64 (bif okS a0 then (bif rl a0 a1 a2 (spec_l00In_v0 a3 1 14) then (bif spec_l01Dry_v0 a1 a0 then (4 : Int) else (0 : Int)) else (2 : Int)) else (1 : Int))], .none, true)
 | _, _ => none
theorem spec_StrandsIn_enter : EntX prog 13 := entX_ok (fn := Tryd.f13) (by kernel_rfl) (by kernel_rfl) (by kernel_rfl)
theorem spec_StrandsIn_ok : ConOkX (md F) prog 13 spec_StrandsIn_con := (ansX_ok (N := 1000) (by kernel_rfl) (mkΓ_consX (con_okX spec_l03From_ok) spec_l03From_enter (mkΓ_consX (con_okX spec_l03Hour_ok) spec_l03Hour_enter (mkΓ_consX (con_okX spec_l03In_ok) spec_l03In_enter mkΓ_nilX))) (fn := Tryd.f13) (by kernel_rfl) (by kernel_rfl) []).of (by
 intro ρ h w args vals r e hA hH hr
 unfold spec_StrandsIn_con at hr
 split at hr
 ·rename_i a0 a1 a2 a3
  obtain ⟨rfl, hg⟩ := Prod.mk.inj (Option.some.inj hr)
  obtain ⟨rfl, hg2⟩ := Prod.mk.inj hg
  exact spec_StrandsIn_main a0 a1 a2 a3 (hA.wt 0 rfl) (hA.rng 1 rfl) (hA.rng 2 rfl) (hA.rng 3 rfl) hg2
 ·cases hr)
noncomputable def w0impl_StrandedBy_G : Cons := (mkΓ [(52, conG impl_releaseError_con0), (53, con impl_hasHour_con), (54, conG impl_codeOf_con), (55, con impl_recordOf_con)])
theorem w0impl_StrandedBy_ans (N : Nat) (a0 : Array Value) (a1 : Int) (a2 : Int) (a3 : Int) (g_e0 : Addr) (g_e1 : Addr) (g_e2 : Addr) (g_e3 : Addr) (g_e4 : Addr) : ansV prog w0impl_StrandedBy_G N Tryd.f18 [] [.g a0 36, .i .i64 (a1), .i .i64 (a2), .i .i64 (a3)] [.gl 0 184 g_e0 101973, .gl 1 184 g_e1 93330, .gl 3 184 g_e2 112315, .gl 2 184 g_e3 124718, .gl 4 184 g_e4 94254] = (bif (okS a0 && (rl a0 a1 a2 (impl_hasHour_v0 a3) && (spec_l01Dry_v0 a1 a0))) then (some (.t [.g (zc prog 29) 29, .i .i64 (4 : Int)], .none, true))
  else (none)) := by kernel_rfl
noncomputable def w1impl_StrandedBy_G : Cons := (mkΓ [(52, conG impl_releaseError_con1), (53, con impl_hasHour_con), (54, conG impl_codeOf_con), (55, con impl_recordOf_con)])
theorem w1impl_StrandedBy_ans (N : Nat) (a0 : Array Value) (a1 : Int) (a2 : Int) (a3 : Int) (g_e0 : Addr) (g_e1 : Addr) (g_e2 : Addr) (g_e3 : Addr) (g_e4 : Addr) : ansV prog w1impl_StrandedBy_G N Tryd.f18 [] [.g a0 36, .i .i64 (a1), .i .i64 (a2), .i .i64 (a3)] [.gl 0 184 g_e0 101973, .gl 1 184 g_e1 93330, .gl 3 184 g_e2 112315, .gl 2 184 g_e3 124718, .gl 4 184 g_e4 94254] = (bif (okS a0 && (rl a0 a1 a2 (impl_hasHour_v0 a3) && ((!(spec_l01Dry_v0 a1 a0))))) then (bif (okS a0 && ((spec_l01Is_v0 a1 a0 && spec_l00In_v0 a2 0 1) && spec_l00In_v0 a3 0 14)) then (bif (decide (0 ≤ a3) && decide (a3 < (((a3.toNat + 1)) : Int))) then (some (.t [.g ((recC prog a0 a1 a2 a3.toNat).extract ((a3).toNat * 36) (((a3).toNat * 36) + 36)) 29, .i .i64 (0 : Int)], .none, true))
    else (none))
   else (none))
  else (none)) := by kernel_rfl
noncomputable def w2impl_StrandedBy_G : Cons := (mkΓ [(52, conG impl_releaseError_con2), (53, con impl_hasHour_con), (54, conG impl_codeOf_con), (55, con impl_recordOf_con)])
theorem w2impl_StrandedBy_ans (N : Nat) (a0 : Array Value) (a1 : Int) (a2 : Int) (a3 : Int) (g_e0 : Addr) (g_e1 : Addr) (g_e2 : Addr) (g_e3 : Addr) (g_e4 : Addr) : ansV prog w2impl_StrandedBy_G N Tryd.f18 [] [.g a0 36, .i .i64 (a1), .i .i64 (a2), .i .i64 (a3)] [.gl 0 184 g_e0 101973, .gl 1 184 g_e1 93330, .gl 3 184 g_e2 112315, .gl 2 184 g_e3 124718, .gl 4 184 g_e4 94254] = (bif (okS a0 && ((!(rl a0 a1 a2 (impl_hasHour_v0 a3))))) then (some (.t [.g (zc prog 29) 29, .i .i64 (2 : Int)], .none, true))
  else (none)) := by kernel_rfl
noncomputable def w3impl_StrandedBy_G : Cons := (mkΓ [(52, conG impl_releaseError_con3), (53, con impl_hasHour_con), (54, conG impl_codeOf_con), (55, con impl_recordOf_con)])
theorem w3impl_StrandedBy_ans (N : Nat) (a0 : Array Value) (a1 : Int) (a2 : Int) (a3 : Int) (g_e0 : Addr) (g_e1 : Addr) (g_e2 : Addr) (g_e3 : Addr) (g_e4 : Addr) : ansV prog w3impl_StrandedBy_G N Tryd.f18 [] [.g a0 36, .i .i64 (a1), .i .i64 (a2), .i .i64 (a3)] [.gl 0 184 g_e0 101973, .gl 1 184 g_e1 93330, .gl 3 184 g_e2 112315, .gl 2 184 g_e3 124718, .gl 4 184 g_e4 94254] = (bif (!(okS a0)) then (some (.t [.g (zc prog 29) 29, .i .i64 (1 : Int)], .none, true))
  else (none)) := by kernel_rfl
theorem impl_StrandedBy_main0 (a0 : Array Value) (a1 : Int) (a2 : Int) (a3 : Int) (g_e0 : Addr) (g_e1 : Addr) (g_e2 : Addr) (g_e3 : Addr) (g_e4 : Addr) (h_a0 : WT prog 36 a0) (h_a1 : i64.min ≤ a1 ∧ a1 ≤ i64.max) (h_a2 : i64.min ≤ a2 ∧ a2 ≤ i64.max) (h_a3 : i64.min ≤ a3 ∧ a3 ≤ i64.max) (hc0 : (okS a0) = false) (hg : (true) = true) : ansV prog w3impl_StrandedBy_G 1000 Tryd.f18 [] [.g a0 36, .i .i64 (a1), .i .i64 (a2), .i .i64 (a3)] [.gl 0 184 g_e0 101973, .gl 1 184 g_e1 93330, .gl 3 184 g_e2 112315, .gl 2 184 g_e3 124718, .gl 4 184 g_e4 94254] = some (.t [.g (zc prog 29) 29, .i .i64 (1 : Int)], .none, true) := by
 refine (w3impl_StrandedBy_ans 1000 a0 a1 a2 a3 g_e0 g_e1 g_e2 g_e3 g_e4).trans ?_
 try rw [hour_eq14]
 simp only [hc0, Bool.and_self, Bool.and_true, Bool.true_and, Bool.not_false, cond_true, cond_false]
theorem impl_StrandedBy_main1 (a0 : Array Value) (a1 : Int) (a2 : Int) (a3 : Int) (g_e0 : Addr) (g_e1 : Addr) (g_e2 : Addr) (g_e3 : Addr) (g_e4 : Addr) (h_a0 : WT prog 36 a0) (h_a1 : i64.min ≤ a1 ∧ a1 ≤ i64.max) (h_a2 : i64.min ≤ a2 ∧ a2 ≤ i64.max) (h_a3 : i64.min ≤ a3 ∧ a3 ≤ i64.max) (hc0 : (okS a0) = true) (hc1 : (rl a0 a1 a2 (spec_l00In_v0 a3 1 14)) = false) (hg : (true) = true) : ansV prog w2impl_StrandedBy_G 1000 Tryd.f18 [] [.g a0 36, .i .i64 (a1), .i .i64 (a2), .i .i64 (a3)] [.gl 0 184 g_e0 101973, .gl 1 184 g_e1 93330, .gl 3 184 g_e2 112315, .gl 2 184 g_e3 124718, .gl 4 184 g_e4 94254] = some (.t [.g (zc prog 29) 29, .i .i64 (2 : Int)], .none, true) := by
 refine (w2impl_StrandedBy_ans 1000 a0 a1 a2 a3 g_e0 g_e1 g_e2 g_e3 g_e4).trans ?_
 try rw [hour_eq14]
 simp only [hc0, hc1, Bool.and_self, Bool.and_true, Bool.true_and, Bool.not_false, cond_true, cond_false]
theorem impl_StrandedBy_main2 (a0 : Array Value) (a1 : Int) (a2 : Int) (a3 : Int) (g_e0 : Addr) (g_e1 : Addr) (g_e2 : Addr) (g_e3 : Addr) (g_e4 : Addr) (h_a0 : WT prog 36 a0) (h_a1 : i64.min ≤ a1 ∧ a1 ≤ i64.max) (h_a2 : i64.min ≤ a2 ∧ a2 ≤ i64.max) (h_a3 : i64.min ≤ a3 ∧ a3 ≤ i64.max) (hc0 : (okS a0) = true) (hc1 : (rl a0 a1 a2 (spec_l00In_v0 a3 1 14)) = true) (hc2 : (spec_l01Dry_v0 a1 a0) = false) (hg : (true) = true) : ansV prog w1impl_StrandedBy_G 1000 Tryd.f18 [] [.g a0 36, .i .i64 (a1), .i .i64 (a2), .i .i64 (a3)] [.gl 0 184 g_e0 101973, .gl 1 184 g_e1 93330, .gl 3 184 g_e2 112315, .gl 2 184 g_e3 124718, .gl 4 184 g_e4 94254] = some (.t [.g (byV prog a0 a1 a2 a3.toNat) 29, .i .i64 (0 : Int)], .none, true) := by
 refine (w1impl_StrandedBy_ans 1000 a0 a1 a2 a3 g_e0 g_e1 g_e2 g_e3 g_e4).trans ?_
 try rw [hour_eq14]
 simp only [hc0, hc1, hc2, Bool.and_self, Bool.and_true, Bool.true_and, Bool.not_false, cond_true, cond_false]
 obtain ⟨q1, q2, q3⟩ := rl_of hc1
 have r3 := in_range q3
 obtain ⟨m, rfl⟩ := Int.eq_ofNat_of_zero_le (show 0 ≤ a3 by omega)
 have e1 : i64.wrap ((m : Int) - 1) = ((m - 1 : Nat) : Int) := by rw [w64 (by omega)]; omega
 have g1 : decide (0 ≤ (m : Int)) = true := decide_eq_true (by omega)
 have g2 : decide ((m : Int) < (m : Int) + 1) = true := decide_eq_true (by omega)
 have g3 : decide (0 ≤ ((m - 1 : Nat) : Int)) = true := decide_eq_true (by omega)
 have g4 : decide (((m - 1 : Nat) : Int) ≤ (m : Int)) = true := decide_eq_true (by omega)
 have g5 : decide ((m : Int) ≤ ((m - 1 : Nat) : Int) + 14) = true := decide_eq_true (by omega)
 have g6 : ((m : Int) - ((m - 1 : Nat) : Int)).toNat = 1 := by omega
 have g7 : (12 : Int) ^ 1 = 12 := by decide
 simp only [q1, q2, in_of (x := (m : Int)) (a := 0) (b := 14) (by omega), e1, g1, g2, g3, g4, g5, g6, g7, cond_true, cond_false, Bool.and_self, Int.toNat_natCast, recC_at a0 a1 a2 m m (Nat.le_refl _), recC_at a0 a1 a2 m (m - 1) (by omega)]
theorem impl_StrandedBy_main3 (a0 : Array Value) (a1 : Int) (a2 : Int) (a3 : Int) (g_e0 : Addr) (g_e1 : Addr) (g_e2 : Addr) (g_e3 : Addr) (g_e4 : Addr) (h_a0 : WT prog 36 a0) (h_a1 : i64.min ≤ a1 ∧ a1 ≤ i64.max) (h_a2 : i64.min ≤ a2 ∧ a2 ≤ i64.max) (h_a3 : i64.min ≤ a3 ∧ a3 ≤ i64.max) (hc0 : (okS a0) = true) (hc1 : (rl a0 a1 a2 (spec_l00In_v0 a3 1 14)) = true) (hc2 : (spec_l01Dry_v0 a1 a0) = true) (hg : (true) = true) : ansV prog w0impl_StrandedBy_G 1000 Tryd.f18 [] [.g a0 36, .i .i64 (a1), .i .i64 (a2), .i .i64 (a3)] [.gl 0 184 g_e0 101973, .gl 1 184 g_e1 93330, .gl 3 184 g_e2 112315, .gl 2 184 g_e3 124718, .gl 4 184 g_e4 94254] = some (.t [.g (zc prog 29) 29, .i .i64 (4 : Int)], .none, true) := by
 refine (w0impl_StrandedBy_ans 1000 a0 a1 a2 a3 g_e0 g_e1 g_e2 g_e3 g_e4).trans ?_
 try rw [hour_eq14]
 simp only [hc0, hc1, hc2, Bool.and_self, Bool.and_true, Bool.true_and, Bool.not_false, cond_true, cond_false]
noncomputable def impl_StrandedBy_scon : SCon := fun args h => match args, h with
 | [.g a0 36, .i .i64 a1, .i .i64 a2, .i .i64 a3], [.gl 0 184 g_e0 101973, .gl 1 184 g_e1 93330, .gl 3 184 g_e2 112315, .gl 2 184 g_e3 124718, .gl 4 184 g_e4 94254] => .two (okS a0) (.two (rl a0 a1 a2 (spec_l00In_v0 a3 1 14)) (.two (spec_l01Dry_v0 a1 a0) (.one (some (.t [.g (zc prog 29) 29, .i .i64 (4 : Int)], .none, true))) (.one (some (.t [.g (byV prog a0 a1 a2 a3.toNat) 29, .i .i64 (0 : Int)], .none, true)))) (.one (some (.t [.g (zc prog 29) 29, .i .i64 (2 : Int)], .none, true)))) (.one (some (.t [.g (zc prog 29) 29, .i .i64 (1 : Int)], .none, true)))
 | _, _ => .one none
theorem impl_StrandedBy_enter : EntX prog 18 := entX_ok (fn := Tryd.f18) (by kernel_rfl) (by kernel_rfl) (by kernel_rfl)
theorem impl_StrandedBy_sok : ConOkX (md F) prog 18 (fun args h => wayRes (impl_StrandedBy_scon args h)) := by
 intro ρ h w args vals r e hn hr hA hH
 dsimp only at hr
 unfold impl_StrandedBy_scon at hr
 split at hr
 ·rename_i a0 a1 a2 a3 g_e0 g_e1 g_e2 g_e3 g_e4
  simp only [wayRes] at hr
  cases hc0 : (okS a0)
  ·rw [hc0] at hr
   simp only [wayRes, cond_true, cond_false] at hr
   obtain ⟨rfl, hg⟩ := Prod.mk.inj (Option.some.inj hr)
   obtain ⟨rfl, hg2⟩ := Prod.mk.inj hg
   exact ((ansX_ok (N := 1000) (by kernel_rfl) (mkΓ_consX (conG_okX impl_releaseError_ok3) impl_releaseError_enter (mkΓ_consX (con_okX impl_hasHour_ok) impl_hasHour_enter (mkΓ_consX (conG_okX impl_codeOf_ok) impl_codeOf_enter (mkΓ_consX (con_okX impl_recordOf_ok) impl_recordOf_enter mkΓ_nilX)))) (fn := Tryd.f18) (by kernel_rfl) (by kernel_rfl) [])) ρ _ w _ vals _ _ hn ((impl_StrandedBy_main0 a0 a1 a2 a3 g_e0 g_e1 g_e2 g_e3 g_e4 (hA.wt 0 rfl) (hA.rng 1 rfl) (hA.rng 2 rfl) (hA.rng 3 rfl) hc0 hg2)) hA hH
  ·rw [hc0] at hr
   simp only [wayRes, cond_true, cond_false] at hr
   cases hc1 : (rl a0 a1 a2 (spec_l00In_v0 a3 1 14))
   ·rw [hc1] at hr
    simp only [wayRes, cond_true, cond_false] at hr
    obtain ⟨rfl, hg⟩ := Prod.mk.inj (Option.some.inj hr)
    obtain ⟨rfl, hg2⟩ := Prod.mk.inj hg
    exact ((ansX_ok (N := 1000) (by kernel_rfl) (mkΓ_consX (conG_okX impl_releaseError_ok2) impl_releaseError_enter (mkΓ_consX (con_okX impl_hasHour_ok) impl_hasHour_enter (mkΓ_consX (conG_okX impl_codeOf_ok) impl_codeOf_enter (mkΓ_consX (con_okX impl_recordOf_ok) impl_recordOf_enter mkΓ_nilX)))) (fn := Tryd.f18) (by kernel_rfl) (by kernel_rfl) [])) ρ _ w _ vals _ _ hn ((impl_StrandedBy_main1 a0 a1 a2 a3 g_e0 g_e1 g_e2 g_e3 g_e4 (hA.wt 0 rfl) (hA.rng 1 rfl) (hA.rng 2 rfl) (hA.rng 3 rfl) hc0 hc1 hg2)) hA hH
   ·rw [hc1] at hr
    simp only [wayRes, cond_true, cond_false] at hr
    cases hc2 : (spec_l01Dry_v0 a1 a0)
    ·rw [hc2] at hr
     simp only [wayRes, cond_true, cond_false] at hr
     obtain ⟨rfl, hg⟩ := Prod.mk.inj (Option.some.inj hr)
     obtain ⟨rfl, hg2⟩ := Prod.mk.inj hg
     exact ((ansX_ok (N := 1000) (by kernel_rfl) (mkΓ_consX (conG_okX impl_releaseError_ok1) impl_releaseError_enter (mkΓ_consX (con_okX impl_hasHour_ok) impl_hasHour_enter (mkΓ_consX (conG_okX impl_codeOf_ok) impl_codeOf_enter (mkΓ_consX (con_okX impl_recordOf_ok) impl_recordOf_enter mkΓ_nilX)))) (fn := Tryd.f18) (by kernel_rfl) (by kernel_rfl) [])) ρ _ w _ vals _ _ hn ((impl_StrandedBy_main2 a0 a1 a2 a3 g_e0 g_e1 g_e2 g_e3 g_e4 (hA.wt 0 rfl) (hA.rng 1 rfl) (hA.rng 2 rfl) (hA.rng 3 rfl) hc0 hc1 hc2 hg2)) hA hH
    ·rw [hc2] at hr
     simp only [wayRes, cond_true, cond_false] at hr
     obtain ⟨rfl, hg⟩ := Prod.mk.inj (Option.some.inj hr)
     obtain ⟨rfl, hg2⟩ := Prod.mk.inj hg
     exact ((ansX_ok (N := 1000) (by kernel_rfl) (mkΓ_consX (conG_okX impl_releaseError_ok0) impl_releaseError_enter (mkΓ_consX (con_okX impl_hasHour_ok) impl_hasHour_enter (mkΓ_consX (conG_okX impl_codeOf_ok) impl_codeOf_enter (mkΓ_consX (con_okX impl_recordOf_ok) impl_recordOf_enter mkΓ_nilX)))) (fn := Tryd.f18) (by kernel_rfl) (by kernel_rfl) [])) ρ _ w _ vals _ _ hn ((impl_StrandedBy_main3 a0 a1 a2 a3 g_e0 g_e1 g_e2 g_e3 g_e4 (hA.wt 0 rfl) (hA.rng 1 rfl) (hA.rng 2 rfl) (hA.rng 3 rfl) hc0 hc1 hc2 hg2)) hA hH
 ·simp only [wayRes] at hr
  cases hr
noncomputable def impl_StrandedBy_con : Con := fun args h => match args, h with
 | [.g a0 36, .i .i64 a1, .i .i64 a2, .i .i64 a3], [.gl 0 184 g_e0 101973, .gl 1 184 g_e1 93330, .gl 3 184 g_e2 112315, .gl 2 184 g_e3 124718, .gl 4 184 g_e4 94254] => some (.t [.g (bif okS a0 then (bif rl a0 a1 a2 (spec_l00In_v0 a3 1 14) then (bif spec_l01Dry_v0 a1 a0 then (zc prog 29) else (byV prog a0 a1 a2 a3.toNat)) else (zc prog 29)) else (zc prog 29)) 29, .i .i64 (bif okS a0 then (bif rl a0 a1 a2 (spec_l00In_v0 a3 1 14) then (bif spec_l01Dry_v0 a1 a0 then (4 : Int) else (0 : Int)) else (2 : Int)) else (1 : Int))], .none, true)
 | _, _ => none
theorem impl_StrandedBy_ok : ConOkX (md F) prog 18 impl_StrandedBy_con := ConOkX.of impl_StrandedBy_sok (by
 intro ρ h w args vals r e hA hH hr
 unfold impl_StrandedBy_con at hr
 split at hr
 ·rename_i a0 a1 a2 a3 g_e0 g_e1 g_e2 g_e3 g_e4
  obtain ⟨rfl, hg⟩ := Prod.mk.inj (Option.some.inj hr)
  obtain ⟨rfl, hg2⟩ := Prod.mk.inj hg
  show wayRes (impl_StrandedBy_scon _ _) = _
  unfold impl_StrandedBy_scon
  simp only [wayRes]
  cases (okS a0) <;> cases (rl a0 a1 a2 (spec_l00In_v0 a3 1 14)) <;> cases (spec_l01Dry_v0 a1 a0) <;> simp only [cond_true, cond_false]
 ·cases hr)
noncomputable def spec_StrandedBy_G : Cons := (mkΓ [(48, con spec_l03From_con), (49, con spec_l03Hour_con), (57, con spec_l03By_con)])
theorem spec_StrandedBy_ans (N : Nat) (a0 : Array Value) (a1 : Int) (a2 : Int) (a3 : Int) : ansV prog spec_StrandedBy_G N Tryd.f17 [] [.g a0 36, .i .i64 (a1), .i .i64 (a2), .i .i64 (a3)] [] = (bif (spec_l03From_gd a1 a2 (spec_l00In_v0 a3 (1 : Int) (14 : Int)) a0) then (bif ((spec_l03From_v0 a1 a2 (spec_l00In_v0 a3 (1 : Int) (14 : Int)) a0) != (0 : Int)) then (some (.t [.g (zc prog 29) 29, .i .i64 (spec_l03From_v0 a1 a2 (spec_l00In_v0 a3 (1 : Int) (14 : Int)) a0)], .none, true))
   else (bif (okS a0 && ((spec_l01Is_v0 a1 a0 && spec_l00In_v0 a2 0 1) && spec_l00In_v0 a3 0 14)) then (some (.t [.g (byV prog a0 a1 a2 a3.toNat) 29, .i .i64 (0 : Int)], .none, true))
    else (none)))
  else (none)) := by kernel_rfl
theorem spec_StrandedBy_main (a0 : Array Value) (a1 : Int) (a2 : Int) (a3 : Int) (h_a0 : WT prog 36 a0) (h_a1 : i64.min ≤ a1 ∧ a1 ≤ i64.max) (h_a2 : i64.min ≤ a2 ∧ a2 ≤ i64.max) (h_a3 : i64.min ≤ a3 ∧ a3 ≤ i64.max) (hg : (true) = true) : ansV prog spec_StrandedBy_G 1000 Tryd.f17 [] [.g a0 36, .i .i64 (a1), .i .i64 (a2), .i .i64 (a3)] [] = some (.t [.g (bif okS a0 then (bif rl a0 a1 a2 (spec_l00In_v0 a3 1 14) then (bif spec_l01Dry_v0 a1 a0 then (zc prog 29) else (byV prog a0 a1 a2 a3.toNat)) else (zc prog 29)) else (zc prog 29)) 29, .i .i64 (bif okS a0 then (bif rl a0 a1 a2 (spec_l00In_v0 a3 1 14) then (bif spec_l01Dry_v0 a1 a0 then (4 : Int) else (0 : Int)) else (2 : Int)) else (1 : Int))], .none, true) := by
 refine (spec_StrandedBy_ans 1000 a0 a1 a2 a3).trans ?_
 rw [from_gd, from_eq]
 cases hok : okS a0 with
 | false => simp only [cond_true, cond_false, show ((1 : Int) != 0) = true from rfl, show ((2 : Int) != 0) = true from rfl, show ((4 : Int) != 0) = true from rfl, show ((0 : Int) != 0) = false from rfl]
 | true =>
  cases hrl : rl a0 a1 a2 (spec_l00In_v0 a3 1 14) with
  | false => simp only [cond_true, cond_false, show ((1 : Int) != 0) = true from rfl, show ((2 : Int) != 0) = true from rfl, show ((4 : Int) != 0) = true from rfl, show ((0 : Int) != 0) = false from rfl]
  | true =>
   cases hdr : spec_l01Dry_v0 a1 a0 with
   | true => simp only [cond_true, cond_false, show ((1 : Int) != 0) = true from rfl, show ((2 : Int) != 0) = true from rfl, show ((4 : Int) != 0) = true from rfl, show ((0 : Int) != 0) = false from rfl]
   | false =>
    obtain ⟨q1, q2, q3⟩ := rl_of hrl
    have r3 := in_range q3
    simp only [q1, q2, q3, in_of (x := a3) (a := 0) (b := 14) (by omega), cond_true, cond_false, Bool.and_self, show ((0 : Int) != 0) = false from rfl]
noncomputable def spec_StrandedBy_con : Con := fun args h => match args, h with
 | [.g a0 36, .i .i64 a1, .i .i64 a2, .i .i64 a3], [] => some (.t [.g (bif okS a0 then (bif rl a0 a1 a2 (spec_l00In_v0 a3 1 14) then (bif spec_l01Dry_v0 a1 a0 then (zc prog 29) else (byV prog a0 a1 a2 a3.toNat)) else (zc prog 29)) else (zc prog 29)) 29, .i .i64 (bif okS a0 then (bif rl a0 a1 a2 (spec_l00In_v0 a3 1 14) then (bif spec_l01Dry_v0 a1 a0 then (4 : Int) else (0 : Int)) else (2 : Int)) else (1 : Int))], .none, true)
 | _, _ => none
theorem spec_StrandedBy_enter : EntX prog 17 := entX_ok (fn := Tryd.f17) (by kernel_rfl) (by kernel_rfl) (by kernel_rfl)
theorem spec_StrandedBy_ok : ConOkX (md F) prog 17 spec_StrandedBy_con := (ansX_ok (N := 1000) (by kernel_rfl) (mkΓ_consX (con_okX spec_l03From_ok) spec_l03From_enter (mkΓ_consX (con_okX spec_l03Hour_ok) spec_l03Hour_enter (mkΓ_consX (con_okX spec_l03By_ok) spec_l03By_enter mkΓ_nilX))) (fn := Tryd.f17) (by kernel_rfl) (by kernel_rfl) []).of (by
 intro ρ h w args vals r e hA hH hr
 unfold spec_StrandedBy_con at hr
 split at hr
 ·rename_i a0 a1 a2 a3
  obtain ⟨rfl, hg⟩ := Prod.mk.inj (Option.some.inj hr)
  obtain ⟨rfl, hg2⟩ := Prod.mk.inj hg
  exact spec_StrandedBy_main a0 a1 a2 a3 (hA.wt 0 rfl) (hA.rng 1 rfl) (hA.rng 2 rfl) (hA.rng 3 rfl) hg2
 ·cases hr)
end
end Go.Proofs.YtphmhgdedoeaeaaDoor
