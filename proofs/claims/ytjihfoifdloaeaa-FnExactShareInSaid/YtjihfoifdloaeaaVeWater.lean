/- The cells and the water of a sea as bits, for the symbolic run. -/
import Derived.Test.YtjihfoifdloaeaaBits
import Derived.Test.YtjihfoifdloaeaaWater
import Derived.Test.YtjihfoifdloaeaaVeSea
namespace Go.Proofs.Ytjihfoifdloaeaa
open Go.ChangeShapes Go.WideShapes Go.ChangeAt Go.RowKit Ve
set_option linter.unusedVariables false
set_option maxRecDepth 100000

noncomputable def cellsOf (S : Array Value) : Int := cellsUp (num S 0) (num S 1) 36
noncomputable def waterOf (S : Array Value) : Int := bits .andNot .u64 (cellsOf S) (num S 2)
theorem cellsOf_range (S : Array Value) : 0 ≤ cellsOf S ∧ cellsOf S ≤ 18446744073709551615 := by
  obtain ⟨n, h, hn, _⟩ := cellsUp_nat (num S 0) (num S 1) 36 (Nat.le_refl _)
  unfold cellsOf; rw [h]; omega
theorem waterOf_range (S : Array Value) (hl : (Lit.int .u64 (num S 2)).wf = true) : 0 ≤ waterOf S ∧ waterOf S ≤ 18446744073709551615 := by
  obtain ⟨n, h, hn, _⟩ := water_nat (wd := num S 0) (hi := num S 1) hl
  unfold waterOf cellsOf; rw [h]; omega

noncomputable def spec_l01Cells_con : Con := fun args h => match args, h with
  | [.w 0], [.row S 40] => some (.a (.i .u64 (cellsOf S)), .none, true)
  | _, _ => none
theorem spec_l01Cells_ok : ConOk Try.prog 60 spec_l01Cells_con := by
  intro ρ h w args vals r ef hr hA hH
  unfold spec_l01Cells_con at hr
  split at hr
  · rename_i S
    obtain ⟨rfl, hr2⟩ := Prod.mk.inj (Option.some.inj hr)
    obtain ⟨rfl, _⟩ := Prod.mk.inj hr2
    match vals, hA with
    | [v], hA =>
      obtain ⟨rfl, _⟩ := hA.2 0 _ v rfl rfl
      have hB := hH.is 0 _ rfl
      obtain ⟨e, hS⟩ := sea_of_wt lay_sea hB.2
      have q0 := hB.1
      rw [e] at q0
      refine (spec_l01Cells _ _ (0, 0) _ _ _ _ w q0 hS.wide hS.high).mono fun _ w' h => ?_
      obtain ⟨h1, rfl⟩ := h
      exact ⟨_, h1, ⟨rfl, (cellsOf_range S)⟩, Kept.refl _ _⟩
  · cases hr
theorem spec_l01Cells_enter : ∀ args w, (callFunc 60 args).run Try.prog w = .ok (.enter 60 args) w := enter_ok (fn := Try.f60) (by kernel_rfl) (by kernel_rfl) (by kernel_rfl)

noncomputable def impl_waterBits_con : Con := fun args h => match args, h with
  | [.g S 40], [] => some (.a (.i .u64 (waterOf S)), .none, okS S)
  | _, _ => none
theorem impl_waterBits_ok : ConOk Try.prog 69 impl_waterBits_con := by
  intro ρ h w args vals r ef hr hA hH
  unfold impl_waterBits_con at hr
  split at hr
  · rename_i S
    obtain ⟨rfl, hr2⟩ := Prod.mk.inj (Option.some.inj hr)
    obtain ⟨rfl, hg⟩ := Prod.mk.inj hr2
    match vals, hA with
    | [v], hA =>
      obtain ⟨rfl, hw⟩ := hA.2 0 _ v rfl rfl
      obtain ⟨e, hS⟩ := sea_of_wt lay_sea hw
      have hk := impl_waterBits _ _ _ _ hS (okB_bounds hg) w
      rw [← e] at hk
      exact hk.mono fun _ _ h => ⟨_, h.1, ⟨rfl, waterOf_range S hS.land⟩, kept_below h.2⟩
  · cases hr
theorem impl_waterBits_enter : ∀ args w, (callFunc 69 args).run Try.prog w = .ok (.enter 69 args) w := enter_ok (fn := Try.f69) (by kernel_rfl) (by kernel_rfl) (by kernel_rfl)

noncomputable def impl_cellBits_con : Con := fun args h => match args, h with
  | [.g S 40], [] => some (.a (.i .u64 (cellsOf S)), .none, okS S)
  | _, _ => none
theorem impl_cellBits_ok : ConOk Try.prog 82 impl_cellBits_con := by
  intro ρ h w args vals r ef hr hA hH
  unfold impl_cellBits_con at hr
  split at hr
  · rename_i S
    obtain ⟨rfl, hr2⟩ := Prod.mk.inj (Option.some.inj hr)
    obtain ⟨rfl, hg⟩ := Prod.mk.inj hr2
    match vals, hA with
    | [v], hA =>
      obtain ⟨rfl, hw⟩ := hA.2 0 _ v rfl rfl
      obtain ⟨e, hS⟩ := sea_of_wt lay_sea hw
      have hk := impl_cellBits' _ _ _ _ hS (okB_bounds hg) w
      rw [← e] at hk
      exact hk.mono fun _ _ h => ⟨_, h.1, ⟨rfl, cellsOf_range S⟩, kept_below h.2⟩
  · cases hr
theorem impl_cellBits_enter : ∀ args w, (callFunc 82 args).run Try.prog w = .ok (.enter 82 args) w := enter_ok (fn := Try.f82) (by kernel_rfl) (by kernel_rfl) (by kernel_rfl)
end Go.Proofs.Ytjihfoifdloaeaa
