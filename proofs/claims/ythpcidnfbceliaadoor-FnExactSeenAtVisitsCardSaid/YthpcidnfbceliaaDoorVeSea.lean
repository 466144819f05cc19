/- What the walk has proved of seas, for the symbolic run. -/
import Derived.Test.YthpcidnfbceliaaDoorSpecOk
import Derived.Test.YthpcidnfbceliaaDoorImplD
import Derived.Test.YthpcidnfbceliaaDoorVeD
namespace Go.Proofs.YthpcidnfbceliaaDoor
open Go.ChangeShapes Go.WideShapes Go.ChangeAt Go.RowKit Ve
set_option linter.unusedVariables false
set_option maxRecDepth 100000

theorem kept_below {w w' : World} (h : Below w.heap.size w w') : Kept (fun _ => False) w w' := ⟨h.os, h.tape, h.output, h.size, fun k hk _ => h.block k hk⟩
/-- A row of 363 cells is the sea of its parts. -/
theorem sea_of_wt {T : TypeId} (hL : lay Tryd.prog T = 0 :: 0 :: 7 :: List.replicate 360 4) {S : Array Value} (h : WT Tryd.prog T S) :
    S = sea (num S 0) (num S 1) (num S 2) (S.extract 3 363) ∧ SeaIn (num S 0) (num S 1) (num S 2) (S.extract 3 363) := by
  have hz : S.size = 363 := by rw [h.layLen, hL]; simp
  have c0 := h.int (o := 0) (k := .i8) (by rw [hL]; rfl)
  have c1 := h.int (o := 1) (k := .i8) (by rw [hL]; rfl)
  have c2 := h.int (o := 2) (k := .u64) (by rw [hL]; rfl)
  have c3 : ∀ i, i < 360 → S[3 + i]? = some (.int .u8 (num S (3 + i))) ∧ IntKind.u8.min ≤ num S (3 + i) ∧ num S (3 + i) ≤ IntKind.u8.max := fun i hi => h.int (o := 3 + i) (k := .u8) (by
    rw [hL, show 3 + i = i + 3 by omega]
    show (List.replicate 360 4)[i]? = some 4
    rw [List.getElem?_replicate, if_pos hi])
  have hx : (S.extract 3 363).size = 360 := by simp only [Array.size_extract]; omega
  have hg : ∀ i, i < 360 → (S.extract 3 363)[i]? = S[3 + i]? := fun i hi => by
    rw [Array.getElem?_extract, if_pos (by omega)]
  refine ⟨Array.ext_getElem? fun i => ?_, ⟨hx, fun v hv => ?_, c0.2, c1.2, ?_⟩⟩
  · by_cases h0 : i = 0
    · subst h0; rw [sea_0]; exact c0.1
    · by_cases h1 : i = 1
      · subst h1; rw [sea_1]; exact c1.1
      · by_cases h2 : i = 2
        · subst h2; rw [sea_2]; exact c2.1
        · by_cases h3 : i < 363
          · obtain ⟨j, rfl⟩ : ∃ j, i = 3 + j := ⟨i - 3, by omega⟩
            rw [sea_3, hg j (by omega)]
          · rw [Array.getElem?_eq_none (by omega), Array.getElem?_eq_none (by rw [sea_size, hx]; omega)]
  · obtain ⟨i, hi⟩ := Array.getElem?_of_mem hv
    have hlt : i < 360 := by
      have := (Array.getElem?_eq_some_iff.1 hi).1
      omega
    rw [hg i hlt, (c3 i hlt).1] at hi
    exact ⟨_, (Option.some.inj hi).symm, (c3 i hlt).2.1, (c3 i hlt).2.2⟩
  · show (decide _ && decide _) = true
    rw [decide_eq_true c2.2.1, decide_eq_true c2.2.2]; rfl

/-- May a row stand as a sea? -/
def okS (S : Array Value) : Bool := Go.Proofs.YthpcidnfbceliaaDoor.okB (num S 0) (num S 1) (num S 2) (S.extract 3 363)

theorem lay_sea : lay Tryd.prog 38 = 0 :: 0 :: 7 :: List.replicate 360 4 := by kernel_rfl

def spec_l01Ok_con : Con := fun args h => match args, h with
  | [.w 0], [.row S 38] => some (.a (.b (okS S)), .none, true)
  | _, _ => none
theorem spec_l01Ok_ok : ConOk Tryd.prog 52 spec_l01Ok_con := by
  intro ρ h w args vals r ef hno hr hA hH; clear hno
  unfold spec_l01Ok_con at hr
  split at hr
  · rename_i S
    obtain ⟨rfl, hr2⟩ := Prod.mk.inj (Option.some.inj hr)
    obtain ⟨rfl, _⟩ := Prod.mk.inj hr2
    match vals, hA with
    | [v], hA =>
      obtain ⟨rfl, _⟩ := hA.2 0 _ v rfl rfl
      have hB := hH.is 0 _ rfl
      obtain ⟨e, hS⟩ := sea_of_wt lay_sea hB.2
      have q0 := hB.1
      rw [e] at q0
      exact (spec_l01Ok _ _ (0, 0) _ _ _ _ hS w q0).mono fun _ _ h => ⟨_, h.1, rfl, kept_below h.2⟩
  · cases hr

def impl_ValidSea_con : Con := fun args h => match args, h with
  | [.g S 38], [] => some (.a (.b (okS S)), .none, true)
  | _, _ => none
theorem impl_ValidSea_ok : ConOk Tryd.prog 63 impl_ValidSea_con := by
  intro ρ h w args vals r ef hno hr hA hH; clear hno
  unfold impl_ValidSea_con at hr
  split at hr
  · rename_i S
    obtain ⟨rfl, hr2⟩ := Prod.mk.inj (Option.some.inj hr)
    obtain ⟨rfl, _⟩ := Prod.mk.inj hr2
    match vals, hA with
    | [v], hA =>
      obtain ⟨rfl, hw⟩ := hA.2 0 _ v rfl rfl
      obtain ⟨e, hS⟩ := sea_of_wt lay_sea hw
      have hk := impl_ValidSea _ _ _ _ hS w
      rw [← e] at hk
      exact hk.mono fun _ _ h => ⟨_, h.1, rfl, kept_below h.2⟩
  · cases hr

theorem impl_ValidSea_enter : ∀ args w, (callFunc 63 args).run Tryd.prog w = .ok (.enter 63 args) w := enter_ok (fn := Tryd.f63) (by kernel_rfl) (by kernel_rfl) (by kernel_rfl)
theorem spec_l01Ok_enter : ∀ args w, (callFunc 52 args).run Tryd.prog w = .ok (.enter 52 args) w := enter_ok (fn := Tryd.f52) (by kernel_rfl) (by kernel_rfl) (by kernel_rfl)
end Go.Proofs.YthpcidnfbceliaaDoor
