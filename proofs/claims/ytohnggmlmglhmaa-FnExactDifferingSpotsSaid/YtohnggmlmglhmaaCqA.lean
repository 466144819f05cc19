/- Two maps, in company. -/
import Derived.Test.YtohnggmlmglhmaaProg
import Derived.Test.YtohnggmlmglhmaaCxE
namespace Go.Proofs.Ytohnggmlmglhmaa
open Go.ChangeShapes Go.WideShapes Go.ChangeAt Go.RowKit Ve Vc
set_option linter.unusedVariables false
set_option linter.unusedSimpArgs false
set_option maxRecDepth 100000
noncomputable section
variable {mn : Md}
theorem impl_hasHour_ans (N : Nat) (a0 : Int) : ansV Try.prog (mkΓ []) N Try.f35 [] [.i .i64 (a0)] [] = (bif decide (a0 ≥ (1 : Int)) then (some (.a (.b (decide (a0 ≤ (14 : Int)))), .none, true))
    else (some (.a (.b (false)), .none, true))) := by kernel_rfl
noncomputable def impl_hasHour_v0 (a0 : Int) : Bool := (bif decide (a0 ≥ (1 : Int)) then decide (a0 ≤ (14 : Int)) else false)
theorem impl_hasHour_main (a0 : Int) (h_a0 : IntKind.i64.min ≤ a0 ∧ a0 ≤ IntKind.i64.max) (hg : (true) = true) : ansV Try.prog (mkΓ []) 1000 Try.f35 [] [.i .i64 (a0)] [] = some (.a (.b ((impl_hasHour_v0 a0))), .none, true) := by
  refine (impl_hasHour_ans 1000 a0).trans ?_
  unfold impl_hasHour_v0
  revert hg
  generalize (decide (a0 ≥ (1 : Int))) = b2
  intro hg
  cases b2
  · skip
    first | (simp only [cond_true, cond_false, Bool.and_true, Bool.true_and, Bool.and_false, Bool.false_and]; done) | rfl | exact (nomatch (hg : false = true))
  · skip
    first | (simp only [cond_true, cond_false, Bool.and_true, Bool.true_and, Bool.and_false, Bool.false_and]; done) | rfl | exact (nomatch (hg : false = true))
noncomputable def impl_hasHour_con : Con := fun args h => match args, h with
  | [.i .i64 a0], [] => some (.a (.b ((impl_hasHour_v0 a0))), .none, true)
  | _, _ => none
theorem impl_hasHour_enter : EntX Try.prog 35 := entX_ok (fn := Try.f35) (by kernel_rfl) (by kernel_rfl) (by kernel_rfl)
theorem impl_hasHour_ok : ConOkX mn Try.prog 35 impl_hasHour_con := (ansX_ok (N := 1000) (by kernel_rfl) mkΓ_nilX (fn := Try.f35) (by kernel_rfl) (by kernel_rfl) []).of (by
  intro ρ h w args vals r e hA hH hr
  unfold impl_hasHour_con at hr
  split at hr
  · rename_i a0
    obtain ⟨rfl, hg⟩ := Prod.mk.inj (Option.some.inj hr)
    obtain ⟨rfl, hg2⟩ := Prod.mk.inj hg
    exact impl_hasHour_main a0 (hA.rng 0 rfl) hg2
  · cases hr)
noncomputable def impl_ValidFinds_G : Cons := (mkΓ [(30, con impl_isWater_con), (33, con impl_ValidSea_con), (34, con impl_hasCell_con), (35, con impl_hasHour_con)])
noncomputable def impl_ValidFinds_t0 (a0 : Array Value) : St := (⟨.a (.g a0 36) :: .a (.v (.slice none 0 0)) :: .a (.w 0) :: .a (.u) :: .a (.b (false)) :: us 3 (.a (.g a0 36) :: .a (.b ((okS a0))) :: .a (.b ((!((okS a0))))) :: .a (.b (false)) :: .a (.v (.slice none 0 0)) :: .a (.i .i64 (0 : Int)) :: .a (.b (false)) :: .a (.b (false)) :: .a (.v (.slice none 0 0)) :: .a (.i .i64 (0 : Int)) :: .a (.i .i64 (0 : Int)) :: us 23 ([])), [.row a0 36, .no], []⟩ : St)
noncomputable def impl_ValidFinds_e0 : Bool × Int → LS
  | (y0_4, y0_18) => ([.a (.b (y0_4)), .a (.i .i64 (y0_18))], [])
noncomputable def impl_ValidFinds_x0 : Bool × Int → Exit × LS
  | t => ((.exit 0), impl_ValidFinds_e0 t)
noncomputable def impl_ValidFinds_g0 (P : Program) (a0 : Array Value) : Bool × Int → Option (Stp (Bool × Int) (Bool × Int))
  | (y0_4, y0_18) => bif decide (y0_18 < (0 : Int)) then (none)
    else (some (.done (y0_4, y0_18)))
theorem impl_ValidFinds_s0 (N : Nat) (a0 : Array Value) : ∀ t : Bool × Int, stepV Try.prog impl_ValidFinds_G N (cAt (codeOf Try.f26) [1, 1, 0, 1, 0, 0]) (pAt (mkPlan (codeOf Try.f26) [([4, 18], [])]).1 [1, 1, 0, 1, 0]) [4, 18] [] (impl_ValidFinds_t0 a0) (impl_ValidFinds_e0 t) = mapS impl_ValidFinds_e0 impl_ValidFinds_x0 (impl_ValidFinds_g0 Try.prog a0 t) := by
  rintro ⟨y0_4, y0_18⟩
  refine Eq.trans (b := (bif decide (y0_18 < (0 : Int)) then (none)
    else (some (.done ((.exit 0), ([.a (.b (y0_4)), .a (.i .i64 (y0_18))], [])))))) (by kernel_rfl) ?_
  simp only [impl_ValidFinds_g0, mapS_cond, mapS_more, mapS_done, mapS_none, impl_ValidFinds_e0, impl_ValidFinds_x0]
noncomputable def impl_ValidFinds_k0_0 (P : Program) (N : Nat) (a0 : Array Value) (z0_4 : Bool) (z0_18 : Int) : Option (SV × Eff × Bool) := some (.a (.b (true)), .none, true)
theorem impl_ValidFinds_k0_0_eq (N : Nat) (a0 : Array Value) (z0_4 : Bool) (z0_18 : Int) : (kBlock 0 (kSeq (veC Try.prog impl_ValidFinds_G N (cAt (codeOf Try.f26) [1, 1, 1]) (pAt (mkPlan (codeOf Try.f26) [([4, 18], [])]).1 [1, 1, 1]) (SV × Eff × Bool)) (finK Try.prog [] [.tmp 4]))) (.exit 0) (left (writes (cAt (codeOf Try.f26) [1, 1, 0, 1, 0, 0])) [4, 18] [] (impl_ValidFinds_t0 a0) ([.a (.b (z0_4)), .a (.i .i64 (z0_18))], [])) = impl_ValidFinds_k0_0 Try.prog N a0 z0_4 z0_18 := by
  refine Eq.trans (b := (some (.a (.b (true)), .none, true))) (by kernel_rfl) ?_
  rfl
theorem impl_ValidFinds_n0 (N : Nat) (a0 : Array Value) : bindX (iterO (stepV Try.prog impl_ValidFinds_G N (cAt (codeOf Try.f26) [1, 1, 0, 1, 0, 0]) (pAt (mkPlan (codeOf Try.f26) [([4, 18], [])]).1 [1, 1, 0, 1, 0]) [4, 18] [] (impl_ValidFinds_t0 a0)) N ([.a (.b (false)), .a (.i .i64 (0 : Int))], [])) (fun e s => (kBlock 0 (kSeq (veC Try.prog impl_ValidFinds_G N (cAt (codeOf Try.f26) [1, 1, 1]) (pAt (mkPlan (codeOf Try.f26) [([4, 18], [])]).1 [1, 1, 1]) (SV × Eff × Bool)) (finK Try.prog [] [.tmp 4]))) e (left (writes (cAt (codeOf Try.f26) [1, 1, 0, 1, 0, 0])) [4, 18] [] (impl_ValidFinds_t0 a0) s)) = nodeX (iterO (impl_ValidFinds_g0 Try.prog a0) N (false, (0 : Int))) (fun x => impl_ValidFinds_k0_0 Try.prog N a0 x.1 x.2) := by
  refine loop_node impl_ValidFinds_e0 impl_ValidFinds_x0 _ _ (impl_ValidFinds_s0 N a0) N (false, (0 : Int)) _ _ ?_
  intro x; exact impl_ValidFinds_k0_0_eq N a0 x.1 x.2
theorem impl_ValidFinds_ans (N : Nat) (a0 : Array Value) : ansV Try.prog impl_ValidFinds_G N Try.f26 [([4, 18], [])] [.g a0 36, .v (.slice none 0 0)] [] = (bif (!((okS a0))) then (some (.a (.b (false)), .none, true))
    else (nodeX (iterO (impl_ValidFinds_g0 Try.prog a0) N (false, (0 : Int))) (fun x => impl_ValidFinds_k0_0 Try.prog N a0 x.1 x.2))) := by
  refine Eq.trans (b := (bif (!((okS a0))) then (some (.a (.b (false)), .none, true))
    else (bindX (iterO (stepV Try.prog impl_ValidFinds_G N (cAt (codeOf Try.f26) [1, 1, 0, 1, 0, 0]) (pAt (mkPlan (codeOf Try.f26) [([4, 18], [])]).1 [1, 1, 0, 1, 0]) [4, 18] [] (impl_ValidFinds_t0 a0)) N ([.a (.b (false)), .a (.i .i64 (0 : Int))], [])) (fun e s => (kBlock 0 (kSeq (veC Try.prog impl_ValidFinds_G N (cAt (codeOf Try.f26) [1, 1, 1]) (pAt (mkPlan (codeOf Try.f26) [([4, 18], [])]).1 [1, 1, 1]) (SV × Eff × Bool)) (finK Try.prog [] [.tmp 4]))) e (left (writes (cAt (codeOf Try.f26) [1, 1, 0, 1, 0, 0])) [4, 18] [] (impl_ValidFinds_t0 a0) s))))) (by kernel_rfl) ?_
  simp only [impl_ValidFinds_n0 N a0]
theorem impl_ValidFinds_main (a0 : Array Value) (h_a0 : WT Try.prog 36 a0) (hg : (true) = true) : ansV Try.prog impl_ValidFinds_G 1000 Try.f26 [([4, 18], [])] [.g a0 36, .v (.slice none 0 0)] [] = some (.a (.b ((okS a0))), .none, true) := by
  refine (impl_ValidFinds_ans 1000 a0).trans ?_
  cases okS a0 <;> rfl
noncomputable def impl_ValidFinds_con : Con := fun args h => match args, h with
  | [.g a0 36, .v (.slice none 0 0)], [] => some (.a (.b ((okS a0))), .none, true)
  | _, _ => none
theorem impl_ValidFinds_enter : EntX Try.prog 26 := entX_ok (fn := Try.f26) (by kernel_rfl) (by kernel_rfl) (by kernel_rfl)
theorem impl_ValidFinds_ok : ConOkX mn Try.prog 26 impl_ValidFinds_con := (ansX_ok (N := 1000) (by kernel_rfl) (mkΓ_consX (con_okX impl_isWater_ok) impl_isWater_enter (mkΓ_consX (con_okX impl_ValidSea_ok) impl_ValidSea_enter (mkΓ_consX (con_okX impl_hasCell_ok) impl_hasCell_enter (mkΓ_consX (con_okX impl_hasHour_ok) impl_hasHour_enter mkΓ_nilX)))) (fn := Try.f26) (by kernel_rfl) (by kernel_rfl) [([4, 18], [])]).of (by
  intro ρ h w args vals r e hA hH hr
  unfold impl_ValidFinds_con at hr
  split at hr
  · rename_i a0
    obtain ⟨rfl, hg⟩ := Prod.mk.inj (Option.some.inj hr)
    obtain ⟨rfl, hg2⟩ := Prod.mk.inj hg
    exact impl_ValidFinds_main a0 (hA.wt 0 rfl) hg2
  · cases hr)
theorem impl_sameCoasts_ans (N : Nat) (a0 : Array Value) (a1 : Array Value) : ansV Try.prog (mkΓ []) N Try.f27 [] [.g a0 36, .g a1 36] [] = (bif ((num a0 0) == (num a1 0)) then (bif ((num a0 1) == (num a1 1)) then (some (.a (.b (((num a0 2) == (num a1 2)))), .none, true))
      else (some (.a (.b (false)), .none, true)))
    else (some (.a (.b (false)), .none, true))) := by kernel_rfl
noncomputable def impl_sameCoasts_v0 (a0 : Array Value) (a1 : Array Value) : Bool := (bif ((num a0 0) == (num a1 0)) then (bif ((num a0 1) == (num a1 1)) then ((num a0 2) == (num a1 2)) else false) else false)
theorem impl_sameCoasts_main (a0 : Array Value) (a1 : Array Value) (h_a0 : WT Try.prog 36 a0) (h_a1 : WT Try.prog 36 a1) (hg : (true) = true) : ansV Try.prog (mkΓ []) 1000 Try.f27 [] [.g a0 36, .g a1 36] [] = some (.a (.b ((impl_sameCoasts_v0 a0 a1))), .none, true) := by
  refine (impl_sameCoasts_ans 1000 a0 a1).trans ?_
  unfold impl_sameCoasts_v0
  revert hg
  generalize (((num a0 0) == (num a1 0))) = b2
  intro hg
  cases b2
  · skip
    first | (simp only [cond_true, cond_false, Bool.and_true, Bool.true_and, Bool.and_false, Bool.false_and]; done) | rfl | exact (nomatch (hg : false = true))
  · skip
    revert hg
    generalize (((num a0 1) == (num a1 1))) = b4
    intro hg
    cases b4
    · skip
      first | (simp only [cond_true, cond_false, Bool.and_true, Bool.true_and, Bool.and_false, Bool.false_and]; done) | rfl | exact (nomatch (hg : false = true))
    · skip
      first | (simp only [cond_true, cond_false, Bool.and_true, Bool.true_and, Bool.and_false, Bool.false_and]; done) | rfl | exact (nomatch (hg : false = true))
noncomputable def impl_sameCoasts_con : Con := fun args h => match args, h with
  | [.g a0 36, .g a1 36], [] => some (.a (.b ((impl_sameCoasts_v0 a0 a1))), .none, true)
  | _, _ => none
theorem impl_sameCoasts_enter : EntX Try.prog 27 := entX_ok (fn := Try.f27) (by kernel_rfl) (by kernel_rfl) (by kernel_rfl)
theorem impl_sameCoasts_ok : ConOkX mn Try.prog 27 impl_sameCoasts_con := (ansX_ok (N := 1000) (by kernel_rfl) mkΓ_nilX (fn := Try.f27) (by kernel_rfl) (by kernel_rfl) []).of (by
  intro ρ h w args vals r e hA hH hr
  unfold impl_sameCoasts_con at hr
  split at hr
  · rename_i a0 a1
    obtain ⟨rfl, hg⟩ := Prod.mk.inj (Option.some.inj hr)
    obtain ⟨rfl, hg2⟩ := Prod.mk.inj hg
    exact impl_sameCoasts_main a0 a1 (hA.wt 0 rfl) (hA.wt 1 rfl) hg2
  · cases hr)
theorem spec_l05Alike_ans (N : Nat) (a0 : Array Value) (a1 : Array Value) : ansV Try.prog (mkΓ []) N Try.f17 [] [.w 0, .w 1] [.row a0 36, .row a1 36] = (bif ((num a0 0) == (num a1 0)) then (bif ((num a0 1) == (num a1 1)) then (some (.a (.b (((num a0 2) == (num a1 2)))), .none, true))
      else (some (.a (.b (false)), .none, true)))
    else (some (.a (.b (false)), .none, true))) := by kernel_rfl
noncomputable def spec_l05Alike_v0 (a0 : Array Value) (a1 : Array Value) : Bool := (bif ((num a0 0) == (num a1 0)) then (bif ((num a0 1) == (num a1 1)) then ((num a0 2) == (num a1 2)) else false) else false)
theorem spec_l05Alike_main (a0 : Array Value) (a1 : Array Value) (h_a0 : WT Try.prog 36 a0) (h_a1 : WT Try.prog 36 a1) (hg : (true) = true) : ansV Try.prog (mkΓ []) 1000 Try.f17 [] [.w 0, .w 1] [.row a0 36, .row a1 36] = some (.a (.b ((spec_l05Alike_v0 a0 a1))), .none, true) := by
  refine (spec_l05Alike_ans 1000 a0 a1).trans ?_
  unfold spec_l05Alike_v0
  revert hg
  generalize (((num a0 0) == (num a1 0))) = b2
  intro hg
  cases b2
  · skip
    first | (simp only [cond_true, cond_false, Bool.and_true, Bool.true_and, Bool.and_false, Bool.false_and]; done) | rfl | exact (nomatch (hg : false = true))
  · skip
    revert hg
    generalize (((num a0 1) == (num a1 1))) = b4
    intro hg
    cases b4
    · skip
      first | (simp only [cond_true, cond_false, Bool.and_true, Bool.true_and, Bool.and_false, Bool.false_and]; done) | rfl | exact (nomatch (hg : false = true))
    · skip
      first | (simp only [cond_true, cond_false, Bool.and_true, Bool.true_and, Bool.and_false, Bool.false_and]; done) | rfl | exact (nomatch (hg : false = true))
noncomputable def spec_l05Alike_con : Con := fun args h => match args, h with
  | [.w 0, .w 1], [.row a0 36, .row a1 36] => some (.a (.b ((spec_l05Alike_v0 a0 a1))), .none, true)
  | _, _ => none
theorem spec_l05Alike_enter : EntX Try.prog 17 := entX_ok (fn := Try.f17) (by kernel_rfl) (by kernel_rfl) (by kernel_rfl)
theorem spec_l05Alike_ok : ConOkX mn Try.prog 17 spec_l05Alike_con := (ansX_ok (N := 1000) (by kernel_rfl) mkΓ_nilX (fn := Try.f17) (by kernel_rfl) (by kernel_rfl) []).of (by
  intro ρ h w args vals r e hA hH hr
  unfold spec_l05Alike_con at hr
  split at hr
  · rename_i a0 a1
    obtain ⟨rfl, hg⟩ := Prod.mk.inj (Option.some.inj hr)
    obtain ⟨rfl, hg2⟩ := Prod.mk.inj hg
    exact spec_l05Alike_main a0 a1 (hH.wt 0 rfl) (hH.wt 1 rfl) hg2
  · cases hr)
noncomputable def spec_l05Seas_G : Cons := (mkΓ [(16, con spec_l01Ok_con), (17, con spec_l05Alike_con)])
theorem spec_l05Seas_ans (N : Nat) (a0 : Array Value) (a1 : Array Value) : ansV Try.prog spec_l05Seas_G N Try.f10 [] [.w 0, .w 1] [.row a0 36, .row a1 36] = (bif (!((okS a0))) then (some (.a (.i .i64 (1 : Int)), .none, true))
    else (bif (!((okS a1))) then (some (.a (.i .i64 (1 : Int)), .none, true))
      else (bif (!((spec_l05Alike_v0 a0 a1))) then (some (.a (.i .i64 (4 : Int)), .none, true))
        else (some (.a (.i .i64 (0 : Int)), .none, true))))) := by kernel_rfl
noncomputable def spec_l05Seas_v0 (a0 : Array Value) (a1 : Array Value) : Int := (bif (!((okS a0))) then (1 : Int) else (bif (!((okS a1))) then (1 : Int) else (bif (!((spec_l05Alike_v0 a0 a1))) then (4 : Int) else (0 : Int))))
theorem spec_l05Seas_main (a0 : Array Value) (a1 : Array Value) (h_a0 : WT Try.prog 36 a0) (h_a1 : WT Try.prog 36 a1) (hg : (true) = true) : ansV Try.prog spec_l05Seas_G 1000 Try.f10 [] [.w 0, .w 1] [.row a0 36, .row a1 36] = some (.a (.i .i64 (spec_l05Seas_v0 a0 a1)), .none, true) := by
  refine (spec_l05Seas_ans 1000 a0 a1).trans ?_
  unfold spec_l05Seas_v0
  revert hg
  generalize ((!((okS a0)))) = b2
  intro hg
  cases b2
  · skip
    revert hg
    generalize ((!((okS a1)))) = b4
    intro hg
    cases b4
    · skip
      revert hg
      generalize ((!((spec_l05Alike_v0 a0 a1)))) = b6
      intro hg
      cases b6
      · skip
        first | (simp only [cond_true, cond_false, Bool.and_true, Bool.true_and, Bool.and_false, Bool.false_and]; done) | rfl | exact (nomatch (hg : false = true))
      · skip
        first | (simp only [cond_true, cond_false, Bool.and_true, Bool.true_and, Bool.and_false, Bool.false_and]; done) | rfl | exact (nomatch (hg : false = true))
    · skip
      first | (simp only [cond_true, cond_false, Bool.and_true, Bool.true_and, Bool.and_false, Bool.false_and]; done) | rfl | exact (nomatch (hg : false = true))
  · skip
    first | (simp only [cond_true, cond_false, Bool.and_true, Bool.true_and, Bool.and_false, Bool.false_and]; done) | rfl | exact (nomatch (hg : false = true))
noncomputable def spec_l05Seas_con : Con := fun args h => match args, h with
  | [.w 0, .w 1], [.row a0 36, .row a1 36] => some (.a (.i .i64 (spec_l05Seas_v0 a0 a1)), .none, true)
  | _, _ => none
theorem spec_l05Seas_enter : EntX Try.prog 10 := entX_ok (fn := Try.f10) (by kernel_rfl) (by kernel_rfl) (by kernel_rfl)
theorem spec_l05Seas_ok : ConOkX mn Try.prog 10 spec_l05Seas_con := (ansX_ok (N := 1000) (by kernel_rfl) (mkΓ_consX (con_okX spec_l01Ok_ok) spec_l01Ok_enter (mkΓ_consX (con_okX spec_l05Alike_ok) spec_l05Alike_enter mkΓ_nilX)) (fn := Try.f10) (by kernel_rfl) (by kernel_rfl) []).of (by
  intro ρ h w args vals r e hA hH hr
  unfold spec_l05Seas_con at hr
  split at hr
  · rename_i a0 a1
    obtain ⟨rfl, hg⟩ := Prod.mk.inj (Option.some.inj hr)
    obtain ⟨rfl, hg2⟩ := Prod.mk.inj hg
    exact spec_l05Seas_main a0 a1 (hH.wt 0 rfl) (hH.wt 1 rfl) hg2
  · cases hr)
noncomputable def impl_mapsCode_G : Cons := (mkΓ [(26, con impl_ValidFinds_con), (27, con impl_sameCoasts_con)])
noncomputable def impl_mapsCode_t0 (b_a0 : Option (Option Addr)) (n_a0 : Nat) (a0 : Array Value) : St := (⟨.a (.l 0) :: .a (.v (.slice none 0 0)) :: .a (.u) :: .a (.u) :: .a (.i .i64 (0 : Int)) :: us 4 (.a (.l 0) :: .a (.i .i64 (n_a0 : Int)) :: .a (.i .i64 (0 : Int)) :: us 24 ([])), [.sl (.came b_a0) n_a0 a0 36], []⟩ : St)
noncomputable def impl_mapsCode_e0 : Int × Int → LS
  | (y0_4, y0_11) => ([.a (.i .i64 (y0_4)), .a (.i .i64 (y0_11))], [])
noncomputable def impl_mapsCode_x0 : (Stp (Int × Int) (Int × Int)) → Exit × LS
  | .more t => (.ret, impl_mapsCode_e0 t)
  | .done t => ((.exit 0), impl_mapsCode_e0 t)
noncomputable def impl_mapsCode_g0 (P : Program) (b_a0 : Option (Option Addr)) (n_a0 : Nat) (a0 : Array Value) : Int × Int → Option (Stp (Int × Int) (Stp (Int × Int) (Int × Int)))
  | (y0_4, y0_11) => bif decide (y0_11 < (n_a0 : Int)) then (bif (decide (0 ≤ y0_11) && decide (y0_11 < (n_a0 : Int))) then (bif (!((okS (a0.extract ((y0_11).toNat * 363) (((y0_11).toNat * 363) + 363))))) then (some (.done (.more ((1 : Int), y0_11))))
        else (some (.more (y0_4, (IntKind.i64.wrap (y0_11 + (1 : Int)))))))
      else (none))
    else (some (.done (.done (y0_4, y0_11))))
theorem impl_mapsCode_s0 (N : Nat) (b_a0 : Option (Option Addr)) (n_a0 : Nat) (a0 : Array Value) : ∀ t : Int × Int, stepV Try.prog impl_mapsCode_G N (cAt (codeOf Try.f19) [1, 0, 1, 0, 0]) (pAt (mkPlan (codeOf Try.f19) [([4, 11], []), ([4, 25], [])]).1 [1, 0, 1, 0]) [4, 11] [] (impl_mapsCode_t0 b_a0 n_a0 a0) (impl_mapsCode_e0 t) = mapS impl_mapsCode_e0 impl_mapsCode_x0 (impl_mapsCode_g0 Try.prog b_a0 n_a0 a0 t) := by
  rintro ⟨y0_4, y0_11⟩
  refine Eq.trans (b := (bif decide (y0_11 < (n_a0 : Int)) then (bif (decide (0 ≤ y0_11) && decide (y0_11 < (n_a0 : Int))) then (bif (!((okS (a0.extract ((y0_11).toNat * 363) (((y0_11).toNat * 363) + 363))))) then (some (.done (.ret, ([.a (.i .i64 (1 : Int)), .a (.i .i64 (y0_11))], []))))
        else (some (.more ([.a (.i .i64 (y0_4)), .a (.i .i64 (IntKind.i64.wrap (y0_11 + (1 : Int))))], []))))
      else (none))
    else (some (.done ((.exit 0), ([.a (.i .i64 (y0_4)), .a (.i .i64 (y0_11))], [])))))) (by kernel_rfl) ?_
  simp only [impl_mapsCode_g0, mapS_cond, mapS_more, mapS_done, mapS_none, impl_mapsCode_e0, impl_mapsCode_x0]
noncomputable def impl_mapsCode_t1 (b_a0 : Option (Option Addr)) (n_a0 : Nat) (a0 : Array Value) (z0_4 : Int) (z0_11 : Int) : St := (⟨.a (.l 0) :: .a (.v (.slice none 0 0)) :: .a (.u) :: .a (.u) :: .a (.i .i64 (z0_4)) :: .a (.u) :: .a (.x) :: .a (.u) :: .a (.u) :: .a (.l 0) :: .a (.i .i64 (n_a0 : Int)) :: .a (.i .i64 (z0_11)) :: xs 8 (.a (.l 0) :: .a (.i .i64 (n_a0 : Int)) :: .a (.b (decide ((n_a0 : Int) > (8 : Int)))) :: .a (.l 0) :: .a (.i .i64 (n_a0 : Int)) :: .a (.i .i64 (0 : Int)) :: us 10 ([])), [.sl (.came b_a0) n_a0 a0 36], []⟩ : St)
noncomputable def impl_mapsCode_e1 : Int × Int → LS
  | (y1_4, y1_25) => ([.a (.i .i64 (y1_4)), .a (.i .i64 (y1_25))], [])
noncomputable def impl_mapsCode_x1 : (Stp (Int × Int) (Int × Int)) → Exit × LS
  | .more t => (.ret, impl_mapsCode_e1 t)
  | .done t => ((.exit 2), impl_mapsCode_e1 t)
noncomputable def impl_mapsCode_g1 (P : Program) (b_a0 : Option (Option Addr)) (n_a0 : Nat) (a0 : Array Value) (z0_4 : Int) (z0_11 : Int) : Int × Int → Option (Stp (Int × Int) (Stp (Int × Int) (Int × Int)))
  | (y1_4, y1_25) => bif decide (y1_25 < (n_a0 : Int)) then (bif (decide (0 ≤ y1_25) && decide (y1_25 < (n_a0 : Int))) then (bif (decide (0 ≤ (0 : Int)) && decide ((0 : Int) < (n_a0 : Int))) then (bif (!((impl_sameCoasts_v0 (a0.extract ((y1_25).toNat * 363) (((y1_25).toNat * 363) + 363)) (a0.extract ((0 : Int).toNat * 363) (((0 : Int).toNat * 363) + 363))))) then (some (.done (.more ((4 : Int), y1_25))))
          else (some (.more (y1_4, (IntKind.i64.wrap (y1_25 + (1 : Int)))))))
        else (none))
      else (none))
    else (some (.done (.done (y1_4, y1_25))))
theorem impl_mapsCode_s1 (N : Nat) (b_a0 : Option (Option Addr)) (n_a0 : Nat) (a0 : Array Value) (z0_4 : Int) (z0_11 : Int) : ∀ t : Int × Int, stepV Try.prog impl_mapsCode_G N (cAt (codeOf Try.f19) [1, 1, 1, 0, 1, 0, 0]) (pAt (mkPlan (codeOf Try.f19) [([4, 11], []), ([4, 25], [])]).1 [1, 1, 1, 0, 1, 0]) [4, 25] [] (impl_mapsCode_t1 b_a0 n_a0 a0 z0_4 z0_11) (impl_mapsCode_e1 t) = mapS impl_mapsCode_e1 impl_mapsCode_x1 (impl_mapsCode_g1 Try.prog b_a0 n_a0 a0 z0_4 z0_11 t) := by
  rintro ⟨y1_4, y1_25⟩
  refine Eq.trans (b := (bif decide (y1_25 < (n_a0 : Int)) then (bif (decide (0 ≤ y1_25) && decide (y1_25 < (n_a0 : Int))) then (bif (decide (0 ≤ (0 : Int)) && decide ((0 : Int) < (n_a0 : Int))) then (bif (!((impl_sameCoasts_v0 (a0.extract ((y1_25).toNat * 363) (((y1_25).toNat * 363) + 363)) (a0.extract ((0 : Int).toNat * 363) (((0 : Int).toNat * 363) + 363))))) then (some (.done (.ret, ([.a (.i .i64 (4 : Int)), .a (.i .i64 (y1_25))], []))))
          else (some (.more ([.a (.i .i64 (y1_4)), .a (.i .i64 (IntKind.i64.wrap (y1_25 + (1 : Int))))], []))))
        else (none))
      else (none))
    else (some (.done ((.exit 2), ([.a (.i .i64 (y1_4)), .a (.i .i64 (y1_25))], [])))))) (by kernel_rfl) ?_
  simp only [impl_mapsCode_g1, mapS_cond, mapS_more, mapS_done, mapS_none, impl_mapsCode_e1, impl_mapsCode_x1]
noncomputable def impl_mapsCode_k1_0 (P : Program) (N : Nat) (b_a0 : Option (Option Addr)) (n_a0 : Nat) (a0 : Array Value) (z0_4 : Int) (z0_11 : Int) (z1_4 : Int) (z1_25 : Int) : Option (SV × Eff × Bool) := some (.a (.i .i64 (z1_4)), .none, true)
theorem impl_mapsCode_k1_0_eq (N : Nat) (b_a0 : Option (Option Addr)) (n_a0 : Nat) (a0 : Array Value) (z0_4 : Int) (z0_11 : Int) (z1_4 : Int) (z1_25 : Int) : (kBlock 2 (kSeq (veC Try.prog impl_mapsCode_G N (cAt (codeOf Try.f19) [1, 1, 1, 1]) (pAt (mkPlan (codeOf Try.f19) [([4, 11], []), ([4, 25], [])]).1 [1, 1, 1, 1]) (SV × Eff × Bool)) (finK Try.prog [.sl (.came b_a0) n_a0 a0 36] [.tmp 4]))) .ret (left (writes (cAt (codeOf Try.f19) [1, 1, 1, 0, 1, 0, 0])) [4, 25] [] (impl_mapsCode_t1 b_a0 n_a0 a0 z0_4 z0_11) ([.a (.i .i64 (z1_4)), .a (.i .i64 (z1_25))], [])) = impl_mapsCode_k1_0 Try.prog N b_a0 n_a0 a0 z0_4 z0_11 z1_4 z1_25 := by
  refine Eq.trans (b := (some (.a (.i .i64 (z1_4)), .none, true))) (by kernel_rfl) ?_
  rfl
noncomputable def impl_mapsCode_k1_1 (P : Program) (N : Nat) (b_a0 : Option (Option Addr)) (n_a0 : Nat) (a0 : Array Value) (z0_4 : Int) (z0_11 : Int) (z1_4 : Int) (z1_25 : Int) : Option (SV × Eff × Bool) := some (.a (.i .i64 (0 : Int)), .none, true)
theorem impl_mapsCode_k1_1_eq (N : Nat) (b_a0 : Option (Option Addr)) (n_a0 : Nat) (a0 : Array Value) (z0_4 : Int) (z0_11 : Int) (z1_4 : Int) (z1_25 : Int) : (kBlock 2 (kSeq (veC Try.prog impl_mapsCode_G N (cAt (codeOf Try.f19) [1, 1, 1, 1]) (pAt (mkPlan (codeOf Try.f19) [([4, 11], []), ([4, 25], [])]).1 [1, 1, 1, 1]) (SV × Eff × Bool)) (finK Try.prog [.sl (.came b_a0) n_a0 a0 36] [.tmp 4]))) (.exit 2) (left (writes (cAt (codeOf Try.f19) [1, 1, 1, 0, 1, 0, 0])) [4, 25] [] (impl_mapsCode_t1 b_a0 n_a0 a0 z0_4 z0_11) ([.a (.i .i64 (z1_4)), .a (.i .i64 (z1_25))], [])) = impl_mapsCode_k1_1 Try.prog N b_a0 n_a0 a0 z0_4 z0_11 z1_4 z1_25 := by
  refine Eq.trans (b := (some (.a (.i .i64 (0 : Int)), .none, true))) (by kernel_rfl) ?_
  rfl
theorem impl_mapsCode_n1 (N : Nat) (b_a0 : Option (Option Addr)) (n_a0 : Nat) (a0 : Array Value) (z0_4 : Int) (z0_11 : Int) : bindX (iterO (stepV Try.prog impl_mapsCode_G N (cAt (codeOf Try.f19) [1, 1, 1, 0, 1, 0, 0]) (pAt (mkPlan (codeOf Try.f19) [([4, 11], []), ([4, 25], [])]).1 [1, 1, 1, 0, 1, 0]) [4, 25] [] (impl_mapsCode_t1 b_a0 n_a0 a0 z0_4 z0_11)) N ([.a (.i .i64 (z0_4)), .a (.i .i64 (0 : Int))], [])) (fun e s => (kBlock 2 (kSeq (veC Try.prog impl_mapsCode_G N (cAt (codeOf Try.f19) [1, 1, 1, 1]) (pAt (mkPlan (codeOf Try.f19) [([4, 11], []), ([4, 25], [])]).1 [1, 1, 1, 1]) (SV × Eff × Bool)) (finK Try.prog [.sl (.came b_a0) n_a0 a0 36] [.tmp 4]))) e (left (writes (cAt (codeOf Try.f19) [1, 1, 1, 0, 1, 0, 0])) [4, 25] [] (impl_mapsCode_t1 b_a0 n_a0 a0 z0_4 z0_11) s)) = nodeX (iterO (impl_mapsCode_g1 Try.prog b_a0 n_a0 a0 z0_4 z0_11) N (z0_4, (0 : Int))) (st2 (fun x => impl_mapsCode_k1_0 Try.prog N b_a0 n_a0 a0 z0_4 z0_11 x.1 x.2) (fun x => impl_mapsCode_k1_1 Try.prog N b_a0 n_a0 a0 z0_4 z0_11 x.1 x.2)) := by
  refine loop_node impl_mapsCode_e1 impl_mapsCode_x1 _ _ (impl_mapsCode_s1 N b_a0 n_a0 a0 z0_4 z0_11) N (z0_4, (0 : Int)) _ _ ?_
  intro x
  cases x with
  | more x => exact impl_mapsCode_k1_0_eq N b_a0 n_a0 a0 z0_4 z0_11 x.1 x.2
  | done x => exact impl_mapsCode_k1_1_eq N b_a0 n_a0 a0 z0_4 z0_11 x.1 x.2
noncomputable def impl_mapsCode_k0_0 (P : Program) (N : Nat) (b_a0 : Option (Option Addr)) (n_a0 : Nat) (a0 : Array Value) (z0_4 : Int) (z0_11 : Int) : Option (SV × Eff × Bool) := some (.a (.i .i64 (z0_4)), .none, true)
theorem impl_mapsCode_k0_0_eq (N : Nat) (b_a0 : Option (Option Addr)) (n_a0 : Nat) (a0 : Array Value) (z0_4 : Int) (z0_11 : Int) : (kBlock 0 (kSeq (veC Try.prog impl_mapsCode_G N (cAt (codeOf Try.f19) [1, 1]) (pAt (mkPlan (codeOf Try.f19) [([4, 11], []), ([4, 25], [])]).1 [1, 1]) (SV × Eff × Bool)) (finK Try.prog [.sl (.came b_a0) n_a0 a0 36] [.tmp 4]))) .ret (left (writes (cAt (codeOf Try.f19) [1, 0, 1, 0, 0])) [4, 11] [] (impl_mapsCode_t0 b_a0 n_a0 a0) ([.a (.i .i64 (z0_4)), .a (.i .i64 (z0_11))], [])) = impl_mapsCode_k0_0 Try.prog N b_a0 n_a0 a0 z0_4 z0_11 := by
  refine Eq.trans (b := (some (.a (.i .i64 (z0_4)), .none, true))) (by kernel_rfl) ?_
  rfl
noncomputable def impl_mapsCode_k0_1 (P : Program) (N : Nat) (b_a0 : Option (Option Addr)) (n_a0 : Nat) (a0 : Array Value) (z0_4 : Int) (z0_11 : Int) : Option (SV × Eff × Bool) := bif decide ((n_a0 : Int) > (8 : Int)) then (some (.a (.i .i64 (3 : Int)), .none, true))
    else (nodeX (iterO (impl_mapsCode_g1 P b_a0 n_a0 a0 z0_4 z0_11) N (z0_4, (0 : Int))) (st2 (fun x => impl_mapsCode_k1_0 P N b_a0 n_a0 a0 z0_4 z0_11 x.1 x.2) (fun x => impl_mapsCode_k1_1 P N b_a0 n_a0 a0 z0_4 z0_11 x.1 x.2)))
theorem impl_mapsCode_k0_1_eq (N : Nat) (b_a0 : Option (Option Addr)) (n_a0 : Nat) (a0 : Array Value) (z0_4 : Int) (z0_11 : Int) : (kBlock 0 (kSeq (veC Try.prog impl_mapsCode_G N (cAt (codeOf Try.f19) [1, 1]) (pAt (mkPlan (codeOf Try.f19) [([4, 11], []), ([4, 25], [])]).1 [1, 1]) (SV × Eff × Bool)) (finK Try.prog [.sl (.came b_a0) n_a0 a0 36] [.tmp 4]))) (.exit 0) (left (writes (cAt (codeOf Try.f19) [1, 0, 1, 0, 0])) [4, 11] [] (impl_mapsCode_t0 b_a0 n_a0 a0) ([.a (.i .i64 (z0_4)), .a (.i .i64 (z0_11))], [])) = impl_mapsCode_k0_1 Try.prog N b_a0 n_a0 a0 z0_4 z0_11 := by
  refine Eq.trans (b := (bif decide ((n_a0 : Int) > (8 : Int)) then (some (.a (.i .i64 (3 : Int)), .none, true))
    else (bindX (iterO (stepV Try.prog impl_mapsCode_G N (cAt (codeOf Try.f19) [1, 1, 1, 0, 1, 0, 0]) (pAt (mkPlan (codeOf Try.f19) [([4, 11], []), ([4, 25], [])]).1 [1, 1, 1, 0, 1, 0]) [4, 25] [] (impl_mapsCode_t1 b_a0 n_a0 a0 z0_4 z0_11)) N ([.a (.i .i64 (z0_4)), .a (.i .i64 (0 : Int))], [])) (fun e s => (kBlock 2 (kSeq (veC Try.prog impl_mapsCode_G N (cAt (codeOf Try.f19) [1, 1, 1, 1]) (pAt (mkPlan (codeOf Try.f19) [([4, 11], []), ([4, 25], [])]).1 [1, 1, 1, 1]) (SV × Eff × Bool)) (finK Try.prog [.sl (.came b_a0) n_a0 a0 36] [.tmp 4]))) e (left (writes (cAt (codeOf Try.f19) [1, 1, 1, 0, 1, 0, 0])) [4, 25] [] (impl_mapsCode_t1 b_a0 n_a0 a0 z0_4 z0_11) s))))) (by kernel_rfl) ?_
  simp only [impl_mapsCode_n1 N b_a0 n_a0 a0 z0_4 z0_11, impl_mapsCode_k0_1]
theorem impl_mapsCode_n0 (N : Nat) (b_a0 : Option (Option Addr)) (n_a0 : Nat) (a0 : Array Value) : bindX (iterO (stepV Try.prog impl_mapsCode_G N (cAt (codeOf Try.f19) [1, 0, 1, 0, 0]) (pAt (mkPlan (codeOf Try.f19) [([4, 11], []), ([4, 25], [])]).1 [1, 0, 1, 0]) [4, 11] [] (impl_mapsCode_t0 b_a0 n_a0 a0)) N ([.a (.i .i64 (0 : Int)), .a (.i .i64 (0 : Int))], [])) (fun e s => (kBlock 0 (kSeq (veC Try.prog impl_mapsCode_G N (cAt (codeOf Try.f19) [1, 1]) (pAt (mkPlan (codeOf Try.f19) [([4, 11], []), ([4, 25], [])]).1 [1, 1]) (SV × Eff × Bool)) (finK Try.prog [.sl (.came b_a0) n_a0 a0 36] [.tmp 4]))) e (left (writes (cAt (codeOf Try.f19) [1, 0, 1, 0, 0])) [4, 11] [] (impl_mapsCode_t0 b_a0 n_a0 a0) s)) = nodeX (iterO (impl_mapsCode_g0 Try.prog b_a0 n_a0 a0) N ((0 : Int), (0 : Int))) (st2 (fun x => impl_mapsCode_k0_0 Try.prog N b_a0 n_a0 a0 x.1 x.2) (fun x => impl_mapsCode_k0_1 Try.prog N b_a0 n_a0 a0 x.1 x.2)) := by
  refine loop_node impl_mapsCode_e0 impl_mapsCode_x0 _ _ (impl_mapsCode_s0 N b_a0 n_a0 a0) N ((0 : Int), (0 : Int)) _ _ ?_
  intro x
  cases x with
  | more x => exact impl_mapsCode_k0_0_eq N b_a0 n_a0 a0 x.1 x.2
  | done x => exact impl_mapsCode_k0_1_eq N b_a0 n_a0 a0 x.1 x.2
theorem impl_mapsCode_ans (N : Nat) (b_a0 : Option (Option Addr)) (n_a0 : Nat) (a0 : Array Value) : ansV Try.prog impl_mapsCode_G N Try.f19 [([4, 11], []), ([4, 25], [])] [.l 0, .v (.slice none 0 0)] [.sl (.came b_a0) n_a0 a0 36] = (nodeX (iterO (impl_mapsCode_g0 Try.prog b_a0 n_a0 a0) N ((0 : Int), (0 : Int))) (st2 (fun x => impl_mapsCode_k0_0 Try.prog N b_a0 n_a0 a0 x.1 x.2) (fun x => impl_mapsCode_k0_1 Try.prog N b_a0 n_a0 a0 x.1 x.2))) := by
  refine Eq.trans (b := (bindX (iterO (stepV Try.prog impl_mapsCode_G N (cAt (codeOf Try.f19) [1, 0, 1, 0, 0]) (pAt (mkPlan (codeOf Try.f19) [([4, 11], []), ([4, 25], [])]).1 [1, 0, 1, 0]) [4, 11] [] (impl_mapsCode_t0 b_a0 n_a0 a0)) N ([.a (.i .i64 (0 : Int)), .a (.i .i64 (0 : Int))], [])) (fun e s => (kBlock 0 (kSeq (veC Try.prog impl_mapsCode_G N (cAt (codeOf Try.f19) [1, 1]) (pAt (mkPlan (codeOf Try.f19) [([4, 11], []), ([4, 25], [])]).1 [1, 1]) (SV × Eff × Bool)) (finK Try.prog [.sl (.came b_a0) n_a0 a0 36] [.tmp 4]))) e (left (writes (cAt (codeOf Try.f19) [1, 0, 1, 0, 0])) [4, 11] [] (impl_mapsCode_t0 b_a0 n_a0 a0) s)))) (by kernel_rfl) ?_
  simp only [impl_mapsCode_n0 N b_a0 n_a0 a0]
noncomputable def pairC (A C : Array Value) : Int := bif okS A then (bif okS C then (bif (impl_sameCoasts_v0 A A && impl_sameCoasts_v0 C A) then 0 else 4) else 1) else 1
theorem impl_mapsCode_main (b_a0 : Option (Option Addr)) (n_a0 : Nat) (a0 : Array Value) (h_a0 : a0.size = n_a0 * (lay Try.prog 36).length ∧ (∀ k, k < n_a0 → WT Try.prog 36 (a0.extract (k * (lay Try.prog 36).length) (k * (lay Try.prog 36).length + (lay Try.prog 36).length))) ∧ n_a0 ≤ 9223372036854775807) (hg : (Nat.beq n_a0 2) = true) : ansV Try.prog impl_mapsCode_G 1000 Try.f19 [([4, 11], []), ([4, 25], [])] [.l 0, .v (.slice none 0 0)] [.sl (.came b_a0) n_a0 a0 36] = some (.a (.i .i64 (pairC (a0.extract 0 363) (a0.extract 363 726))), .none, true) := by
  obtain rfl : n_a0 = 2 := Nat.eq_of_beq_eq_true hg
  refine (impl_mapsCode_ans 1000 b_a0 2 a0).trans ?_
  have d1 : decide ((0 : Int) < ((2 : Nat) : Int)) = true := rfl
  have d2 : decide (0 ≤ (0 : Int)) = true := rfl
  have d3 : decide ((1 : Int) < ((2 : Nat) : Int)) = true := rfl
  have d4 : decide (0 ≤ (1 : Int)) = true := rfl
  have d5 : decide ((2 : Int) < ((2 : Nat) : Int)) = false := rfl
  have d6 : decide ((((2 : Nat) : Int)) > (8 : Int)) = false := rfl
  have w1 : IntKind.i64.wrap ((0 : Int) + 1) = 1 := by decide
  have w2 : IntKind.i64.wrap ((1 : Int) + 1) = 2 := by decide
  have e0 : a0.extract ((0 : Int).toNat * 363) ((0 : Int).toNat * 363 + 363) = (a0.extract 0 363) := rfl
  have e1 : a0.extract ((1 : Int).toNat * 363) ((1 : Int).toNat * 363 + 363) = (a0.extract 363 726) := rfl
  generalize hA : (a0.extract 0 363) = A at e0 ⊢
  generalize hC : (a0.extract 363 726) = C at e1 ⊢
  unfold pairC
  have two : ∀ {m : Nat} {Q : Nat → Prop}, m ≤ 2 → (0 < m → Q 0) → (1 < m → Q 1) → ∀ k, k < m → Q k := fun hm q0 q1 k hk => by
    match k, hk with
    | 0, hk => exact q0 hk
    | 1, hk => exact q1 hk
    | k + 2, hk => omega
  cases hk0 : okS A with
  | false =>
    have h := iter_all (g := impl_mapsCode_g0 Try.prog b_a0 2 a0) (fun k => ((0 : Int), (k : Int))) (m := 0) (x := .more ((1 : Int), (0 : Int))) (N := 1000) (fun k hk => absurd hk (Nat.not_lt_zero k)) (by
      show impl_mapsCode_g0 Try.prog b_a0 2 a0 ((0 : Int), (0 : Int)) = _
      simp only [impl_mapsCode_g0, d1, d2, e0, hk0, Bool.and_self, Bool.not_false, cond_true]) (by omega)
    have h' : iterO (impl_mapsCode_g0 Try.prog b_a0 2 a0) 1000 ((0 : Int), (0 : Int)) = some (.more ((1 : Int), (0 : Int))) := h
    rw [h']; rfl
  | true =>
    have s0 : impl_mapsCode_g0 Try.prog b_a0 2 a0 ((0 : Int), (0 : Int)) = some (.more ((0 : Int), (1 : Int))) := by simp only [impl_mapsCode_g0, d1, d2, e0, hk0, w1, Bool.and_self, Bool.not_true, cond_true, cond_false]
    cases hk1 : okS C with
    | false =>
      have h := iter_all (g := impl_mapsCode_g0 Try.prog b_a0 2 a0) (fun k => ((0 : Int), (k : Int))) (m := 1) (x := .more ((1 : Int), (1 : Int))) (N := 1000) (two (by omega) (fun _ => s0) (fun h => absurd h (by omega))) (by
        show impl_mapsCode_g0 Try.prog b_a0 2 a0 ((0 : Int), (1 : Int)) = _
        simp only [impl_mapsCode_g0, d3, d4, e1, hk1, Bool.and_self, Bool.not_false, cond_true]) (by omega)
      have h' : iterO (impl_mapsCode_g0 Try.prog b_a0 2 a0) 1000 ((0 : Int), (0 : Int)) = some (.more ((1 : Int), (1 : Int))) := h
      rw [h']; rfl
    | true =>
      have s1 : impl_mapsCode_g0 Try.prog b_a0 2 a0 ((0 : Int), (1 : Int)) = some (.more ((0 : Int), (2 : Int))) := by simp only [impl_mapsCode_g0, d3, d4, e1, hk1, w2, Bool.and_self, Bool.not_true, cond_true, cond_false]
      have h := iter_all (g := impl_mapsCode_g0 Try.prog b_a0 2 a0) (fun k => ((0 : Int), (k : Int))) (m := 2) (x := .done ((0 : Int), (2 : Int))) (N := 1000) (two (by omega) (fun _ => s0) (fun _ => s1)) (by
        show impl_mapsCode_g0 Try.prog b_a0 2 a0 ((0 : Int), (2 : Int)) = _
        simp only [impl_mapsCode_g0, d5, cond_false]) (by omega)
      have h' : iterO (impl_mapsCode_g0 Try.prog b_a0 2 a0) 1000 ((0 : Int), (0 : Int)) = some (.done ((0 : Int), (2 : Int))) := h
      rw [h']
      simp only [nodeX, st2, impl_mapsCode_k0_1, d6, cond_false]
      cases hc0 : impl_sameCoasts_v0 A A with
      | false =>
        have h := iter_all (g := impl_mapsCode_g1 Try.prog b_a0 2 a0 0 2) (fun k => ((0 : Int), (k : Int))) (m := 0) (x := .more ((4 : Int), (0 : Int))) (N := 1000) (fun k hk => absurd hk (Nat.not_lt_zero k)) (by
          show impl_mapsCode_g1 Try.prog b_a0 2 a0 0 2 ((0 : Int), (0 : Int)) = _
          simp only [impl_mapsCode_g1, d1, d2, e0, hc0, Bool.and_self, Bool.not_false, cond_true]) (by omega)
        have h' : iterO (impl_mapsCode_g1 Try.prog b_a0 2 a0 0 2) 1000 ((0 : Int), (0 : Int)) = some (.more ((4 : Int), (0 : Int))) := h
        rw [h']; rfl
      | true =>
        have t0 : impl_mapsCode_g1 Try.prog b_a0 2 a0 0 2 ((0 : Int), (0 : Int)) = some (.more ((0 : Int), (1 : Int))) := by simp only [impl_mapsCode_g1, d1, d2, e0, hc0, w1, Bool.and_self, Bool.not_true, cond_true, cond_false]
        cases hc1 : impl_sameCoasts_v0 C A with
        | false =>
          have h := iter_all (g := impl_mapsCode_g1 Try.prog b_a0 2 a0 0 2) (fun k => ((0 : Int), (k : Int))) (m := 1) (x := .more ((4 : Int), (1 : Int))) (N := 1000) (two (by omega) (fun _ => t0) (fun h => absurd h (by omega))) (by
            show impl_mapsCode_g1 Try.prog b_a0 2 a0 0 2 ((0 : Int), (1 : Int)) = _
            simp only [impl_mapsCode_g1, d1, d2, d3, d4, e0, e1, hc1, Bool.and_self, Bool.not_false, cond_true]) (by omega)
          have h' : iterO (impl_mapsCode_g1 Try.prog b_a0 2 a0 0 2) 1000 ((0 : Int), (0 : Int)) = some (.more ((4 : Int), (1 : Int))) := h
          rw [h']; rfl
        | true =>
          have t1 : impl_mapsCode_g1 Try.prog b_a0 2 a0 0 2 ((0 : Int), (1 : Int)) = some (.more ((0 : Int), (2 : Int))) := by simp only [impl_mapsCode_g1, d1, d2, d3, d4, e0, e1, hc1, w2, Bool.and_self, Bool.not_true, cond_true, cond_false]
          have h := iter_all (g := impl_mapsCode_g1 Try.prog b_a0 2 a0 0 2) (fun k => ((0 : Int), (k : Int))) (m := 2) (x := .done ((0 : Int), (2 : Int))) (N := 1000) (two (by omega) (fun _ => t0) (fun _ => t1)) (by
            show impl_mapsCode_g1 Try.prog b_a0 2 a0 0 2 ((0 : Int), (2 : Int)) = _
            simp only [impl_mapsCode_g1, d5, cond_false]) (by omega)
          have h' : iterO (impl_mapsCode_g1 Try.prog b_a0 2 a0 0 2) 1000 ((0 : Int), (0 : Int)) = some (.done ((0 : Int), (2 : Int))) := h
          rw [h']; rfl
noncomputable def impl_mapsCode_con : Con := fun args h => match args, h with
  | [.l 0, .v (.slice none 0 0)], [.sl (.came b_a0) n_a0 a0 36] => some (.a (.i .i64 (pairC (a0.extract 0 363) (a0.extract 363 726))), .none, Nat.beq n_a0 2)
  | _, _ => none
theorem impl_mapsCode_enter : EntX Try.prog 19 := entX_ok (fn := Try.f19) (by kernel_rfl) (by kernel_rfl) (by kernel_rfl)
theorem impl_mapsCode_ok : ConOkX mn Try.prog 19 impl_mapsCode_con := (ansX_ok (N := 1000) (by kernel_rfl) (mkΓ_consX (con_okX impl_ValidFinds_ok) impl_ValidFinds_enter (mkΓ_consX (con_okX impl_sameCoasts_ok) impl_sameCoasts_enter mkΓ_nilX)) (fn := Try.f19) (by kernel_rfl) (by kernel_rfl) [([4, 11], []), ([4, 25], [])]).of (by
  intro ρ h w args vals r e hA hH hr
  unfold impl_mapsCode_con at hr
  split at hr
  · rename_i b_a0 n_a0 a0
    obtain ⟨rfl, hg⟩ := Prod.mk.inj (Option.some.inj hr)
    obtain ⟨rfl, hg2⟩ := Prod.mk.inj hg
    exact impl_mapsCode_main b_a0 n_a0 a0 (hH.slw 0 rfl) hg2
  · cases hr)
theorem pair_ext {A C : Array Value} (hA : A.size = 363) (hC : C.size = 363) : (spl (spl (repC (zc Try.prog 36) 2) 0 A.toList) 363 C.toList).extract 0 363 = A ∧ (spl (spl (repC (zc Try.prog 36) 2) 0 A.toList) 363 C.toList).extract 363 726 = C := by
  have hz : (repC (zc Try.prog 36) 2).size = 726 := by kernel_rfl
  have hl : A.toList.length = 363 := by rw [Array.length_toList, hA]
  have hm : C.toList.length = 363 := by rw [Array.length_toList, hC]
  constructor
  · refine Array.ext_getElem? fun i => ?_
    rw [Array.getElem?_extract, spl_get _ _ _ (by rw [spl_size, hz, hm]; omega), spl_get _ _ _ (by rw [hz, hl]; omega), spl_size, spl_size, hz, hl, hm]
    by_cases hi : i < 363
    · rw [if_pos (by omega), if_neg (by omega), if_pos (by omega)]
      simp
    · rw [if_neg (by omega), Array.getElem?_eq_none (by omega)]
  · refine Array.ext_getElem? fun i => ?_
    rw [Array.getElem?_extract, spl_get _ _ _ (by rw [spl_size, hz, hm]; omega), spl_size, spl_size, hz, hm]
    by_cases hi : i < 363
    · rw [if_pos (by omega), if_pos (by omega), show 363 + i - 363 = i by omega]
      simp
    · rw [if_neg (by omega), Array.getElem?_eq_none (by omega)]
theorem impl_pairCode_ans (N : Nat) (a0 : Array Value) (a1 : Array Value) : ansV Try.prog (mkΓ [(19, con impl_mapsCode_con)]) N Try.f13 [] [.g a0 36, .g a1 36] [] = (bif Nat.beq 2 2 then (some (.a (.i .i64 (pairC ((spl (spl (repC (zc Try.prog 36) 2) 0 a0.toList) 363 a1.toList).extract 0 363) ((spl (spl (repC (zc Try.prog 36) 2) 0 a0.toList) 363 a1.toList).extract 363 726))), .none, true))
    else (none)) := by kernel_rfl
theorem impl_pairCode_main (a0 : Array Value) (a1 : Array Value) (h_a0 : WT Try.prog 36 a0) (h_a1 : WT Try.prog 36 a1) (hg : (true) = true) : ansV Try.prog (mkΓ [(19, con impl_mapsCode_con)]) 1000 Try.f13 [] [.g a0 36, .g a1 36] [] = some (.a (.i .i64 (pairC a0 a1)), .none, true) := by
  refine (impl_pairCode_ans 1000 a0 a1).trans ?_
  have z0 : a0.size = 363 := by rw [h_a0.layLen]; kernel_rfl
  have z1 : a1.size = 363 := by rw [h_a1.layLen]; kernel_rfl
  obtain ⟨x0, x1⟩ := pair_ext z0 z1
  rw [x0, x1]
  rfl
noncomputable def impl_pairCode_con : Con := fun args h => match args, h with
  | [.g a0 36, .g a1 36], [] => some (.a (.i .i64 (pairC a0 a1)), .none, true)
  | _, _ => none
theorem impl_pairCode_enter : EntX Try.prog 13 := entX_ok (fn := Try.f13) (by kernel_rfl) (by kernel_rfl) (by kernel_rfl)
theorem impl_pairCode_ok : ConOkX mn Try.prog 13 impl_pairCode_con := (ansX_ok (N := 1000) (by kernel_rfl) (mkΓ_consX (con_okX impl_mapsCode_ok) impl_mapsCode_enter mkΓ_nilX) (fn := Try.f13) (by kernel_rfl) (by kernel_rfl) []).of (by
  intro ρ h w args vals r e hA hH hr
  unfold impl_pairCode_con at hr
  split at hr
  · rename_i a0 a1
    obtain ⟨rfl, hg⟩ := Prod.mk.inj (Option.some.inj hr)
    obtain ⟨rfl, hg2⟩ := Prod.mk.inj hg
    exact impl_pairCode_main a0 a1 (hA.wt 0 rfl) (hA.wt 1 rfl) hg2
  · cases hr)
theorem pair_seas (A C : Array Value) : pairC A C = spec_l05Seas_v0 A C := by
  have bc : ∀ x y : Int, (x == y) = (y == x) := fun x y => by rw [Bool.eq_iff_iff, beq_iff_eq, beq_iff_eq]; exact eq_comm
  have e1 : impl_sameCoasts_v0 A A = true := by unfold impl_sameCoasts_v0; simp only [beq_self_eq_true, cond_true]
  have e2 : impl_sameCoasts_v0 C A = spec_l05Alike_v0 A C := by unfold impl_sameCoasts_v0 spec_l05Alike_v0; rw [bc (num C 0), bc (num C 1), bc (num C 2)]
  unfold pairC spec_l05Seas_v0
  rw [e1, e2, Bool.true_and]
  cases okS A <;> cases okS C <;> cases spec_l05Alike_v0 A C <;> rfl
end
end Go.Proofs.Ytohnggmlmglhmaa
