/- The mean hour of finds, by spec and by program. -/
import Derived.Test.YtmkkckhfghomfaaDoorProg
import Derived.Test.YtmkkckhfghomfaaDoorVeShare
import Derived.Test.YtmkkckhfghomfaaDoorIsF
namespace Go.Proofs.YtmkkckhfghomfaaDoor
open Go.ChangeShapes Go.WideShapes Go.ChangeAt Go.RowKit Ve
set_option linter.unusedVariables false
set_option linter.unusedSimpArgs false
set_option maxRecDepth 100000
noncomputable section

noncomputable def impl_codeOf_con : Con := ansV Tryd.prog (mkΓ [(40, conG isCon)]) 1000 Tryd.f27 []
theorem impl_codeOf_enter : ∀ args w, (callFunc 27 args).run Tryd.prog w = .ok (.enter 27 args) w := enter_ok (fn := Tryd.f27) (by kernel_rfl) (by kernel_rfl) (by kernel_rfl)
theorem impl_codeOf_ok : ConOk Tryd.prog 27 impl_codeOf_con := ans_ok (N := 1000) (by kernel_rfl) (mkΓ_cons (conG_ok isCon_ok) isCon_enter mkΓ_nil) (fn := Tryd.f27) (by kernel_rfl) (by kernel_rfl) []

theorem spec_l03Given_ans (N : Nat) (a0 : Array Value) (b_a1 : Option (Option Addr)) (n_a1 : Nat) (a1 : Array Value) : ansV Tryd.prog (mkΓ [(35, con spec_l01Ok_con), (36, con spec_l03Finds_con)]) N Tryd.f22 [] [.w 0, .l 1] [.row a0 38, .sl (.came b_a1) n_a1 a1 57] = (bif (!((okS a0))) then (some (.a (.i .i64 (1 : Int)), .none, true))
    else (bif (!((fndAll a0 n_a1 a1 && decide ((n_a1 : Int) ≤ 60)))) then (some (.a (.i .i64 (1 : Int)), .none, true))
      else (some (.a (.i .i64 (0 : Int)), .none, true)))) := by kernel_rfl

noncomputable def spec_l03Given_v0 (a0 : Array Value) (b_a1 : Option (Option Addr)) (n_a1 : Nat) (a1 : Array Value) : Int := (bif (!((okS a0))) then (1 : Int) else (bif (!((fndAll a0 n_a1 a1 && decide ((n_a1 : Int) ≤ 60)))) then (1 : Int) else (0 : Int)))

theorem spec_l03Given_main (a0 : Array Value) (b_a1 : Option (Option Addr)) (n_a1 : Nat) (a1 : Array Value) (h_a0 : WT Tryd.prog 38 a0) (h_a1 : a1.size = n_a1 * (lay Tryd.prog 57).length ∧ (∀ k, k < n_a1 → WT Tryd.prog 57 (a1.extract (k * (lay Tryd.prog 57).length) (k * (lay Tryd.prog 57).length + (lay Tryd.prog 57).length))) ∧ n_a1 ≤ 9223372036854775807) (hg : (true) = true) : ansV Tryd.prog (mkΓ [(35, con spec_l01Ok_con), (36, con spec_l03Finds_con)]) 1000 Tryd.f22 [] [.w 0, .l 1] [.row a0 38, .sl (.came b_a1) n_a1 a1 57] = some (.a (.i .i64 (spec_l03Given_v0 a0 b_a1 n_a1 a1)), .none, true) := by
  refine (spec_l03Given_ans 1000 a0 b_a1 n_a1 a1).trans ?_
  unfold spec_l03Given_v0
  revert hg
  generalize ((!((okS a0)))) = b2
  intro hg
  cases b2
  · skip
    revert hg
    generalize ((!((fndAll a0 n_a1 a1 && decide ((n_a1 : Int) ≤ 60))))) = b4
    intro hg
    cases b4
    · skip
      first | (simp only [cond_true, cond_false, Bool.and_true, Bool.true_and, Bool.and_false, Bool.false_and]; done) | rfl | exact (nomatch (hg : false = true))
    · skip
      first | (simp only [cond_true, cond_false, Bool.and_true, Bool.true_and, Bool.and_false, Bool.false_and]; done) | rfl | exact (nomatch (hg : false = true))
  · skip
    first | (simp only [cond_true, cond_false, Bool.and_true, Bool.true_and, Bool.and_false, Bool.false_and]; done) | rfl | exact (nomatch (hg : false = true))
noncomputable def spec_l03Given_con : Con := fun args h => match args, h with
  | [.w 0, .l 1], [.row a0 38, .sl (.came b_a1) n_a1 a1 57] => some (.a (.i .i64 (spec_l03Given_v0 a0 b_a1 n_a1 a1)), .none, true)
  | _, _ => none
theorem spec_l03Given_enter : ∀ args w, (callFunc 22 args).run Tryd.prog w = .ok (.enter 22 args) w := enter_ok (fn := Tryd.f22) (by kernel_rfl) (by kernel_rfl) (by kernel_rfl)
theorem spec_l03Given_ok : ConOk Tryd.prog 22 spec_l03Given_con := (ans_ok (N := 1000) (by kernel_rfl) (mkΓ_cons (con_ok spec_l01Ok_ok) spec_l01Ok_enter (mkΓ_cons (con_ok spec_l03Finds_ok) spec_l03Finds_enter mkΓ_nil)) (fn := Tryd.f22) (by kernel_rfl) (by kernel_rfl) []).of (by
  intro ρ h w args vals r e hA hH hr
  unfold spec_l03Given_con at hr
  split at hr
  · rename_i a0 b_a1 n_a1 a1
    obtain ⟨rfl, hg⟩ := Prod.mk.inj (Option.some.inj hr)
    obtain ⟨rfl, hg2⟩ := Prod.mk.inj hg
    exact spec_l03Given_main a0 b_a1 n_a1 a1 (hH.wt 0 rfl) (hH.slw 1 rfl) hg2
  · cases hr)


noncomputable def shareW (p w : Int) : Array Value := #[.int .i64 (IntKind.i64.wrap (p.tdiv (gcdW p w))), .int .i64 (IntKind.i64.wrap (w.tdiv (gcdW p w)))]
noncomputable def vf (S : Array Value) (n : Nat) (a : Array Value) : Bool := (okS S && (fndAll S n a && decide ((n : Int) ≤ 60)))
noncomputable def hsum (a : Array Value) : Nat → Int
  | 0 => 0
  | k + 1 => IntKind.i64.wrap (hsum a k + hcF a k)
noncomputable def meanW (a : Array Value) (n : Nat) : Array Value := bif ((n : Int) == 0) then #[.int .i64 0, .int .i64 0] else shareW (hsum a n) (n : Int)
theorem vf_hours {S a : Array Value} {n : Nat} (h : vf S n a = true) : n ≤ 60 ∧ ∀ k, k < n → 1 ≤ hcF a k ∧ hcF a k ≤ 14 := by
  unfold vf at h
  simp only [Bool.and_eq_true, decide_eq_true_eq] at h
  obtain ⟨-, h1, h2⟩ := h
  refine ⟨by omega, fun k hk => ?_⟩
  have := (fndAll_iff S n a).1 h1 k hk
  unfold fndB at this
  simp only [Bool.and_eq_true] at this
  have h3 := this.2.2
  unfold spec_l00In_v0 at h3
  by_cases h0 : hcF a k ≥ 1
  · rw [decide_eq_true h0] at h3
    exact ⟨h0, of_decide_eq_true h3⟩
  · rw [decide_eq_false h0] at h3; cases h3
theorem hsum_in {a : Array Value} {n : Nat} (hn : n ≤ 60) (h : ∀ k, k < n → 1 ≤ hcF a k ∧ hcF a k ≤ 14) : ∀ k, k ≤ n → 0 ≤ hsum a k ∧ hsum a k ≤ 14 * (k : Int)
  | 0, _ => ⟨Int.le_refl _, Int.le_refl _⟩
  | k + 1, hk => by
    have ih := hsum_in hn h k (by omega)
    have hc := h k (by omega)
    unfold hsum
    rw [IntWalk.i64_in _ (by omega)]
    omega
theorem share_eq {p w : Int} (hp : 0 ≤ p) (hw : 0 < w) : impl_shareOf_v0 p w = shareW p w ∧ impl_shareOf_gd p w = true ∧ spec_l02Share_gd p w = true := by
  have hn := gcdW_ne (a := p) hw
  refine ⟨?_, ?_, ?_⟩
  · unfold impl_shareOf_v0 shareW
    show #[_, _] = _
    rw [gcdW_comm p w]; rfl
  · unfold impl_shareOf_gd
    show (decide (0 ≤ p) && (decide (0 ≤ w) && (gcdW w p != 0))) = true
    rw [gcdW_comm w p, hn, decide_eq_true hp, decide_eq_true (Int.le_of_lt hw)]; rfl
  · unfold spec_l02Share_gd
    rw [hn, decide_eq_true hp, decide_eq_true (Int.le_of_lt hw)]; rfl

theorem impl_findsError_ans (N : Nat) (a0 : Array Value) (g_e0 : Addr) (g_e1 : Addr) (g_e2 : Addr) (g_e3 : Addr) (g_e4 : Addr) (b_a1 : Option (Option Addr)) (n_a1 : Nat) (a1 : Array Value) : ansV Tryd.prog (mkΓ [(39, con impl_ValidFinds_con)]) N Tryd.f26 [] [.g a0 38, .l 5] [.gl 0 129 g_e0 36452, .gl 1 129 g_e1 27809, .gl 2 129 g_e2 46794, .gl 3 129 g_e3 59197, .gl 4 129 g_e4 28733, .sl (.came b_a1) n_a1 a1 57] = (bif (!((okS a0 && (fndAll a0 n_a1 a1 && decide ((n_a1 : Int) ≤ 60))))) then (some (.a (.e 0), .none, true))
    else (some (.a (.v (.nilIface)), .none, true))) := by kernel_rfl

theorem impl_findsError_main0 (a0 : Array Value) (g_e0 : Addr) (g_e1 : Addr) (g_e2 : Addr) (g_e3 : Addr) (g_e4 : Addr) (b_a1 : Option (Option Addr)) (n_a1 : Nat) (a1 : Array Value) (h_a0 : WT Tryd.prog 38 a0) (h_a1 : a1.size = n_a1 * (lay Tryd.prog 57).length ∧ (∀ k, k < n_a1 → WT Tryd.prog 57 (a1.extract (k * (lay Tryd.prog 57).length) (k * (lay Tryd.prog 57).length + (lay Tryd.prog 57).length))) ∧ n_a1 ≤ 9223372036854775807) (hc0 : (vf a0 n_a1 a1) = false) (hg : (true) = true) : ansV Tryd.prog (mkΓ [(39, con impl_ValidFinds_con)]) 1000 Tryd.f26 [] [.g a0 38, .l 5] [.gl 0 129 g_e0 36452, .gl 1 129 g_e1 27809, .gl 2 129 g_e2 46794, .gl 3 129 g_e3 59197, .gl 4 129 g_e4 28733, .sl (.came b_a1) n_a1 a1 57] = some (.a (.e 0), .none, true) := by
  refine (impl_findsError_ans 1000 a0 g_e0 g_e1 g_e2 g_e3 g_e4 b_a1 n_a1 a1).trans ?_
  unfold vf at hc0
  simp only [hc0, Bool.not_false, cond_true]
theorem impl_findsError_main1 (a0 : Array Value) (g_e0 : Addr) (g_e1 : Addr) (g_e2 : Addr) (g_e3 : Addr) (g_e4 : Addr) (b_a1 : Option (Option Addr)) (n_a1 : Nat) (a1 : Array Value) (h_a0 : WT Tryd.prog 38 a0) (h_a1 : a1.size = n_a1 * (lay Tryd.prog 57).length ∧ (∀ k, k < n_a1 → WT Tryd.prog 57 (a1.extract (k * (lay Tryd.prog 57).length) (k * (lay Tryd.prog 57).length + (lay Tryd.prog 57).length))) ∧ n_a1 ≤ 9223372036854775807) (hc0 : (vf a0 n_a1 a1) = true) (hg : (true) = true) : ansV Tryd.prog (mkΓ [(39, con impl_ValidFinds_con)]) 1000 Tryd.f26 [] [.g a0 38, .l 5] [.gl 0 129 g_e0 36452, .gl 1 129 g_e1 27809, .gl 2 129 g_e2 46794, .gl 3 129 g_e3 59197, .gl 4 129 g_e4 28733, .sl (.came b_a1) n_a1 a1 57] = some (.a (.v (.nilIface)), .none, true) := by
  refine (impl_findsError_ans 1000 a0 g_e0 g_e1 g_e2 g_e3 g_e4 b_a1 n_a1 a1).trans ?_
  unfold vf at hc0
  simp only [hc0, Bool.not_true, cond_false]
noncomputable def impl_findsError_scon : SCon := fun args h => match args, h with
  | [.g a0 38, .l 5], [.gl 0 129 g_e0 36452, .gl 1 129 g_e1 27809, .gl 2 129 g_e2 46794, .gl 3 129 g_e3 59197, .gl 4 129 g_e4 28733, .sl (.came b_a1) n_a1 a1 57] => .two (vf a0 n_a1 a1) (.one (some (.a (.v (.nilIface)), .none, true))) (.one (some (.a (.e 0), .none, true)))
  | _, _ => .one none
theorem impl_findsError_enter : ∀ args w, (callFunc 26 args).run Tryd.prog w = .ok (.enter 26 args) w := enter_ok (fn := Tryd.f26) (by kernel_rfl) (by kernel_rfl) (by kernel_rfl)
theorem impl_findsError_sok : ConOk Tryd.prog 26 (fun args h => wayRes (impl_findsError_scon args h)) := by
  intro ρ h w args vals r e hn hr hA hH
  dsimp only at hr
  unfold impl_findsError_scon at hr
  split at hr
  · rename_i a0 g_e0 g_e1 g_e2 g_e3 g_e4 b_a1 n_a1 a1
    simp only [wayRes] at hr
    cases hc0 : (vf a0 n_a1 a1)
    · rw [hc0] at hr
      simp only [wayRes, cond_true, cond_false] at hr
      obtain ⟨rfl, hg⟩ := Prod.mk.inj (Option.some.inj hr)
      obtain ⟨rfl, hg2⟩ := Prod.mk.inj hg
      exact ((ans_ok (N := 1000) (by kernel_rfl) (mkΓ_cons (con_ok impl_ValidFinds_ok) impl_ValidFinds_enter mkΓ_nil) (fn := Tryd.f26) (by kernel_rfl) (by kernel_rfl) [])) ρ _ w _ vals _ _ hn ((impl_findsError_main0 a0 g_e0 g_e1 g_e2 g_e3 g_e4 b_a1 n_a1 a1 (hA.wt 0 rfl) (hH.slw 5 rfl) hc0 hg2)) hA hH
    · rw [hc0] at hr
      simp only [wayRes, cond_true, cond_false] at hr
      obtain ⟨rfl, hg⟩ := Prod.mk.inj (Option.some.inj hr)
      obtain ⟨rfl, hg2⟩ := Prod.mk.inj hg
      exact ((ans_ok (N := 1000) (by kernel_rfl) (mkΓ_cons (con_ok impl_ValidFinds_ok) impl_ValidFinds_enter mkΓ_nil) (fn := Tryd.f26) (by kernel_rfl) (by kernel_rfl) [])) ρ _ w _ vals _ _ hn ((impl_findsError_main1 a0 g_e0 g_e1 g_e2 g_e3 g_e4 b_a1 n_a1 a1 (hA.wt 0 rfl) (hH.slw 5 rfl) hc0 hg2)) hA hH
  · simp only [wayRes] at hr
    cases hr

noncomputable def impl_meanOf_e0 : Int × Int → LS
  | (y0_4, y0_14) => ([.a (.i .i64 (y0_4)), .a (.i .i64 (y0_14))], [])

noncomputable def impl_meanOf_x0 : Int × Int → Exit × LS
  | t => ((.exit 0), impl_meanOf_e0 t)

noncomputable def impl_meanOf_g0 (P : Program) (g_e0 : Addr) (g_e1 : Addr) (g_e2 : Addr) (g_e3 : Addr) (g_e4 : Addr) (b_a0 : Option (Option Addr)) (n_a0 : Nat) (a0 : Array Value) : Int × Int → Option (Stp (Int × Int) (Int × Int))
  | (y0_4, y0_14) => bif decide (y0_14 < (n_a0 : Int)) then (bif (decide (0 ≤ y0_14) && decide (y0_14 < (n_a0 : Int))) then (some (.more ((IntKind.i64.wrap (y0_4 + (IntKind.i64.wrap (num (a0.extract ((y0_14).toNat * 2) (((y0_14).toNat * 2) + 2)) 1)))), (IntKind.i64.wrap (y0_14 + (1 : Int))))))
      else (none))
    else (some (.done (y0_4, y0_14)))

theorem impl_meanOf_s0 (N : Nat) (g_e0 : Addr) (g_e1 : Addr) (g_e2 : Addr) (g_e3 : Addr) (g_e4 : Addr) (b_a0 : Option (Option Addr)) (n_a0 : Nat) (a0 : Array Value) : ∀ t : Int × Int, stepV Tryd.prog (mkΓ [(43, con impl_shareOf_con)]) N (cAt (codeOf Tryd.f31) [1, 1, 1, 0, 1, 0, 0]) (pAt (mkPlan (codeOf Tryd.f31) [([4, 14], [])]).1 [1, 1, 1, 0, 1, 0]) [4, 14] [] (⟨.a (.l 5) :: .a (.u) :: .a (.w 6) :: .a (.v (.nilIface)) :: .a (.i .i64 (0 : Int)) :: .a (.u) :: .a (.u) :: .a (.l 5) :: .a (.i .i64 (n_a0 : Int)) :: .a (.b (((n_a0 : Int) == (0 : Int)))) :: .a (.u) :: .a (.u) :: .a (.l 5) :: .a (.i .i64 (n_a0 : Int)) :: .a (.i .i64 (0 : Int)) :: us 13 ([]), [.gl 0 129 g_e0 36452, .gl 1 129 g_e1 27809, .gl 2 129 g_e2 46794, .gl 3 129 g_e3 59197, .gl 4 129 g_e4 28733, .sl (.came b_a0) n_a0 a0 57, .row #[.int .i64 (0 : Int), .int .i64 (0 : Int)] 45, .no], []⟩ : St) (impl_meanOf_e0 t) = mapS impl_meanOf_e0 impl_meanOf_x0 (impl_meanOf_g0 Tryd.prog g_e0 g_e1 g_e2 g_e3 g_e4 b_a0 n_a0 a0 t) := by
  rintro ⟨y0_4, y0_14⟩
  refine Eq.trans (b := (bif decide (y0_14 < (n_a0 : Int)) then (bif (decide (0 ≤ y0_14) && decide (y0_14 < (n_a0 : Int))) then (some (.more ([.a (.i .i64 (IntKind.i64.wrap (y0_4 + (IntKind.i64.wrap (num (a0.extract ((y0_14).toNat * 2) (((y0_14).toNat * 2) + 2)) 1))))), .a (.i .i64 (IntKind.i64.wrap (y0_14 + (1 : Int))))], [])))
      else (none))
    else (some (.done ((.exit 0), ([.a (.i .i64 (y0_4)), .a (.i .i64 (y0_14))], [])))))) (by kernel_rfl) ?_
  simp only [impl_meanOf_g0, mapS_cond, mapS_more, mapS_done, mapS_none, impl_meanOf_e0, impl_meanOf_x0]

noncomputable def impl_meanOf_k0_0 (P : Program) (N : Nat) (g_e0 : Addr) (g_e1 : Addr) (g_e2 : Addr) (g_e3 : Addr) (g_e4 : Addr) (b_a0 : Option (Option Addr)) (n_a0 : Nat) (a0 : Array Value) (z0_4 : Int) (z0_14 : Int) : Option (SV × Eff × Bool) := bif (impl_shareOf_gd z0_4 (n_a0 : Int)) then (some (.t [.g (impl_shareOf_v0 z0_4 (n_a0 : Int)) 45, .v (.nilIface)], .none, true))
    else (none)

theorem impl_meanOf_k0_0_eq (N : Nat) (g_e0 : Addr) (g_e1 : Addr) (g_e2 : Addr) (g_e3 : Addr) (g_e4 : Addr) (b_a0 : Option (Option Addr)) (n_a0 : Nat) (a0 : Array Value) (z0_4 : Int) (z0_14 : Int) : (kBlock 0 (kSeq (veC Tryd.prog (mkΓ [(43, con impl_shareOf_con)]) N (cAt (codeOf Tryd.f31) [1, 1, 1, 1]) (pAt (mkPlan (codeOf Tryd.f31) [([4, 14], [])]).1 [1, 1, 1, 1]) (SV × Eff × Bool)) (finK Tryd.prog [.gl 0 129 g_e0 36452, .gl 1 129 g_e1 27809, .gl 2 129 g_e2 46794, .gl 3 129 g_e3 59197, .gl 4 129 g_e4 28733, .sl (.came b_a0) n_a0 a0 57] [.cell 2 45, .tmp 3]))) (.exit 0) (left (writes (cAt (codeOf Tryd.f31) [1, 1, 1, 0, 1, 0, 0])) [4, 14] [] (⟨.a (.l 5) :: .a (.u) :: .a (.w 6) :: .a (.v (.nilIface)) :: .a (.i .i64 (0 : Int)) :: .a (.u) :: .a (.u) :: .a (.l 5) :: .a (.i .i64 (n_a0 : Int)) :: .a (.b (((n_a0 : Int) == (0 : Int)))) :: .a (.u) :: .a (.u) :: .a (.l 5) :: .a (.i .i64 (n_a0 : Int)) :: .a (.i .i64 (0 : Int)) :: us 13 ([]), [.gl 0 129 g_e0 36452, .gl 1 129 g_e1 27809, .gl 2 129 g_e2 46794, .gl 3 129 g_e3 59197, .gl 4 129 g_e4 28733, .sl (.came b_a0) n_a0 a0 57, .row #[.int .i64 (0 : Int), .int .i64 (0 : Int)] 45, .no], []⟩ : St) ([.a (.i .i64 (z0_4)), .a (.i .i64 (z0_14))], [])) = impl_meanOf_k0_0 Tryd.prog N g_e0 g_e1 g_e2 g_e3 g_e4 b_a0 n_a0 a0 z0_4 z0_14 := by
  refine Eq.trans (b := (bif (impl_shareOf_gd z0_4 (n_a0 : Int)) then (some (.t [.g (impl_shareOf_v0 z0_4 (n_a0 : Int)) 45, .v (.nilIface)], .none, true))
    else (none))) (by kernel_rfl) ?_
  rfl

theorem impl_meanOf_n0 (N : Nat) (g_e0 : Addr) (g_e1 : Addr) (g_e2 : Addr) (g_e3 : Addr) (g_e4 : Addr) (b_a0 : Option (Option Addr)) (n_a0 : Nat) (a0 : Array Value) : bindX (iterO (stepV Tryd.prog (mkΓ [(43, con impl_shareOf_con)]) N (cAt (codeOf Tryd.f31) [1, 1, 1, 0, 1, 0, 0]) (pAt (mkPlan (codeOf Tryd.f31) [([4, 14], [])]).1 [1, 1, 1, 0, 1, 0]) [4, 14] [] (⟨.a (.l 5) :: .a (.u) :: .a (.w 6) :: .a (.v (.nilIface)) :: .a (.i .i64 (0 : Int)) :: .a (.u) :: .a (.u) :: .a (.l 5) :: .a (.i .i64 (n_a0 : Int)) :: .a (.b (((n_a0 : Int) == (0 : Int)))) :: .a (.u) :: .a (.u) :: .a (.l 5) :: .a (.i .i64 (n_a0 : Int)) :: .a (.i .i64 (0 : Int)) :: us 13 ([]), [.gl 0 129 g_e0 36452, .gl 1 129 g_e1 27809, .gl 2 129 g_e2 46794, .gl 3 129 g_e3 59197, .gl 4 129 g_e4 28733, .sl (.came b_a0) n_a0 a0 57, .row #[.int .i64 (0 : Int), .int .i64 (0 : Int)] 45, .no], []⟩ : St)) N ([.a (.i .i64 (0 : Int)), .a (.i .i64 (0 : Int))], [])) (fun e s => (kBlock 0 (kSeq (veC Tryd.prog (mkΓ [(43, con impl_shareOf_con)]) N (cAt (codeOf Tryd.f31) [1, 1, 1, 1]) (pAt (mkPlan (codeOf Tryd.f31) [([4, 14], [])]).1 [1, 1, 1, 1]) (SV × Eff × Bool)) (finK Tryd.prog [.gl 0 129 g_e0 36452, .gl 1 129 g_e1 27809, .gl 2 129 g_e2 46794, .gl 3 129 g_e3 59197, .gl 4 129 g_e4 28733, .sl (.came b_a0) n_a0 a0 57] [.cell 2 45, .tmp 3]))) e (left (writes (cAt (codeOf Tryd.f31) [1, 1, 1, 0, 1, 0, 0])) [4, 14] [] (⟨.a (.l 5) :: .a (.u) :: .a (.w 6) :: .a (.v (.nilIface)) :: .a (.i .i64 (0 : Int)) :: .a (.u) :: .a (.u) :: .a (.l 5) :: .a (.i .i64 (n_a0 : Int)) :: .a (.b (((n_a0 : Int) == (0 : Int)))) :: .a (.u) :: .a (.u) :: .a (.l 5) :: .a (.i .i64 (n_a0 : Int)) :: .a (.i .i64 (0 : Int)) :: us 13 ([]), [.gl 0 129 g_e0 36452, .gl 1 129 g_e1 27809, .gl 2 129 g_e2 46794, .gl 3 129 g_e3 59197, .gl 4 129 g_e4 28733, .sl (.came b_a0) n_a0 a0 57, .row #[.int .i64 (0 : Int), .int .i64 (0 : Int)] 45, .no], []⟩ : St) s)) = nodeX (iterO (impl_meanOf_g0 Tryd.prog g_e0 g_e1 g_e2 g_e3 g_e4 b_a0 n_a0 a0) N ((0 : Int), (0 : Int))) (fun x => impl_meanOf_k0_0 Tryd.prog N g_e0 g_e1 g_e2 g_e3 g_e4 b_a0 n_a0 a0 x.1 x.2) := by
  refine loop_node impl_meanOf_e0 impl_meanOf_x0 _ _ (impl_meanOf_s0 N g_e0 g_e1 g_e2 g_e3 g_e4 b_a0 n_a0 a0) N ((0 : Int), (0 : Int)) _ _ ?_
  intro x; exact impl_meanOf_k0_0_eq N g_e0 g_e1 g_e2 g_e3 g_e4 b_a0 n_a0 a0 x.1 x.2

theorem impl_meanOf_ans (N : Nat) (g_e0 : Addr) (g_e1 : Addr) (g_e2 : Addr) (g_e3 : Addr) (g_e4 : Addr) (b_a0 : Option (Option Addr)) (n_a0 : Nat) (a0 : Array Value) : ansV Tryd.prog (mkΓ [(43, con impl_shareOf_con)]) N Tryd.f31 [([4, 14], [])] [.l 5] [.gl 0 129 g_e0 36452, .gl 1 129 g_e1 27809, .gl 2 129 g_e2 46794, .gl 3 129 g_e3 59197, .gl 4 129 g_e4 28733, .sl (.came b_a0) n_a0 a0 57] = (bif ((n_a0 : Int) == (0 : Int)) then (some (.t [.g #[.int .i64 (0 : Int), .int .i64 (0 : Int)] 45, .e 4], .none, true))
    else (nodeX (iterO (impl_meanOf_g0 Tryd.prog g_e0 g_e1 g_e2 g_e3 g_e4 b_a0 n_a0 a0) N ((0 : Int), (0 : Int))) (fun x => impl_meanOf_k0_0 Tryd.prog N g_e0 g_e1 g_e2 g_e3 g_e4 b_a0 n_a0 a0 x.1 x.2))) := by
  refine Eq.trans (b := (bif ((n_a0 : Int) == (0 : Int)) then (some (.t [.g #[.int .i64 (0 : Int), .int .i64 (0 : Int)] 45, .e 4], .none, true))
    else (bindX (iterO (stepV Tryd.prog (mkΓ [(43, con impl_shareOf_con)]) N (cAt (codeOf Tryd.f31) [1, 1, 1, 0, 1, 0, 0]) (pAt (mkPlan (codeOf Tryd.f31) [([4, 14], [])]).1 [1, 1, 1, 0, 1, 0]) [4, 14] [] (⟨.a (.l 5) :: .a (.u) :: .a (.w 6) :: .a (.v (.nilIface)) :: .a (.i .i64 (0 : Int)) :: .a (.u) :: .a (.u) :: .a (.l 5) :: .a (.i .i64 (n_a0 : Int)) :: .a (.b (((n_a0 : Int) == (0 : Int)))) :: .a (.u) :: .a (.u) :: .a (.l 5) :: .a (.i .i64 (n_a0 : Int)) :: .a (.i .i64 (0 : Int)) :: us 13 ([]), [.gl 0 129 g_e0 36452, .gl 1 129 g_e1 27809, .gl 2 129 g_e2 46794, .gl 3 129 g_e3 59197, .gl 4 129 g_e4 28733, .sl (.came b_a0) n_a0 a0 57, .row #[.int .i64 (0 : Int), .int .i64 (0 : Int)] 45, .no], []⟩ : St)) N ([.a (.i .i64 (0 : Int)), .a (.i .i64 (0 : Int))], [])) (fun e s => (kBlock 0 (kSeq (veC Tryd.prog (mkΓ [(43, con impl_shareOf_con)]) N (cAt (codeOf Tryd.f31) [1, 1, 1, 1]) (pAt (mkPlan (codeOf Tryd.f31) [([4, 14], [])]).1 [1, 1, 1, 1]) (SV × Eff × Bool)) (finK Tryd.prog [.gl 0 129 g_e0 36452, .gl 1 129 g_e1 27809, .gl 2 129 g_e2 46794, .gl 3 129 g_e3 59197, .gl 4 129 g_e4 28733, .sl (.came b_a0) n_a0 a0 57] [.cell 2 45, .tmp 3]))) e (left (writes (cAt (codeOf Tryd.f31) [1, 1, 1, 0, 1, 0, 0])) [4, 14] [] (⟨.a (.l 5) :: .a (.u) :: .a (.w 6) :: .a (.v (.nilIface)) :: .a (.i .i64 (0 : Int)) :: .a (.u) :: .a (.u) :: .a (.l 5) :: .a (.i .i64 (n_a0 : Int)) :: .a (.b (((n_a0 : Int) == (0 : Int)))) :: .a (.u) :: .a (.u) :: .a (.l 5) :: .a (.i .i64 (n_a0 : Int)) :: .a (.i .i64 (0 : Int)) :: us 13 ([]), [.gl 0 129 g_e0 36452, .gl 1 129 g_e1 27809, .gl 2 129 g_e2 46794, .gl 3 129 g_e3 59197, .gl 4 129 g_e4 28733, .sl (.came b_a0) n_a0 a0 57, .row #[.int .i64 (0 : Int), .int .i64 (0 : Int)] 45, .no], []⟩ : St) s))))) (by kernel_rfl) ?_
  simp only [impl_meanOf_n0 N g_e0 g_e1 g_e2 g_e3 g_e4 b_a0 n_a0 a0]

theorem impl_meanOf_main0 (g_e0 : Addr) (g_e1 : Addr) (g_e2 : Addr) (g_e3 : Addr) (g_e4 : Addr) (b_a0 : Option (Option Addr)) (n_a0 : Nat) (a0 : Array Value) (h_a0 : a0.size = n_a0 * (lay Tryd.prog 57).length ∧ (∀ k, k < n_a0 → WT Tryd.prog 57 (a0.extract (k * (lay Tryd.prog 57).length) (k * (lay Tryd.prog 57).length + (lay Tryd.prog 57).length))) ∧ n_a0 ≤ 9223372036854775807) (hc0 : (((n_a0 : Int) == 0)) = false) (hg : ((impl_shareOf_gd (hsum a0 n_a0) (n_a0 : Int))) = true) : ansV Tryd.prog (mkΓ [(43, con impl_shareOf_con)]) 18446744073709551616 Tryd.f31 [([4, 14], [])] [.l 5] [.gl 0 129 g_e0 36452, .gl 1 129 g_e1 27809, .gl 2 129 g_e2 46794, .gl 3 129 g_e3 59197, .gl 4 129 g_e4 28733, .sl (.came b_a0) n_a0 a0 57] = some (.t [.g (impl_shareOf_v0 (hsum a0 n_a0) (n_a0 : Int)) 45, .v (.nilIface)], .none, true) := by
  have hn := h_a0.2.2
  refine (impl_meanOf_ans 18446744073709551616 g_e0 g_e1 g_e2 g_e3 g_e4 b_a0 n_a0 a0).trans ?_
  simp only [hc0, cond_false]
  have h := iter_all (g := impl_meanOf_g0 Tryd.prog g_e0 g_e1 g_e2 g_e3 g_e4 b_a0 n_a0 a0) (fun k => (hsum a0 k, (k : Int))) (m := n_a0) (x := (hsum a0 n_a0, (n_a0 : Int))) (N := 18446744073709551616) (fun k hk => by
    have h1 : decide ((k : Int) < (n_a0 : Int)) = true := decide_eq_true (by omega)
    have h0 : decide (0 ≤ (k : Int)) = true := decide_eq_true (by omega)
    have h3 : IntKind.i64.wrap ((k : Int) + 1) = ((k + 1 : Nat) : Int) := by rw [IntWalk.i64_in _ (by omega)]; omega
    have he : IntKind.i64.wrap (num (a0.extract (k * 2) (k * 2 + 2)) 1) = hcF a0 k := (fnd_ext a0 k).2
    simp only [impl_meanOf_g0, h1, h0, h3, Bool.and_self, Int.toNat_natCast, cond_true, he]
    rfl) (by
    have h1 : decide ((n_a0 : Int) < (n_a0 : Int)) = false := decide_eq_false (by omega)
    simp only [impl_meanOf_g0, h1, cond_false]) (by omega)
  have h' : iterO (impl_meanOf_g0 Tryd.prog g_e0 g_e1 g_e2 g_e3 g_e4 b_a0 n_a0 a0) 18446744073709551616 ((0 : Int), (0 : Int)) = some (hsum a0 n_a0, (n_a0 : Int)) := h
  rw [h']
  simp only [nodeX, impl_meanOf_k0_0, hg, cond_true]
theorem impl_meanOf_main1 (g_e0 : Addr) (g_e1 : Addr) (g_e2 : Addr) (g_e3 : Addr) (g_e4 : Addr) (b_a0 : Option (Option Addr)) (n_a0 : Nat) (a0 : Array Value) (h_a0 : a0.size = n_a0 * (lay Tryd.prog 57).length ∧ (∀ k, k < n_a0 → WT Tryd.prog 57 (a0.extract (k * (lay Tryd.prog 57).length) (k * (lay Tryd.prog 57).length + (lay Tryd.prog 57).length))) ∧ n_a0 ≤ 9223372036854775807) (hc0 : (((n_a0 : Int) == 0)) = true) (hg : (true) = true) : ansV Tryd.prog (mkΓ [(43, con impl_shareOf_con)]) 18446744073709551616 Tryd.f31 [([4, 14], [])] [.l 5] [.gl 0 129 g_e0 36452, .gl 1 129 g_e1 27809, .gl 2 129 g_e2 46794, .gl 3 129 g_e3 59197, .gl 4 129 g_e4 28733, .sl (.came b_a0) n_a0 a0 57] = some (.t [.g #[.int .i64 (0 : Int), .int .i64 (0 : Int)] 45, .e 4], .none, true) := by
  refine (impl_meanOf_ans 18446744073709551616 g_e0 g_e1 g_e2 g_e3 g_e4 b_a0 n_a0 a0).trans ?_
  simp only [hc0, cond_true]
noncomputable def impl_meanOf_scon : SCon := fun args h => match args, h with
  | [.l 5], [.gl 0 129 g_e0 36452, .gl 1 129 g_e1 27809, .gl 2 129 g_e2 46794, .gl 3 129 g_e3 59197, .gl 4 129 g_e4 28733, .sl (.came b_a0) n_a0 a0 57] => .two (((n_a0 : Int) == 0)) (.one (some (.t [.g #[.int .i64 (0 : Int), .int .i64 (0 : Int)] 45, .e 4], .none, true))) (.one (some (.t [.g (impl_shareOf_v0 (hsum a0 n_a0) (n_a0 : Int)) 45, .v (.nilIface)], .none, (impl_shareOf_gd (hsum a0 n_a0) (n_a0 : Int)))))
  | _, _ => .one none
theorem impl_meanOf_enter : ∀ args w, (callFunc 31 args).run Tryd.prog w = .ok (.enter 31 args) w := enter_ok (fn := Tryd.f31) (by kernel_rfl) (by kernel_rfl) (by kernel_rfl)
theorem impl_meanOf_sok : ConOk Tryd.prog 31 (fun args h => wayRes (impl_meanOf_scon args h)) := by
  intro ρ h w args vals r e hn hr hA hH
  dsimp only at hr
  unfold impl_meanOf_scon at hr
  split at hr
  · rename_i g_e0 g_e1 g_e2 g_e3 g_e4 b_a0 n_a0 a0
    simp only [wayRes] at hr
    cases hc0 : (((n_a0 : Int) == 0))
    · rw [hc0] at hr
      simp only [wayRes, cond_true, cond_false] at hr
      obtain ⟨rfl, hg⟩ := Prod.mk.inj (Option.some.inj hr)
      obtain ⟨rfl, hg2⟩ := Prod.mk.inj hg
      exact ((ans_ok (N := 18446744073709551616) (by kernel_rfl) (mkΓ_cons (con_ok impl_shareOf_ok) impl_shareOf_enter mkΓ_nil) (fn := Tryd.f31) (by kernel_rfl) (by kernel_rfl) [([4, 14], [])])) ρ _ w _ vals _ _ hn ((impl_meanOf_main0 g_e0 g_e1 g_e2 g_e3 g_e4 b_a0 n_a0 a0 (hH.slw 5 rfl) hc0 hg2)) hA hH
    · rw [hc0] at hr
      simp only [wayRes, cond_true, cond_false] at hr
      obtain ⟨rfl, hg⟩ := Prod.mk.inj (Option.some.inj hr)
      obtain ⟨rfl, hg2⟩ := Prod.mk.inj hg
      exact ((ans_ok (N := 18446744073709551616) (by kernel_rfl) (mkΓ_cons (con_ok impl_shareOf_ok) impl_shareOf_enter mkΓ_nil) (fn := Tryd.f31) (by kernel_rfl) (by kernel_rfl) [([4, 14], [])])) ρ _ w _ vals _ _ hn ((impl_meanOf_main1 g_e0 g_e1 g_e2 g_e3 g_e4 b_a0 n_a0 a0 (hH.slw 5 rfl) hc0 hg2)) hA hH
  · simp only [wayRes] at hr
    cases hr

noncomputable def spec_MeanHour_e0 : Int × Int → LS
  | (y0_7, y0_8) => ([.a (.i .i64 (y0_7)), .a (.i .i64 (y0_8))], [])

noncomputable def spec_MeanHour_x0 : Int × Int → Exit × LS
  | t => ((.exit 0), spec_MeanHour_e0 t)

noncomputable def spec_MeanHour_g0 (P : Program) (a0 : Array Value) (b_a1 : Option (Option Addr)) (n_a1 : Nat) (a1 : Array Value) : Int × Int → Option (Stp (Int × Int) (Int × Int))
  | (y0_7, y0_8) => bif decide (y0_8 < (n_a1 : Int)) then (bif (decide (0 ≤ y0_8) && decide (y0_8 < (n_a1 : Int))) then (some (.more ((IntKind.i64.wrap (y0_7 + (IntKind.i64.wrap (num a1 (((y0_8).toNat * 2) + 1))))), (IntKind.i64.wrap (y0_8 + (1 : Int))))))
      else (none))
    else (some (.done (y0_7, y0_8)))

theorem spec_MeanHour_s0 (N : Nat) (a0 : Array Value) (b_a1 : Option (Option Addr)) (n_a1 : Nat) (a1 : Array Value) : ∀ t : Int × Int, stepV Tryd.prog (mkΓ [(22, con spec_l03Given_con), (30, con spec_l02Share_con)]) N (cAt (codeOf Tryd.f15) [1, 1, 1, 1, 0, 1, 0, 0]) (pAt (mkPlan (codeOf Tryd.f15) [([7, 8], [])]).1 [1, 1, 1, 1, 0, 1, 0]) [7, 8] [] (⟨.a (.g a0 38) :: .a (.l 0) :: .a (.w 1) :: .a (.u) :: .a (.w 2) :: .a (.i .i64 (0 : Int)) :: .a (.i .i64 (spec_l03Given_v0 a0 b_a1 n_a1 a1)) :: .a (.i .i64 (0 : Int)) :: .a (.i .i64 (0 : Int)) :: .a (.l 0) :: .a (.i .i64 (spec_l03Given_v0 a0 b_a1 n_a1 a1)) :: .a (.i .i64 (spec_l03Given_v0 a0 b_a1 n_a1 a1)) :: .a (.b (((spec_l03Given_v0 a0 b_a1 n_a1 a1) != (0 : Int)))) :: .a (.u) :: .a (.u) :: .a (.l 0) :: .a (.i .i64 (n_a1 : Int)) :: .a (.b (((n_a1 : Int) == (0 : Int)))) :: us 19 ([]), [.sl (.came b_a1) n_a1 a1 57, .row a0 38, .row #[.int .i64 (0 : Int), .int .i64 (0 : Int)] 45, .no], []⟩ : St) (spec_MeanHour_e0 t) = mapS spec_MeanHour_e0 spec_MeanHour_x0 (spec_MeanHour_g0 Tryd.prog a0 b_a1 n_a1 a1 t) := by
  rintro ⟨y0_7, y0_8⟩
  refine Eq.trans (b := (bif decide (y0_8 < (n_a1 : Int)) then (bif (decide (0 ≤ y0_8) && decide (y0_8 < (n_a1 : Int))) then (some (.more ([.a (.i .i64 (IntKind.i64.wrap (y0_7 + (IntKind.i64.wrap (num a1 (((y0_8).toNat * 2) + 1)))))), .a (.i .i64 (IntKind.i64.wrap (y0_8 + (1 : Int))))], [])))
      else (none))
    else (some (.done ((.exit 0), ([.a (.i .i64 (y0_7)), .a (.i .i64 (y0_8))], [])))))) (by kernel_rfl) ?_
  simp only [spec_MeanHour_g0, mapS_cond, mapS_more, mapS_done, mapS_none, spec_MeanHour_e0, spec_MeanHour_x0]

noncomputable def spec_MeanHour_k0_0 (P : Program) (N : Nat) (a0 : Array Value) (b_a1 : Option (Option Addr)) (n_a1 : Nat) (a1 : Array Value) (z0_7 : Int) (z0_8 : Int) : Option (SV × Eff × Bool) := bif (spec_l02Share_gd z0_7 (n_a1 : Int)) then (some (.t [.g #[.int .i64 (IntKind.i64.wrap ((z0_7).tdiv (gcdW z0_7 (n_a1 : Int)))), .int .i64 (IntKind.i64.wrap (((n_a1 : Int)).tdiv (gcdW z0_7 (n_a1 : Int))))] 45, .i .i64 (0 : Int)], .none, true))
    else (none)

theorem spec_MeanHour_k0_0_eq (N : Nat) (a0 : Array Value) (b_a1 : Option (Option Addr)) (n_a1 : Nat) (a1 : Array Value) (z0_7 : Int) (z0_8 : Int) : (kBlock 0 (kSeq (veC Tryd.prog (mkΓ [(22, con spec_l03Given_con), (30, con spec_l02Share_con)]) N (cAt (codeOf Tryd.f15) [1, 1, 1, 1, 1]) (pAt (mkPlan (codeOf Tryd.f15) [([7, 8], [])]).1 [1, 1, 1, 1, 1]) (SV × Eff × Bool)) (finK Tryd.prog [.sl (.came b_a1) n_a1 a1 57] [.cell 4 45, .tmp 5]))) (.exit 0) (left (writes (cAt (codeOf Tryd.f15) [1, 1, 1, 1, 0, 1, 0, 0])) [7, 8] [] (⟨.a (.g a0 38) :: .a (.l 0) :: .a (.w 1) :: .a (.u) :: .a (.w 2) :: .a (.i .i64 (0 : Int)) :: .a (.i .i64 (spec_l03Given_v0 a0 b_a1 n_a1 a1)) :: .a (.i .i64 (0 : Int)) :: .a (.i .i64 (0 : Int)) :: .a (.l 0) :: .a (.i .i64 (spec_l03Given_v0 a0 b_a1 n_a1 a1)) :: .a (.i .i64 (spec_l03Given_v0 a0 b_a1 n_a1 a1)) :: .a (.b (((spec_l03Given_v0 a0 b_a1 n_a1 a1) != (0 : Int)))) :: .a (.u) :: .a (.u) :: .a (.l 0) :: .a (.i .i64 (n_a1 : Int)) :: .a (.b (((n_a1 : Int) == (0 : Int)))) :: us 19 ([]), [.sl (.came b_a1) n_a1 a1 57, .row a0 38, .row #[.int .i64 (0 : Int), .int .i64 (0 : Int)] 45, .no], []⟩ : St) ([.a (.i .i64 (z0_7)), .a (.i .i64 (z0_8))], [])) = spec_MeanHour_k0_0 Tryd.prog N a0 b_a1 n_a1 a1 z0_7 z0_8 := by
  refine Eq.trans (b := (bif (spec_l02Share_gd z0_7 (n_a1 : Int)) then (some (.t [.g #[.int .i64 (IntKind.i64.wrap ((z0_7).tdiv (gcdW z0_7 (n_a1 : Int)))), .int .i64 (IntKind.i64.wrap (((n_a1 : Int)).tdiv (gcdW z0_7 (n_a1 : Int))))] 45, .i .i64 (0 : Int)], .none, true))
    else (none))) (by kernel_rfl) ?_
  rfl

theorem spec_MeanHour_n0 (N : Nat) (a0 : Array Value) (b_a1 : Option (Option Addr)) (n_a1 : Nat) (a1 : Array Value) : bindX (iterO (stepV Tryd.prog (mkΓ [(22, con spec_l03Given_con), (30, con spec_l02Share_con)]) N (cAt (codeOf Tryd.f15) [1, 1, 1, 1, 0, 1, 0, 0]) (pAt (mkPlan (codeOf Tryd.f15) [([7, 8], [])]).1 [1, 1, 1, 1, 0, 1, 0]) [7, 8] [] (⟨.a (.g a0 38) :: .a (.l 0) :: .a (.w 1) :: .a (.u) :: .a (.w 2) :: .a (.i .i64 (0 : Int)) :: .a (.i .i64 (spec_l03Given_v0 a0 b_a1 n_a1 a1)) :: .a (.i .i64 (0 : Int)) :: .a (.i .i64 (0 : Int)) :: .a (.l 0) :: .a (.i .i64 (spec_l03Given_v0 a0 b_a1 n_a1 a1)) :: .a (.i .i64 (spec_l03Given_v0 a0 b_a1 n_a1 a1)) :: .a (.b (((spec_l03Given_v0 a0 b_a1 n_a1 a1) != (0 : Int)))) :: .a (.u) :: .a (.u) :: .a (.l 0) :: .a (.i .i64 (n_a1 : Int)) :: .a (.b (((n_a1 : Int) == (0 : Int)))) :: us 19 ([]), [.sl (.came b_a1) n_a1 a1 57, .row a0 38, .row #[.int .i64 (0 : Int), .int .i64 (0 : Int)] 45, .no], []⟩ : St)) N ([.a (.i .i64 (0 : Int)), .a (.i .i64 (0 : Int))], [])) (fun e s => (kBlock 0 (kSeq (veC Tryd.prog (mkΓ [(22, con spec_l03Given_con), (30, con spec_l02Share_con)]) N (cAt (codeOf Tryd.f15) [1, 1, 1, 1, 1]) (pAt (mkPlan (codeOf Tryd.f15) [([7, 8], [])]).1 [1, 1, 1, 1, 1]) (SV × Eff × Bool)) (finK Tryd.prog [.sl (.came b_a1) n_a1 a1 57] [.cell 4 45, .tmp 5]))) e (left (writes (cAt (codeOf Tryd.f15) [1, 1, 1, 1, 0, 1, 0, 0])) [7, 8] [] (⟨.a (.g a0 38) :: .a (.l 0) :: .a (.w 1) :: .a (.u) :: .a (.w 2) :: .a (.i .i64 (0 : Int)) :: .a (.i .i64 (spec_l03Given_v0 a0 b_a1 n_a1 a1)) :: .a (.i .i64 (0 : Int)) :: .a (.i .i64 (0 : Int)) :: .a (.l 0) :: .a (.i .i64 (spec_l03Given_v0 a0 b_a1 n_a1 a1)) :: .a (.i .i64 (spec_l03Given_v0 a0 b_a1 n_a1 a1)) :: .a (.b (((spec_l03Given_v0 a0 b_a1 n_a1 a1) != (0 : Int)))) :: .a (.u) :: .a (.u) :: .a (.l 0) :: .a (.i .i64 (n_a1 : Int)) :: .a (.b (((n_a1 : Int) == (0 : Int)))) :: us 19 ([]), [.sl (.came b_a1) n_a1 a1 57, .row a0 38, .row #[.int .i64 (0 : Int), .int .i64 (0 : Int)] 45, .no], []⟩ : St) s)) = nodeX (iterO (spec_MeanHour_g0 Tryd.prog a0 b_a1 n_a1 a1) N ((0 : Int), (0 : Int))) (fun x => spec_MeanHour_k0_0 Tryd.prog N a0 b_a1 n_a1 a1 x.1 x.2) := by
  refine loop_node spec_MeanHour_e0 spec_MeanHour_x0 _ _ (spec_MeanHour_s0 N a0 b_a1 n_a1 a1) N ((0 : Int), (0 : Int)) _ _ ?_
  intro x; exact spec_MeanHour_k0_0_eq N a0 b_a1 n_a1 a1 x.1 x.2

theorem spec_MeanHour_ans (N : Nat) (a0 : Array Value) (b_a1 : Option (Option Addr)) (n_a1 : Nat) (a1 : Array Value) : ansV Tryd.prog (mkΓ [(22, con spec_l03Given_con), (30, con spec_l02Share_con)]) N Tryd.f15 [([7, 8], [])] [.g a0 38, .l 0] [.sl (.came b_a1) n_a1 a1 57] = (bif ((spec_l03Given_v0 a0 b_a1 n_a1 a1) != (0 : Int)) then (some (.t [.g #[.int .i64 (0 : Int), .int .i64 (0 : Int)] 45, .i .i64 (spec_l03Given_v0 a0 b_a1 n_a1 a1)], .none, true))
    else (bif ((n_a1 : Int) == (0 : Int)) then (some (.t [.g #[.int .i64 (0 : Int), .int .i64 (0 : Int)] 45, .i .i64 (6 : Int)], .none, true))
      else (nodeX (iterO (spec_MeanHour_g0 Tryd.prog a0 b_a1 n_a1 a1) N ((0 : Int), (0 : Int))) (fun x => spec_MeanHour_k0_0 Tryd.prog N a0 b_a1 n_a1 a1 x.1 x.2)))) := by
  refine Eq.trans (b := (bif ((spec_l03Given_v0 a0 b_a1 n_a1 a1) != (0 : Int)) then (some (.t [.g #[.int .i64 (0 : Int), .int .i64 (0 : Int)] 45, .i .i64 (spec_l03Given_v0 a0 b_a1 n_a1 a1)], .none, true))
    else (bif ((n_a1 : Int) == (0 : Int)) then (some (.t [.g #[.int .i64 (0 : Int), .int .i64 (0 : Int)] 45, .i .i64 (6 : Int)], .none, true))
      else (bindX (iterO (stepV Tryd.prog (mkΓ [(22, con spec_l03Given_con), (30, con spec_l02Share_con)]) N (cAt (codeOf Tryd.f15) [1, 1, 1, 1, 0, 1, 0, 0]) (pAt (mkPlan (codeOf Tryd.f15) [([7, 8], [])]).1 [1, 1, 1, 1, 0, 1, 0]) [7, 8] [] (⟨.a (.g a0 38) :: .a (.l 0) :: .a (.w 1) :: .a (.u) :: .a (.w 2) :: .a (.i .i64 (0 : Int)) :: .a (.i .i64 (spec_l03Given_v0 a0 b_a1 n_a1 a1)) :: .a (.i .i64 (0 : Int)) :: .a (.i .i64 (0 : Int)) :: .a (.l 0) :: .a (.i .i64 (spec_l03Given_v0 a0 b_a1 n_a1 a1)) :: .a (.i .i64 (spec_l03Given_v0 a0 b_a1 n_a1 a1)) :: .a (.b (((spec_l03Given_v0 a0 b_a1 n_a1 a1) != (0 : Int)))) :: .a (.u) :: .a (.u) :: .a (.l 0) :: .a (.i .i64 (n_a1 : Int)) :: .a (.b (((n_a1 : Int) == (0 : Int)))) :: us 19 ([]), [.sl (.came b_a1) n_a1 a1 57, .row a0 38, .row #[.int .i64 (0 : Int), .int .i64 (0 : Int)] 45, .no], []⟩ : St)) N ([.a (.i .i64 (0 : Int)), .a (.i .i64 (0 : Int))], [])) (fun e s => (kBlock 0 (kSeq (veC Tryd.prog (mkΓ [(22, con spec_l03Given_con), (30, con spec_l02Share_con)]) N (cAt (codeOf Tryd.f15) [1, 1, 1, 1, 1]) (pAt (mkPlan (codeOf Tryd.f15) [([7, 8], [])]).1 [1, 1, 1, 1, 1]) (SV × Eff × Bool)) (finK Tryd.prog [.sl (.came b_a1) n_a1 a1 57] [.cell 4 45, .tmp 5]))) e (left (writes (cAt (codeOf Tryd.f15) [1, 1, 1, 1, 0, 1, 0, 0])) [7, 8] [] (⟨.a (.g a0 38) :: .a (.l 0) :: .a (.w 1) :: .a (.u) :: .a (.w 2) :: .a (.i .i64 (0 : Int)) :: .a (.i .i64 (spec_l03Given_v0 a0 b_a1 n_a1 a1)) :: .a (.i .i64 (0 : Int)) :: .a (.i .i64 (0 : Int)) :: .a (.l 0) :: .a (.i .i64 (spec_l03Given_v0 a0 b_a1 n_a1 a1)) :: .a (.i .i64 (spec_l03Given_v0 a0 b_a1 n_a1 a1)) :: .a (.b (((spec_l03Given_v0 a0 b_a1 n_a1 a1) != (0 : Int)))) :: .a (.u) :: .a (.u) :: .a (.l 0) :: .a (.i .i64 (n_a1 : Int)) :: .a (.b (((n_a1 : Int) == (0 : Int)))) :: us 19 ([]), [.sl (.came b_a1) n_a1 a1 57, .row a0 38, .row #[.int .i64 (0 : Int), .int .i64 (0 : Int)] 45, .no], []⟩ : St) s)))))) (by kernel_rfl) ?_
  simp only [spec_MeanHour_n0 N a0 b_a1 n_a1 a1]

theorem spec_MeanHour_main (a0 : Array Value) (b_a1 : Option (Option Addr)) (n_a1 : Nat) (a1 : Array Value) (h_a0 : WT Tryd.prog 38 a0) (h_a1 : a1.size = n_a1 * (lay Tryd.prog 57).length ∧ (∀ k, k < n_a1 → WT Tryd.prog 57 (a1.extract (k * (lay Tryd.prog 57).length) (k * (lay Tryd.prog 57).length + (lay Tryd.prog 57).length))) ∧ n_a1 ≤ 9223372036854775807) (hg : (true) = true) : ansV Tryd.prog (mkΓ [(22, con spec_l03Given_con), (30, con spec_l02Share_con)]) 18446744073709551616 Tryd.f15 [([7, 8], [])] [.g a0 38, .l 0] [.sl (.came b_a1) n_a1 a1 57] = some (.t [.g (bif vf a0 n_a1 a1 then meanW a1 n_a1 else #[.int .i64 (0 : Int), .int .i64 (0 : Int)]) 45, .i .i64 (bif vf a0 n_a1 a1 then (bif ((n_a1 : Int) == 0) then (6 : Int) else 0) else 1)], .none, true) := by
  have hn := h_a1.2.2
  refine (spec_MeanHour_ans 18446744073709551616 a0 b_a1 n_a1 a1).trans ?_
  have eG : spec_l03Given_v0 a0 b_a1 n_a1 a1 = bif vf a0 n_a1 a1 then 0 else 1 := by
    unfold spec_l03Given_v0 vf
    cases okS a0 <;> cases (fndAll a0 n_a1 a1 && decide ((n_a1 : Int) ≤ 60)) <;> rfl
  rw [eG]
  cases hv : vf a0 n_a1 a1
  · rfl
  unfold meanW
  cases h0 : ((n_a1 : Int) == 0)
  case true => rfl
  have h0' : (n_a1 : Int) ≠ 0 := by simpa using h0
  obtain ⟨hn6, hh⟩ := vf_hours hv
  have hs := hsum_in hn6 hh n_a1 (Nat.le_refl _)
  have sh := share_eq (p := hsum a1 n_a1) (w := (n_a1 : Int)) hs.1 (by omega)
  have h := iter_all (g := spec_MeanHour_g0 Tryd.prog a0 b_a1 n_a1 a1) (fun k => (hsum a1 k, (k : Int))) (m := n_a1) (x := (hsum a1 n_a1, (n_a1 : Int))) (N := 18446744073709551616) (fun k hk => by
    have h1 : decide ((k : Int) < (n_a1 : Int)) = true := decide_eq_true (by omega)
    have h0 : decide (0 ≤ (k : Int)) = true := decide_eq_true (by omega)
    have h3 : IntKind.i64.wrap ((k : Int) + 1) = ((k + 1 : Nat) : Int) := by rw [IntWalk.i64_in _ (by omega)]; omega
    have he : IntKind.i64.wrap (num a1 (k * 2 + 1)) = hcF a1 k := rfl
    simp only [spec_MeanHour_g0, h1, h0, h3, Bool.and_self, Int.toNat_natCast, cond_true, he]
    rfl) (by
    have h1 : decide ((n_a1 : Int) < (n_a1 : Int)) = false := decide_eq_false (by omega)
    simp only [spec_MeanHour_g0, h1, cond_false]) (by omega)
  have h' : iterO (spec_MeanHour_g0 Tryd.prog a0 b_a1 n_a1 a1) 18446744073709551616 ((0 : Int), (0 : Int)) = some (hsum a1 n_a1, (n_a1 : Int)) := h
  simp only [cond_true, cond_false, show ((0 : Int) != 0) = false from rfl, h', nodeX, spec_MeanHour_k0_0, sh.2.2]
  rfl
noncomputable def spec_MeanHour_con : Con := fun args h => match args, h with
  | [.g a0 38, .l 0], [.sl (.came b_a1) n_a1 a1 57] => some (.t [.g (bif vf a0 n_a1 a1 then meanW a1 n_a1 else #[.int .i64 (0 : Int), .int .i64 (0 : Int)]) 45, .i .i64 (bif vf a0 n_a1 a1 then (bif ((n_a1 : Int) == 0) then (6 : Int) else 0) else 1)], .none, true)
  | _, _ => none
theorem spec_MeanHour_enter : ∀ args w, (callFunc 15 args).run Tryd.prog w = .ok (.enter 15 args) w := enter_ok (fn := Tryd.f15) (by kernel_rfl) (by kernel_rfl) (by kernel_rfl)
theorem spec_MeanHour_ok : ConOk Tryd.prog 15 spec_MeanHour_con := (ans_ok (N := 18446744073709551616) (by kernel_rfl) (mkΓ_cons (con_ok spec_l03Given_ok) spec_l03Given_enter (mkΓ_cons (con_ok spec_l02Share_ok) spec_l02Share_enter mkΓ_nil)) (fn := Tryd.f15) (by kernel_rfl) (by kernel_rfl) [([7, 8], [])]).of (by
  intro ρ h w args vals r e hA hH hr
  unfold spec_MeanHour_con at hr
  split at hr
  · rename_i a0 b_a1 n_a1 a1
    obtain ⟨rfl, hg⟩ := Prod.mk.inj (Option.some.inj hr)
    obtain ⟨rfl, hg2⟩ := Prod.mk.inj hg
    exact spec_MeanHour_main a0 b_a1 n_a1 a1 (hA.wt 0 rfl) (hH.slw 0 rfl) hg2
  · cases hr)

theorem impl_MeanHour_ans (N : Nat) (a0 : Array Value) (g_e0 : Addr) (g_e1 : Addr) (g_e2 : Addr) (g_e3 : Addr) (g_e4 : Addr) (b_a1 : Option (Option Addr)) (n_a1 : Nat) (a1 : Array Value) : ansV Tryd.prog (mkΓw [(26, conSG impl_findsError_scon), (31, conSG impl_meanOf_scon)] [(27, conG impl_codeOf_con)] [] []) N Tryd.f16 [] [.g a0 38, .l 5] [.gl 0 129 g_e0 36452, .gl 1 129 g_e1 27809, .gl 2 129 g_e2 46794, .gl 3 129 g_e3 59197, .gl 4 129 g_e4 28733, .sl (.came b_a1) n_a1 a1 57] = (bif vf a0 n_a1 a1 then (bif ((n_a1 : Int) == 0) then (some (.t [.g #[.int .i64 (0 : Int), .int .i64 (0 : Int)] 45, .i .i64 (6 : Int)], .none, true))
      else (bif (impl_shareOf_gd (hsum a1 n_a1) (n_a1 : Int)) then (some (.t [.g (impl_shareOf_v0 (hsum a1 n_a1) (n_a1 : Int)) 45, .i .i64 (0 : Int)], .none, true))
        else (none)))
    else (some (.t [.g #[.int .i64 (0 : Int), .int .i64 (0 : Int)] 45, .i .i64 (1 : Int)], .none, true))) := by kernel_rfl

theorem impl_MeanHour_main (a0 : Array Value) (g_e0 : Addr) (g_e1 : Addr) (g_e2 : Addr) (g_e3 : Addr) (g_e4 : Addr) (b_a1 : Option (Option Addr)) (n_a1 : Nat) (a1 : Array Value) (h_a0 : WT Tryd.prog 38 a0) (h_a1 : a1.size = n_a1 * (lay Tryd.prog 57).length ∧ (∀ k, k < n_a1 → WT Tryd.prog 57 (a1.extract (k * (lay Tryd.prog 57).length) (k * (lay Tryd.prog 57).length + (lay Tryd.prog 57).length))) ∧ n_a1 ≤ 9223372036854775807) (hg : (true) = true) : ansV Tryd.prog (mkΓw [(26, conSG impl_findsError_scon), (31, conSG impl_meanOf_scon)] [(27, conG impl_codeOf_con)] [] []) 1000 Tryd.f16 [] [.g a0 38, .l 5] [.gl 0 129 g_e0 36452, .gl 1 129 g_e1 27809, .gl 2 129 g_e2 46794, .gl 3 129 g_e3 59197, .gl 4 129 g_e4 28733, .sl (.came b_a1) n_a1 a1 57] = some (.t [.g (bif vf a0 n_a1 a1 then meanW a1 n_a1 else #[.int .i64 (0 : Int), .int .i64 (0 : Int)]) 45, .i .i64 (bif vf a0 n_a1 a1 then (bif ((n_a1 : Int) == 0) then (6 : Int) else 0) else 1)], .none, true) := by
  refine (impl_MeanHour_ans 1000 a0 g_e0 g_e1 g_e2 g_e3 g_e4 b_a1 n_a1 a1).trans ?_
  cases hv : vf a0 n_a1 a1
  · rfl
  unfold meanW
  cases h0 : ((n_a1 : Int) == 0)
  case true => rfl
  have h0' : (n_a1 : Int) ≠ 0 := by simpa using h0
  obtain ⟨hn6, hh⟩ := vf_hours hv
  have hs := hsum_in hn6 hh n_a1 (Nat.le_refl _)
  have sh := share_eq (p := hsum a1 n_a1) (w := (n_a1 : Int)) hs.1 (by omega)
  simp only [cond_true, cond_false, sh.1, sh.2.1]
noncomputable def impl_MeanHour_con : Con := fun args h => match args, h with
  | [.g a0 38, .l 5], [.gl 0 129 g_e0 36452, .gl 1 129 g_e1 27809, .gl 2 129 g_e2 46794, .gl 3 129 g_e3 59197, .gl 4 129 g_e4 28733, .sl (.came b_a1) n_a1 a1 57] => some (.t [.g (bif vf a0 n_a1 a1 then meanW a1 n_a1 else #[.int .i64 (0 : Int), .int .i64 (0 : Int)]) 45, .i .i64 (bif vf a0 n_a1 a1 then (bif ((n_a1 : Int) == 0) then (6 : Int) else 0) else 1)], .none, true)
  | _, _ => none
theorem impl_MeanHour_enter : ∀ args w, (callFunc 16 args).run Tryd.prog w = .ok (.enter 16 args) w := enter_ok (fn := Tryd.f16) (by kernel_rfl) (by kernel_rfl) (by kernel_rfl)
theorem impl_MeanHour_ok : ConOk Tryd.prog 16 impl_MeanHour_con := (ans_ok (N := 1000) (by kernel_rfl) (mkΓw_s (conSG_ok impl_findsError_sok) impl_findsError_enter (mkΓw_s (conSG_ok impl_meanOf_sok) impl_meanOf_enter (mkΓw_c (conG_ok impl_codeOf_ok) impl_codeOf_enter mkΓx_nil))) (fn := Tryd.f16) (by kernel_rfl) (by kernel_rfl) []).of (by
  intro ρ h w args vals r e hA hH hr
  unfold impl_MeanHour_con at hr
  split at hr
  · rename_i a0 g_e0 g_e1 g_e2 g_e3 g_e4 b_a1 n_a1 a1
    obtain ⟨rfl, hg⟩ := Prod.mk.inj (Option.some.inj hr)
    obtain ⟨rfl, hg2⟩ := Prod.mk.inj hg
    exact impl_MeanHour_main a0 g_e0 g_e1 g_e2 g_e3 g_e4 b_a1 n_a1 a1 (hA.wt 0 rfl) (hH.slw 5 rfl) hg2
  · cases hr)

end
end Go.Proofs.YtmkkckhfghomfaaDoor
