/- For all lists of spots spec and program answer alike whether they are the same. -/
import Derived.Test.YthkpnfoapjhleaaRows
import Derived.Test.YthkpnfoapjhleaaChecked
import Derived.Test.YthkpnfoapjhleaaBase
import Derived.Test.YthkpnfoapjhleaaVeSsp
namespace Go.Proofs.Ythkpnfoapjhleaa
open Go.ChangeShapes Go.WideShapes Go.ChangeAt Go.RowKit Ve
set_option linter.unusedVariables false
set_option linter.unusedSimpArgs false
set_option maxRecDepth 100000
noncomputable section
theorem laws_FnExactSameSpots_ans (N : Nat) (b_a0 : Option (Option Addr)) (n_a0 : Nat) (a0 : Array Value) (b_a1 : Option (Option Addr)) (n_a1 : Nat) (a1 : Array Value) : ansV Try.prog (mkΓ [(16, con laws_eqSpotS_con), (23, con laws_szSpotS_con), (24, con spec_SameSpots_con), (25, con laws_toSpotS_con), (26, con impl_SameSpots_con)]) N Try.f6 [] [.l 0, .l 1] [.sl (.came b_a0) n_a0 a0 45, .sl (.came b_a1) n_a1 a1 45] = (bif decide ((laws_szSpotS_v0 (1048576 : Int) b_a0 n_a0 a0) < (0 : Int)) then (some (.a (.b (true)), .none, true))
    else (bif decide ((laws_szSpotS_v0 (laws_szSpotS_v0 (1048576 : Int) b_a0 n_a0 a0) b_a1 n_a1 a1) < (0 : Int)) then (some (.a (.b (true)), .none, true))
      else (bif decide (n_a0 ≤ 1048576) then (bif decide (n_a1 ≤ 1048576) then (bif decide (n_a0 ≤ 1048576) then (bif decide (n_a1 ≤ 1048576) then (bif (((decide (n_a0 = n_a1) && sameB a0 a1)) != ((decide (n_a0 = n_a1) && sameB a0 a1))) then (some (.a (.b (false)), .none, true))
                else (bif decide (n_a0 ≤ 1048576) then (bif (!((decide (n_a0 = n_a0) && sameB a0 a0))) then (some (.a (.b (false)), .none, true))
                    else (bif decide (n_a1 ≤ 1048576) then (bif (!((decide (n_a1 = n_a1) && sameB a1 a1))) then (some (.a (.b (false)), .none, true))
                        else (some (.a (.b (true)), .none, true)))
                      else (none)))
                  else (none)))
              else (none))
            else (none))
          else (none))
        else (none)))) := by kernel_rfl

noncomputable def laws_FnExactSameSpots_v0 (b_a0 : Option (Option Addr)) (n_a0 : Nat) (a0 : Array Value) (b_a1 : Option (Option Addr)) (n_a1 : Nat) (a1 : Array Value) : Bool := (bif decide ((laws_szSpotS_v0 (1048576 : Int) b_a0 n_a0 a0) < (0 : Int)) then true else (bif decide ((laws_szSpotS_v0 (laws_szSpotS_v0 (1048576 : Int) b_a0 n_a0 a0) b_a1 n_a1 a1) < (0 : Int)) then true else (bif (((decide (n_a0 = n_a1) && sameB a0 a1)) != ((decide (n_a0 = n_a1) && sameB a0 a1))) then false else (bif (!((decide (n_a0 = n_a0) && sameB a0 a0))) then false else (bif (!((decide (n_a1 = n_a1) && sameB a1 a1))) then false else true)))))
noncomputable def laws_FnExactSameSpots_gd (b_a0 : Option (Option Addr)) (n_a0 : Nat) (a0 : Array Value) (b_a1 : Option (Option Addr)) (n_a1 : Nat) (a1 : Array Value) : Bool := (bif decide ((laws_szSpotS_v0 (1048576 : Int) b_a0 n_a0 a0) < (0 : Int)) then true else (bif decide ((laws_szSpotS_v0 (laws_szSpotS_v0 (1048576 : Int) b_a0 n_a0 a0) b_a1 n_a1 a1) < (0 : Int)) then true else (bif decide (n_a0 ≤ 1048576) then (bif decide (n_a1 ≤ 1048576) then (bif decide (n_a0 ≤ 1048576) then (bif decide (n_a1 ≤ 1048576) then (bif (((decide (n_a0 = n_a1) && sameB a0 a1)) != ((decide (n_a0 = n_a1) && sameB a0 a1))) then true else (bif decide (n_a0 ≤ 1048576) then (bif (!((decide (n_a0 = n_a0) && sameB a0 a0))) then true else decide (n_a1 ≤ 1048576)) else false)) else false) else false) else false) else false)))

theorem laws_FnExactSameSpots_main (b_a0 : Option (Option Addr)) (n_a0 : Nat) (a0 : Array Value) (b_a1 : Option (Option Addr)) (n_a1 : Nat) (a1 : Array Value) (h_a0 : a0.size = n_a0 * (lay Try.prog 45).length ∧ (∀ k, k < n_a0 → WT Try.prog 45 (a0.extract (k * (lay Try.prog 45).length) (k * (lay Try.prog 45).length + (lay Try.prog 45).length))) ∧ n_a0 ≤ 9223372036854775807) (h_a1 : a1.size = n_a1 * (lay Try.prog 45).length ∧ (∀ k, k < n_a1 → WT Try.prog 45 (a1.extract (k * (lay Try.prog 45).length) (k * (lay Try.prog 45).length + (lay Try.prog 45).length))) ∧ n_a1 ≤ 9223372036854775807) (hg : ((laws_FnExactSameSpots_gd b_a0 n_a0 a0 b_a1 n_a1 a1)) = true) : ansV Try.prog (mkΓ [(16, con laws_eqSpotS_con), (23, con laws_szSpotS_con), (24, con spec_SameSpots_con), (25, con laws_toSpotS_con), (26, con impl_SameSpots_con)]) 1000 Try.f6 [] [.l 0, .l 1] [.sl (.came b_a0) n_a0 a0 45, .sl (.came b_a1) n_a1 a1 45] = some (.a (.b ((laws_FnExactSameSpots_v0 b_a0 n_a0 a0 b_a1 n_a1 a1))), .none, true) := by
  refine (laws_FnExactSameSpots_ans 1000 b_a0 n_a0 a0 b_a1 n_a1 a1).trans ?_
  unfold laws_FnExactSameSpots_gd at hg
  unfold laws_FnExactSameSpots_v0
  revert hg
  generalize (decide ((laws_szSpotS_v0 (1048576 : Int) b_a0 n_a0 a0) < (0 : Int))) = b2
  intro hg
  cases b2
  · skip
    revert hg
    generalize (decide ((laws_szSpotS_v0 (laws_szSpotS_v0 (1048576 : Int) b_a0 n_a0 a0) b_a1 n_a1 a1) < (0 : Int))) = b4
    intro hg
    cases b4
    · skip
      revert hg
      generalize (decide (n_a0 ≤ 1048576)) = b6
      intro hg
      cases b6
      · skip
        first | exact (nomatch (hg : false = true)) | (simp only [cond_true, cond_false, Bool.and_true, Bool.true_and, Bool.and_false, Bool.false_and]; done) | rfl
      · skip
        revert hg
        generalize (decide (n_a1 ≤ 1048576)) = b8
        intro hg
        cases b8
        · skip
          first | exact (nomatch (hg : false = true)) | (simp only [cond_true, cond_false, Bool.and_true, Bool.true_and, Bool.and_false, Bool.false_and]; done) | rfl
        · skip
          revert hg
          generalize ((((decide (n_a0 = n_a1) && sameB a0 a1)) != ((decide (n_a0 = n_a1) && sameB a0 a1)))) = b10
          intro hg
          cases b10
          · skip
            revert hg
            generalize ((!((decide (n_a0 = n_a0) && sameB a0 a0)))) = b12
            intro hg
            cases b12
            · skip
              revert hg
              generalize ((!((decide (n_a1 = n_a1) && sameB a1 a1)))) = b14
              intro hg
              cases b14
              · skip
                first | (simp only [cond_true, cond_false, Bool.and_true, Bool.true_and, Bool.and_false, Bool.false_and]; done) | rfl | exact (nomatch (hg : false = true))
              · skip
                first | (simp only [cond_true, cond_false, Bool.and_true, Bool.true_and, Bool.and_false, Bool.false_and]; done) | rfl | exact (nomatch (hg : false = true))
            · skip
              first | (simp only [cond_true, cond_false, Bool.and_true, Bool.true_and, Bool.and_false, Bool.false_and]; done) | rfl | exact (nomatch (hg : false = true))
          · skip
            first | (simp only [cond_true, cond_false, Bool.and_true, Bool.true_and, Bool.and_false, Bool.false_and]; done) | rfl | exact (nomatch (hg : false = true))
    · skip
      first | (simp only [cond_true, cond_false, Bool.and_true, Bool.true_and, Bool.and_false, Bool.false_and]; done) | rfl | exact (nomatch (hg : false = true))
  · skip
    first | (simp only [cond_true, cond_false, Bool.and_true, Bool.true_and, Bool.and_false, Bool.false_and]; done) | rfl | exact (nomatch (hg : false = true))
noncomputable def laws_FnExactSameSpots_con : Con := fun args h => match args, h with
  | [.l 0, .l 1], [.sl (.came b_a0) n_a0 a0 45, .sl (.came b_a1) n_a1 a1 45] => some (.a (.b ((laws_FnExactSameSpots_v0 b_a0 n_a0 a0 b_a1 n_a1 a1))), .none, (laws_FnExactSameSpots_gd b_a0 n_a0 a0 b_a1 n_a1 a1))
  | _, _ => none
theorem laws_FnExactSameSpots_enter : ∀ args w, (callFunc 6 args).run Try.prog w = .ok (.enter 6 args) w := enter_ok (fn := Try.f6) (by kernel_rfl) (by kernel_rfl) (by kernel_rfl)
theorem laws_FnExactSameSpots_ok : ConOk Try.prog 6 laws_FnExactSameSpots_con := (ans_ok (N := 1000) (by kernel_rfl) (mkΓ_cons (con_ok laws_eqSpotS_ok) laws_eqSpotS_enter (mkΓ_cons (con_ok laws_szSpotS_ok) laws_szSpotS_enter (mkΓ_cons (con_ok spec_SameSpots_ok) spec_SameSpots_enter (mkΓ_cons (con_ok laws_toSpotS_ok) laws_toSpotS_enter (mkΓ_cons (con_ok impl_SameSpots_ok) impl_SameSpots_enter mkΓ_nil))))) (fn := Try.f6) (by kernel_rfl) (by kernel_rfl) []).of (by
  intro ρ h w args vals r e hA hH hr
  unfold laws_FnExactSameSpots_con at hr
  split at hr
  · rename_i b_a0 n_a0 a0 b_a1 n_a1 a1
    obtain ⟨rfl, hg⟩ := Prod.mk.inj (Option.some.inj hr)
    obtain ⟨rfl, hg2⟩ := Prod.mk.inj hg
    exact laws_FnExactSameSpots_main b_a0 n_a0 a0 b_a1 n_a1 a1 (hH.slw 0 rfl) (hH.slw 1 rfl) hg2
  · cases hr)

theorem laws_FnExactSameSpots_true (b_a0 : Option (Option Addr)) (n_a0 : Nat) (a0 : Array Value) (b_a1 : Option (Option Addr)) (n_a1 : Nat) (a1 : Array Value) (h_a0 : n_a0 ≤ 9223372036854775807) (h_a1 : n_a1 ≤ 9223372036854775807) : ((laws_FnExactSameSpots_gd b_a0 n_a0 a0 b_a1 n_a1 a1)) = true ∧ ((laws_FnExactSameSpots_v0 b_a0 n_a0 a0 b_a1 n_a1 a1)) = true := by
  have z : ∀ (b : Int) (bb : Option (Option Addr)) (n : Nat) (A : Array Value), -1 ≤ b → b ≤ 1048576 → n ≤ 9223372036854775807 → laws_szSpotS_v0 b bb n A = if b - (n : Int) < 0 then -1 else b - (n : Int) := by
    intro b bb n A h1 h2 h3
    unfold laws_szSpotS_v0
    rw [IntWalk.i64_in (b - (n : Int)) (by omega)]
    by_cases h : b - (n : Int) < 0
    · rw [if_pos h, decide_eq_true h]; rfl
    · rw [if_neg h, decide_eq_false h]; rfl
  unfold laws_FnExactSameSpots_gd laws_FnExactSameSpots_v0
  rw [z 1048576 b_a0 n_a0 a0 (by omega) (by omega) h_a0]
  by_cases c0 : (1048576 : Int) - (n_a0 : Int) < 0
  · rw [if_pos c0]; exact ⟨rfl, rfl⟩
  · rw [if_neg c0, z _ b_a1 n_a1 a1 (by omega) (by omega) h_a1, decide_eq_false c0]
    by_cases c1 : (1048576 : Int) - (n_a0 : Int) - (n_a1 : Int) < 0
    · rw [if_pos c1]; exact ⟨rfl, rfl⟩
    · rw [if_neg c1, decide_eq_false c1, decide_eq_true (show n_a0 ≤ 1048576 by omega), decide_eq_true (show n_a1 ≤ 1048576 by omega)]
      simp only [sameB_self, bne_self_eq_false, cond_false, cond_true, decide_true, Bool.and_self, Bool.not_true]
      exact ⟨trivial, trivial⟩

namespace lawFnExactSameSpots
theorem lifted (os : Os) (started : os.Started) (H : Type) (enc : TypeId × Value → H) :
    ReturnsInHanded {} Try.checked os 6 .any (Rows.fnExactSameSpotsSpec.pre6 enc Try.prog Try.f6 Rows.fnExactSameSpotsRow.domain false) (Rows.fnExactSameSpotsSpec.post enc Try.prog Try.f6 false true false false) := by
  refine law_lifted (C := Try.checked) (tb := 4) (by kernel_rfl) (by kernel_rfl) (by kernel_rfl) Try.func6 (by kernel_rfl) Try.underlying4 (of_decide_eq_true (by kernel_rfl)) rfl ?_ os started H enc
    (ChangeSpec.witness6 (enc := enc) (C := Try.checked) false ⟨#[], #[.slice none 0 0, .slice none 0 0], []⟩ 8 (by kernel_rfl) (by kernel_rfl) (by kernel_rfl) (by kernel_rfl)) ?_
  · intro H ds hds
    rw [show Try.f6.params.toList.length = 2 by kernel_rfl] at hds
    match ds, hds with
    | [_, _], _ => rfl
  · intro W base args ds ps hval hA
    rw [Try.params6] at hA hval
    obtain ⟨v0, v1, d0, d1, p0, p1, hargs, rfl, rfl, h0, h1⟩ := trodAll_two hA
    obtain ⟨x_a0, n_a0, c_a0, a0, e0, w0⟩ := open_sl (P := Try.prog) (t := 52) (e := 45) 8 Try.underlying52 (by kernel_rfl) (by kernel_rfl) (Nat.lt_of_lt_of_eq (by decide : 0 < 2) (by kernel_rfl)) (okWide_slice Try.underlying52 (hval 0 52 v0 rfl (by rw [hargs]; rfl))) h0
    obtain ⟨x_a1, n_a1, c_a1, a1, e1, w1⟩ := open_sl (P := Try.prog) (t := 52) (e := 45) 8 Try.underlying52 (by kernel_rfl) (by kernel_rfl) (Nat.lt_of_lt_of_eq (by decide : 0 < 2) (by kernel_rfl)) (okWide_slice Try.underlying52 (hval 1 52 v1 rfl (by rw [hargs]; rfl))) h1
    obtain rfl : args = #[.slice x_a0 n_a0 c_a0, .slice x_a1 n_a1 c_a1] := by rw [hargs, e0, e1]
    obtain ⟨hg, hv⟩ := laws_FnExactSameSpots_true (some x_a0) n_a0 a0 (some x_a1) n_a1 a1 w0.2.2.1 w1.2.2.1
    have hr : laws_FnExactSameSpots_con [.l 0, .l 1] [.sl (.came (some x_a0)) n_a0 a0 45, .sl (.came (some x_a1)) n_a1 a1 45] = some (.a (.b true), .none, true) := by
      show (some (SV.a (SA.b ((laws_FnExactSameSpots_v0 (some x_a0) n_a0 a0 (some x_a1) n_a1 a1))), Eff.none, (laws_FnExactSameSpots_gd (some x_a0) n_a0 a0 (some x_a1) n_a1 a1)) : Option (SV × Eff × Bool)) = _
      rw [hg, hv]
    exact calls_con2 laws_FnExactSameSpots_ok hr W (vals := [.slice x_a0 n_a0 c_a0, .slice x_a1 n_a1 c_a1]) (SlL.no (P := Try.prog) (W := W) (.cons w0 (.cons w1 .nil))) (SlL.his (P := Try.prog) (.cons w0 (.cons w1 .nil))) (allCons2 (is_came rfl) (allCons2 (is_came rfl) (allNil2 _)))

theorem over : Rows.fnExactSameSpotsRow.holds Try.pinned (OpenSpec.ofChange Rows.fnExactSameSpotsSpec) :=
  OpenClaim.holds_of_wide 6 Try.f6 rfl rfl rfl rfl rfl rfl rfl ⟨rfl, rfl, rfl, rfl, rfl⟩ rfl rfl rfl rfl rfl (by kernel_rfl) Try.func6 (by kernel_rfl)
    (of_decide_eq_true (by kernel_rfl)) (by unfold Func.isWrapper; first | (rw [if_pos (by decide +kernel)]; kernel_rfl) | (rw [if_neg (by decide +kernel)]; exact ⟨rfl, rfl⟩))
    (fun os started H enc _ => lifted os started H enc)

theorem proved : Rows.FnExactSameSpotsSaid := over
#print axioms proved
end lawFnExactSameSpots

end
end Go.Proofs.Ythkpnfoapjhleaa
