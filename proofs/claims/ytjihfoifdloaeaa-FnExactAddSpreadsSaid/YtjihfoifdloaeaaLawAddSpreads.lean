/- For every sea and two spreads spec and program add alike. -/
import Derived.Test.YtjihfoifdloaeaaRows
import Derived.Test.YtjihfoifdloaeaaChecked
import Derived.Test.YtjihfoifdloaeaaBase
import Derived.Test.YtjihfoifdloaeaaVeSpreadC
namespace Go.Proofs.Ytjihfoifdloaeaa
open Go.ChangeShapes Go.WideShapes Go.ChangeAt Go.RowKit Ve
set_option linter.unusedVariables false
set_option linter.unusedSimpArgs false
set_option maxRecDepth 100000
noncomputable section

noncomputable def addW (R E : Array Value) : Nat → Array Value
  | 0 => R
  | k + 1 => (addW R E k).setIfInBounds (3 + k * 1) (.int .i64 (IntKind.i64.wrap (num (addW R E k) (3 + k * 1) + num E (3 + k * 1))))
noncomputable def sumRow (D E : Array Value) : Array Value := (addW (D.setIfInBounds 2 (.int .i64 (IntKind.i64.wrap (num D 2 + num E 2)))) E 36).setIfInBounds 39 (.int .i64 (IntKind.i64.wrap (num (addW (D.setIfInBounds 2 (.int .i64 (IntKind.i64.wrap (num D 2 + num E 2)))) E 36) 39 + num E 39)))
theorem num_set_ne {R : Array Value} {i j : Nat} {v : Value} (h : i ≠ j) : num (R.setIfInBounds i v) j = num R j := by
  unfold num; rw [Array.getElem?_setIfInBounds, if_neg h]
theorem addW_39 (R E : Array Value) : ∀ k, k ≤ 36 → num (addW R E k) 39 = num R 39
  | 0, _ => rfl
  | k + 1, hk => by
    unfold addW
    rw [num_set_ne (by omega), addW_39 R E k (by omega)]
theorem addW_set (R E : Array Value) (v : Value) : ∀ k, k ≤ 36 → addW (R.setIfInBounds 39 v) E k = (addW R E k).setIfInBounds 39 v
  | 0, _ => rfl
  | k + 1, hk => by
    unfold addW
    rw [addW_set R E v k (by omega), num_set_ne (by omega)]
    exact Array.setIfInBounds_comm _ _ (by omega)

noncomputable def impl_together_g0 (P : Program) (a0 : Array Value) (a1 : Array Value) : Int × Array Value → Option (Stp (Int × Array Value) (Int × Array Value))
  | (y0_15, r0_0) => bif decide (y0_15 < (36 : Int)) then (bif (decide (0 ≤ y0_15) && decide (y0_15 < 36)) then (bif (decide (0 ≤ y0_15) && decide (y0_15 < 36)) then (bif (decide (0 ≤ y0_15) && decide (y0_15 < 36)) then (some (.more ((IntKind.i64.wrap (y0_15 + (1 : Int))), (r0_0.setIfInBounds (3 + ((y0_15).toNat * 1)) (.int .i64 (IntKind.i64.wrap ((num r0_0 (3 + ((y0_15).toNat * 1))) + (num (a1.extract 3 (3 + 36)) ((y0_15).toNat * 1)))))))))
          else (none))
        else (none))
      else (none))
    else (some (.done (y0_15, r0_0)))

noncomputable def impl_together_e0 : Int × Array Value → LS
  | (y0_15, r0_0) => ([.a (.i .i64 (y0_15))], [.row r0_0 42])

noncomputable def impl_together_x0 : Int × Array Value → Exit × LS
  | t => ((.exit 0), impl_together_e0 t)

noncomputable def impl_together_k0_0 (P : Program) (N : Nat) (a0 : Array Value) (a1 : Array Value) (z0_15 : Int) (q0_0 : Array Value) : Option (SV × Eff × Bool) := some (.a (.g (q0_0.setIfInBounds 39 (.int .i64 (IntKind.i64.wrap ((num q0_0 39) + (num a1 39))))) 42), .none, true)

theorem impl_together_s0 (N : Nat) (a0 : Array Value) (a1 : Array Value) : ∀ t : Int × Array Value, stepV Try.prog (mkΓ []) N (cAt (codeOf Try.f75) [1, 1, 0, 1, 0, 0]) (pAt (mkPlan (codeOf Try.f75) [([15], [0])]).1 [1, 1, 0, 1, 0]) [15] [0] (⟨[.a (.g a0 42), .a (.g a1 42), .a (.w 0), .a (.w 1), .a (.w 2), .a (.u), .a (.u), .a (.p 0 (2) 2), .a (.i .i64 (num a0 2)), .a (.p 1 (2) 2), .a (.i .i64 (num a1 2)), .a (.i .i64 (IntKind.i64.wrap ((num a0 2) + (num a1 2)))), .a (.p 0 (2) 2), .a (.p 1 (3) 32), .a (.g (a1.extract 3 (3 + 36)) 32), .a (.i .i64 (0 : Int)), .a (.u), .a (.u), .a (.u), .a (.u), .a (.u), .a (.u), .a (.u), .a (.u), .a (.u), .a (.u), .a (.u), .a (.u), .a (.u), .a (.u), .a (.u), .a (.u), .a (.u), .a (.u), .a (.u)], [.row (a0.setIfInBounds 2 (.int .i64 (IntKind.i64.wrap ((num a0 2) + (num a1 2))))) 42, .row a1 42, .row (zc Try.prog 42) 42], [0]⟩ : St) (impl_together_e0 t) = mapS impl_together_e0 impl_together_x0 (impl_together_g0 Try.prog a0 a1 t) := by
  rintro ⟨y0_15, r0_0⟩
  have h : stepV Try.prog (mkΓ []) N (cAt (codeOf Try.f75) [1, 1, 0, 1, 0, 0]) (pAt (mkPlan (codeOf Try.f75) [([15], [0])]).1 [1, 1, 0, 1, 0]) [15] [0] (⟨[.a (.g a0 42), .a (.g a1 42), .a (.w 0), .a (.w 1), .a (.w 2), .a (.u), .a (.u), .a (.p 0 (2) 2), .a (.i .i64 (num a0 2)), .a (.p 1 (2) 2), .a (.i .i64 (num a1 2)), .a (.i .i64 (IntKind.i64.wrap ((num a0 2) + (num a1 2)))), .a (.p 0 (2) 2), .a (.p 1 (3) 32), .a (.g (a1.extract 3 (3 + 36)) 32), .a (.i .i64 (0 : Int)), .a (.u), .a (.u), .a (.u), .a (.u), .a (.u), .a (.u), .a (.u), .a (.u), .a (.u), .a (.u), .a (.u), .a (.u), .a (.u), .a (.u), .a (.u), .a (.u), .a (.u), .a (.u), .a (.u)], [.row (a0.setIfInBounds 2 (.int .i64 (IntKind.i64.wrap ((num a0 2) + (num a1 2))))) 42, .row a1 42, .row (zc Try.prog 42) 42], [0]⟩ : St) ([.a (.i .i64 (y0_15))], [.row r0_0 42]) = (bif decide (y0_15 < (36 : Int)) then (bif (decide (0 ≤ y0_15) && decide (y0_15 < 36)) then (bif (decide (0 ≤ y0_15) && decide (y0_15 < 36)) then (bif (decide (0 ≤ y0_15) && decide (y0_15 < 36)) then (some (.more ([.a (.i .i64 (IntKind.i64.wrap (y0_15 + (1 : Int))))], [.row (r0_0.setIfInBounds (3 + ((y0_15).toNat * 1)) (.int .i64 (IntKind.i64.wrap ((num r0_0 (3 + ((y0_15).toNat * 1))) + (num (a1.extract 3 (3 + 36)) ((y0_15).toNat * 1)))))) 42])))
          else (none))
        else (none))
      else (none))
    else (some (.done ((.exit 0), ([.a (.i .i64 (y0_15))], [.row r0_0 42]))))) := by kernel_rfl
  refine h.trans ?_
  simp only [impl_together_g0, mapS_cond, mapS_more, mapS_done, mapS_none, impl_together_e0, impl_together_x0]

theorem impl_together_k0_0_eq (N : Nat) (a0 : Array Value) (a1 : Array Value) (z0_15 : Int) (q0_0 : Array Value) : (kBlock 0 (kSeq (veC Try.prog (mkΓ []) N (cAt (codeOf Try.f75) [1, 1, 1]) (pAt (mkPlan (codeOf Try.f75) [([15], [0])]).1 [1, 1, 1]) (SV × Eff × Bool)) (finK Try.prog [] [.cell 4 42]))) (.exit 0) (left (writes (cAt (codeOf Try.f75) [1, 1, 0, 1, 0, 0])) [15] [0] (⟨[.a (.g a0 42), .a (.g a1 42), .a (.w 0), .a (.w 1), .a (.w 2), .a (.u), .a (.u), .a (.p 0 (2) 2), .a (.i .i64 (num a0 2)), .a (.p 1 (2) 2), .a (.i .i64 (num a1 2)), .a (.i .i64 (IntKind.i64.wrap ((num a0 2) + (num a1 2)))), .a (.p 0 (2) 2), .a (.p 1 (3) 32), .a (.g (a1.extract 3 (3 + 36)) 32), .a (.i .i64 (0 : Int)), .a (.u), .a (.u), .a (.u), .a (.u), .a (.u), .a (.u), .a (.u), .a (.u), .a (.u), .a (.u), .a (.u), .a (.u), .a (.u), .a (.u), .a (.u), .a (.u), .a (.u), .a (.u), .a (.u)], [.row (a0.setIfInBounds 2 (.int .i64 (IntKind.i64.wrap ((num a0 2) + (num a1 2))))) 42, .row a1 42, .row (zc Try.prog 42) 42], [0]⟩ : St) ([.a (.i .i64 (z0_15))], [.row q0_0 42])) = impl_together_k0_0 Try.prog N a0 a1 z0_15 q0_0 := by
  have h : (kBlock 0 (kSeq (veC Try.prog (mkΓ []) N (cAt (codeOf Try.f75) [1, 1, 1]) (pAt (mkPlan (codeOf Try.f75) [([15], [0])]).1 [1, 1, 1]) (SV × Eff × Bool)) (finK Try.prog [] [.cell 4 42]))) (.exit 0) (left (writes (cAt (codeOf Try.f75) [1, 1, 0, 1, 0, 0])) [15] [0] (⟨[.a (.g a0 42), .a (.g a1 42), .a (.w 0), .a (.w 1), .a (.w 2), .a (.u), .a (.u), .a (.p 0 (2) 2), .a (.i .i64 (num a0 2)), .a (.p 1 (2) 2), .a (.i .i64 (num a1 2)), .a (.i .i64 (IntKind.i64.wrap ((num a0 2) + (num a1 2)))), .a (.p 0 (2) 2), .a (.p 1 (3) 32), .a (.g (a1.extract 3 (3 + 36)) 32), .a (.i .i64 (0 : Int)), .a (.u), .a (.u), .a (.u), .a (.u), .a (.u), .a (.u), .a (.u), .a (.u), .a (.u), .a (.u), .a (.u), .a (.u), .a (.u), .a (.u), .a (.u), .a (.u), .a (.u), .a (.u), .a (.u)], [.row (a0.setIfInBounds 2 (.int .i64 (IntKind.i64.wrap ((num a0 2) + (num a1 2))))) 42, .row a1 42, .row (zc Try.prog 42) 42], [0]⟩ : St) ([.a (.i .i64 (z0_15))], [.row q0_0 42])) = (some (.a (.g (q0_0.setIfInBounds 39 (.int .i64 (IntKind.i64.wrap ((num q0_0 39) + (num a1 39))))) 42), .none, true)) := by kernel_rfl
  refine h.trans ?_
  rfl

theorem impl_together_n0 (N : Nat) (a0 : Array Value) (a1 : Array Value) : bindX (iterO (stepV Try.prog (mkΓ []) N (cAt (codeOf Try.f75) [1, 1, 0, 1, 0, 0]) (pAt (mkPlan (codeOf Try.f75) [([15], [0])]).1 [1, 1, 0, 1, 0]) [15] [0] (⟨[.a (.g a0 42), .a (.g a1 42), .a (.w 0), .a (.w 1), .a (.w 2), .a (.u), .a (.u), .a (.p 0 (2) 2), .a (.i .i64 (num a0 2)), .a (.p 1 (2) 2), .a (.i .i64 (num a1 2)), .a (.i .i64 (IntKind.i64.wrap ((num a0 2) + (num a1 2)))), .a (.p 0 (2) 2), .a (.p 1 (3) 32), .a (.g (a1.extract 3 (3 + 36)) 32), .a (.i .i64 (0 : Int)), .a (.u), .a (.u), .a (.u), .a (.u), .a (.u), .a (.u), .a (.u), .a (.u), .a (.u), .a (.u), .a (.u), .a (.u), .a (.u), .a (.u), .a (.u), .a (.u), .a (.u), .a (.u), .a (.u)], [.row (a0.setIfInBounds 2 (.int .i64 (IntKind.i64.wrap ((num a0 2) + (num a1 2))))) 42, .row a1 42, .row (zc Try.prog 42) 42], [0]⟩ : St)) N ([.a (.i .i64 (0 : Int))], [.row (a0.setIfInBounds 2 (.int .i64 (IntKind.i64.wrap ((num a0 2) + (num a1 2))))) 42])) (fun e s => (kBlock 0 (kSeq (veC Try.prog (mkΓ []) N (cAt (codeOf Try.f75) [1, 1, 1]) (pAt (mkPlan (codeOf Try.f75) [([15], [0])]).1 [1, 1, 1]) (SV × Eff × Bool)) (finK Try.prog [] [.cell 4 42]))) e (left (writes (cAt (codeOf Try.f75) [1, 1, 0, 1, 0, 0])) [15] [0] (⟨[.a (.g a0 42), .a (.g a1 42), .a (.w 0), .a (.w 1), .a (.w 2), .a (.u), .a (.u), .a (.p 0 (2) 2), .a (.i .i64 (num a0 2)), .a (.p 1 (2) 2), .a (.i .i64 (num a1 2)), .a (.i .i64 (IntKind.i64.wrap ((num a0 2) + (num a1 2)))), .a (.p 0 (2) 2), .a (.p 1 (3) 32), .a (.g (a1.extract 3 (3 + 36)) 32), .a (.i .i64 (0 : Int)), .a (.u), .a (.u), .a (.u), .a (.u), .a (.u), .a (.u), .a (.u), .a (.u), .a (.u), .a (.u), .a (.u), .a (.u), .a (.u), .a (.u), .a (.u), .a (.u), .a (.u), .a (.u), .a (.u)], [.row (a0.setIfInBounds 2 (.int .i64 (IntKind.i64.wrap ((num a0 2) + (num a1 2))))) 42, .row a1 42, .row (zc Try.prog 42) 42], [0]⟩ : St) s)) = nodeX (iterO (impl_together_g0 Try.prog a0 a1) N ((0 : Int), (a0.setIfInBounds 2 (.int .i64 (IntKind.i64.wrap ((num a0 2) + (num a1 2))))))) (fun x => impl_together_k0_0 Try.prog N a0 a1 x.1 x.2) := by
  refine loop_node impl_together_e0 impl_together_x0 _ _ (impl_together_s0 N a0 a1) N ((0 : Int), (a0.setIfInBounds 2 (.int .i64 (IntKind.i64.wrap ((num a0 2) + (num a1 2)))))) _ _ ?_
  intro x; exact impl_together_k0_0_eq N a0 a1 x.1 x.2

theorem impl_together_ans (N : Nat) (a0 : Array Value) (a1 : Array Value) : ansV Try.prog (mkΓ []) N Try.f75 [([15], [0])] [.g a0 42, .g a1 42] [] = (nodeX (iterO (impl_together_g0 Try.prog a0 a1) N ((0 : Int), (a0.setIfInBounds 2 (.int .i64 (IntKind.i64.wrap ((num a0 2) + (num a1 2))))))) (fun x => impl_together_k0_0 Try.prog N a0 a1 x.1 x.2)) := by
  have h : ansV Try.prog (mkΓ []) N Try.f75 [([15], [0])] [.g a0 42, .g a1 42] [] = (bindX (iterO (stepV Try.prog (mkΓ []) N (cAt (codeOf Try.f75) [1, 1, 0, 1, 0, 0]) (pAt (mkPlan (codeOf Try.f75) [([15], [0])]).1 [1, 1, 0, 1, 0]) [15] [0] (⟨[.a (.g a0 42), .a (.g a1 42), .a (.w 0), .a (.w 1), .a (.w 2), .a (.u), .a (.u), .a (.p 0 (2) 2), .a (.i .i64 (num a0 2)), .a (.p 1 (2) 2), .a (.i .i64 (num a1 2)), .a (.i .i64 (IntKind.i64.wrap ((num a0 2) + (num a1 2)))), .a (.p 0 (2) 2), .a (.p 1 (3) 32), .a (.g (a1.extract 3 (3 + 36)) 32), .a (.i .i64 (0 : Int)), .a (.u), .a (.u), .a (.u), .a (.u), .a (.u), .a (.u), .a (.u), .a (.u), .a (.u), .a (.u), .a (.u), .a (.u), .a (.u), .a (.u), .a (.u), .a (.u), .a (.u), .a (.u), .a (.u)], [.row (a0.setIfInBounds 2 (.int .i64 (IntKind.i64.wrap ((num a0 2) + (num a1 2))))) 42, .row a1 42, .row (zc Try.prog 42) 42], [0]⟩ : St)) N ([.a (.i .i64 (0 : Int))], [.row (a0.setIfInBounds 2 (.int .i64 (IntKind.i64.wrap ((num a0 2) + (num a1 2))))) 42])) (fun e s => (kBlock 0 (kSeq (veC Try.prog (mkΓ []) N (cAt (codeOf Try.f75) [1, 1, 1]) (pAt (mkPlan (codeOf Try.f75) [([15], [0])]).1 [1, 1, 1]) (SV × Eff × Bool)) (finK Try.prog [] [.cell 4 42]))) e (left (writes (cAt (codeOf Try.f75) [1, 1, 0, 1, 0, 0])) [15] [0] (⟨[.a (.g a0 42), .a (.g a1 42), .a (.w 0), .a (.w 1), .a (.w 2), .a (.u), .a (.u), .a (.p 0 (2) 2), .a (.i .i64 (num a0 2)), .a (.p 1 (2) 2), .a (.i .i64 (num a1 2)), .a (.i .i64 (IntKind.i64.wrap ((num a0 2) + (num a1 2)))), .a (.p 0 (2) 2), .a (.p 1 (3) 32), .a (.g (a1.extract 3 (3 + 36)) 32), .a (.i .i64 (0 : Int)), .a (.u), .a (.u), .a (.u), .a (.u), .a (.u), .a (.u), .a (.u), .a (.u), .a (.u), .a (.u), .a (.u), .a (.u), .a (.u), .a (.u), .a (.u), .a (.u), .a (.u), .a (.u), .a (.u)], [.row (a0.setIfInBounds 2 (.int .i64 (IntKind.i64.wrap ((num a0 2) + (num a1 2))))) 42, .row a1 42, .row (zc Try.prog 42) 42], [0]⟩ : St) s))) := by kernel_rfl
  refine h.trans ?_
  simp only [impl_together_n0]

theorem impl_together_main (a0 : Array Value) (a1 : Array Value) (h_a0 : WT Try.prog 42 a0) (h_a1 : WT Try.prog 42 a1) (hg : (true) = true) : ansV Try.prog (mkΓ []) 1000 Try.f75 [([15], [0])] [.g a0 42, .g a1 42] [] = some (.a (.g (sumRow a0 a1) 42), .none, true) := by
  have hz : a1.size = 40 := by rw [h_a1.layLen]; kernel_rfl
  refine (impl_together_ans 1000 a0 a1).trans ?_
  have h := iter_all (g := impl_together_g0 Try.prog a0 a1) (fun k => ((k : Int), addW (a0.setIfInBounds 2 (.int .i64 (IntKind.i64.wrap (num a0 2 + num a1 2)))) a1 k)) (m := 36) (x := (((36 : Nat) : Int), addW (a0.setIfInBounds 2 (.int .i64 (IntKind.i64.wrap (num a0 2 + num a1 2)))) a1 36)) (N := 1000) (fun k hk => by
    have h1 : decide ((k : Int) < 36) = true := decide_eq_true (by omega)
    have h0 : decide (0 ≤ (k : Int)) = true := decide_eq_true (by omega)
    have h3 : IntKind.i64.wrap ((k : Int) + 1) = ((k + 1 : Nat) : Int) := by rw [IntWalk.i64_in _ (by omega)]; omega
    have h4 : ((k : Int)).toNat = k := Int.toNat_natCast k
    have h5 := cell_num (T := 0) hz k hk
    have h7 : ∀ R, addW R a1 (k + 1) = (addW R a1 k).setIfInBounds (3 + k * 1) (.int .i64 (IntKind.i64.wrap (num (addW R a1 k) (3 + k * 1) + num a1 (3 + k * 1)))) := fun _ => rfl
    simp only [impl_together_g0, h1, h0, Bool.and_self, h4, cond_true, h3, h5, h7]) (by
    have h1 : decide (((36 : Nat) : Int) < 36) = false := by decide
    simp only [impl_together_g0, h1, cond_false]) (by omega)
  have h' : iterO (impl_together_g0 Try.prog a0 a1) 1000 ((0 : Int), a0.setIfInBounds 2 (.int .i64 (IntKind.i64.wrap (num a0 2 + num a1 2)))) = some (((36 : Nat) : Int), addW (a0.setIfInBounds 2 (.int .i64 (IntKind.i64.wrap (num a0 2 + num a1 2)))) a1 36) := h
  rw [h']
  unfold sumRow
  generalize addW (a0.setIfInBounds 2 (.int .i64 (IntKind.i64.wrap (num a0 2 + num a1 2)))) a1 36 = Q
  rfl
noncomputable def impl_together_con : Con := fun args h => match args, h with
  | [.g a0 42, .g a1 42], [] => some (.a (.g (sumRow a0 a1) 42), .none, true)
  | _, _ => none
theorem impl_together_enter : ∀ args w, (callFunc 75 args).run Try.prog w = .ok (.enter 75 args) w := enter_ok (fn := Try.f75) (by kernel_rfl) (by kernel_rfl) (by kernel_rfl)
theorem impl_together_ok : ConOk Try.prog 75 impl_together_con := (ans_ok (N := 1000) (by kernel_rfl) mkΓ_nil (fn := Try.f75) (by kernel_rfl) (by kernel_rfl) [([15], [0])]).of (by
  intro ρ h w args vals r e hA hH hr
  unfold impl_together_con at hr
  split at hr
  · rename_i a0 a1
    obtain ⟨rfl, hg⟩ := Prod.mk.inj (Option.some.inj hr)
    obtain ⟨rfl, hg2⟩ := Prod.mk.inj hg
    exact impl_together_main a0 a1 (hA.wt 0 rfl) (hA.wt 1 rfl) hg2
  · cases hr)


noncomputable def addC (S D E : Array Value) : Int := bif (!(okS S)) then 1 else bif (!(specSp S D)) then 1 else bif (!(specSp S E)) then 1 else bif (num D 0 != num E 0) then 4 else bif (num D 1 != num E 1) then 4 else bif decide (IntKind.i64.wrap (num D 2 + num E 2) > 1000) then 3 else 0
noncomputable def addS (P : Program) (S D E : Array Value) : Array Value := bif (!(okS S)) then zc P 42 else bif (!(specSp S D)) then zc P 42 else bif (!(specSp S E)) then zc P 42 else bif (num D 0 != num E 0) then zc P 42 else bif (num D 1 != num E 1) then zc P 42 else bif decide (IntKind.i64.wrap (num D 2 + num E 2) > 1000) then zc P 42 else sumRow D E

noncomputable def spec_AddSpreads_g0 (P : Program) (a0 : Array Value) (a1 : Array Value) (a2 : Array Value) : Int × Array Value → Option (Stp (Int × Array Value) (Int × Array Value))
  | (y0_8, r0_1) => bif decide (y0_8 < (36 : Int)) then (bif (decide (0 ≤ y0_8) && decide (y0_8 < 36)) then (bif (decide (0 ≤ y0_8) && decide (y0_8 < 36)) then (bif (decide (0 ≤ y0_8) && decide (y0_8 < 36)) then (some (.more ((IntKind.i64.wrap (y0_8 + (1 : Int))), (r0_1.setIfInBounds (3 + ((y0_8).toNat * 1)) (.int .i64 (IntKind.i64.wrap ((num r0_1 (3 + ((y0_8).toNat * 1))) + (num a2 (3 + ((y0_8).toNat * 1))))))))))
          else (none))
        else (none))
      else (none))
    else (some (.done (y0_8, r0_1)))

noncomputable def spec_AddSpreads_e0 : Int × Array Value → LS
  | (y0_8, r0_1) => ([.a (.i .i64 (y0_8))], [.row r0_1 42])

noncomputable def spec_AddSpreads_x0 : Int × Array Value → Exit × LS
  | t => ((.exit 0), spec_AddSpreads_e0 t)

noncomputable def spec_AddSpreads_k0_0 (P : Program) (N : Nat) (a0 : Array Value) (a1 : Array Value) (a2 : Array Value) (z0_8 : Int) (q0_1 : Array Value) : Option (SV × Eff × Bool) := some (.t [.g q0_1 42, .i .i64 (0 : Int)], .none, true)

theorem spec_AddSpreads_s0 (N : Nat) (a0 : Array Value) (a1 : Array Value) (a2 : Array Value) : ∀ t : Int × Array Value, stepV Try.prog (mkΓ [(48, con spec_l01Ok_con), (49, con spec_l02Ok_con)]) N (cAt (codeOf Try.f39) [1, 1, 1, 1, 1, 1, 0, 1, 0, 0]) (pAt (mkPlan (codeOf Try.f39) [([8], [1])]).1 [1, 1, 1, 1, 1, 1, 0, 1, 0]) [8] [1] (⟨[.a (.g a0 40), .a (.g a1 42), .a (.g a2 42), .a (.w 0), .a (.w 1), .a (.w 2), .a (.w 3), .a (.i .i64 (0 : Int)), .a (.i .i64 (0 : Int)), .a (.b ((okS a0))), .a (.b ((!((okS a0))))), .a (.b (false)), .a (.b ((specSp a0 a1))), .a (.b ((!((specSp a0 a1))))), .a (.b ((!((specSp a0 a1))))), .a (.b (false)), .a (.b ((specSp a0 a2))), .a (.b ((!((specSp a0 a2))))), .a (.b ((!((specSp a0 a2))))), .a (.u), .a (.p 1 (0) 25), .a (.i .i8 (num a1 0)), .a (.p 2 (0) 25), .a (.i .i8 (num a2 0)), .a (.b (((num a1 0) != (num a2 0)))), .a (.b (false)), .a (.p 1 (1) 25), .a (.i .i8 (num a1 1)), .a (.p 2 (1) 25), .a (.i .i8 (num a2 1)), .a (.b (((num a1 1) != (num a2 1)))), .a (.b (((num a1 1) != (num a2 1)))), .a (.u), .a (.p 1 (2) 2), .a (.i .i64 (num a1 2)), .a (.p 2 (2) 2), .a (.i .i64 (num a2 2)), .a (.i .i64 (IntKind.i64.wrap ((num a1 2) + (num a2 2)))), .a (.b (decide ((IntKind.i64.wrap ((num a1 2) + (num a2 2))) > (1000 : Int)))), .a (.u), .a (.p 1 (2) 2), .a (.i .i64 (num a1 2)), .a (.p 2 (2) 2), .a (.i .i64 (num a2 2)), .a (.i .i64 (IntKind.i64.wrap ((num a1 2) + (num a2 2)))), .a (.p 1 (2) 2), .a (.p 1 (39) 2), .a (.i .i64 (num (a1.setIfInBounds 2 (.int .i64 (IntKind.i64.wrap ((num a1 2) + (num a2 2))))) 39)), .a (.p 2 (39) 2), .a (.i .i64 (num a2 39)), .a (.i .i64 (IntKind.i64.wrap ((num (a1.setIfInBounds 2 (.int .i64 (IntKind.i64.wrap ((num a1 2) + (num a2 2))))) 39) + (num a2 39)))), .a (.p 1 (39) 2), .a (.u), .a (.u), .a (.u), .a (.u), .a (.u), .a (.u), .a (.u), .a (.u), .a (.u), .a (.u), .a (.u), .a (.u), .a (.u), .a (.u), .a (.u), .a (.u)], [.row a0 40, .row ((a1.setIfInBounds 2 (.int .i64 (IntKind.i64.wrap ((num a1 2) + (num a2 2))))).setIfInBounds 39 (.int .i64 (IntKind.i64.wrap ((num (a1.setIfInBounds 2 (.int .i64 (IntKind.i64.wrap ((num a1 2) + (num a2 2))))) 39) + (num a2 39))))) 42, .row a2 42, .row (zc Try.prog 42) 42, .no], [1, 1]⟩ : St) (spec_AddSpreads_e0 t) = mapS spec_AddSpreads_e0 spec_AddSpreads_x0 (spec_AddSpreads_g0 Try.prog a0 a1 a2 t) := by
  rintro ⟨y0_8, r0_1⟩
  have h : stepV Try.prog (mkΓ [(48, con spec_l01Ok_con), (49, con spec_l02Ok_con)]) N (cAt (codeOf Try.f39) [1, 1, 1, 1, 1, 1, 0, 1, 0, 0]) (pAt (mkPlan (codeOf Try.f39) [([8], [1])]).1 [1, 1, 1, 1, 1, 1, 0, 1, 0]) [8] [1] (⟨[.a (.g a0 40), .a (.g a1 42), .a (.g a2 42), .a (.w 0), .a (.w 1), .a (.w 2), .a (.w 3), .a (.i .i64 (0 : Int)), .a (.i .i64 (0 : Int)), .a (.b ((okS a0))), .a (.b ((!((okS a0))))), .a (.b (false)), .a (.b ((specSp a0 a1))), .a (.b ((!((specSp a0 a1))))), .a (.b ((!((specSp a0 a1))))), .a (.b (false)), .a (.b ((specSp a0 a2))), .a (.b ((!((specSp a0 a2))))), .a (.b ((!((specSp a0 a2))))), .a (.u), .a (.p 1 (0) 25), .a (.i .i8 (num a1 0)), .a (.p 2 (0) 25), .a (.i .i8 (num a2 0)), .a (.b (((num a1 0) != (num a2 0)))), .a (.b (false)), .a (.p 1 (1) 25), .a (.i .i8 (num a1 1)), .a (.p 2 (1) 25), .a (.i .i8 (num a2 1)), .a (.b (((num a1 1) != (num a2 1)))), .a (.b (((num a1 1) != (num a2 1)))), .a (.u), .a (.p 1 (2) 2), .a (.i .i64 (num a1 2)), .a (.p 2 (2) 2), .a (.i .i64 (num a2 2)), .a (.i .i64 (IntKind.i64.wrap ((num a1 2) + (num a2 2)))), .a (.b (decide ((IntKind.i64.wrap ((num a1 2) + (num a2 2))) > (1000 : Int)))), .a (.u), .a (.p 1 (2) 2), .a (.i .i64 (num a1 2)), .a (.p 2 (2) 2), .a (.i .i64 (num a2 2)), .a (.i .i64 (IntKind.i64.wrap ((num a1 2) + (num a2 2)))), .a (.p 1 (2) 2), .a (.p 1 (39) 2), .a (.i .i64 (num (a1.setIfInBounds 2 (.int .i64 (IntKind.i64.wrap ((num a1 2) + (num a2 2))))) 39)), .a (.p 2 (39) 2), .a (.i .i64 (num a2 39)), .a (.i .i64 (IntKind.i64.wrap ((num (a1.setIfInBounds 2 (.int .i64 (IntKind.i64.wrap ((num a1 2) + (num a2 2))))) 39) + (num a2 39)))), .a (.p 1 (39) 2), .a (.u), .a (.u), .a (.u), .a (.u), .a (.u), .a (.u), .a (.u), .a (.u), .a (.u), .a (.u), .a (.u), .a (.u), .a (.u), .a (.u), .a (.u), .a (.u)], [.row a0 40, .row ((a1.setIfInBounds 2 (.int .i64 (IntKind.i64.wrap ((num a1 2) + (num a2 2))))).setIfInBounds 39 (.int .i64 (IntKind.i64.wrap ((num (a1.setIfInBounds 2 (.int .i64 (IntKind.i64.wrap ((num a1 2) + (num a2 2))))) 39) + (num a2 39))))) 42, .row a2 42, .row (zc Try.prog 42) 42, .no], [1, 1]⟩ : St) ([.a (.i .i64 (y0_8))], [.row r0_1 42]) = (bif decide (y0_8 < (36 : Int)) then (bif (decide (0 ≤ y0_8) && decide (y0_8 < 36)) then (bif (decide (0 ≤ y0_8) && decide (y0_8 < 36)) then (bif (decide (0 ≤ y0_8) && decide (y0_8 < 36)) then (some (.more ([.a (.i .i64 (IntKind.i64.wrap (y0_8 + (1 : Int))))], [.row (r0_1.setIfInBounds (3 + ((y0_8).toNat * 1)) (.int .i64 (IntKind.i64.wrap ((num r0_1 (3 + ((y0_8).toNat * 1))) + (num a2 (3 + ((y0_8).toNat * 1))))))) 42])))
          else (none))
        else (none))
      else (none))
    else (some (.done ((.exit 0), ([.a (.i .i64 (y0_8))], [.row r0_1 42]))))) := by kernel_rfl
  refine h.trans ?_
  simp only [spec_AddSpreads_g0, mapS_cond, mapS_more, mapS_done, mapS_none, spec_AddSpreads_e0, spec_AddSpreads_x0]

theorem spec_AddSpreads_k0_0_eq (N : Nat) (a0 : Array Value) (a1 : Array Value) (a2 : Array Value) (z0_8 : Int) (q0_1 : Array Value) : (kBlock 0 (kSeq (veC Try.prog (mkΓ [(48, con spec_l01Ok_con), (49, con spec_l02Ok_con)]) N (cAt (codeOf Try.f39) [1, 1, 1, 1, 1, 1, 1]) (pAt (mkPlan (codeOf Try.f39) [([8], [1])]).1 [1, 1, 1, 1, 1, 1, 1]) (SV × Eff × Bool)) (finK Try.prog [] [.cell 6 42, .tmp 7]))) (.exit 0) (left (writes (cAt (codeOf Try.f39) [1, 1, 1, 1, 1, 1, 0, 1, 0, 0])) [8] [1] (⟨[.a (.g a0 40), .a (.g a1 42), .a (.g a2 42), .a (.w 0), .a (.w 1), .a (.w 2), .a (.w 3), .a (.i .i64 (0 : Int)), .a (.i .i64 (0 : Int)), .a (.b ((okS a0))), .a (.b ((!((okS a0))))), .a (.b (false)), .a (.b ((specSp a0 a1))), .a (.b ((!((specSp a0 a1))))), .a (.b ((!((specSp a0 a1))))), .a (.b (false)), .a (.b ((specSp a0 a2))), .a (.b ((!((specSp a0 a2))))), .a (.b ((!((specSp a0 a2))))), .a (.u), .a (.p 1 (0) 25), .a (.i .i8 (num a1 0)), .a (.p 2 (0) 25), .a (.i .i8 (num a2 0)), .a (.b (((num a1 0) != (num a2 0)))), .a (.b (false)), .a (.p 1 (1) 25), .a (.i .i8 (num a1 1)), .a (.p 2 (1) 25), .a (.i .i8 (num a2 1)), .a (.b (((num a1 1) != (num a2 1)))), .a (.b (((num a1 1) != (num a2 1)))), .a (.u), .a (.p 1 (2) 2), .a (.i .i64 (num a1 2)), .a (.p 2 (2) 2), .a (.i .i64 (num a2 2)), .a (.i .i64 (IntKind.i64.wrap ((num a1 2) + (num a2 2)))), .a (.b (decide ((IntKind.i64.wrap ((num a1 2) + (num a2 2))) > (1000 : Int)))), .a (.u), .a (.p 1 (2) 2), .a (.i .i64 (num a1 2)), .a (.p 2 (2) 2), .a (.i .i64 (num a2 2)), .a (.i .i64 (IntKind.i64.wrap ((num a1 2) + (num a2 2)))), .a (.p 1 (2) 2), .a (.p 1 (39) 2), .a (.i .i64 (num (a1.setIfInBounds 2 (.int .i64 (IntKind.i64.wrap ((num a1 2) + (num a2 2))))) 39)), .a (.p 2 (39) 2), .a (.i .i64 (num a2 39)), .a (.i .i64 (IntKind.i64.wrap ((num (a1.setIfInBounds 2 (.int .i64 (IntKind.i64.wrap ((num a1 2) + (num a2 2))))) 39) + (num a2 39)))), .a (.p 1 (39) 2), .a (.u), .a (.u), .a (.u), .a (.u), .a (.u), .a (.u), .a (.u), .a (.u), .a (.u), .a (.u), .a (.u), .a (.u), .a (.u), .a (.u), .a (.u), .a (.u)], [.row a0 40, .row ((a1.setIfInBounds 2 (.int .i64 (IntKind.i64.wrap ((num a1 2) + (num a2 2))))).setIfInBounds 39 (.int .i64 (IntKind.i64.wrap ((num (a1.setIfInBounds 2 (.int .i64 (IntKind.i64.wrap ((num a1 2) + (num a2 2))))) 39) + (num a2 39))))) 42, .row a2 42, .row (zc Try.prog 42) 42, .no], [1, 1]⟩ : St) ([.a (.i .i64 (z0_8))], [.row q0_1 42])) = spec_AddSpreads_k0_0 Try.prog N a0 a1 a2 z0_8 q0_1 := by
  have h : (kBlock 0 (kSeq (veC Try.prog (mkΓ [(48, con spec_l01Ok_con), (49, con spec_l02Ok_con)]) N (cAt (codeOf Try.f39) [1, 1, 1, 1, 1, 1, 1]) (pAt (mkPlan (codeOf Try.f39) [([8], [1])]).1 [1, 1, 1, 1, 1, 1, 1]) (SV × Eff × Bool)) (finK Try.prog [] [.cell 6 42, .tmp 7]))) (.exit 0) (left (writes (cAt (codeOf Try.f39) [1, 1, 1, 1, 1, 1, 0, 1, 0, 0])) [8] [1] (⟨[.a (.g a0 40), .a (.g a1 42), .a (.g a2 42), .a (.w 0), .a (.w 1), .a (.w 2), .a (.w 3), .a (.i .i64 (0 : Int)), .a (.i .i64 (0 : Int)), .a (.b ((okS a0))), .a (.b ((!((okS a0))))), .a (.b (false)), .a (.b ((specSp a0 a1))), .a (.b ((!((specSp a0 a1))))), .a (.b ((!((specSp a0 a1))))), .a (.b (false)), .a (.b ((specSp a0 a2))), .a (.b ((!((specSp a0 a2))))), .a (.b ((!((specSp a0 a2))))), .a (.u), .a (.p 1 (0) 25), .a (.i .i8 (num a1 0)), .a (.p 2 (0) 25), .a (.i .i8 (num a2 0)), .a (.b (((num a1 0) != (num a2 0)))), .a (.b (false)), .a (.p 1 (1) 25), .a (.i .i8 (num a1 1)), .a (.p 2 (1) 25), .a (.i .i8 (num a2 1)), .a (.b (((num a1 1) != (num a2 1)))), .a (.b (((num a1 1) != (num a2 1)))), .a (.u), .a (.p 1 (2) 2), .a (.i .i64 (num a1 2)), .a (.p 2 (2) 2), .a (.i .i64 (num a2 2)), .a (.i .i64 (IntKind.i64.wrap ((num a1 2) + (num a2 2)))), .a (.b (decide ((IntKind.i64.wrap ((num a1 2) + (num a2 2))) > (1000 : Int)))), .a (.u), .a (.p 1 (2) 2), .a (.i .i64 (num a1 2)), .a (.p 2 (2) 2), .a (.i .i64 (num a2 2)), .a (.i .i64 (IntKind.i64.wrap ((num a1 2) + (num a2 2)))), .a (.p 1 (2) 2), .a (.p 1 (39) 2), .a (.i .i64 (num (a1.setIfInBounds 2 (.int .i64 (IntKind.i64.wrap ((num a1 2) + (num a2 2))))) 39)), .a (.p 2 (39) 2), .a (.i .i64 (num a2 39)), .a (.i .i64 (IntKind.i64.wrap ((num (a1.setIfInBounds 2 (.int .i64 (IntKind.i64.wrap ((num a1 2) + (num a2 2))))) 39) + (num a2 39)))), .a (.p 1 (39) 2), .a (.u), .a (.u), .a (.u), .a (.u), .a (.u), .a (.u), .a (.u), .a (.u), .a (.u), .a (.u), .a (.u), .a (.u), .a (.u), .a (.u), .a (.u), .a (.u)], [.row a0 40, .row ((a1.setIfInBounds 2 (.int .i64 (IntKind.i64.wrap ((num a1 2) + (num a2 2))))).setIfInBounds 39 (.int .i64 (IntKind.i64.wrap ((num (a1.setIfInBounds 2 (.int .i64 (IntKind.i64.wrap ((num a1 2) + (num a2 2))))) 39) + (num a2 39))))) 42, .row a2 42, .row (zc Try.prog 42) 42, .no], [1, 1]⟩ : St) ([.a (.i .i64 (z0_8))], [.row q0_1 42])) = (some (.t [.g q0_1 42, .i .i64 (0 : Int)], .none, true)) := by kernel_rfl
  refine h.trans ?_
  rfl

theorem spec_AddSpreads_n0 (N : Nat) (a0 : Array Value) (a1 : Array Value) (a2 : Array Value) : bindX (iterO (stepV Try.prog (mkΓ [(48, con spec_l01Ok_con), (49, con spec_l02Ok_con)]) N (cAt (codeOf Try.f39) [1, 1, 1, 1, 1, 1, 0, 1, 0, 0]) (pAt (mkPlan (codeOf Try.f39) [([8], [1])]).1 [1, 1, 1, 1, 1, 1, 0, 1, 0]) [8] [1] (⟨[.a (.g a0 40), .a (.g a1 42), .a (.g a2 42), .a (.w 0), .a (.w 1), .a (.w 2), .a (.w 3), .a (.i .i64 (0 : Int)), .a (.i .i64 (0 : Int)), .a (.b ((okS a0))), .a (.b ((!((okS a0))))), .a (.b (false)), .a (.b ((specSp a0 a1))), .a (.b ((!((specSp a0 a1))))), .a (.b ((!((specSp a0 a1))))), .a (.b (false)), .a (.b ((specSp a0 a2))), .a (.b ((!((specSp a0 a2))))), .a (.b ((!((specSp a0 a2))))), .a (.u), .a (.p 1 (0) 25), .a (.i .i8 (num a1 0)), .a (.p 2 (0) 25), .a (.i .i8 (num a2 0)), .a (.b (((num a1 0) != (num a2 0)))), .a (.b (false)), .a (.p 1 (1) 25), .a (.i .i8 (num a1 1)), .a (.p 2 (1) 25), .a (.i .i8 (num a2 1)), .a (.b (((num a1 1) != (num a2 1)))), .a (.b (((num a1 1) != (num a2 1)))), .a (.u), .a (.p 1 (2) 2), .a (.i .i64 (num a1 2)), .a (.p 2 (2) 2), .a (.i .i64 (num a2 2)), .a (.i .i64 (IntKind.i64.wrap ((num a1 2) + (num a2 2)))), .a (.b (decide ((IntKind.i64.wrap ((num a1 2) + (num a2 2))) > (1000 : Int)))), .a (.u), .a (.p 1 (2) 2), .a (.i .i64 (num a1 2)), .a (.p 2 (2) 2), .a (.i .i64 (num a2 2)), .a (.i .i64 (IntKind.i64.wrap ((num a1 2) + (num a2 2)))), .a (.p 1 (2) 2), .a (.p 1 (39) 2), .a (.i .i64 (num (a1.setIfInBounds 2 (.int .i64 (IntKind.i64.wrap ((num a1 2) + (num a2 2))))) 39)), .a (.p 2 (39) 2), .a (.i .i64 (num a2 39)), .a (.i .i64 (IntKind.i64.wrap ((num (a1.setIfInBounds 2 (.int .i64 (IntKind.i64.wrap ((num a1 2) + (num a2 2))))) 39) + (num a2 39)))), .a (.p 1 (39) 2), .a (.u), .a (.u), .a (.u), .a (.u), .a (.u), .a (.u), .a (.u), .a (.u), .a (.u), .a (.u), .a (.u), .a (.u), .a (.u), .a (.u), .a (.u), .a (.u)], [.row a0 40, .row ((a1.setIfInBounds 2 (.int .i64 (IntKind.i64.wrap ((num a1 2) + (num a2 2))))).setIfInBounds 39 (.int .i64 (IntKind.i64.wrap ((num (a1.setIfInBounds 2 (.int .i64 (IntKind.i64.wrap ((num a1 2) + (num a2 2))))) 39) + (num a2 39))))) 42, .row a2 42, .row (zc Try.prog 42) 42, .no], [1, 1]⟩ : St)) N ([.a (.i .i64 (0 : Int))], [.row ((a1.setIfInBounds 2 (.int .i64 (IntKind.i64.wrap ((num a1 2) + (num a2 2))))).setIfInBounds 39 (.int .i64 (IntKind.i64.wrap ((num (a1.setIfInBounds 2 (.int .i64 (IntKind.i64.wrap ((num a1 2) + (num a2 2))))) 39) + (num a2 39))))) 42])) (fun e s => (kBlock 0 (kSeq (veC Try.prog (mkΓ [(48, con spec_l01Ok_con), (49, con spec_l02Ok_con)]) N (cAt (codeOf Try.f39) [1, 1, 1, 1, 1, 1, 1]) (pAt (mkPlan (codeOf Try.f39) [([8], [1])]).1 [1, 1, 1, 1, 1, 1, 1]) (SV × Eff × Bool)) (finK Try.prog [] [.cell 6 42, .tmp 7]))) e (left (writes (cAt (codeOf Try.f39) [1, 1, 1, 1, 1, 1, 0, 1, 0, 0])) [8] [1] (⟨[.a (.g a0 40), .a (.g a1 42), .a (.g a2 42), .a (.w 0), .a (.w 1), .a (.w 2), .a (.w 3), .a (.i .i64 (0 : Int)), .a (.i .i64 (0 : Int)), .a (.b ((okS a0))), .a (.b ((!((okS a0))))), .a (.b (false)), .a (.b ((specSp a0 a1))), .a (.b ((!((specSp a0 a1))))), .a (.b ((!((specSp a0 a1))))), .a (.b (false)), .a (.b ((specSp a0 a2))), .a (.b ((!((specSp a0 a2))))), .a (.b ((!((specSp a0 a2))))), .a (.u), .a (.p 1 (0) 25), .a (.i .i8 (num a1 0)), .a (.p 2 (0) 25), .a (.i .i8 (num a2 0)), .a (.b (((num a1 0) != (num a2 0)))), .a (.b (false)), .a (.p 1 (1) 25), .a (.i .i8 (num a1 1)), .a (.p 2 (1) 25), .a (.i .i8 (num a2 1)), .a (.b (((num a1 1) != (num a2 1)))), .a (.b (((num a1 1) != (num a2 1)))), .a (.u), .a (.p 1 (2) 2), .a (.i .i64 (num a1 2)), .a (.p 2 (2) 2), .a (.i .i64 (num a2 2)), .a (.i .i64 (IntKind.i64.wrap ((num a1 2) + (num a2 2)))), .a (.b (decide ((IntKind.i64.wrap ((num a1 2) + (num a2 2))) > (1000 : Int)))), .a (.u), .a (.p 1 (2) 2), .a (.i .i64 (num a1 2)), .a (.p 2 (2) 2), .a (.i .i64 (num a2 2)), .a (.i .i64 (IntKind.i64.wrap ((num a1 2) + (num a2 2)))), .a (.p 1 (2) 2), .a (.p 1 (39) 2), .a (.i .i64 (num (a1.setIfInBounds 2 (.int .i64 (IntKind.i64.wrap ((num a1 2) + (num a2 2))))) 39)), .a (.p 2 (39) 2), .a (.i .i64 (num a2 39)), .a (.i .i64 (IntKind.i64.wrap ((num (a1.setIfInBounds 2 (.int .i64 (IntKind.i64.wrap ((num a1 2) + (num a2 2))))) 39) + (num a2 39)))), .a (.p 1 (39) 2), .a (.u), .a (.u), .a (.u), .a (.u), .a (.u), .a (.u), .a (.u), .a (.u), .a (.u), .a (.u), .a (.u), .a (.u), .a (.u), .a (.u), .a (.u), .a (.u)], [.row a0 40, .row ((a1.setIfInBounds 2 (.int .i64 (IntKind.i64.wrap ((num a1 2) + (num a2 2))))).setIfInBounds 39 (.int .i64 (IntKind.i64.wrap ((num (a1.setIfInBounds 2 (.int .i64 (IntKind.i64.wrap ((num a1 2) + (num a2 2))))) 39) + (num a2 39))))) 42, .row a2 42, .row (zc Try.prog 42) 42, .no], [1, 1]⟩ : St) s)) = nodeX (iterO (spec_AddSpreads_g0 Try.prog a0 a1 a2) N ((0 : Int), ((a1.setIfInBounds 2 (.int .i64 (IntKind.i64.wrap ((num a1 2) + (num a2 2))))).setIfInBounds 39 (.int .i64 (IntKind.i64.wrap ((num (a1.setIfInBounds 2 (.int .i64 (IntKind.i64.wrap ((num a1 2) + (num a2 2))))) 39) + (num a2 39))))))) (fun x => spec_AddSpreads_k0_0 Try.prog N a0 a1 a2 x.1 x.2) := by
  refine loop_node spec_AddSpreads_e0 spec_AddSpreads_x0 _ _ (spec_AddSpreads_s0 N a0 a1 a2) N ((0 : Int), ((a1.setIfInBounds 2 (.int .i64 (IntKind.i64.wrap ((num a1 2) + (num a2 2))))).setIfInBounds 39 (.int .i64 (IntKind.i64.wrap ((num (a1.setIfInBounds 2 (.int .i64 (IntKind.i64.wrap ((num a1 2) + (num a2 2))))) 39) + (num a2 39)))))) _ _ ?_
  intro x; exact spec_AddSpreads_k0_0_eq N a0 a1 a2 x.1 x.2

theorem spec_AddSpreads_ans (N : Nat) (a0 : Array Value) (a1 : Array Value) (a2 : Array Value) : ansV Try.prog (mkΓ [(48, con spec_l01Ok_con), (49, con spec_l02Ok_con)]) N Try.f39 [([8], [1])] [.g a0 40, .g a1 42, .g a2 42] [] = (bif (!((okS a0))) then (some (.t [.g (zc Try.prog 42) 42, .i .i64 (1 : Int)], .none, true))
    else (bif (!((specSp a0 a1))) then (some (.t [.g (zc Try.prog 42) 42, .i .i64 (1 : Int)], .none, true))
      else (bif (!((specSp a0 a2))) then (some (.t [.g (zc Try.prog 42) 42, .i .i64 (1 : Int)], .none, true))
        else (bif ((num a1 0) != (num a2 0)) then (some (.t [.g (zc Try.prog 42) 42, .i .i64 (4 : Int)], .none, true))
          else (bif ((num a1 1) != (num a2 1)) then (some (.t [.g (zc Try.prog 42) 42, .i .i64 (4 : Int)], .none, true))
            else (bif decide ((IntKind.i64.wrap ((num a1 2) + (num a2 2))) > (1000 : Int)) then (some (.t [.g (zc Try.prog 42) 42, .i .i64 (3 : Int)], .none, true))
              else (nodeX (iterO (spec_AddSpreads_g0 Try.prog a0 a1 a2) N ((0 : Int), ((a1.setIfInBounds 2 (.int .i64 (IntKind.i64.wrap ((num a1 2) + (num a2 2))))).setIfInBounds 39 (.int .i64 (IntKind.i64.wrap ((num (a1.setIfInBounds 2 (.int .i64 (IntKind.i64.wrap ((num a1 2) + (num a2 2))))) 39) + (num a2 39))))))) (fun x => spec_AddSpreads_k0_0 Try.prog N a0 a1 a2 x.1 x.2)))))))) := by
  have h : ansV Try.prog (mkΓ [(48, con spec_l01Ok_con), (49, con spec_l02Ok_con)]) N Try.f39 [([8], [1])] [.g a0 40, .g a1 42, .g a2 42] [] = (bif (!((okS a0))) then (some (.t [.g (zc Try.prog 42) 42, .i .i64 (1 : Int)], .none, true))
    else (bif (!((specSp a0 a1))) then (some (.t [.g (zc Try.prog 42) 42, .i .i64 (1 : Int)], .none, true))
      else (bif (!((specSp a0 a2))) then (some (.t [.g (zc Try.prog 42) 42, .i .i64 (1 : Int)], .none, true))
        else (bif ((num a1 0) != (num a2 0)) then (some (.t [.g (zc Try.prog 42) 42, .i .i64 (4 : Int)], .none, true))
          else (bif ((num a1 1) != (num a2 1)) then (some (.t [.g (zc Try.prog 42) 42, .i .i64 (4 : Int)], .none, true))
            else (bif decide ((IntKind.i64.wrap ((num a1 2) + (num a2 2))) > (1000 : Int)) then (some (.t [.g (zc Try.prog 42) 42, .i .i64 (3 : Int)], .none, true))
              else (bindX (iterO (stepV Try.prog (mkΓ [(48, con spec_l01Ok_con), (49, con spec_l02Ok_con)]) N (cAt (codeOf Try.f39) [1, 1, 1, 1, 1, 1, 0, 1, 0, 0]) (pAt (mkPlan (codeOf Try.f39) [([8], [1])]).1 [1, 1, 1, 1, 1, 1, 0, 1, 0]) [8] [1] (⟨[.a (.g a0 40), .a (.g a1 42), .a (.g a2 42), .a (.w 0), .a (.w 1), .a (.w 2), .a (.w 3), .a (.i .i64 (0 : Int)), .a (.i .i64 (0 : Int)), .a (.b ((okS a0))), .a (.b ((!((okS a0))))), .a (.b (false)), .a (.b ((specSp a0 a1))), .a (.b ((!((specSp a0 a1))))), .a (.b ((!((specSp a0 a1))))), .a (.b (false)), .a (.b ((specSp a0 a2))), .a (.b ((!((specSp a0 a2))))), .a (.b ((!((specSp a0 a2))))), .a (.u), .a (.p 1 (0) 25), .a (.i .i8 (num a1 0)), .a (.p 2 (0) 25), .a (.i .i8 (num a2 0)), .a (.b (((num a1 0) != (num a2 0)))), .a (.b (false)), .a (.p 1 (1) 25), .a (.i .i8 (num a1 1)), .a (.p 2 (1) 25), .a (.i .i8 (num a2 1)), .a (.b (((num a1 1) != (num a2 1)))), .a (.b (((num a1 1) != (num a2 1)))), .a (.u), .a (.p 1 (2) 2), .a (.i .i64 (num a1 2)), .a (.p 2 (2) 2), .a (.i .i64 (num a2 2)), .a (.i .i64 (IntKind.i64.wrap ((num a1 2) + (num a2 2)))), .a (.b (decide ((IntKind.i64.wrap ((num a1 2) + (num a2 2))) > (1000 : Int)))), .a (.u), .a (.p 1 (2) 2), .a (.i .i64 (num a1 2)), .a (.p 2 (2) 2), .a (.i .i64 (num a2 2)), .a (.i .i64 (IntKind.i64.wrap ((num a1 2) + (num a2 2)))), .a (.p 1 (2) 2), .a (.p 1 (39) 2), .a (.i .i64 (num (a1.setIfInBounds 2 (.int .i64 (IntKind.i64.wrap ((num a1 2) + (num a2 2))))) 39)), .a (.p 2 (39) 2), .a (.i .i64 (num a2 39)), .a (.i .i64 (IntKind.i64.wrap ((num (a1.setIfInBounds 2 (.int .i64 (IntKind.i64.wrap ((num a1 2) + (num a2 2))))) 39) + (num a2 39)))), .a (.p 1 (39) 2), .a (.u), .a (.u), .a (.u), .a (.u), .a (.u), .a (.u), .a (.u), .a (.u), .a (.u), .a (.u), .a (.u), .a (.u), .a (.u), .a (.u), .a (.u), .a (.u)], [.row a0 40, .row ((a1.setIfInBounds 2 (.int .i64 (IntKind.i64.wrap ((num a1 2) + (num a2 2))))).setIfInBounds 39 (.int .i64 (IntKind.i64.wrap ((num (a1.setIfInBounds 2 (.int .i64 (IntKind.i64.wrap ((num a1 2) + (num a2 2))))) 39) + (num a2 39))))) 42, .row a2 42, .row (zc Try.prog 42) 42, .no], [1, 1]⟩ : St)) N ([.a (.i .i64 (0 : Int))], [.row ((a1.setIfInBounds 2 (.int .i64 (IntKind.i64.wrap ((num a1 2) + (num a2 2))))).setIfInBounds 39 (.int .i64 (IntKind.i64.wrap ((num (a1.setIfInBounds 2 (.int .i64 (IntKind.i64.wrap ((num a1 2) + (num a2 2))))) 39) + (num a2 39))))) 42])) (fun e s => (kBlock 0 (kSeq (veC Try.prog (mkΓ [(48, con spec_l01Ok_con), (49, con spec_l02Ok_con)]) N (cAt (codeOf Try.f39) [1, 1, 1, 1, 1, 1, 1]) (pAt (mkPlan (codeOf Try.f39) [([8], [1])]).1 [1, 1, 1, 1, 1, 1, 1]) (SV × Eff × Bool)) (finK Try.prog [] [.cell 6 42, .tmp 7]))) e (left (writes (cAt (codeOf Try.f39) [1, 1, 1, 1, 1, 1, 0, 1, 0, 0])) [8] [1] (⟨[.a (.g a0 40), .a (.g a1 42), .a (.g a2 42), .a (.w 0), .a (.w 1), .a (.w 2), .a (.w 3), .a (.i .i64 (0 : Int)), .a (.i .i64 (0 : Int)), .a (.b ((okS a0))), .a (.b ((!((okS a0))))), .a (.b (false)), .a (.b ((specSp a0 a1))), .a (.b ((!((specSp a0 a1))))), .a (.b ((!((specSp a0 a1))))), .a (.b (false)), .a (.b ((specSp a0 a2))), .a (.b ((!((specSp a0 a2))))), .a (.b ((!((specSp a0 a2))))), .a (.u), .a (.p 1 (0) 25), .a (.i .i8 (num a1 0)), .a (.p 2 (0) 25), .a (.i .i8 (num a2 0)), .a (.b (((num a1 0) != (num a2 0)))), .a (.b (false)), .a (.p 1 (1) 25), .a (.i .i8 (num a1 1)), .a (.p 2 (1) 25), .a (.i .i8 (num a2 1)), .a (.b (((num a1 1) != (num a2 1)))), .a (.b (((num a1 1) != (num a2 1)))), .a (.u), .a (.p 1 (2) 2), .a (.i .i64 (num a1 2)), .a (.p 2 (2) 2), .a (.i .i64 (num a2 2)), .a (.i .i64 (IntKind.i64.wrap ((num a1 2) + (num a2 2)))), .a (.b (decide ((IntKind.i64.wrap ((num a1 2) + (num a2 2))) > (1000 : Int)))), .a (.u), .a (.p 1 (2) 2), .a (.i .i64 (num a1 2)), .a (.p 2 (2) 2), .a (.i .i64 (num a2 2)), .a (.i .i64 (IntKind.i64.wrap ((num a1 2) + (num a2 2)))), .a (.p 1 (2) 2), .a (.p 1 (39) 2), .a (.i .i64 (num (a1.setIfInBounds 2 (.int .i64 (IntKind.i64.wrap ((num a1 2) + (num a2 2))))) 39)), .a (.p 2 (39) 2), .a (.i .i64 (num a2 39)), .a (.i .i64 (IntKind.i64.wrap ((num (a1.setIfInBounds 2 (.int .i64 (IntKind.i64.wrap ((num a1 2) + (num a2 2))))) 39) + (num a2 39)))), .a (.p 1 (39) 2), .a (.u), .a (.u), .a (.u), .a (.u), .a (.u), .a (.u), .a (.u), .a (.u), .a (.u), .a (.u), .a (.u), .a (.u), .a (.u), .a (.u), .a (.u), .a (.u)], [.row a0 40, .row ((a1.setIfInBounds 2 (.int .i64 (IntKind.i64.wrap ((num a1 2) + (num a2 2))))).setIfInBounds 39 (.int .i64 (IntKind.i64.wrap ((num (a1.setIfInBounds 2 (.int .i64 (IntKind.i64.wrap ((num a1 2) + (num a2 2))))) 39) + (num a2 39))))) 42, .row a2 42, .row (zc Try.prog 42) 42, .no], [1, 1]⟩ : St) s))))))))) := by kernel_rfl
  refine h.trans ?_
  simp only [spec_AddSpreads_n0]

theorem spec_AddSpreads_main (a0 : Array Value) (a1 : Array Value) (a2 : Array Value) (h_a0 : WT Try.prog 40 a0) (h_a1 : WT Try.prog 42 a1) (h_a2 : WT Try.prog 42 a2) (hg : (true) = true) : ansV Try.prog (mkΓ [(48, con spec_l01Ok_con), (49, con spec_l02Ok_con)]) 1000 Try.f39 [([8], [1])] [.g a0 40, .g a1 42, .g a2 42] [] = some (.t [.g (addS Try.prog a0 a1 a2) 42, .i .i64 (addC a0 a1 a2)], .none, true) := by
  refine (spec_AddSpreads_ans 1000 a0 a1 a2).trans ?_
  have h := iter_all (g := spec_AddSpreads_g0 Try.prog a0 a1 a2) (fun k => ((k : Int), addW ((a1.setIfInBounds 2 (.int .i64 (IntKind.i64.wrap (num a1 2 + num a2 2)))).setIfInBounds 39 (.int .i64 (IntKind.i64.wrap (num (a1.setIfInBounds 2 (.int .i64 (IntKind.i64.wrap (num a1 2 + num a2 2)))) 39 + num a2 39)))) a2 k)) (m := 36) (x := (((36 : Nat) : Int), addW ((a1.setIfInBounds 2 (.int .i64 (IntKind.i64.wrap (num a1 2 + num a2 2)))).setIfInBounds 39 (.int .i64 (IntKind.i64.wrap (num (a1.setIfInBounds 2 (.int .i64 (IntKind.i64.wrap (num a1 2 + num a2 2)))) 39 + num a2 39)))) a2 36)) (N := 1000) (fun k hk => by
    have h1 : decide ((k : Int) < 36) = true := decide_eq_true (by omega)
    have h0 : decide (0 ≤ (k : Int)) = true := decide_eq_true (by omega)
    have h3 : IntKind.i64.wrap ((k : Int) + 1) = ((k + 1 : Nat) : Int) := by rw [IntWalk.i64_in _ (by omega)]; omega
    have h4 : ((k : Int)).toNat = k := Int.toNat_natCast k
    have h7 : ∀ R, addW R a2 (k + 1) = (addW R a2 k).setIfInBounds (3 + k * 1) (.int .i64 (IntKind.i64.wrap (num (addW R a2 k) (3 + k * 1) + num a2 (3 + k * 1)))) := fun _ => rfl
    simp only [spec_AddSpreads_g0, h1, h0, Bool.and_self, h4, cond_true, h3, h7]) (by
    have h1 : decide (((36 : Nat) : Int) < 36) = false := by decide
    simp only [spec_AddSpreads_g0, h1, cond_false]) (by omega)
  have h' : iterO (spec_AddSpreads_g0 Try.prog a0 a1 a2) 1000 ((0 : Int), ((a1.setIfInBounds 2 (.int .i64 (IntKind.i64.wrap (num a1 2 + num a2 2)))).setIfInBounds 39 (.int .i64 (IntKind.i64.wrap (num (a1.setIfInBounds 2 (.int .i64 (IntKind.i64.wrap (num a1 2 + num a2 2)))) 39 + num a2 39))))) = some (((36 : Nat) : Int), addW ((a1.setIfInBounds 2 (.int .i64 (IntKind.i64.wrap (num a1 2 + num a2 2)))).setIfInBounds 39 (.int .i64 (IntKind.i64.wrap (num (a1.setIfInBounds 2 (.int .i64 (IntKind.i64.wrap (num a1 2 + num a2 2)))) 39 + num a2 39)))) a2 36) := h
  have hR : addW ((a1.setIfInBounds 2 (.int .i64 (IntKind.i64.wrap (num a1 2 + num a2 2)))).setIfInBounds 39 (.int .i64 (IntKind.i64.wrap (num (a1.setIfInBounds 2 (.int .i64 (IntKind.i64.wrap (num a1 2 + num a2 2)))) 39 + num a2 39)))) a2 36 = sumRow a1 a2 := by
    unfold sumRow
    rw [addW_set _ _ _ 36 (Nat.le_refl _), addW_39 _ _ 36 (Nat.le_refl _)]
  rw [h', hR]
  unfold addS addC
  generalize sumRow a1 a2 = Q
  cases okS a0
  · rfl
  cases specSp a0 a1
  · rfl
  cases specSp a0 a2
  · rfl
  cases (num a1 0 != num a2 0)
  · cases (num a1 1 != num a2 1)
    · cases decide (IntKind.i64.wrap (num a1 2 + num a2 2) > 1000) <;> rfl
    · rfl
  · rfl
noncomputable def spec_AddSpreads_con : Con := fun args h => match args, h with
  | [.g a0 40, .g a1 42, .g a2 42], [] => some (.t [.g (addS Try.prog a0 a1 a2) 42, .i .i64 (addC a0 a1 a2)], .none, true)
  | _, _ => none
theorem spec_AddSpreads_enter : ∀ args w, (callFunc 39 args).run Try.prog w = .ok (.enter 39 args) w := enter_ok (fn := Try.f39) (by kernel_rfl) (by kernel_rfl) (by kernel_rfl)
theorem spec_AddSpreads_ok : ConOk Try.prog 39 spec_AddSpreads_con := (ans_ok (N := 1000) (by kernel_rfl) (mkΓ_cons (con_ok spec_l01Ok_ok) spec_l01Ok_enter (mkΓ_cons (con_ok spec_l02Ok_ok) spec_l02Ok_enter mkΓ_nil)) (fn := Try.f39) (by kernel_rfl) (by kernel_rfl) [([8], [1])]).of (by
  intro ρ h w args vals r e hA hH hr
  unfold spec_AddSpreads_con at hr
  split at hr
  · rename_i a0 a1 a2
    obtain ⟨rfl, hg⟩ := Prod.mk.inj (Option.some.inj hr)
    obtain ⟨rfl, hg2⟩ := Prod.mk.inj hg
    exact spec_AddSpreads_main a0 a1 a2 (hA.wt 0 rfl) (hA.wt 1 rfl) (hA.wt 2 rfl) hg2
  · cases hr)

theorem impl_AddSpreads_ans (N : Nat) (a0 : Array Value) (a1 : Array Value) (a2 : Array Value) : ansV Try.prog (mkΓ [(20, con impl_ValidSpread_con), (75, con impl_together_con)]) N Try.f40 [] [.g a0 40, .g a1 42, .g a2 42] [] = (bif (impl_ValidSpread_gd a0 a1) then (bif (!((impl_ValidSpread_v0 a0 a1))) then (some (.t [.g (zc Try.prog 42) 42, .i .i64 (1 : Int)], .none, true))
      else (bif (impl_ValidSpread_gd a0 a2) then (bif (!((impl_ValidSpread_v0 a0 a2))) then (some (.t [.g (zc Try.prog 42) 42, .i .i64 (1 : Int)], .none, true))
          else (bif ((num a1 0) != (num a2 0)) then (some (.t [.g (zc Try.prog 42) 42, .i .i64 (4 : Int)], .none, true))
            else (bif ((num a1 1) != (num a2 1)) then (some (.t [.g (zc Try.prog 42) 42, .i .i64 (4 : Int)], .none, true))
              else (bif decide ((IntKind.i64.wrap ((num a1 2) + (num a2 2))) > (1000 : Int)) then (some (.t [.g (zc Try.prog 42) 42, .i .i64 (3 : Int)], .none, true))
                else (some (.t [.g (sumRow a1 a2) 42, .i .i64 (0 : Int)], .none, true))))))
        else (none)))
    else (none)) := by kernel_rfl

noncomputable def impl_AddSpreads_v0 (P : Program) (a0 : Array Value) (a1 : Array Value) (a2 : Array Value) : Array Value := (bif (!((impl_ValidSpread_v0 a0 a1))) then (zc P 42) else (bif (!((impl_ValidSpread_v0 a0 a2))) then (zc P 42) else (bif ((num a1 0) != (num a2 0)) then (zc P 42) else (bif ((num a1 1) != (num a2 1)) then (zc P 42) else (bif decide ((IntKind.i64.wrap ((num a1 2) + (num a2 2))) > (1000 : Int)) then (zc P 42) else (sumRow a1 a2))))))
noncomputable def impl_AddSpreads_v1 (a0 : Array Value) (a1 : Array Value) (a2 : Array Value) : Int := (bif (!((impl_ValidSpread_v0 a0 a1))) then (1 : Int) else (bif (!((impl_ValidSpread_v0 a0 a2))) then (1 : Int) else (bif ((num a1 0) != (num a2 0)) then (4 : Int) else (bif ((num a1 1) != (num a2 1)) then (4 : Int) else (bif decide ((IntKind.i64.wrap ((num a1 2) + (num a2 2))) > (1000 : Int)) then (3 : Int) else (0 : Int))))))
noncomputable def impl_AddSpreads_gd (a0 : Array Value) (a1 : Array Value) (a2 : Array Value) : Bool := (bif (impl_ValidSpread_gd a0 a1) then (bif (!((impl_ValidSpread_v0 a0 a1))) then true else (impl_ValidSpread_gd a0 a2)) else false)

theorem impl_AddSpreads_main (a0 : Array Value) (a1 : Array Value) (a2 : Array Value) (h_a0 : WT Try.prog 40 a0) (h_a1 : WT Try.prog 42 a1) (h_a2 : WT Try.prog 42 a2) (hg : ((impl_AddSpreads_gd a0 a1 a2)) = true) : ansV Try.prog (mkΓ [(20, con impl_ValidSpread_con), (75, con impl_together_con)]) 1000 Try.f40 [] [.g a0 40, .g a1 42, .g a2 42] [] = some (.t [.g (impl_AddSpreads_v0 Try.prog a0 a1 a2) 42, .i .i64 (impl_AddSpreads_v1 a0 a1 a2)], .none, true) := by
  refine (impl_AddSpreads_ans 1000 a0 a1 a2).trans ?_
  unfold impl_AddSpreads_gd at hg
  unfold impl_AddSpreads_v0 impl_AddSpreads_v1
  revert hg
  generalize ((impl_ValidSpread_gd a0 a1)) = b2
  intro hg
  cases b2
  · skip
    first | exact (nomatch (hg : false = true)) | (simp only [cond_true, cond_false, Bool.and_true, Bool.true_and, Bool.and_false, Bool.false_and]; done) | rfl
  · skip
    revert hg
    generalize ((!((impl_ValidSpread_v0 a0 a1)))) = b4
    intro hg
    cases b4
    · skip
      revert hg
      generalize ((impl_ValidSpread_gd a0 a2)) = b6
      intro hg
      cases b6
      · skip
        first | exact (nomatch (hg : false = true)) | (simp only [cond_true, cond_false, Bool.and_true, Bool.true_and, Bool.and_false, Bool.false_and]; done) | rfl
      · skip
        revert hg
        generalize ((!((impl_ValidSpread_v0 a0 a2)))) = b8
        intro hg
        cases b8
        · skip
          revert hg
          generalize (((num a1 0) != (num a2 0))) = b10
          intro hg
          cases b10
          · skip
            revert hg
            generalize (((num a1 1) != (num a2 1))) = b12
            intro hg
            cases b12
            · skip
              revert hg
              generalize (decide ((IntKind.i64.wrap ((num a1 2) + (num a2 2))) > (1000 : Int))) = b14
              intro hg
              cases b14
              · skip
                first | (simp only [cond_true, cond_false, Bool.and_true, Bool.true_and, Bool.and_false, Bool.false_and]; done) | rfl | exact (nomatch (hg : false = true))
              · skip
                first | (simp only [cond_true, cond_false, Bool.and_true, Bool.true_and, Bool.and_false, Bool.false_and]; done) | rfl | exact (nomatch (hg : false = true))
            · skip
              first | (simp only [cond_true, cond_false, Bool.and_true, Bool.true_and, Bool.and_false, Bool.false_and]; done) | rfl | exact (nomatch (hg : false = true))
          · skip
            first | (simp only [cond_true, cond_false, Bool.and_true, Bool.true_and, Bool.and_false, Bool.false_and]; done) | rfl | exact (nomatch (hg : false = true))
        · skip
          first | (simp only [cond_true, cond_false, Bool.and_true, Bool.true_and, Bool.and_false, Bool.false_and]; done) | rfl | exact (nomatch (hg : false = true))
    · skip
      first | (simp only [cond_true, cond_false, Bool.and_true, Bool.true_and, Bool.and_false, Bool.false_and]; done) | rfl | exact (nomatch (hg : false = true))
noncomputable def impl_AddSpreads_con : Con := fun args h => match args, h with
  | [.g a0 40, .g a1 42, .g a2 42], [] => some (.t [.g (impl_AddSpreads_v0 Try.prog a0 a1 a2) 42, .i .i64 (impl_AddSpreads_v1 a0 a1 a2)], .none, (impl_AddSpreads_gd a0 a1 a2))
  | _, _ => none
theorem impl_AddSpreads_enter : ∀ args w, (callFunc 40 args).run Try.prog w = .ok (.enter 40 args) w := enter_ok (fn := Try.f40) (by kernel_rfl) (by kernel_rfl) (by kernel_rfl)
theorem impl_AddSpreads_ok : ConOk Try.prog 40 impl_AddSpreads_con := (ans_ok (N := 1000) (by kernel_rfl) (mkΓ_cons (con_ok impl_ValidSpread_ok) impl_ValidSpread_enter (mkΓ_cons (con_ok impl_together_ok) impl_together_enter mkΓ_nil)) (fn := Try.f40) (by kernel_rfl) (by kernel_rfl) []).of (by
  intro ρ h w args vals r e hA hH hr
  unfold impl_AddSpreads_con at hr
  split at hr
  · rename_i a0 a1 a2
    obtain ⟨rfl, hg⟩ := Prod.mk.inj (Option.some.inj hr)
    obtain ⟨rfl, hg2⟩ := Prod.mk.inj hg
    exact impl_AddSpreads_main a0 a1 a2 (hA.wt 0 rfl) (hA.wt 1 rfl) (hA.wt 2 rfl) hg2
  · cases hr)

theorem laws_FnExactAddSpreads_ans (N : Nat) (a0 : Array Value) (a1 : Array Value) (a2 : Array Value) : ansV Try.prog (mkΓ [(18, con laws_toSea_con), (19, con laws_toSpread_con), (23, con laws_eqSpread_con), (39, con spec_AddSpreads_con), (40, con impl_AddSpreads_con)]) N Try.f13 [] [.g a0 31, .g a1 34, .g a2 34] [] = (bif (impl_AddSpreads_gd a0 a1 a2) then (bif (!(sameB (impl_AddSpreads_v0 Try.prog a0 a1 a2) (addS Try.prog a0 a1 a2))) then (some (.a (.b (false)), .none, true))
      else (bif ((impl_AddSpreads_v1 a0 a1 a2) != (addC a0 a1 a2)) then (some (.a (.b (false)), .none, true))
        else (some (.a (.b (true)), .none, true))))
    else (none)) := by kernel_rfl

noncomputable def laws_FnExactAddSpreads_v0 (P : Program) (a0 : Array Value) (a1 : Array Value) (a2 : Array Value) : Bool := (bif (!(sameB (impl_AddSpreads_v0 P a0 a1 a2) (addS P a0 a1 a2))) then false else (bif ((impl_AddSpreads_v1 a0 a1 a2) != (addC a0 a1 a2)) then false else true))

theorem laws_FnExactAddSpreads_main (a0 : Array Value) (a1 : Array Value) (a2 : Array Value) (h_a0 : WT Try.prog 31 a0) (h_a1 : WT Try.prog 34 a1) (h_a2 : WT Try.prog 34 a2) (hg : ((impl_AddSpreads_gd a0 a1 a2)) = true) : ansV Try.prog (mkΓ [(18, con laws_toSea_con), (19, con laws_toSpread_con), (23, con laws_eqSpread_con), (39, con spec_AddSpreads_con), (40, con impl_AddSpreads_con)]) 1000 Try.f13 [] [.g a0 31, .g a1 34, .g a2 34] [] = some (.a (.b ((laws_FnExactAddSpreads_v0 Try.prog a0 a1 a2))), .none, true) := by
  refine (laws_FnExactAddSpreads_ans 1000 a0 a1 a2).trans ?_
  unfold laws_FnExactAddSpreads_v0
  revert hg
  generalize ((impl_AddSpreads_gd a0 a1 a2)) = b2
  intro hg
  cases b2
  · skip
    first | exact (nomatch (hg : false = true)) | (simp only [cond_true, cond_false, Bool.and_true, Bool.true_and, Bool.and_false, Bool.false_and]; done) | rfl
  · skip
    revert hg
    generalize ((!(sameB (impl_AddSpreads_v0 Try.prog a0 a1 a2) (addS Try.prog a0 a1 a2)))) = b4
    intro hg
    cases b4
    · skip
      revert hg
      generalize (((impl_AddSpreads_v1 a0 a1 a2) != (addC a0 a1 a2))) = b6
      intro hg
      cases b6
      · skip
        first | (simp only [cond_true, cond_false, Bool.and_true, Bool.true_and, Bool.and_false, Bool.false_and]; done) | rfl | exact (nomatch (hg : false = true))
      · skip
        first | (simp only [cond_true, cond_false, Bool.and_true, Bool.true_and, Bool.and_false, Bool.false_and]; done) | rfl | exact (nomatch (hg : false = true))
    · skip
      first | (simp only [cond_true, cond_false, Bool.and_true, Bool.true_and, Bool.and_false, Bool.false_and]; done) | rfl | exact (nomatch (hg : false = true))
noncomputable def laws_FnExactAddSpreads_con : Con := fun args h => match args, h with
  | [.g a0 31, .g a1 34, .g a2 34], [] => some (.a (.b ((laws_FnExactAddSpreads_v0 Try.prog a0 a1 a2))), .none, (impl_AddSpreads_gd a0 a1 a2))
  | _, _ => none
theorem laws_FnExactAddSpreads_enter : ∀ args w, (callFunc 13 args).run Try.prog w = .ok (.enter 13 args) w := enter_ok (fn := Try.f13) (by kernel_rfl) (by kernel_rfl) (by kernel_rfl)
theorem laws_FnExactAddSpreads_ok : ConOk Try.prog 13 laws_FnExactAddSpreads_con := (ans_ok (N := 1000) (by kernel_rfl) (mkΓ_cons (con_ok laws_toSea_ok) laws_toSea_enter (mkΓ_cons (con_ok laws_toSpread_ok) laws_toSpread_enter (mkΓ_cons (con_ok laws_eqSpread_ok) laws_eqSpread_enter (mkΓ_cons (con_ok spec_AddSpreads_ok) spec_AddSpreads_enter (mkΓ_cons (con_ok impl_AddSpreads_ok) impl_AddSpreads_enter mkΓ_nil))))) (fn := Try.f13) (by kernel_rfl) (by kernel_rfl) []).of (by
  intro ρ h w args vals r e hA hH hr
  unfold laws_FnExactAddSpreads_con at hr
  split at hr
  · rename_i a0 a1 a2
    obtain ⟨rfl, hg⟩ := Prod.mk.inj (Option.some.inj hr)
    obtain ⟨rfl, hg2⟩ := Prod.mk.inj hg
    exact laws_FnExactAddSpreads_main a0 a1 a2 (hA.wt 0 rfl) (hA.wt 1 rfl) (hA.wt 2 rfl) hg2
  · cases hr)

theorem laws_FnExactAddSpreads_true (a0 : Array Value) (a1 : Array Value) (a2 : Array Value) (h_a0 : WT Try.prog 31 a0) (h_a1 : WT Try.prog 34 a1) (h_a2 : WT Try.prog 34 a2) : ((impl_AddSpreads_gd a0 a1 a2)) = true ∧ ((laws_FnExactAddSpreads_v0 Try.prog a0 a1 a2)) = true := by
  have e0 : impl_AddSpreads_v0 Try.prog a0 a1 a2 = addS Try.prog a0 a1 a2 := by
    unfold impl_AddSpreads_v0 addS
    rw [(valid_spread a0 a1).1, (valid_spread a0 a2).1]
    unfold spec_ValidSpread_v0
    cases okS a0
    · rfl
    · cases specSp a0 a1 <;> cases specSp a0 a2 <;> rfl
  have e1 : impl_AddSpreads_v1 a0 a1 a2 = addC a0 a1 a2 := by
    unfold impl_AddSpreads_v1 addC
    rw [(valid_spread a0 a1).1, (valid_spread a0 a2).1]
    unfold spec_ValidSpread_v0
    cases okS a0
    · rfl
    · cases specSp a0 a1 <;> cases specSp a0 a2 <;> rfl
  have g : impl_AddSpreads_gd a0 a1 a2 = true := by
    unfold impl_AddSpreads_gd
    rw [(valid_spread a0 a1).2, (valid_spread a0 a2).2]
    cases impl_ValidSpread_v0 a0 a1 <;> rfl
  refine ⟨g, ?_⟩
  unfold laws_FnExactAddSpreads_v0
  rw [e0, e1, sameB_self]
  simp only [bne_self_eq_false, cond_false, Bool.not_true]

namespace lawFnExactAddSpreads
theorem lifted (os : Os) (started : os.Started) (H : Type) (enc : TypeId × Value → H) :
    ReturnsInHanded {} Try.checked os 13 .any (Rows.fnExactAddSpreadsSpec.pre6 enc Try.prog Try.f13 Rows.fnExactAddSpreadsRow.domain false) (Rows.fnExactAddSpreadsSpec.post enc Try.prog Try.f13 false true false false) := by
  refine law_lifted (C := Try.checked) (tb := 4) (by kernel_rfl) (by kernel_rfl) (by kernel_rfl) Try.func13 (by kernel_rfl) Try.underlying4 (of_decide_eq_true (by kernel_rfl)) rfl ?_ os started H enc
    (ChangeSpec.witness6 (enc := enc) (C := Try.checked) false ⟨#[], #[.agg (zc Try.prog 31), .agg (zc Try.prog 34), .agg (zc Try.prog 34)], []⟩ 8 (by kernel_rfl) (by kernel_rfl) (by kernel_rfl) (by kernel_rfl)) ?_
  · intro H ds hds
    rw [show Try.f13.params.toList.length = 3 by kernel_rfl] at hds
    match ds, hds with
    | [_, _, _], _ => rfl
  · intro W base args ds ps hval hA
    rw [Try.params13] at hA hval
    obtain ⟨v0, v1, v2, d0, d1, d2, p0, p1, p2, hargs, rfl, rfl, h0, h1, h2⟩ := trodAll_three hA
    obtain ⟨a0, e0, w0⟩ := open_data (t := 31) 8 (by kernel_rfl) (by kernel_rfl) (hval 0 31 v0 rfl (by rw [hargs]; rfl)) h0
    obtain ⟨a1, e1, w1⟩ := open_data (t := 34) 8 (by kernel_rfl) (by kernel_rfl) (hval 1 34 v1 rfl (by rw [hargs]; rfl)) h1
    obtain ⟨a2, e2, w2⟩ := open_data (t := 34) 8 (by kernel_rfl) (by kernel_rfl) (hval 2 34 v2 rfl (by rw [hargs]; rfl)) h2
    obtain rfl : args = #[.agg a0, .agg a1, .agg a2] := by rw [hargs, e0, e1, e2]
    obtain ⟨hg, hv⟩ := laws_FnExactAddSpreads_true a0 a1 a2 w0 w1 w2
    have hr : laws_FnExactAddSpreads_con [.g a0 31, .g a1 34, .g a2 34] [] = some (.a (.b true), .none, true) := by
      show (some (SV.a (SA.b ((laws_FnExactAddSpreads_v0 Try.prog a0 a1 a2))), Eff.none, (impl_AddSpreads_gd a0 a1 a2)) : Option (SV × Eff × Bool)) = _
      rw [hg, hv]
    exact calls_con laws_FnExactAddSpreads_ok hr W (vals := [.agg a0, .agg a1, .agg a2]) (allCons ⟨rfl, w0⟩ (allCons ⟨rfl, w1⟩ (allCons ⟨rfl, w2⟩ allNil)))

theorem over : Rows.fnExactAddSpreadsRow.holds Try.pinned (OpenSpec.ofChange Rows.fnExactAddSpreadsSpec) :=
  OpenClaim.holds_of_wide 13 Try.f13 rfl rfl rfl rfl rfl rfl rfl ⟨rfl, rfl, rfl, rfl, rfl⟩ rfl rfl rfl rfl rfl (by kernel_rfl) Try.func13 (by kernel_rfl)
    (of_decide_eq_true (by kernel_rfl)) (by unfold Func.isWrapper; first | (rw [if_pos (by decide +kernel)]; kernel_rfl) | (rw [if_neg (by decide +kernel)]; exact ⟨rfl, rfl⟩))
    (fun os started H enc _ => lifted os started H enc)

theorem proved : Rows.FnExactAddSpreadsSaid := over
#print axioms proved
end lawFnExactAddSpreads

end
end Go.Proofs.Ytjihfoifdloaeaa
