/- For every number of hours spec and program answer the same parts and the same code. -/
import Derived.Test.YtjihfoifdloaeaaRows
import Derived.Test.YtjihfoifdloaeaaChecked
import Derived.Test.YtjihfoifdloaeaaBase
import Derived.Test.YtjihfoifdloaeaaVeD
namespace Go.Proofs.Ytjihfoifdloaeaa
open Go.ChangeShapes Go.WideShapes Go.ChangeAt Go.RowKit Ve
set_option linter.unusedVariables false
set_option linter.unusedSimpArgs false
set_option maxRecDepth 100000

theorem spec_l00In_ans (N : Nat) (a0 : Int) (a1 : Int) (a2 : Int) : ansV Try.prog (mkΓ []) N Try.f44 [] [.i .i64 (a0), .i .i64 (a1), .i .i64 (a2)] [] = (bif decide (a0 ≥ a1) then (some (.a (.b (decide (a0 ≤ a2))), true))
    else (some (.a (.b (false)), true))) := by kernel_rfl

def spec_l00In_v0 (a0 : Int) (a1 : Int) (a2 : Int) : Bool := (bif decide (a0 ≥ a1) then decide (a0 ≤ a2) else false)

theorem spec_l00In_main (a0 : Int) (a1 : Int) (a2 : Int) (h_a0 : IntKind.i64.min ≤ a0 ∧ a0 ≤ IntKind.i64.max) (h_a1 : IntKind.i64.min ≤ a1 ∧ a1 ≤ IntKind.i64.max) (h_a2 : IntKind.i64.min ≤ a2 ∧ a2 ≤ IntKind.i64.max) (hg : (true) = true) : ansV Try.prog (mkΓ []) 1000 Try.f44 [] [.i .i64 (a0), .i .i64 (a1), .i .i64 (a2)] [] = some (.a (.b ((spec_l00In_v0 a0 a1 a2))), true) := by
  refine (spec_l00In_ans 1000 a0 a1 a2).trans ?_
  unfold spec_l00In_v0
  revert hg
  generalize (decide (a0 ≥ a1)) = b2
  intro hg
  cases b2
  · skip
    rfl
  · skip
    rfl
def spec_l00In_con : Con := fun args h => match args, h with
  | [.i .i64 a0, .i .i64 a1, .i .i64 a2], [] => some (.a (.b ((spec_l00In_v0 a0 a1 a2))), true)
  | _, _ => none
theorem spec_l00In_enter : ∀ args w, (callFunc 44 args).run Try.prog w = .ok (.enter 44 args) w := enter_ok (fn := Try.f44) (by kernel_rfl) (by kernel_rfl) (by kernel_rfl)
theorem spec_l00In_ok : ConOk Try.prog 44 spec_l00In_con := (ans_ok (N := 1000) (by kernel_rfl) mkΓ_nil (fn := Try.f44) (by kernel_rfl) (by kernel_rfl) []).of (by
  intro ρ h w args vals r hA hH hr
  unfold spec_l00In_con at hr
  split at hr
  · rename_i a0 a1 a2
    obtain ⟨rfl, hg⟩ := Prod.mk.inj (Option.some.inj hr)
    exact spec_l00In_main a0 a1 a2 (hA.rng 0 rfl) (hA.rng 1 rfl) (hA.rng 2 rfl) hg
  · cases hr)

theorem wrap12 : ∀ k, k < 14 → IntKind.i64.wrap ((12 : Int) ^ k * 12) = 12 ^ (k + 1) := by decide

def spec_l02Parts_g0 (P : Program) (a0 : Int) : Int × Int → Option (Stp (Int × Int) (Int × Int))
  | (y0_3, y0_4) => bif decide (y0_4 < a0) then (some (.more ((IntKind.i64.wrap (y0_3 * (12 : Int))), (IntKind.i64.wrap (y0_4 + (1 : Int))))))
    else (some (.done (y0_3, y0_4)))

def spec_l02Parts_e0 : Int × Int → LS
  | (y0_3, y0_4) => ([.a (.i .i64 (y0_3)), .a (.i .i64 (y0_4))], [])

def spec_l02Parts_x0 : Int × Int → Exit × LS
  | t => ((.exit 0), spec_l02Parts_e0 t)

def spec_l02Parts_k0_0 (P : Program) (N : Nat) (a0 : Int) (z0_3 : Int) (z0_4 : Int) : Option (SV × Bool) := some (.a (.i .i64 (z0_3)), true)

theorem spec_l02Parts_s0 (N : Nat) (a0 : Int) : ∀ t : Int × Int, stepV Try.prog (mkΓ []) N (cAt (codeOf Try.f45) [1, 1, 0, 1, 0, 0]) (pAt (mkPlan (codeOf Try.f45) [([3, 4], [])]).1 [1, 1, 0, 1, 0]) [3, 4] [] (⟨[.a (.i .i64 (a0)), .a (.u), .a (.i .i64 (0 : Int)), .a (.i .i64 (1 : Int)), .a (.i .i64 (0 : Int)), .a (.u), .a (.u), .a (.u), .a (.u), .a (.u), .a (.u), .a (.u), .a (.u)], [], []⟩ : St) (spec_l02Parts_e0 t) = mapS spec_l02Parts_e0 spec_l02Parts_x0 (spec_l02Parts_g0 Try.prog a0 t) := by
  rintro ⟨y0_3, y0_4⟩
  have h : stepV Try.prog (mkΓ []) N (cAt (codeOf Try.f45) [1, 1, 0, 1, 0, 0]) (pAt (mkPlan (codeOf Try.f45) [([3, 4], [])]).1 [1, 1, 0, 1, 0]) [3, 4] [] (⟨[.a (.i .i64 (a0)), .a (.u), .a (.i .i64 (0 : Int)), .a (.i .i64 (1 : Int)), .a (.i .i64 (0 : Int)), .a (.u), .a (.u), .a (.u), .a (.u), .a (.u), .a (.u), .a (.u), .a (.u)], [], []⟩ : St) ([.a (.i .i64 (y0_3)), .a (.i .i64 (y0_4))], []) = (bif decide (y0_4 < a0) then (some (.more ([.a (.i .i64 (IntKind.i64.wrap (y0_3 * (12 : Int)))), .a (.i .i64 (IntKind.i64.wrap (y0_4 + (1 : Int))))], [])))
    else (some (.done ((.exit 0), ([.a (.i .i64 (y0_3)), .a (.i .i64 (y0_4))], []))))) := by kernel_rfl
  refine h.trans ?_
  simp only [spec_l02Parts_g0, mapS_cond, mapS_more, mapS_done, mapS_none, spec_l02Parts_e0, spec_l02Parts_x0]

theorem spec_l02Parts_k0_0_eq (N : Nat) (a0 : Int) (z0_3 : Int) (z0_4 : Int) : (kBlock 0 (kSeq (veC Try.prog (mkΓ []) N (cAt (codeOf Try.f45) [1, 1, 1]) (pAt (mkPlan (codeOf Try.f45) [([3, 4], [])]).1 [1, 1, 1]) (SV × Bool)) (finK Try.prog 0 [.tmp 2]))) (.exit 0) (left (writes (cAt (codeOf Try.f45) [1, 1, 0, 1, 0, 0])) [3, 4] [] (⟨[.a (.i .i64 (a0)), .a (.u), .a (.i .i64 (0 : Int)), .a (.i .i64 (1 : Int)), .a (.i .i64 (0 : Int)), .a (.u), .a (.u), .a (.u), .a (.u), .a (.u), .a (.u), .a (.u), .a (.u)], [], []⟩ : St) ([.a (.i .i64 (z0_3)), .a (.i .i64 (z0_4))], [])) = spec_l02Parts_k0_0 Try.prog N a0 z0_3 z0_4 := by
  have h : (kBlock 0 (kSeq (veC Try.prog (mkΓ []) N (cAt (codeOf Try.f45) [1, 1, 1]) (pAt (mkPlan (codeOf Try.f45) [([3, 4], [])]).1 [1, 1, 1]) (SV × Bool)) (finK Try.prog 0 [.tmp 2]))) (.exit 0) (left (writes (cAt (codeOf Try.f45) [1, 1, 0, 1, 0, 0])) [3, 4] [] (⟨[.a (.i .i64 (a0)), .a (.u), .a (.i .i64 (0 : Int)), .a (.i .i64 (1 : Int)), .a (.i .i64 (0 : Int)), .a (.u), .a (.u), .a (.u), .a (.u), .a (.u), .a (.u), .a (.u), .a (.u)], [], []⟩ : St) ([.a (.i .i64 (z0_3)), .a (.i .i64 (z0_4))], [])) = (some (.a (.i .i64 (z0_3)), true)) := by kernel_rfl
  refine h.trans ?_
  rfl

theorem spec_l02Parts_n0 (N : Nat) (a0 : Int) : bindX (iterO (stepV Try.prog (mkΓ []) N (cAt (codeOf Try.f45) [1, 1, 0, 1, 0, 0]) (pAt (mkPlan (codeOf Try.f45) [([3, 4], [])]).1 [1, 1, 0, 1, 0]) [3, 4] [] (⟨[.a (.i .i64 (a0)), .a (.u), .a (.i .i64 (0 : Int)), .a (.i .i64 (1 : Int)), .a (.i .i64 (0 : Int)), .a (.u), .a (.u), .a (.u), .a (.u), .a (.u), .a (.u), .a (.u), .a (.u)], [], []⟩ : St)) N ([.a (.i .i64 (1 : Int)), .a (.i .i64 (0 : Int))], [])) (fun e s => (kBlock 0 (kSeq (veC Try.prog (mkΓ []) N (cAt (codeOf Try.f45) [1, 1, 1]) (pAt (mkPlan (codeOf Try.f45) [([3, 4], [])]).1 [1, 1, 1]) (SV × Bool)) (finK Try.prog 0 [.tmp 2]))) e (left (writes (cAt (codeOf Try.f45) [1, 1, 0, 1, 0, 0])) [3, 4] [] (⟨[.a (.i .i64 (a0)), .a (.u), .a (.i .i64 (0 : Int)), .a (.i .i64 (1 : Int)), .a (.i .i64 (0 : Int)), .a (.u), .a (.u), .a (.u), .a (.u), .a (.u), .a (.u), .a (.u), .a (.u)], [], []⟩ : St) s)) = nodeX (iterO (spec_l02Parts_g0 Try.prog a0) N ((1 : Int), (0 : Int))) (fun x => spec_l02Parts_k0_0 Try.prog N a0 x.1 x.2) := by
  refine loop_node spec_l02Parts_e0 spec_l02Parts_x0 _ _ (spec_l02Parts_s0 N a0) N ((1 : Int), (0 : Int)) _ _ ?_
  intro x; exact spec_l02Parts_k0_0_eq N a0 x.1 x.2

theorem spec_l02Parts_ans (N : Nat) (a0 : Int) : ansV Try.prog (mkΓ []) N Try.f45 [([3, 4], [])] [.i .i64 (a0)] [] = (nodeX (iterO (spec_l02Parts_g0 Try.prog a0) N ((1 : Int), (0 : Int))) (fun x => spec_l02Parts_k0_0 Try.prog N a0 x.1 x.2)) := by
  have h : ansV Try.prog (mkΓ []) N Try.f45 [([3, 4], [])] [.i .i64 (a0)] [] = (bindX (iterO (stepV Try.prog (mkΓ []) N (cAt (codeOf Try.f45) [1, 1, 0, 1, 0, 0]) (pAt (mkPlan (codeOf Try.f45) [([3, 4], [])]).1 [1, 1, 0, 1, 0]) [3, 4] [] (⟨[.a (.i .i64 (a0)), .a (.u), .a (.i .i64 (0 : Int)), .a (.i .i64 (1 : Int)), .a (.i .i64 (0 : Int)), .a (.u), .a (.u), .a (.u), .a (.u), .a (.u), .a (.u), .a (.u), .a (.u)], [], []⟩ : St)) N ([.a (.i .i64 (1 : Int)), .a (.i .i64 (0 : Int))], [])) (fun e s => (kBlock 0 (kSeq (veC Try.prog (mkΓ []) N (cAt (codeOf Try.f45) [1, 1, 1]) (pAt (mkPlan (codeOf Try.f45) [([3, 4], [])]).1 [1, 1, 1]) (SV × Bool)) (finK Try.prog 0 [.tmp 2]))) e (left (writes (cAt (codeOf Try.f45) [1, 1, 0, 1, 0, 0])) [3, 4] [] (⟨[.a (.i .i64 (a0)), .a (.u), .a (.i .i64 (0 : Int)), .a (.i .i64 (1 : Int)), .a (.i .i64 (0 : Int)), .a (.u), .a (.u), .a (.u), .a (.u), .a (.u), .a (.u), .a (.u), .a (.u)], [], []⟩ : St) s))) := by kernel_rfl
  refine h.trans ?_
  simp only [spec_l02Parts_n0]

theorem spec_l02Parts_main (a0 : Int) (h_a0 : IntKind.i64.min ≤ a0 ∧ a0 ≤ IntKind.i64.max) (hg : ((decide (0 ≤ a0) && decide (a0 ≤ 14))) = true) : ansV Try.prog (mkΓ []) 1000 Try.f45 [([3, 4], [])] [.i .i64 (a0)] [] = some (.a (.i .i64 (12 ^ a0.toNat)), true) := by
  simp only [Bool.and_eq_true, decide_eq_true_eq] at hg
  obtain ⟨h0, h14⟩ := hg
  obtain ⟨m, rfl⟩ := Int.eq_ofNat_of_zero_le h0
  refine (spec_l02Parts_ans 1000 _).trans ?_
  have h := iter_all (g := spec_l02Parts_g0 Try.prog (m : Int)) (fun k => ((12 : Int) ^ k, (k : Int))) (m := m) (x := ((12 : Int) ^ m, (m : Int))) (N := 1000) (fun k hk => by
    have h1 : decide ((k : Int) < (m : Int)) = true := decide_eq_true (by omega)
    have h2 : IntKind.i64.wrap ((k : Int) + 1) = ((k + 1 : Nat) : Int) := by rw [IntWalk.i64_in _ (by omega)]; omega
    simp only [spec_l02Parts_g0, h1, cond_true, wrap12 k (by omega), h2]) (by
    have h1 : decide ((m : Int) < (m : Int)) = false := decide_eq_false (by omega)
    simp only [spec_l02Parts_g0, h1, cond_false]) (by omega)
  have h' : iterO (spec_l02Parts_g0 Try.prog (m : Int)) 1000 ((1 : Int), (0 : Int)) = some ((12 : Int) ^ m, (m : Int)) := h
  rw [h']
  rfl
def spec_l02Parts_con : Con := fun args h => match args, h with
  | [.i .i64 a0], [] => some (.a (.i .i64 (12 ^ a0.toNat)), (decide (0 ≤ a0) && decide (a0 ≤ 14)))
  | _, _ => none
theorem spec_l02Parts_enter : ∀ args w, (callFunc 45 args).run Try.prog w = .ok (.enter 45 args) w := enter_ok (fn := Try.f45) (by kernel_rfl) (by kernel_rfl) (by kernel_rfl)
theorem spec_l02Parts_ok : ConOk Try.prog 45 spec_l02Parts_con := (ans_ok (N := 1000) (by kernel_rfl) mkΓ_nil (fn := Try.f45) (by kernel_rfl) (by kernel_rfl) [([3, 4], [])]).of (by
  intro ρ h w args vals r hA hH hr
  unfold spec_l02Parts_con at hr
  split at hr
  · rename_i a0
    obtain ⟨rfl, hg⟩ := Prod.mk.inj (Option.some.inj hr)
    exact spec_l02Parts_main a0 (hA.rng 0 rfl) hg
  · cases hr)

def impl_partsAfter_g0 (P : Program) (a0 : Int) : Int × Int → Option (Stp (Int × Int) (Int × Int))
  | (y0_3, y0_5) => bif decide (y0_5 < a0) then (some (.more ((IntKind.i64.wrap (y0_3 * (12 : Int))), (IntKind.i64.wrap (y0_5 + (1 : Int))))))
    else (some (.done (y0_3, y0_5)))

def impl_partsAfter_e0 : Int × Int → LS
  | (y0_3, y0_5) => ([.a (.i .i64 (y0_3)), .a (.i .i64 (y0_5))], [])

def impl_partsAfter_x0 : Int × Int → Exit × LS
  | t => ((.exit 0), impl_partsAfter_e0 t)

def impl_partsAfter_k0_0 (P : Program) (N : Nat) (a0 : Int) (z0_3 : Int) (z0_5 : Int) : Option (SV × Bool) := some (.a (.i .i64 (z0_3)), true)

theorem impl_partsAfter_s0 (N : Nat) (a0 : Int) : ∀ t : Int × Int, stepV Try.prog (mkΓ []) N (cAt (codeOf Try.f47) [1, 1, 0, 1, 0, 0]) (pAt (mkPlan (codeOf Try.f47) [([3, 5], [])]).1 [1, 1, 0, 1, 0]) [3, 5] [] (⟨[.a (.i .i64 (a0)), .a (.u), .a (.i .i64 (0 : Int)), .a (.i .i64 (1 : Int)), .a (.i .i64 (a0)), .a (.i .i64 (0 : Int)), .a (.u), .a (.u), .a (.u), .a (.u), .a (.u)], [], []⟩ : St) (impl_partsAfter_e0 t) = mapS impl_partsAfter_e0 impl_partsAfter_x0 (impl_partsAfter_g0 Try.prog a0 t) := by
  rintro ⟨y0_3, y0_5⟩
  have h : stepV Try.prog (mkΓ []) N (cAt (codeOf Try.f47) [1, 1, 0, 1, 0, 0]) (pAt (mkPlan (codeOf Try.f47) [([3, 5], [])]).1 [1, 1, 0, 1, 0]) [3, 5] [] (⟨[.a (.i .i64 (a0)), .a (.u), .a (.i .i64 (0 : Int)), .a (.i .i64 (1 : Int)), .a (.i .i64 (a0)), .a (.i .i64 (0 : Int)), .a (.u), .a (.u), .a (.u), .a (.u), .a (.u)], [], []⟩ : St) ([.a (.i .i64 (y0_3)), .a (.i .i64 (y0_5))], []) = (bif decide (y0_5 < a0) then (some (.more ([.a (.i .i64 (IntKind.i64.wrap (y0_3 * (12 : Int)))), .a (.i .i64 (IntKind.i64.wrap (y0_5 + (1 : Int))))], [])))
    else (some (.done ((.exit 0), ([.a (.i .i64 (y0_3)), .a (.i .i64 (y0_5))], []))))) := by kernel_rfl
  refine h.trans ?_
  simp only [impl_partsAfter_g0, mapS_cond, mapS_more, mapS_done, mapS_none, impl_partsAfter_e0, impl_partsAfter_x0]

theorem impl_partsAfter_k0_0_eq (N : Nat) (a0 : Int) (z0_3 : Int) (z0_5 : Int) : (kBlock 0 (kSeq (veC Try.prog (mkΓ []) N (cAt (codeOf Try.f47) [1, 1, 1]) (pAt (mkPlan (codeOf Try.f47) [([3, 5], [])]).1 [1, 1, 1]) (SV × Bool)) (finK Try.prog 0 [.tmp 2]))) (.exit 0) (left (writes (cAt (codeOf Try.f47) [1, 1, 0, 1, 0, 0])) [3, 5] [] (⟨[.a (.i .i64 (a0)), .a (.u), .a (.i .i64 (0 : Int)), .a (.i .i64 (1 : Int)), .a (.i .i64 (a0)), .a (.i .i64 (0 : Int)), .a (.u), .a (.u), .a (.u), .a (.u), .a (.u)], [], []⟩ : St) ([.a (.i .i64 (z0_3)), .a (.i .i64 (z0_5))], [])) = impl_partsAfter_k0_0 Try.prog N a0 z0_3 z0_5 := by
  have h : (kBlock 0 (kSeq (veC Try.prog (mkΓ []) N (cAt (codeOf Try.f47) [1, 1, 1]) (pAt (mkPlan (codeOf Try.f47) [([3, 5], [])]).1 [1, 1, 1]) (SV × Bool)) (finK Try.prog 0 [.tmp 2]))) (.exit 0) (left (writes (cAt (codeOf Try.f47) [1, 1, 0, 1, 0, 0])) [3, 5] [] (⟨[.a (.i .i64 (a0)), .a (.u), .a (.i .i64 (0 : Int)), .a (.i .i64 (1 : Int)), .a (.i .i64 (a0)), .a (.i .i64 (0 : Int)), .a (.u), .a (.u), .a (.u), .a (.u), .a (.u)], [], []⟩ : St) ([.a (.i .i64 (z0_3)), .a (.i .i64 (z0_5))], [])) = (some (.a (.i .i64 (z0_3)), true)) := by kernel_rfl
  refine h.trans ?_
  rfl

theorem impl_partsAfter_n0 (N : Nat) (a0 : Int) : bindX (iterO (stepV Try.prog (mkΓ []) N (cAt (codeOf Try.f47) [1, 1, 0, 1, 0, 0]) (pAt (mkPlan (codeOf Try.f47) [([3, 5], [])]).1 [1, 1, 0, 1, 0]) [3, 5] [] (⟨[.a (.i .i64 (a0)), .a (.u), .a (.i .i64 (0 : Int)), .a (.i .i64 (1 : Int)), .a (.i .i64 (a0)), .a (.i .i64 (0 : Int)), .a (.u), .a (.u), .a (.u), .a (.u), .a (.u)], [], []⟩ : St)) N ([.a (.i .i64 (1 : Int)), .a (.i .i64 (0 : Int))], [])) (fun e s => (kBlock 0 (kSeq (veC Try.prog (mkΓ []) N (cAt (codeOf Try.f47) [1, 1, 1]) (pAt (mkPlan (codeOf Try.f47) [([3, 5], [])]).1 [1, 1, 1]) (SV × Bool)) (finK Try.prog 0 [.tmp 2]))) e (left (writes (cAt (codeOf Try.f47) [1, 1, 0, 1, 0, 0])) [3, 5] [] (⟨[.a (.i .i64 (a0)), .a (.u), .a (.i .i64 (0 : Int)), .a (.i .i64 (1 : Int)), .a (.i .i64 (a0)), .a (.i .i64 (0 : Int)), .a (.u), .a (.u), .a (.u), .a (.u), .a (.u)], [], []⟩ : St) s)) = nodeX (iterO (impl_partsAfter_g0 Try.prog a0) N ((1 : Int), (0 : Int))) (fun x => impl_partsAfter_k0_0 Try.prog N a0 x.1 x.2) := by
  refine loop_node impl_partsAfter_e0 impl_partsAfter_x0 _ _ (impl_partsAfter_s0 N a0) N ((1 : Int), (0 : Int)) _ _ ?_
  intro x; exact impl_partsAfter_k0_0_eq N a0 x.1 x.2

theorem impl_partsAfter_ans (N : Nat) (a0 : Int) : ansV Try.prog (mkΓ []) N Try.f47 [([3, 5], [])] [.i .i64 (a0)] [] = (nodeX (iterO (impl_partsAfter_g0 Try.prog a0) N ((1 : Int), (0 : Int))) (fun x => impl_partsAfter_k0_0 Try.prog N a0 x.1 x.2)) := by
  have h : ansV Try.prog (mkΓ []) N Try.f47 [([3, 5], [])] [.i .i64 (a0)] [] = (bindX (iterO (stepV Try.prog (mkΓ []) N (cAt (codeOf Try.f47) [1, 1, 0, 1, 0, 0]) (pAt (mkPlan (codeOf Try.f47) [([3, 5], [])]).1 [1, 1, 0, 1, 0]) [3, 5] [] (⟨[.a (.i .i64 (a0)), .a (.u), .a (.i .i64 (0 : Int)), .a (.i .i64 (1 : Int)), .a (.i .i64 (a0)), .a (.i .i64 (0 : Int)), .a (.u), .a (.u), .a (.u), .a (.u), .a (.u)], [], []⟩ : St)) N ([.a (.i .i64 (1 : Int)), .a (.i .i64 (0 : Int))], [])) (fun e s => (kBlock 0 (kSeq (veC Try.prog (mkΓ []) N (cAt (codeOf Try.f47) [1, 1, 1]) (pAt (mkPlan (codeOf Try.f47) [([3, 5], [])]).1 [1, 1, 1]) (SV × Bool)) (finK Try.prog 0 [.tmp 2]))) e (left (writes (cAt (codeOf Try.f47) [1, 1, 0, 1, 0, 0])) [3, 5] [] (⟨[.a (.i .i64 (a0)), .a (.u), .a (.i .i64 (0 : Int)), .a (.i .i64 (1 : Int)), .a (.i .i64 (a0)), .a (.i .i64 (0 : Int)), .a (.u), .a (.u), .a (.u), .a (.u), .a (.u)], [], []⟩ : St) s))) := by kernel_rfl
  refine h.trans ?_
  simp only [impl_partsAfter_n0]

theorem impl_partsAfter_main (a0 : Int) (h_a0 : IntKind.i64.min ≤ a0 ∧ a0 ≤ IntKind.i64.max) (hg : ((decide (0 ≤ a0) && decide (a0 ≤ 14))) = true) : ansV Try.prog (mkΓ []) 1000 Try.f47 [([3, 5], [])] [.i .i64 (a0)] [] = some (.a (.i .i64 (12 ^ a0.toNat)), true) := by
  simp only [Bool.and_eq_true, decide_eq_true_eq] at hg
  obtain ⟨h0, h14⟩ := hg
  obtain ⟨m, rfl⟩ := Int.eq_ofNat_of_zero_le h0
  refine (impl_partsAfter_ans 1000 _).trans ?_
  have h := iter_all (g := impl_partsAfter_g0 Try.prog (m : Int)) (fun k => ((12 : Int) ^ k, (k : Int))) (m := m) (x := ((12 : Int) ^ m, (m : Int))) (N := 1000) (fun k hk => by
    have h1 : decide ((k : Int) < (m : Int)) = true := decide_eq_true (by omega)
    have h2 : IntKind.i64.wrap ((k : Int) + 1) = ((k + 1 : Nat) : Int) := by rw [IntWalk.i64_in _ (by omega)]; omega
    simp only [impl_partsAfter_g0, h1, cond_true, wrap12 k (by omega), h2]) (by
    have h1 : decide ((m : Int) < (m : Int)) = false := decide_eq_false (by omega)
    simp only [impl_partsAfter_g0, h1, cond_false]) (by omega)
  have h' : iterO (impl_partsAfter_g0 Try.prog (m : Int)) 1000 ((1 : Int), (0 : Int)) = some ((12 : Int) ^ m, (m : Int)) := h
  rw [h']
  rfl
def impl_partsAfter_con : Con := fun args h => match args, h with
  | [.i .i64 a0], [] => some (.a (.i .i64 (12 ^ a0.toNat)), (decide (0 ≤ a0) && decide (a0 ≤ 14)))
  | _, _ => none
theorem impl_partsAfter_enter : ∀ args w, (callFunc 47 args).run Try.prog w = .ok (.enter 47 args) w := enter_ok (fn := Try.f47) (by kernel_rfl) (by kernel_rfl) (by kernel_rfl)
theorem impl_partsAfter_ok : ConOk Try.prog 47 impl_partsAfter_con := (ans_ok (N := 1000) (by kernel_rfl) mkΓ_nil (fn := Try.f47) (by kernel_rfl) (by kernel_rfl) [([3, 5], [])]).of (by
  intro ρ h w args vals r hA hH hr
  unfold impl_partsAfter_con at hr
  split at hr
  · rename_i a0
    obtain ⟨rfl, hg⟩ := Prod.mk.inj (Option.some.inj hr)
    exact impl_partsAfter_main a0 (hA.rng 0 rfl) hg
  · cases hr)

theorem impl_hasHours_ans (N : Nat) (a0 : Int) : ansV Try.prog (mkΓ []) N Try.f46 [] [.i .i64 (a0)] [] = (bif decide (a0 ≥ (0 : Int)) then (some (.a (.b (decide (a0 ≤ (14 : Int)))), true))
    else (some (.a (.b (false)), true))) := by kernel_rfl

def impl_hasHours_v0 (a0 : Int) : Bool := (bif decide (a0 ≥ (0 : Int)) then decide (a0 ≤ (14 : Int)) else false)

theorem impl_hasHours_main (a0 : Int) (h_a0 : IntKind.i64.min ≤ a0 ∧ a0 ≤ IntKind.i64.max) (hg : (true) = true) : ansV Try.prog (mkΓ []) 1000 Try.f46 [] [.i .i64 (a0)] [] = some (.a (.b ((impl_hasHours_v0 a0))), true) := by
  refine (impl_hasHours_ans 1000 a0).trans ?_
  unfold impl_hasHours_v0
  revert hg
  generalize (decide (a0 ≥ (0 : Int))) = b2
  intro hg
  cases b2
  · skip
    rfl
  · skip
    rfl
def impl_hasHours_con : Con := fun args h => match args, h with
  | [.i .i64 a0], [] => some (.a (.b ((impl_hasHours_v0 a0))), true)
  | _, _ => none
theorem impl_hasHours_enter : ∀ args w, (callFunc 46 args).run Try.prog w = .ok (.enter 46 args) w := enter_ok (fn := Try.f46) (by kernel_rfl) (by kernel_rfl) (by kernel_rfl)
theorem impl_hasHours_ok : ConOk Try.prog 46 impl_hasHours_con := (ans_ok (N := 1000) (by kernel_rfl) mkΓ_nil (fn := Try.f46) (by kernel_rfl) (by kernel_rfl) []).of (by
  intro ρ h w args vals r hA hH hr
  unfold impl_hasHours_con at hr
  split at hr
  · rename_i a0
    obtain ⟨rfl, hg⟩ := Prod.mk.inj (Option.some.inj hr)
    exact impl_hasHours_main a0 (hA.rng 0 rfl) hg
  · cases hr)

theorem spec_PartsAfter_ans (N : Nat) (a0 : Int) : ansV Try.prog (mkΓ [(44, con spec_l00In_con), (45, con spec_l02Parts_con)]) N Try.f15 [] [.i .i64 (a0)] [] = (bif (!((spec_l00In_v0 a0 (0 : Int) (14 : Int)))) then (some (.t [.i .i64 (0 : Int), .i .i64 (2 : Int)], true))
    else (bif (decide (0 ≤ a0) && decide (a0 ≤ 14)) then (some (.t [.i .i64 (12 ^ a0.toNat), .i .i64 (0 : Int)], true))
      else (none))) := by kernel_rfl

def spec_PartsAfter_v0 (a0 : Int) : Int := (bif (!((spec_l00In_v0 a0 (0 : Int) (14 : Int)))) then (0 : Int) else (12 ^ a0.toNat))
def spec_PartsAfter_v1 (a0 : Int) : Int := (bif (!((spec_l00In_v0 a0 (0 : Int) (14 : Int)))) then (2 : Int) else (0 : Int))
def spec_PartsAfter_gd (a0 : Int) : Bool := (bif (!((spec_l00In_v0 a0 (0 : Int) (14 : Int)))) then true else (decide (0 ≤ a0) && decide (a0 ≤ 14)))

theorem spec_PartsAfter_main (a0 : Int) (h_a0 : IntKind.i64.min ≤ a0 ∧ a0 ≤ IntKind.i64.max) (hg : ((spec_PartsAfter_gd a0)) = true) : ansV Try.prog (mkΓ [(44, con spec_l00In_con), (45, con spec_l02Parts_con)]) 1000 Try.f15 [] [.i .i64 (a0)] [] = some (.t [.i .i64 (spec_PartsAfter_v0 a0), .i .i64 (spec_PartsAfter_v1 a0)], true) := by
  refine (spec_PartsAfter_ans 1000 a0).trans ?_
  unfold spec_PartsAfter_gd at hg
  unfold spec_PartsAfter_v0 spec_PartsAfter_v1
  revert hg
  generalize ((!((spec_l00In_v0 a0 (0 : Int) (14 : Int))))) = b2
  intro hg
  cases b2
  · skip
    revert hg
    generalize ((decide (0 ≤ a0) && decide (a0 ≤ 14))) = b4
    intro hg
    cases b4
    · skip
      exact (nomatch (hg : false = true))
    · skip
      rfl
  · skip
    rfl
def spec_PartsAfter_con : Con := fun args h => match args, h with
  | [.i .i64 a0], [] => some (.t [.i .i64 (spec_PartsAfter_v0 a0), .i .i64 (spec_PartsAfter_v1 a0)], (spec_PartsAfter_gd a0))
  | _, _ => none
theorem spec_PartsAfter_enter : ∀ args w, (callFunc 15 args).run Try.prog w = .ok (.enter 15 args) w := enter_ok (fn := Try.f15) (by kernel_rfl) (by kernel_rfl) (by kernel_rfl)
theorem spec_PartsAfter_ok : ConOk Try.prog 15 spec_PartsAfter_con := (ans_ok (N := 1000) (by kernel_rfl) (mkΓ_cons (con_ok spec_l00In_ok) spec_l00In_enter (mkΓ_cons (con_ok spec_l02Parts_ok) spec_l02Parts_enter mkΓ_nil)) (fn := Try.f15) (by kernel_rfl) (by kernel_rfl) []).of (by
  intro ρ h w args vals r hA hH hr
  unfold spec_PartsAfter_con at hr
  split at hr
  · rename_i a0
    obtain ⟨rfl, hg⟩ := Prod.mk.inj (Option.some.inj hr)
    exact spec_PartsAfter_main a0 (hA.rng 0 rfl) hg
  · cases hr)

theorem impl_PartsAfter_ans (N : Nat) (a0 : Int) : ansV Try.prog (mkΓ [(46, con impl_hasHours_con), (47, con impl_partsAfter_con)]) N Try.f16 [] [.i .i64 (a0)] [] = (bif (!((impl_hasHours_v0 a0))) then (some (.t [.i .i64 (0 : Int), .i .i64 (2 : Int)], true))
    else (bif (decide (0 ≤ a0) && decide (a0 ≤ 14)) then (some (.t [.i .i64 (12 ^ a0.toNat), .i .i64 (0 : Int)], true))
      else (none))) := by kernel_rfl

def impl_PartsAfter_v0 (a0 : Int) : Int := (bif (!((impl_hasHours_v0 a0))) then (0 : Int) else (12 ^ a0.toNat))
def impl_PartsAfter_v1 (a0 : Int) : Int := (bif (!((impl_hasHours_v0 a0))) then (2 : Int) else (0 : Int))
def impl_PartsAfter_gd (a0 : Int) : Bool := (bif (!((impl_hasHours_v0 a0))) then true else (decide (0 ≤ a0) && decide (a0 ≤ 14)))

theorem impl_PartsAfter_main (a0 : Int) (h_a0 : IntKind.i64.min ≤ a0 ∧ a0 ≤ IntKind.i64.max) (hg : ((impl_PartsAfter_gd a0)) = true) : ansV Try.prog (mkΓ [(46, con impl_hasHours_con), (47, con impl_partsAfter_con)]) 1000 Try.f16 [] [.i .i64 (a0)] [] = some (.t [.i .i64 (impl_PartsAfter_v0 a0), .i .i64 (impl_PartsAfter_v1 a0)], true) := by
  refine (impl_PartsAfter_ans 1000 a0).trans ?_
  unfold impl_PartsAfter_gd at hg
  unfold impl_PartsAfter_v0 impl_PartsAfter_v1
  revert hg
  generalize ((!((impl_hasHours_v0 a0)))) = b2
  intro hg
  cases b2
  · skip
    revert hg
    generalize ((decide (0 ≤ a0) && decide (a0 ≤ 14))) = b4
    intro hg
    cases b4
    · skip
      exact (nomatch (hg : false = true))
    · skip
      rfl
  · skip
    rfl
def impl_PartsAfter_con : Con := fun args h => match args, h with
  | [.i .i64 a0], [] => some (.t [.i .i64 (impl_PartsAfter_v0 a0), .i .i64 (impl_PartsAfter_v1 a0)], (impl_PartsAfter_gd a0))
  | _, _ => none
theorem impl_PartsAfter_enter : ∀ args w, (callFunc 16 args).run Try.prog w = .ok (.enter 16 args) w := enter_ok (fn := Try.f16) (by kernel_rfl) (by kernel_rfl) (by kernel_rfl)
theorem impl_PartsAfter_ok : ConOk Try.prog 16 impl_PartsAfter_con := (ans_ok (N := 1000) (by kernel_rfl) (mkΓ_cons (con_ok impl_hasHours_ok) impl_hasHours_enter (mkΓ_cons (con_ok impl_partsAfter_ok) impl_partsAfter_enter mkΓ_nil)) (fn := Try.f16) (by kernel_rfl) (by kernel_rfl) []).of (by
  intro ρ h w args vals r hA hH hr
  unfold impl_PartsAfter_con at hr
  split at hr
  · rename_i a0
    obtain ⟨rfl, hg⟩ := Prod.mk.inj (Option.some.inj hr)
    exact impl_PartsAfter_main a0 (hA.rng 0 rfl) hg
  · cases hr)

theorem laws_FnExactPartsAfter_ans (N : Nat) (a0 : Int) : ansV Try.prog (mkΓ [(15, con spec_PartsAfter_con), (16, con impl_PartsAfter_con)]) N Try.f3 [] [.i .i64 (a0)] [] = (bif (spec_PartsAfter_gd a0) then (bif (impl_PartsAfter_gd a0) then (bif ((impl_PartsAfter_v0 a0) != (spec_PartsAfter_v0 a0)) then (some (.a (.b (false)), true))
        else (bif ((impl_PartsAfter_v1 a0) != (spec_PartsAfter_v1 a0)) then (some (.a (.b (false)), true))
          else (some (.a (.b (true)), true))))
      else (none))
    else (none)) := by kernel_rfl

def laws_FnExactPartsAfter_v0 (a0 : Int) : Bool := (bif ((impl_PartsAfter_v0 a0) != (spec_PartsAfter_v0 a0)) then false else (bif ((impl_PartsAfter_v1 a0) != (spec_PartsAfter_v1 a0)) then false else true))
def laws_FnExactPartsAfter_gd (a0 : Int) : Bool := (bif (spec_PartsAfter_gd a0) then (impl_PartsAfter_gd a0) else false)

theorem laws_FnExactPartsAfter_main (a0 : Int) (h_a0 : IntKind.i64.min ≤ a0 ∧ a0 ≤ IntKind.i64.max) (hg : ((laws_FnExactPartsAfter_gd a0)) = true) : ansV Try.prog (mkΓ [(15, con spec_PartsAfter_con), (16, con impl_PartsAfter_con)]) 1000 Try.f3 [] [.i .i64 (a0)] [] = some (.a (.b ((laws_FnExactPartsAfter_v0 a0))), true) := by
  refine (laws_FnExactPartsAfter_ans 1000 a0).trans ?_
  unfold laws_FnExactPartsAfter_gd at hg
  unfold laws_FnExactPartsAfter_v0
  revert hg
  generalize ((spec_PartsAfter_gd a0)) = b2
  intro hg
  cases b2
  · skip
    exact (nomatch (hg : false = true))
  · skip
    revert hg
    generalize ((impl_PartsAfter_gd a0)) = b4
    intro hg
    cases b4
    · skip
      exact (nomatch (hg : false = true))
    · skip
      revert hg
      generalize (((impl_PartsAfter_v0 a0) != (spec_PartsAfter_v0 a0))) = b6
      intro hg
      cases b6
      · skip
        revert hg
        generalize (((impl_PartsAfter_v1 a0) != (spec_PartsAfter_v1 a0))) = b8
        intro hg
        cases b8
        · skip
          rfl
        · skip
          rfl
      · skip
        rfl
def laws_FnExactPartsAfter_con : Con := fun args h => match args, h with
  | [.i .i64 a0], [] => some (.a (.b ((laws_FnExactPartsAfter_v0 a0))), (laws_FnExactPartsAfter_gd a0))
  | _, _ => none
theorem laws_FnExactPartsAfter_enter : ∀ args w, (callFunc 3 args).run Try.prog w = .ok (.enter 3 args) w := enter_ok (fn := Try.f3) (by kernel_rfl) (by kernel_rfl) (by kernel_rfl)
theorem laws_FnExactPartsAfter_ok : ConOk Try.prog 3 laws_FnExactPartsAfter_con := (ans_ok (N := 1000) (by kernel_rfl) (mkΓ_cons (con_ok spec_PartsAfter_ok) spec_PartsAfter_enter (mkΓ_cons (con_ok impl_PartsAfter_ok) impl_PartsAfter_enter mkΓ_nil)) (fn := Try.f3) (by kernel_rfl) (by kernel_rfl) []).of (by
  intro ρ h w args vals r hA hH hr
  unfold laws_FnExactPartsAfter_con at hr
  split at hr
  · rename_i a0
    obtain ⟨rfl, hg⟩ := Prod.mk.inj (Option.some.inj hr)
    exact laws_FnExactPartsAfter_main a0 (hA.rng 0 rfl) hg
  · cases hr)

theorem laws_FnExactPartsAfter_true (a0 : Int) (h_a0 : IntKind.i64.min ≤ a0 ∧ a0 ≤ IntKind.i64.max) : ((laws_FnExactPartsAfter_gd a0)) = true ∧ ((laws_FnExactPartsAfter_v0 a0)) = true := by
  have e1 : spec_l00In_v0 a0 0 14 = (decide (0 ≤ a0) && decide (a0 ≤ 14)) := by
    unfold spec_l00In_v0
    by_cases h : (0 : Int) ≤ a0 <;> simp [h]
  have e2 : impl_hasHours_v0 a0 = (decide (0 ≤ a0) && decide (a0 ≤ 14)) := by
    unfold impl_hasHours_v0
    by_cases h : (0 : Int) ≤ a0 <;> simp [h]
  unfold laws_FnExactPartsAfter_gd laws_FnExactPartsAfter_v0 spec_PartsAfter_gd impl_PartsAfter_gd spec_PartsAfter_v0 impl_PartsAfter_v0 spec_PartsAfter_v1 impl_PartsAfter_v1
  rw [e1, e2]
  cases (decide (0 ≤ a0) && decide (a0 ≤ 14)) <;> simp

namespace lawFnExactPartsAfter
theorem lifted (os : Os) (started : os.Started) (H : Type) (enc : TypeId × Value → H) :
    ReturnsInHanded {} Try.checked os 3 .any (Rows.fnExactPartsAfterSpec.pre6 enc Try.prog Try.f3 Rows.fnExactPartsAfterRow.domain false) (Rows.fnExactPartsAfterSpec.post enc Try.prog Try.f3 false true false false) := by
  refine law_lifted (C := Try.checked) (tb := 4) (by kernel_rfl) (by kernel_rfl) (by kernel_rfl) Try.func3 (by kernel_rfl) Try.underlying4 (of_decide_eq_true (by kernel_rfl)) rfl ?_ os started H enc
    (ChangeSpec.witness6 (enc := enc) (C := Try.checked) false ⟨#[], #[.int .i64 0], []⟩ 8 (by kernel_rfl) (by kernel_rfl) (by kernel_rfl) (by kernel_rfl)) ?_
  · intro H ds hds
    rw [show Try.f3.params.toList.length = 1 by kernel_rfl] at hds
    match ds, hds with
    | [_], _ => rfl
  · intro W base args ds ps hval hA
    rw [Try.params3] at hA hval
    obtain ⟨v0, d0, hargs, rfl, h0⟩ := trodAll_one hA
    obtain ⟨a0, e0, _, _, w0⟩ := open_int Try.underlying2 (hval 0 2 v0 rfl (by rw [hargs]; rfl)) h0
    obtain rfl : args = #[.int .i64 a0] := by rw [hargs, e0]
    obtain ⟨hg, hv⟩ := laws_FnExactPartsAfter_true a0 (wfb w0)
    have hr : laws_FnExactPartsAfter_con [.i .i64 a0] [] = some (.a (.b true), true) := by
      show (some (SV.a (SA.b ((laws_FnExactPartsAfter_v0 a0))), (laws_FnExactPartsAfter_gd a0)) : Option (SV × Bool)) = _
      rw [hg, hv]
    exact calls_con laws_FnExactPartsAfter_ok hr W (vals := [.int .i64 a0]) (allCons ⟨rfl, wfb w0⟩ allNil)

theorem over : Rows.fnExactPartsAfterRow.holds Try.pinned (OpenSpec.ofChange Rows.fnExactPartsAfterSpec) :=
  OpenClaim.holds_of_wide 3 Try.f3 rfl rfl rfl rfl rfl rfl rfl ⟨rfl, rfl, rfl, rfl, rfl⟩ rfl rfl rfl rfl rfl (by kernel_rfl) Try.func3 (by kernel_rfl)
    (of_decide_eq_true (by kernel_rfl)) (by unfold Func.isWrapper; first | (rw [if_pos (by decide +kernel)]; kernel_rfl) | (rw [if_neg (by decide +kernel)]; exact ⟨rfl, rfl⟩))
    (fun os started H enc _ => lifted os started H enc)

theorem proved : Rows.FnExactPartsAfterSaid := over
#print axioms proved
end lawFnExactPartsAfter

end Go.Proofs.Ytjihfoifdloaeaa
