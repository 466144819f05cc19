/- Slices that are marked and looked at. -/
import Derived.Test.YtmkkckhfghomfaaProg
import Derived.Test.YtmkkckhfghomfaaVeStH
namespace Go.Proofs.Ytmkkckhfghomfaa
open Go.ChangeShapes Go.WideShapes Go.ChangeAt Go.RowKit Ve
set_option linter.unusedVariables false
set_option linter.unusedSimpArgs false
set_option maxRecDepth 100000
noncomputable section

/-- So many cells with numbers that go up. -/
noncomputable def mkA (n : Nat) (k : Int) : Array Value := ⟨(List.range n).map fun i : Nat => .int .i64 (k + (i : Int))⟩
theorem mkA_size (n : Nat) (k : Int) : (mkA n k).size = n := by simp [mkA]
theorem mkA_at {n : Nat} {k : Int} {i : Nat} (h : i < n) : (mkA n k)[i]? = some (.int .i64 (k + (i : Int))) := by
  unfold mkA; simp [h]
theorem mkA_num {n : Nat} {k : Int} {i : Nat} (h : i < n) : num (mkA n k) i = k + (i : Int) := by unfold num; rw [mkA_at h]

noncomputable def laws_markBounds_e1 (n_a0 : Nat) : Int × Int × Array Value → LS
  | (y1_1, y1_6, r1_0) => ([.a (.i .i64 (y1_1)), .a (.i .i64 (y1_6))], [.sl .lent n_a0 r1_0 61])

noncomputable def laws_markBounds_x1 (n_a0 : Nat) : Int × Int × Array Value → Exit × LS
  | t => ((.exit 2), (laws_markBounds_e1 n_a0) t)

noncomputable def laws_markBounds_g1 (P : Program) (a1 : Int) (n_a0 : Nat) (a0 : Array Value) (y0_1 : Int) (y0_5 : Int) (r0_0 : Array Value) : Int × Int × Array Value → Option (Stp (Int × Int × Array Value) (Int × Int × Array Value))
  | (y1_1, y1_6, r1_0) => bif decide (y1_6 < (36 : Int)) then (bif (decide (0 ≤ y0_5) && decide (y0_5 < (n_a0 : Int))) then (bif (decide (0 ≤ y1_6) && decide (y1_6 < 36)) then (some (.more ((IntKind.i64.wrap (y1_1 + (1 : Int))), (IntKind.i64.wrap (y1_6 + (1 : Int))), (r1_0.setIfInBounds (((y0_5).toNat * 36) + ((y1_6).toNat * 1)) (.int .i64 (y1_1))))))
        else (none))
      else (none))
    else (some (.done (y1_1, y1_6, r1_0)))

theorem laws_markBounds_s1 (N : Nat) (a1 : Int) (n_a0 : Nat) (a0 : Array Value) (y0_1 : Int) (y0_5 : Int) (r0_0 : Array Value) : ∀ t : Int × Int × Array Value, stepV Try.prog (mkΓ []) N (cAt (codeOf Try.f21) [1, 0, 1, 0, 0, 1, 0, 0, 1, 0, 0]) (pAt (mkPlan (codeOf Try.f21) [([1, 5], [0]), ([1, 6], [0])]).1 [1, 0, 1, 0, 1, 0, 1, 0]) [1, 6] [0] (⟨[.a (.l 0), .a (.i .i64 (y0_1)), .a (.u), .a (.u), .a (.i .i64 (0 : Int)), .a (.i .i64 (y0_5)), .a (.i .i64 (0 : Int)), .a (.i .i64 (y0_5)), .a (.l 0), .a (.i .i64 (n_a0 : Int)), .a (.b (decide (y0_5 < (n_a0 : Int)))), .a (.x), .a (.x), .a (.x), .a (.x), .a (.x), .a (.x), .a (.x), .a (.x), .a (.x), .a (.x), .a (.x), .a (.x), .a (.x), .a (.x), .a (.u)], [.sl .lent n_a0 r0_0 61], [0]⟩ : St) ((laws_markBounds_e1 n_a0) t) = mapS (laws_markBounds_e1 n_a0) (laws_markBounds_x1 n_a0) (laws_markBounds_g1 Try.prog a1 n_a0 a0 y0_1 y0_5 r0_0 t) := by
  rintro ⟨y1_1, y1_6, r1_0⟩
  have h : stepV Try.prog (mkΓ []) N (cAt (codeOf Try.f21) [1, 0, 1, 0, 0, 1, 0, 0, 1, 0, 0]) (pAt (mkPlan (codeOf Try.f21) [([1, 5], [0]), ([1, 6], [0])]).1 [1, 0, 1, 0, 1, 0, 1, 0]) [1, 6] [0] (⟨[.a (.l 0), .a (.i .i64 (y0_1)), .a (.u), .a (.u), .a (.i .i64 (0 : Int)), .a (.i .i64 (y0_5)), .a (.i .i64 (0 : Int)), .a (.i .i64 (y0_5)), .a (.l 0), .a (.i .i64 (n_a0 : Int)), .a (.b (decide (y0_5 < (n_a0 : Int)))), .a (.x), .a (.x), .a (.x), .a (.x), .a (.x), .a (.x), .a (.x), .a (.x), .a (.x), .a (.x), .a (.x), .a (.x), .a (.x), .a (.x), .a (.u)], [.sl .lent n_a0 r0_0 61], [0]⟩ : St) ([.a (.i .i64 (y1_1)), .a (.i .i64 (y1_6))], [.sl .lent n_a0 r1_0 61]) = (bif decide (y1_6 < (36 : Int)) then (bif (decide (0 ≤ y0_5) && decide (y0_5 < (n_a0 : Int))) then (bif (decide (0 ≤ y1_6) && decide (y1_6 < 36)) then (some (.more ([.a (.i .i64 (IntKind.i64.wrap (y1_1 + (1 : Int)))), .a (.i .i64 (IntKind.i64.wrap (y1_6 + (1 : Int))))], [.sl .lent n_a0 (r1_0.setIfInBounds (((y0_5).toNat * 36) + ((y1_6).toNat * 1)) (.int .i64 (y1_1))) 61])))
        else (none))
      else (none))
    else (some (.done ((.exit 2), ([.a (.i .i64 (y1_1)), .a (.i .i64 (y1_6))], [.sl .lent n_a0 r1_0 61]))))) := by kernel_rfl
  refine h.trans ?_
  simp only [laws_markBounds_g1, mapS_cond, mapS_more, mapS_done, mapS_none, laws_markBounds_e1, laws_markBounds_x1]

noncomputable def laws_markBounds_e0 (n_a0 : Nat) : Int × Int × Array Value → LS
  | (y0_1, y0_5, r0_0) => ([.a (.i .i64 (y0_1)), .a (.i .i64 (y0_5))], [.sl .lent n_a0 r0_0 61])

noncomputable def laws_markBounds_x0 (n_a0 : Nat) : Int × Int × Array Value → Exit × LS
  | t => ((.exit 0), (laws_markBounds_e0 n_a0) t)

noncomputable def laws_markBounds_k1_0 (P : Program) (N : Nat) (a1 : Int) (n_a0 : Nat) (a0 : Array Value) (y0_1 : Int) (y0_5 : Int) (r0_0 : Array Value) (z1_1 : Int) (z1_6 : Int) (q1_0 : Array Value) : Option (Stp (Int × Int × Array Value) (Int × Int × Array Value)) := some (.more (z1_1, (IntKind.i64.wrap (y0_5 + (1 : Int))), q1_0))

theorem laws_markBounds_k1_0_eq (N : Nat) (a1 : Int) (n_a0 : Nat) (a0 : Array Value) (y0_1 : Int) (y0_5 : Int) (r0_0 : Array Value) (z1_1 : Int) (z1_6 : Int) (q1_0 : Array Value) : (kBlock 2 (kBlock 1 (kSeq (veC Try.prog (mkΓ []) N (cAt (codeOf Try.f21) [1, 0, 1, 0, 0, 1, 1]) (pAt (mkPlan (codeOf Try.f21) [([1, 5], [0]), ([1, 6], [0])]).1 [1, 0, 1, 0, 1, 1]) (Stp LS (Exit × LS))) (kBody 1 [1, 5] [0])))) (.exit 2) (left (writes (cAt (codeOf Try.f21) [1, 0, 1, 0, 0, 1, 0, 0, 1, 0, 0])) [1, 6] [0] (⟨[.a (.l 0), .a (.i .i64 (y0_1)), .a (.u), .a (.u), .a (.i .i64 (0 : Int)), .a (.i .i64 (y0_5)), .a (.i .i64 (0 : Int)), .a (.i .i64 (y0_5)), .a (.l 0), .a (.i .i64 (n_a0 : Int)), .a (.b (decide (y0_5 < (n_a0 : Int)))), .a (.x), .a (.x), .a (.x), .a (.x), .a (.x), .a (.x), .a (.x), .a (.x), .a (.x), .a (.x), .a (.x), .a (.x), .a (.x), .a (.x), .a (.u)], [.sl .lent n_a0 r0_0 61], [0]⟩ : St) ([.a (.i .i64 (z1_1)), .a (.i .i64 (z1_6))], [.sl .lent n_a0 q1_0 61])) = mapS (laws_markBounds_e0 n_a0) (laws_markBounds_x0 n_a0) (laws_markBounds_k1_0 Try.prog N a1 n_a0 a0 y0_1 y0_5 r0_0 z1_1 z1_6 q1_0) := by
  have h : (kBlock 2 (kBlock 1 (kSeq (veC Try.prog (mkΓ []) N (cAt (codeOf Try.f21) [1, 0, 1, 0, 0, 1, 1]) (pAt (mkPlan (codeOf Try.f21) [([1, 5], [0]), ([1, 6], [0])]).1 [1, 0, 1, 0, 1, 1]) (Stp LS (Exit × LS))) (kBody 1 [1, 5] [0])))) (.exit 2) (left (writes (cAt (codeOf Try.f21) [1, 0, 1, 0, 0, 1, 0, 0, 1, 0, 0])) [1, 6] [0] (⟨[.a (.l 0), .a (.i .i64 (y0_1)), .a (.u), .a (.u), .a (.i .i64 (0 : Int)), .a (.i .i64 (y0_5)), .a (.i .i64 (0 : Int)), .a (.i .i64 (y0_5)), .a (.l 0), .a (.i .i64 (n_a0 : Int)), .a (.b (decide (y0_5 < (n_a0 : Int)))), .a (.x), .a (.x), .a (.x), .a (.x), .a (.x), .a (.x), .a (.x), .a (.x), .a (.x), .a (.x), .a (.x), .a (.x), .a (.x), .a (.x), .a (.u)], [.sl .lent n_a0 r0_0 61], [0]⟩ : St) ([.a (.i .i64 (z1_1)), .a (.i .i64 (z1_6))], [.sl .lent n_a0 q1_0 61])) = (some (.more ([.a (.i .i64 (z1_1)), .a (.i .i64 (IntKind.i64.wrap (y0_5 + (1 : Int))))], [.sl .lent n_a0 q1_0 61]))) := by kernel_rfl
  refine h.trans ?_
  simp only [laws_markBounds_k1_0, mapS_cond, mapS_more, mapS_done, mapS_none, laws_markBounds_e0, laws_markBounds_x0]

theorem laws_markBounds_n1 (N : Nat) (a1 : Int) (n_a0 : Nat) (a0 : Array Value) (y0_1 : Int) (y0_5 : Int) (r0_0 : Array Value) : bindX (iterO (stepV Try.prog (mkΓ []) N (cAt (codeOf Try.f21) [1, 0, 1, 0, 0, 1, 0, 0, 1, 0, 0]) (pAt (mkPlan (codeOf Try.f21) [([1, 5], [0]), ([1, 6], [0])]).1 [1, 0, 1, 0, 1, 0, 1, 0]) [1, 6] [0] (⟨[.a (.l 0), .a (.i .i64 (y0_1)), .a (.u), .a (.u), .a (.i .i64 (0 : Int)), .a (.i .i64 (y0_5)), .a (.i .i64 (0 : Int)), .a (.i .i64 (y0_5)), .a (.l 0), .a (.i .i64 (n_a0 : Int)), .a (.b (decide (y0_5 < (n_a0 : Int)))), .a (.x), .a (.x), .a (.x), .a (.x), .a (.x), .a (.x), .a (.x), .a (.x), .a (.x), .a (.x), .a (.x), .a (.x), .a (.x), .a (.x), .a (.u)], [.sl .lent n_a0 r0_0 61], [0]⟩ : St)) N ([.a (.i .i64 (y0_1)), .a (.i .i64 (0 : Int))], [.sl .lent n_a0 r0_0 61])) (fun e s => (kBlock 2 (kBlock 1 (kSeq (veC Try.prog (mkΓ []) N (cAt (codeOf Try.f21) [1, 0, 1, 0, 0, 1, 1]) (pAt (mkPlan (codeOf Try.f21) [([1, 5], [0]), ([1, 6], [0])]).1 [1, 0, 1, 0, 1, 1]) (Stp LS (Exit × LS))) (kBody 1 [1, 5] [0])))) e (left (writes (cAt (codeOf Try.f21) [1, 0, 1, 0, 0, 1, 0, 0, 1, 0, 0])) [1, 6] [0] (⟨[.a (.l 0), .a (.i .i64 (y0_1)), .a (.u), .a (.u), .a (.i .i64 (0 : Int)), .a (.i .i64 (y0_5)), .a (.i .i64 (0 : Int)), .a (.i .i64 (y0_5)), .a (.l 0), .a (.i .i64 (n_a0 : Int)), .a (.b (decide (y0_5 < (n_a0 : Int)))), .a (.x), .a (.x), .a (.x), .a (.x), .a (.x), .a (.x), .a (.x), .a (.x), .a (.x), .a (.x), .a (.x), .a (.x), .a (.x), .a (.x), .a (.u)], [.sl .lent n_a0 r0_0 61], [0]⟩ : St) s)) = mapS (laws_markBounds_e0 n_a0) (laws_markBounds_x0 n_a0) (nodeX (iterO (laws_markBounds_g1 Try.prog a1 n_a0 a0 y0_1 y0_5 r0_0) N (y0_1, (0 : Int), r0_0)) (fun x => laws_markBounds_k1_0 Try.prog N a1 n_a0 a0 y0_1 y0_5 r0_0 x.1 x.2.1 x.2.2)) := by
  refine (loop_node (laws_markBounds_e1 n_a0) (laws_markBounds_x1 n_a0) _ _ (laws_markBounds_s1 N a1 n_a0 a0 y0_1 y0_5 r0_0) N (y0_1, (0 : Int), r0_0) _ (fun x => mapS (laws_markBounds_e0 n_a0) (laws_markBounds_x0 n_a0) ((fun x => laws_markBounds_k1_0 Try.prog N a1 n_a0 a0 y0_1 y0_5 r0_0 x.1 x.2.1 x.2.2) x)) ?_).trans (mapS_nodeX (laws_markBounds_e0 n_a0) (laws_markBounds_x0 n_a0) _ _).symm
  intro x; exact laws_markBounds_k1_0_eq N a1 n_a0 a0 y0_1 y0_5 r0_0 x.1 x.2.1 x.2.2

noncomputable def laws_markBounds_g0 (P : Program) (N : Nat) (a1 : Int) (n_a0 : Nat) (a0 : Array Value) : Int × Int × Array Value → Option (Stp (Int × Int × Array Value) (Int × Int × Array Value))
  | (y0_1, y0_5, r0_0) => bif decide (y0_5 < (n_a0 : Int)) then (nodeX (iterO (laws_markBounds_g1 P a1 n_a0 a0 y0_1 y0_5 r0_0) N (y0_1, (0 : Int), r0_0)) (fun x => laws_markBounds_k1_0 P N a1 n_a0 a0 y0_1 y0_5 r0_0 x.1 x.2.1 x.2.2))
    else (some (.done (y0_1, y0_5, r0_0)))

theorem laws_markBounds_s0 (N : Nat) (a1 : Int) (n_a0 : Nat) (a0 : Array Value) : ∀ t : Int × Int × Array Value, stepV Try.prog (mkΓ []) N (cAt (codeOf Try.f21) [1, 0, 1, 0, 0]) (pAt (mkPlan (codeOf Try.f21) [([1, 5], [0]), ([1, 6], [0])]).1 [1, 0, 1, 0]) [1, 5] [0] (⟨[.a (.l 0), .a (.i .i64 (a1)), .a (.u), .a (.u), .a (.i .i64 (0 : Int)), .a (.i .i64 (0 : Int)), .a (.u), .a (.u), .a (.u), .a (.u), .a (.u), .a (.u), .a (.u), .a (.u), .a (.u), .a (.u), .a (.u), .a (.u), .a (.u), .a (.u), .a (.u), .a (.u), .a (.u), .a (.u), .a (.u), .a (.u)], [.sl .lent n_a0 a0 61], []⟩ : St) ((laws_markBounds_e0 n_a0) t) = mapS (laws_markBounds_e0 n_a0) (laws_markBounds_x0 n_a0) (laws_markBounds_g0 Try.prog N a1 n_a0 a0 t) := by
  rintro ⟨y0_1, y0_5, r0_0⟩
  have h : stepV Try.prog (mkΓ []) N (cAt (codeOf Try.f21) [1, 0, 1, 0, 0]) (pAt (mkPlan (codeOf Try.f21) [([1, 5], [0]), ([1, 6], [0])]).1 [1, 0, 1, 0]) [1, 5] [0] (⟨[.a (.l 0), .a (.i .i64 (a1)), .a (.u), .a (.u), .a (.i .i64 (0 : Int)), .a (.i .i64 (0 : Int)), .a (.u), .a (.u), .a (.u), .a (.u), .a (.u), .a (.u), .a (.u), .a (.u), .a (.u), .a (.u), .a (.u), .a (.u), .a (.u), .a (.u), .a (.u), .a (.u), .a (.u), .a (.u), .a (.u), .a (.u)], [.sl .lent n_a0 a0 61], []⟩ : St) ([.a (.i .i64 (y0_1)), .a (.i .i64 (y0_5))], [.sl .lent n_a0 r0_0 61]) = (bif decide (y0_5 < (n_a0 : Int)) then (bindX (iterO (stepV Try.prog (mkΓ []) N (cAt (codeOf Try.f21) [1, 0, 1, 0, 0, 1, 0, 0, 1, 0, 0]) (pAt (mkPlan (codeOf Try.f21) [([1, 5], [0]), ([1, 6], [0])]).1 [1, 0, 1, 0, 1, 0, 1, 0]) [1, 6] [0] (⟨[.a (.l 0), .a (.i .i64 (y0_1)), .a (.u), .a (.u), .a (.i .i64 (0 : Int)), .a (.i .i64 (y0_5)), .a (.i .i64 (0 : Int)), .a (.i .i64 (y0_5)), .a (.l 0), .a (.i .i64 (n_a0 : Int)), .a (.b (decide (y0_5 < (n_a0 : Int)))), .a (.x), .a (.x), .a (.x), .a (.x), .a (.x), .a (.x), .a (.x), .a (.x), .a (.x), .a (.x), .a (.x), .a (.x), .a (.x), .a (.x), .a (.u)], [.sl .lent n_a0 r0_0 61], [0]⟩ : St)) N ([.a (.i .i64 (y0_1)), .a (.i .i64 (0 : Int))], [.sl .lent n_a0 r0_0 61])) (fun e s => (kBlock 2 (kBlock 1 (kSeq (veC Try.prog (mkΓ []) N (cAt (codeOf Try.f21) [1, 0, 1, 0, 0, 1, 1]) (pAt (mkPlan (codeOf Try.f21) [([1, 5], [0]), ([1, 6], [0])]).1 [1, 0, 1, 0, 1, 1]) (Stp LS (Exit × LS))) (kBody 1 [1, 5] [0])))) e (left (writes (cAt (codeOf Try.f21) [1, 0, 1, 0, 0, 1, 0, 0, 1, 0, 0])) [1, 6] [0] (⟨[.a (.l 0), .a (.i .i64 (y0_1)), .a (.u), .a (.u), .a (.i .i64 (0 : Int)), .a (.i .i64 (y0_5)), .a (.i .i64 (0 : Int)), .a (.i .i64 (y0_5)), .a (.l 0), .a (.i .i64 (n_a0 : Int)), .a (.b (decide (y0_5 < (n_a0 : Int)))), .a (.x), .a (.x), .a (.x), .a (.x), .a (.x), .a (.x), .a (.x), .a (.x), .a (.x), .a (.x), .a (.x), .a (.x), .a (.x), .a (.x), .a (.u)], [.sl .lent n_a0 r0_0 61], [0]⟩ : St) s)))
    else (some (.done ((.exit 0), ([.a (.i .i64 (y0_1)), .a (.i .i64 (y0_5))], [.sl .lent n_a0 r0_0 61]))))) := by kernel_rfl
  refine h.trans ?_
  simp only [laws_markBounds_n1 N a1 n_a0 a0 y0_1 y0_5 r0_0, laws_markBounds_g0, mapS_cond, mapS_more, mapS_done, mapS_none, laws_markBounds_e0, laws_markBounds_x0]

noncomputable def laws_markBounds_k0_0 (P : Program) (N : Nat) (a1 : Int) (n_a0 : Nat) (a0 : Array Value) (z0_1 : Int) (z0_5 : Int) (q0_0 : Array Value) : Option (SV × Eff × Bool) := bif (Nat.blt 0 n_a0) then (some (.a (.i .i64 (z0_1)), .set 0 (.sl .lent n_a0 q0_0 61), true))
    else (none)

theorem laws_markBounds_k0_0_eq (N : Nat) (a1 : Int) (n_a0 : Nat) (a0 : Array Value) (z0_1 : Int) (z0_5 : Int) (q0_0 : Array Value) : (kBlock 0 (kSeq (veC Try.prog (mkΓ []) N (cAt (codeOf Try.f21) [1, 1]) (pAt (mkPlan (codeOf Try.f21) [([1, 5], [0]), ([1, 6], [0])]).1 [1, 1]) (SV × Eff × Bool)) (finK Try.prog [.sl .lent n_a0 a0 61] [.tmp 4]))) (.exit 0) (left (writes (cAt (codeOf Try.f21) [1, 0, 1, 0, 0])) [1, 5] [0] (⟨[.a (.l 0), .a (.i .i64 (a1)), .a (.u), .a (.u), .a (.i .i64 (0 : Int)), .a (.i .i64 (0 : Int)), .a (.u), .a (.u), .a (.u), .a (.u), .a (.u), .a (.u), .a (.u), .a (.u), .a (.u), .a (.u), .a (.u), .a (.u), .a (.u), .a (.u), .a (.u), .a (.u), .a (.u), .a (.u), .a (.u), .a (.u)], [.sl .lent n_a0 a0 61], []⟩ : St) ([.a (.i .i64 (z0_1)), .a (.i .i64 (z0_5))], [.sl .lent n_a0 q0_0 61])) = laws_markBounds_k0_0 Try.prog N a1 n_a0 a0 z0_1 z0_5 q0_0 := by
  have h : (kBlock 0 (kSeq (veC Try.prog (mkΓ []) N (cAt (codeOf Try.f21) [1, 1]) (pAt (mkPlan (codeOf Try.f21) [([1, 5], [0]), ([1, 6], [0])]).1 [1, 1]) (SV × Eff × Bool)) (finK Try.prog [.sl .lent n_a0 a0 61] [.tmp 4]))) (.exit 0) (left (writes (cAt (codeOf Try.f21) [1, 0, 1, 0, 0])) [1, 5] [0] (⟨[.a (.l 0), .a (.i .i64 (a1)), .a (.u), .a (.u), .a (.i .i64 (0 : Int)), .a (.i .i64 (0 : Int)), .a (.u), .a (.u), .a (.u), .a (.u), .a (.u), .a (.u), .a (.u), .a (.u), .a (.u), .a (.u), .a (.u), .a (.u), .a (.u), .a (.u), .a (.u), .a (.u), .a (.u), .a (.u), .a (.u), .a (.u)], [.sl .lent n_a0 a0 61], []⟩ : St) ([.a (.i .i64 (z0_1)), .a (.i .i64 (z0_5))], [.sl .lent n_a0 q0_0 61])) = (bif (Nat.blt 0 n_a0) then (some (.a (.i .i64 (z0_1)), .set 0 (.sl .lent n_a0 q0_0 61), true))
    else (none)) := by kernel_rfl
  refine h.trans ?_
  rfl

theorem laws_markBounds_n0 (N : Nat) (a1 : Int) (n_a0 : Nat) (a0 : Array Value) : bindX (iterO (stepV Try.prog (mkΓ []) N (cAt (codeOf Try.f21) [1, 0, 1, 0, 0]) (pAt (mkPlan (codeOf Try.f21) [([1, 5], [0]), ([1, 6], [0])]).1 [1, 0, 1, 0]) [1, 5] [0] (⟨[.a (.l 0), .a (.i .i64 (a1)), .a (.u), .a (.u), .a (.i .i64 (0 : Int)), .a (.i .i64 (0 : Int)), .a (.u), .a (.u), .a (.u), .a (.u), .a (.u), .a (.u), .a (.u), .a (.u), .a (.u), .a (.u), .a (.u), .a (.u), .a (.u), .a (.u), .a (.u), .a (.u), .a (.u), .a (.u), .a (.u), .a (.u)], [.sl .lent n_a0 a0 61], []⟩ : St)) N ([.a (.i .i64 (a1)), .a (.i .i64 (0 : Int))], [.sl .lent n_a0 a0 61])) (fun e s => (kBlock 0 (kSeq (veC Try.prog (mkΓ []) N (cAt (codeOf Try.f21) [1, 1]) (pAt (mkPlan (codeOf Try.f21) [([1, 5], [0]), ([1, 6], [0])]).1 [1, 1]) (SV × Eff × Bool)) (finK Try.prog [.sl .lent n_a0 a0 61] [.tmp 4]))) e (left (writes (cAt (codeOf Try.f21) [1, 0, 1, 0, 0])) [1, 5] [0] (⟨[.a (.l 0), .a (.i .i64 (a1)), .a (.u), .a (.u), .a (.i .i64 (0 : Int)), .a (.i .i64 (0 : Int)), .a (.u), .a (.u), .a (.u), .a (.u), .a (.u), .a (.u), .a (.u), .a (.u), .a (.u), .a (.u), .a (.u), .a (.u), .a (.u), .a (.u), .a (.u), .a (.u), .a (.u), .a (.u), .a (.u), .a (.u)], [.sl .lent n_a0 a0 61], []⟩ : St) s)) = nodeX (iterO (laws_markBounds_g0 Try.prog N a1 n_a0 a0) N (a1, (0 : Int), a0)) (fun x => laws_markBounds_k0_0 Try.prog N a1 n_a0 a0 x.1 x.2.1 x.2.2) := by
  refine loop_node (laws_markBounds_e0 n_a0) (laws_markBounds_x0 n_a0) _ _ (laws_markBounds_s0 N a1 n_a0 a0) N (a1, (0 : Int), a0) _ _ ?_
  intro x; exact laws_markBounds_k0_0_eq N a1 n_a0 a0 x.1 x.2.1 x.2.2

theorem laws_markBounds_ans (N : Nat) (a1 : Int) (n_a0 : Nat) (a0 : Array Value) : ansV Try.prog (mkΓ []) N Try.f21 [([1, 5], [0]), ([1, 6], [0])] [.l 0, .i .i64 (a1)] [.sl .lent n_a0 a0 61] = (nodeX (iterO (laws_markBounds_g0 Try.prog N a1 n_a0 a0) N (a1, (0 : Int), a0)) (fun x => laws_markBounds_k0_0 Try.prog N a1 n_a0 a0 x.1 x.2.1 x.2.2)) := by
  have h : ansV Try.prog (mkΓ []) N Try.f21 [([1, 5], [0]), ([1, 6], [0])] [.l 0, .i .i64 (a1)] [.sl .lent n_a0 a0 61] = (bindX (iterO (stepV Try.prog (mkΓ []) N (cAt (codeOf Try.f21) [1, 0, 1, 0, 0]) (pAt (mkPlan (codeOf Try.f21) [([1, 5], [0]), ([1, 6], [0])]).1 [1, 0, 1, 0]) [1, 5] [0] (⟨[.a (.l 0), .a (.i .i64 (a1)), .a (.u), .a (.u), .a (.i .i64 (0 : Int)), .a (.i .i64 (0 : Int)), .a (.u), .a (.u), .a (.u), .a (.u), .a (.u), .a (.u), .a (.u), .a (.u), .a (.u), .a (.u), .a (.u), .a (.u), .a (.u), .a (.u), .a (.u), .a (.u), .a (.u), .a (.u), .a (.u), .a (.u)], [.sl .lent n_a0 a0 61], []⟩ : St)) N ([.a (.i .i64 (a1)), .a (.i .i64 (0 : Int))], [.sl .lent n_a0 a0 61])) (fun e s => (kBlock 0 (kSeq (veC Try.prog (mkΓ []) N (cAt (codeOf Try.f21) [1, 1]) (pAt (mkPlan (codeOf Try.f21) [([1, 5], [0]), ([1, 6], [0])]).1 [1, 1]) (SV × Eff × Bool)) (finK Try.prog [.sl .lent n_a0 a0 61] [.tmp 4]))) e (left (writes (cAt (codeOf Try.f21) [1, 0, 1, 0, 0])) [1, 5] [0] (⟨[.a (.l 0), .a (.i .i64 (a1)), .a (.u), .a (.u), .a (.i .i64 (0 : Int)), .a (.i .i64 (0 : Int)), .a (.u), .a (.u), .a (.u), .a (.u), .a (.u), .a (.u), .a (.u), .a (.u), .a (.u), .a (.u), .a (.u), .a (.u), .a (.u), .a (.u), .a (.u), .a (.u), .a (.u), .a (.u), .a (.u), .a (.u)], [.sl .lent n_a0 a0 61], []⟩ : St) s))) := by kernel_rfl
  refine h.trans ?_
  simp only [laws_markBounds_n0 N a1 n_a0 a0]

theorem laws_markBounds_main0 (a1 : Int) (n_a0 : Nat) (a0 : Array Value) (h_a1 : IntKind.i64.min ≤ a1 ∧ a1 ≤ IntKind.i64.max) (h_a0 : a0.size = n_a0 * (lay Try.prog 61).length ∧ (∀ k, k < n_a0 → WT Try.prog 61 (a0.extract (k * (lay Try.prog 61).length) (k * (lay Try.prog 61).length + (lay Try.prog 61).length))) ∧ n_a0 ≤ 9223372036854775807) (hc0 : (Nat.beq n_a0 0) = false) (hg : (((Nat.ble n_a0 100000) && (decide (0 ≤ a1) && decide (a1 ≤ 1000000)))) = true) : ansV Try.prog (mkΓ []) 18446744073709551616 Try.f21 [([1, 5], [0]), ([1, 6], [0])] [.l 0, .i .i64 (a1)] [.sl .lent n_a0 a0 61] = some (.a (.i .i64 (a1 + ((n_a0 * 36 : Nat) : Int))), .set 0 (.sl .lent n_a0 (mkA (n_a0 * 36) a1) 61), true) := by
  rw [Bool.and_eq_true, Bool.and_eq_true] at hg
  have hn : n_a0 ≤ 100000 := Nat.le_of_ble_eq_true hg.1
  have hk0 : 0 ≤ a1 ∧ a1 ≤ 1000000 := ⟨of_decide_eq_true hg.2.1, of_decide_eq_true hg.2.2⟩
  have hm : (lay Try.prog 61).length = 36 := by kernel_rfl
  obtain ⟨s1, -, -⟩ := h_a0
  rw [hm] at s1
  have hs : (mkA (n_a0 * 36) a1).size = a0.size := by rw [mkA_size, s1]
  have hpos : Nat.blt 0 n_a0 = true := by
    have : n_a0 ≠ 0 := fun h => by rw [h] at hc0; cases hc0
    simp [Nat.blt]; omega
  have hin : ∀ i, i < n_a0 → ∀ (r0 : Array Value) (y1 : Int), iterO (laws_markBounds_g1 Try.prog a1 n_a0 a0 y1 (i : Int) r0) 18446744073709551616 (a1 + ((i * 36 : Nat) : Int), (0 : Int), upto (mkA (n_a0 * 36) a1) a0 (i * 36)) = some (a1 + (((i + 1) * 36 : Nat) : Int), (36 : Int), upto (mkA (n_a0 * 36) a1) a0 ((i + 1) * 36)) := by
    intro i hi r0 y1
    have hle : (i + 1) * 36 ≤ n_a0 * 36 := Nat.mul_le_mul_right _ hi
    have h := iter_all (g := laws_markBounds_g1 Try.prog a1 n_a0 a0 y1 (i : Int) r0) (fun j => (a1 + ((i * 36 + j : Nat) : Int), (j : Int), upto (mkA (n_a0 * 36) a1) a0 (i * 36 + j))) (m := 36) (x := (a1 + ((i * 36 + 36 : Nat) : Int), (36 : Int), upto (mkA (n_a0 * 36) a1) a0 (i * 36 + 36))) (N := 18446744073709551616) (fun j hj => by
      have h1 : decide ((j : Int) < 36) = true := decide_eq_true (by omega)
      have h2 : decide (0 ≤ (j : Int)) = true := decide_eq_true (by omega)
      have h3 : (decide (0 ≤ (i : Int)) && decide ((i : Int) < (n_a0 : Int))) = true := by rw [decide_eq_true (by omega), decide_eq_true (by omega)]; rfl
      have h4 : IntKind.i64.wrap (a1 + ((i * 36 + j : Nat) : Int) + 1) = a1 + ((i * 36 + (j + 1) : Nat) : Int) := by rw [IntWalk.i64_in _ (by omega)]; omega
      have h5 : IntKind.i64.wrap ((j : Int) + 1) = ((j + 1 : Nat) : Int) := by rw [IntWalk.i64_in _ (by omega)]; omega
      have h6 : (upto (mkA (n_a0 * 36) a1) a0 (i * 36 + j)).setIfInBounds (i * 36 + j * 1) (.int .i64 (a1 + ((i * 36 + j : Nat) : Int))) = upto (mkA (n_a0 * 36) a1) a0 (i * 36 + (j + 1)) := by
        rw [Nat.mul_one]
        exact upto_set hs (mkA_at (by omega))
      simp only [laws_markBounds_g1, h1, h2, h3, h4, h5, h6, Int.toNat_natCast, Bool.and_self, cond_true]) (by
      have h1 : decide (((36 : Nat) : Int) < 36) = false := by decide
      simp only [laws_markBounds_g1, h1, cond_false]
      rfl) (by omega)
    rw [show (i + 1) * 36 = i * 36 + 36 by omega]
    exact h
  have h := iter_all (g := laws_markBounds_g0 Try.prog 18446744073709551616 a1 n_a0 a0) (fun i => (a1 + ((i * 36 : Nat) : Int), (i : Int), upto (mkA (n_a0 * 36) a1) a0 (i * 36))) (m := n_a0) (x := (a1 + ((n_a0 * 36 : Nat) : Int), (n_a0 : Int), upto (mkA (n_a0 * 36) a1) a0 (n_a0 * 36))) (N := 18446744073709551616) (fun i hi => by
    have h1 : decide ((i : Int) < (n_a0 : Int)) = true := decide_eq_true (by omega)
    have h5 : IntKind.i64.wrap ((i : Int) + 1) = ((i + 1 : Nat) : Int) := by rw [IntWalk.i64_in _ (by omega)]; omega
    simp only [laws_markBounds_g0, h1, cond_true, hin i hi, nodeX, laws_markBounds_k1_0, h5]) (by
    have h1 : decide ((n_a0 : Int) < (n_a0 : Int)) = false := decide_eq_false (by omega)
    simp only [laws_markBounds_g0, h1, cond_false]) (by omega)
  refine (laws_markBounds_ans 18446744073709551616 a1 n_a0 a0).trans ?_
  have hz : upto (mkA (n_a0 * 36) a1) a0 0 = a0 := upto_zero hs
  have hl : upto (mkA (n_a0 * 36) a1) a0 (n_a0 * 36) = mkA (n_a0 * 36) a1 := upto_all hs (mkA_size _ _)
  have h0 : a1 + (((0 * 36 : Nat)) : Int) = a1 := by omega
  have h' : iterO (laws_markBounds_g0 Try.prog 18446744073709551616 a1 n_a0 a0) 18446744073709551616 (a1, (0 : Int), a0) = some (a1 + ((n_a0 * 36 : Nat) : Int), (n_a0 : Int), mkA (n_a0 * 36) a1) := by
    have h2 := h
    simp only [Nat.zero_mul, hz, hl] at h2
    have e : a1 + ((0 : Nat) : Int) = a1 := by omega
    rw [e] at h2
    exact h2
  rw [h']
  simp only [nodeX, laws_markBounds_k0_0, hpos, cond_true]
theorem laws_markBounds_main1 (a1 : Int) (n_a0 : Nat) (a0 : Array Value) (h_a1 : IntKind.i64.min ≤ a1 ∧ a1 ≤ IntKind.i64.max) (h_a0 : a0.size = n_a0 * (lay Try.prog 61).length ∧ (∀ k, k < n_a0 → WT Try.prog 61 (a0.extract (k * (lay Try.prog 61).length) (k * (lay Try.prog 61).length + (lay Try.prog 61).length))) ∧ n_a0 ≤ 9223372036854775807) (hc0 : (Nat.beq n_a0 0) = true) (hg : (true) = true) : ansV Try.prog (mkΓ []) 1000 Try.f21 [([1, 5], []), ([1, 6], [])] [.l 0, .i .i64 (a1)] [.sl .lent n_a0 a0 61] = some (.a (.i .i64 (a1)), .none, true) := by
  obtain rfl : n_a0 = 0 := Nat.eq_of_beq_eq_true hc0
  kernel_rfl
noncomputable def laws_markBounds_scon : SCon := fun args h => match args, h with
  | [.l 0, .i .i64 a1], [.sl .lent n_a0 a0 61] => .two (Nat.beq n_a0 0) (.one (some (.a (.i .i64 (a1)), .none, true))) (.one (some (.a (.i .i64 (a1 + ((n_a0 * 36 : Nat) : Int))), .set 0 (.sl .lent n_a0 (mkA (n_a0 * 36) a1) 61), ((Nat.ble n_a0 100000) && (decide (0 ≤ a1) && decide (a1 ≤ 1000000))))))
  | _, _ => .one none
theorem laws_markBounds_enter : ∀ args w, (callFunc 21 args).run Try.prog w = .ok (.enter 21 args) w := enter_ok (fn := Try.f21) (by kernel_rfl) (by kernel_rfl) (by kernel_rfl)
theorem laws_markBounds_sok : ConOk Try.prog 21 (fun args h => wayRes (laws_markBounds_scon args h)) := by
  intro ρ h w args vals r e hn hr hA hH
  dsimp only at hr
  unfold laws_markBounds_scon at hr
  split at hr
  · rename_i a1 n_a0 a0
    simp only [wayRes] at hr
    cases hc0 : (Nat.beq n_a0 0)
    · rw [hc0] at hr
      simp only [wayRes, cond_true, cond_false] at hr
      obtain ⟨rfl, hg⟩ := Prod.mk.inj (Option.some.inj hr)
      obtain ⟨rfl, hg2⟩ := Prod.mk.inj hg
      exact ((ans_ok (N := 18446744073709551616) (by kernel_rfl) mkΓ_nil (fn := Try.f21) (by kernel_rfl) (by kernel_rfl) [([1, 5], [0]), ([1, 6], [0])])) ρ _ w _ vals _ _ hn ((laws_markBounds_main0 a1 n_a0 a0 (hA.rng 1 rfl) (hH.slw 0 rfl) hc0 hg2)) hA hH
    · rw [hc0] at hr
      simp only [wayRes, cond_true, cond_false] at hr
      obtain ⟨rfl, hg⟩ := Prod.mk.inj (Option.some.inj hr)
      obtain ⟨rfl, hg2⟩ := Prod.mk.inj hg
      exact ((ans_ok (N := 1000) (by kernel_rfl) mkΓ_nil (fn := Try.f21) (by kernel_rfl) (by kernel_rfl) [([1, 5], []), ([1, 6], [])])) ρ _ w _ vals _ _ hn ((laws_markBounds_main1 a1 n_a0 a0 (hA.rng 1 rfl) (hH.slw 0 rfl) hc0 hg2)) hA hH
  · simp only [wayRes] at hr
    cases hr

noncomputable def laws_heldBounds_e1 : Int × Int × Int → LS
  | (y1_1, y1_4, y1_6) => ([.a (.i .i64 (y1_1)), .a (.i .i64 (y1_4)), .a (.i .i64 (y1_6))], [])

noncomputable def laws_heldBounds_x1 : (Stp (Int × Int × Int) (Int × Int × Int)) → Exit × LS
  | .more t => (.ret, laws_heldBounds_e1 t)
  | .done t => ((.exit 2), laws_heldBounds_e1 t)

noncomputable def laws_heldBounds_g1 (P : Program) (a1 : Int) (b_a0 : Option (Option Addr)) (n_a0 : Nat) (a0 : Array Value) (y0_1 : Int) (y0_4 : Int) (y0_5 : Int) : Int × Int × Int → Option (Stp (Int × Int × Int) (Stp (Int × Int × Int) (Int × Int × Int)))
  | (y1_1, y1_4, y1_6) => bif decide (y1_6 < (36 : Int)) then (bif (decide (0 ≤ y0_5) && decide (y0_5 < (n_a0 : Int))) then (bif (decide (0 ≤ y1_6) && decide (y1_6 < 36)) then (bif ((num a0 (((y0_5).toNat * 36) + ((y1_6).toNat * 1))) != y1_1) then (some (.done (.more (y1_1, (-1 : Int), y1_6))))
          else (some (.more ((IntKind.i64.wrap (y1_1 + (1 : Int))), y1_4, (IntKind.i64.wrap (y1_6 + (1 : Int)))))))
        else (none))
      else (none))
    else (some (.done (.done (y1_1, y1_4, y1_6))))

theorem laws_heldBounds_s1 (N : Nat) (a1 : Int) (b_a0 : Option (Option Addr)) (n_a0 : Nat) (a0 : Array Value) (y0_1 : Int) (y0_4 : Int) (y0_5 : Int) : ∀ t : Int × Int × Int, stepV Try.prog (mkΓ []) N (cAt (codeOf Try.f22) [1, 0, 1, 0, 0, 1, 0, 0, 1, 0, 0]) (pAt (mkPlan (codeOf Try.f22) [([1, 4, 5], []), ([1, 4, 6], [])]).1 [1, 0, 1, 0, 1, 0, 1, 0]) [1, 4, 6] [] (⟨[.a (.l 0), .a (.i .i64 (y0_1)), .a (.u), .a (.u), .a (.i .i64 (y0_4)), .a (.i .i64 (y0_5)), .a (.i .i64 (0 : Int)), .a (.i .i64 (y0_5)), .a (.l 0), .a (.i .i64 (n_a0 : Int)), .a (.b (decide (y0_5 < (n_a0 : Int)))), .a (.x), .a (.x), .a (.x), .a (.x), .a (.x), .a (.x), .a (.x), .a (.x), .a (.x), .a (.x), .a (.x), .a (.x), .a (.x), .a (.x), .a (.x), .a (.x), .a (.u)], [.sl (.came b_a0) n_a0 a0 61], []⟩ : St) (laws_heldBounds_e1 t) = mapS laws_heldBounds_e1 laws_heldBounds_x1 (laws_heldBounds_g1 Try.prog a1 b_a0 n_a0 a0 y0_1 y0_4 y0_5 t) := by
  rintro ⟨y1_1, y1_4, y1_6⟩
  have h : stepV Try.prog (mkΓ []) N (cAt (codeOf Try.f22) [1, 0, 1, 0, 0, 1, 0, 0, 1, 0, 0]) (pAt (mkPlan (codeOf Try.f22) [([1, 4, 5], []), ([1, 4, 6], [])]).1 [1, 0, 1, 0, 1, 0, 1, 0]) [1, 4, 6] [] (⟨[.a (.l 0), .a (.i .i64 (y0_1)), .a (.u), .a (.u), .a (.i .i64 (y0_4)), .a (.i .i64 (y0_5)), .a (.i .i64 (0 : Int)), .a (.i .i64 (y0_5)), .a (.l 0), .a (.i .i64 (n_a0 : Int)), .a (.b (decide (y0_5 < (n_a0 : Int)))), .a (.x), .a (.x), .a (.x), .a (.x), .a (.x), .a (.x), .a (.x), .a (.x), .a (.x), .a (.x), .a (.x), .a (.x), .a (.x), .a (.x), .a (.x), .a (.x), .a (.u)], [.sl (.came b_a0) n_a0 a0 61], []⟩ : St) ([.a (.i .i64 (y1_1)), .a (.i .i64 (y1_4)), .a (.i .i64 (y1_6))], []) = (bif decide (y1_6 < (36 : Int)) then (bif (decide (0 ≤ y0_5) && decide (y0_5 < (n_a0 : Int))) then (bif (decide (0 ≤ y1_6) && decide (y1_6 < 36)) then (bif ((num a0 (((y0_5).toNat * 36) + ((y1_6).toNat * 1))) != y1_1) then (some (.done (.ret, ([.a (.i .i64 (y1_1)), .a (.i .i64 (-1 : Int)), .a (.i .i64 (y1_6))], []))))
          else (some (.more ([.a (.i .i64 (IntKind.i64.wrap (y1_1 + (1 : Int)))), .a (.i .i64 (y1_4)), .a (.i .i64 (IntKind.i64.wrap (y1_6 + (1 : Int))))], []))))
        else (none))
      else (none))
    else (some (.done ((.exit 2), ([.a (.i .i64 (y1_1)), .a (.i .i64 (y1_4)), .a (.i .i64 (y1_6))], []))))) := by kernel_rfl
  refine h.trans ?_
  simp only [laws_heldBounds_g1, mapS_cond, mapS_more, mapS_done, mapS_none, laws_heldBounds_e1, laws_heldBounds_x1]

noncomputable def laws_heldBounds_e0 : Int × Int × Int → LS
  | (y0_1, y0_4, y0_5) => ([.a (.i .i64 (y0_1)), .a (.i .i64 (y0_4)), .a (.i .i64 (y0_5))], [])

noncomputable def laws_heldBounds_x0 : (Stp (Int × Int × Int) (Int × Int × Int)) → Exit × LS
  | .more t => (.ret, laws_heldBounds_e0 t)
  | .done t => ((.exit 0), laws_heldBounds_e0 t)

noncomputable def laws_heldBounds_k1_0 (P : Program) (N : Nat) (a1 : Int) (b_a0 : Option (Option Addr)) (n_a0 : Nat) (a0 : Array Value) (y0_1 : Int) (y0_4 : Int) (y0_5 : Int) (z1_1 : Int) (z1_4 : Int) (z1_6 : Int) : Option (Stp (Int × Int × Int) (Stp (Int × Int × Int) (Int × Int × Int))) := some (.done (.more (z1_1, z1_4, y0_5)))

theorem laws_heldBounds_k1_0_eq (N : Nat) (a1 : Int) (b_a0 : Option (Option Addr)) (n_a0 : Nat) (a0 : Array Value) (y0_1 : Int) (y0_4 : Int) (y0_5 : Int) (z1_1 : Int) (z1_4 : Int) (z1_6 : Int) : (kBlock 2 (kBlock 1 (kSeq (veC Try.prog (mkΓ []) N (cAt (codeOf Try.f22) [1, 0, 1, 0, 0, 1, 1]) (pAt (mkPlan (codeOf Try.f22) [([1, 4, 5], []), ([1, 4, 6], [])]).1 [1, 0, 1, 0, 1, 1]) (Stp LS (Exit × LS))) (kBody 1 [1, 4, 5] [])))) .ret (left (writes (cAt (codeOf Try.f22) [1, 0, 1, 0, 0, 1, 0, 0, 1, 0, 0])) [1, 4, 6] [] (⟨[.a (.l 0), .a (.i .i64 (y0_1)), .a (.u), .a (.u), .a (.i .i64 (y0_4)), .a (.i .i64 (y0_5)), .a (.i .i64 (0 : Int)), .a (.i .i64 (y0_5)), .a (.l 0), .a (.i .i64 (n_a0 : Int)), .a (.b (decide (y0_5 < (n_a0 : Int)))), .a (.x), .a (.x), .a (.x), .a (.x), .a (.x), .a (.x), .a (.x), .a (.x), .a (.x), .a (.x), .a (.x), .a (.x), .a (.x), .a (.x), .a (.x), .a (.x), .a (.u)], [.sl (.came b_a0) n_a0 a0 61], []⟩ : St) ([.a (.i .i64 (z1_1)), .a (.i .i64 (z1_4)), .a (.i .i64 (z1_6))], [])) = mapS laws_heldBounds_e0 laws_heldBounds_x0 (laws_heldBounds_k1_0 Try.prog N a1 b_a0 n_a0 a0 y0_1 y0_4 y0_5 z1_1 z1_4 z1_6) := by
  have h : (kBlock 2 (kBlock 1 (kSeq (veC Try.prog (mkΓ []) N (cAt (codeOf Try.f22) [1, 0, 1, 0, 0, 1, 1]) (pAt (mkPlan (codeOf Try.f22) [([1, 4, 5], []), ([1, 4, 6], [])]).1 [1, 0, 1, 0, 1, 1]) (Stp LS (Exit × LS))) (kBody 1 [1, 4, 5] [])))) .ret (left (writes (cAt (codeOf Try.f22) [1, 0, 1, 0, 0, 1, 0, 0, 1, 0, 0])) [1, 4, 6] [] (⟨[.a (.l 0), .a (.i .i64 (y0_1)), .a (.u), .a (.u), .a (.i .i64 (y0_4)), .a (.i .i64 (y0_5)), .a (.i .i64 (0 : Int)), .a (.i .i64 (y0_5)), .a (.l 0), .a (.i .i64 (n_a0 : Int)), .a (.b (decide (y0_5 < (n_a0 : Int)))), .a (.x), .a (.x), .a (.x), .a (.x), .a (.x), .a (.x), .a (.x), .a (.x), .a (.x), .a (.x), .a (.x), .a (.x), .a (.x), .a (.x), .a (.x), .a (.x), .a (.u)], [.sl (.came b_a0) n_a0 a0 61], []⟩ : St) ([.a (.i .i64 (z1_1)), .a (.i .i64 (z1_4)), .a (.i .i64 (z1_6))], [])) = (some (.done (.ret, ([.a (.i .i64 (z1_1)), .a (.i .i64 (z1_4)), .a (.i .i64 (y0_5))], [])))) := by kernel_rfl
  refine h.trans ?_
  simp only [laws_heldBounds_k1_0, mapS_cond, mapS_more, mapS_done, mapS_none, laws_heldBounds_e0, laws_heldBounds_x0]

noncomputable def laws_heldBounds_k1_1 (P : Program) (N : Nat) (a1 : Int) (b_a0 : Option (Option Addr)) (n_a0 : Nat) (a0 : Array Value) (y0_1 : Int) (y0_4 : Int) (y0_5 : Int) (z1_1 : Int) (z1_4 : Int) (z1_6 : Int) : Option (Stp (Int × Int × Int) (Stp (Int × Int × Int) (Int × Int × Int))) := some (.more (z1_1, z1_4, (IntKind.i64.wrap (y0_5 + (1 : Int)))))

theorem laws_heldBounds_k1_1_eq (N : Nat) (a1 : Int) (b_a0 : Option (Option Addr)) (n_a0 : Nat) (a0 : Array Value) (y0_1 : Int) (y0_4 : Int) (y0_5 : Int) (z1_1 : Int) (z1_4 : Int) (z1_6 : Int) : (kBlock 2 (kBlock 1 (kSeq (veC Try.prog (mkΓ []) N (cAt (codeOf Try.f22) [1, 0, 1, 0, 0, 1, 1]) (pAt (mkPlan (codeOf Try.f22) [([1, 4, 5], []), ([1, 4, 6], [])]).1 [1, 0, 1, 0, 1, 1]) (Stp LS (Exit × LS))) (kBody 1 [1, 4, 5] [])))) (.exit 2) (left (writes (cAt (codeOf Try.f22) [1, 0, 1, 0, 0, 1, 0, 0, 1, 0, 0])) [1, 4, 6] [] (⟨[.a (.l 0), .a (.i .i64 (y0_1)), .a (.u), .a (.u), .a (.i .i64 (y0_4)), .a (.i .i64 (y0_5)), .a (.i .i64 (0 : Int)), .a (.i .i64 (y0_5)), .a (.l 0), .a (.i .i64 (n_a0 : Int)), .a (.b (decide (y0_5 < (n_a0 : Int)))), .a (.x), .a (.x), .a (.x), .a (.x), .a (.x), .a (.x), .a (.x), .a (.x), .a (.x), .a (.x), .a (.x), .a (.x), .a (.x), .a (.x), .a (.x), .a (.x), .a (.u)], [.sl (.came b_a0) n_a0 a0 61], []⟩ : St) ([.a (.i .i64 (z1_1)), .a (.i .i64 (z1_4)), .a (.i .i64 (z1_6))], [])) = mapS laws_heldBounds_e0 laws_heldBounds_x0 (laws_heldBounds_k1_1 Try.prog N a1 b_a0 n_a0 a0 y0_1 y0_4 y0_5 z1_1 z1_4 z1_6) := by
  have h : (kBlock 2 (kBlock 1 (kSeq (veC Try.prog (mkΓ []) N (cAt (codeOf Try.f22) [1, 0, 1, 0, 0, 1, 1]) (pAt (mkPlan (codeOf Try.f22) [([1, 4, 5], []), ([1, 4, 6], [])]).1 [1, 0, 1, 0, 1, 1]) (Stp LS (Exit × LS))) (kBody 1 [1, 4, 5] [])))) (.exit 2) (left (writes (cAt (codeOf Try.f22) [1, 0, 1, 0, 0, 1, 0, 0, 1, 0, 0])) [1, 4, 6] [] (⟨[.a (.l 0), .a (.i .i64 (y0_1)), .a (.u), .a (.u), .a (.i .i64 (y0_4)), .a (.i .i64 (y0_5)), .a (.i .i64 (0 : Int)), .a (.i .i64 (y0_5)), .a (.l 0), .a (.i .i64 (n_a0 : Int)), .a (.b (decide (y0_5 < (n_a0 : Int)))), .a (.x), .a (.x), .a (.x), .a (.x), .a (.x), .a (.x), .a (.x), .a (.x), .a (.x), .a (.x), .a (.x), .a (.x), .a (.x), .a (.x), .a (.x), .a (.x), .a (.u)], [.sl (.came b_a0) n_a0 a0 61], []⟩ : St) ([.a (.i .i64 (z1_1)), .a (.i .i64 (z1_4)), .a (.i .i64 (z1_6))], [])) = (some (.more ([.a (.i .i64 (z1_1)), .a (.i .i64 (z1_4)), .a (.i .i64 (IntKind.i64.wrap (y0_5 + (1 : Int))))], []))) := by kernel_rfl
  refine h.trans ?_
  simp only [laws_heldBounds_k1_1, mapS_cond, mapS_more, mapS_done, mapS_none, laws_heldBounds_e0, laws_heldBounds_x0]

theorem laws_heldBounds_n1 (N : Nat) (a1 : Int) (b_a0 : Option (Option Addr)) (n_a0 : Nat) (a0 : Array Value) (y0_1 : Int) (y0_4 : Int) (y0_5 : Int) : bindX (iterO (stepV Try.prog (mkΓ []) N (cAt (codeOf Try.f22) [1, 0, 1, 0, 0, 1, 0, 0, 1, 0, 0]) (pAt (mkPlan (codeOf Try.f22) [([1, 4, 5], []), ([1, 4, 6], [])]).1 [1, 0, 1, 0, 1, 0, 1, 0]) [1, 4, 6] [] (⟨[.a (.l 0), .a (.i .i64 (y0_1)), .a (.u), .a (.u), .a (.i .i64 (y0_4)), .a (.i .i64 (y0_5)), .a (.i .i64 (0 : Int)), .a (.i .i64 (y0_5)), .a (.l 0), .a (.i .i64 (n_a0 : Int)), .a (.b (decide (y0_5 < (n_a0 : Int)))), .a (.x), .a (.x), .a (.x), .a (.x), .a (.x), .a (.x), .a (.x), .a (.x), .a (.x), .a (.x), .a (.x), .a (.x), .a (.x), .a (.x), .a (.x), .a (.x), .a (.u)], [.sl (.came b_a0) n_a0 a0 61], []⟩ : St)) N ([.a (.i .i64 (y0_1)), .a (.i .i64 (y0_4)), .a (.i .i64 (0 : Int))], [])) (fun e s => (kBlock 2 (kBlock 1 (kSeq (veC Try.prog (mkΓ []) N (cAt (codeOf Try.f22) [1, 0, 1, 0, 0, 1, 1]) (pAt (mkPlan (codeOf Try.f22) [([1, 4, 5], []), ([1, 4, 6], [])]).1 [1, 0, 1, 0, 1, 1]) (Stp LS (Exit × LS))) (kBody 1 [1, 4, 5] [])))) e (left (writes (cAt (codeOf Try.f22) [1, 0, 1, 0, 0, 1, 0, 0, 1, 0, 0])) [1, 4, 6] [] (⟨[.a (.l 0), .a (.i .i64 (y0_1)), .a (.u), .a (.u), .a (.i .i64 (y0_4)), .a (.i .i64 (y0_5)), .a (.i .i64 (0 : Int)), .a (.i .i64 (y0_5)), .a (.l 0), .a (.i .i64 (n_a0 : Int)), .a (.b (decide (y0_5 < (n_a0 : Int)))), .a (.x), .a (.x), .a (.x), .a (.x), .a (.x), .a (.x), .a (.x), .a (.x), .a (.x), .a (.x), .a (.x), .a (.x), .a (.x), .a (.x), .a (.x), .a (.x), .a (.u)], [.sl (.came b_a0) n_a0 a0 61], []⟩ : St) s)) = mapS laws_heldBounds_e0 laws_heldBounds_x0 (nodeX (iterO (laws_heldBounds_g1 Try.prog a1 b_a0 n_a0 a0 y0_1 y0_4 y0_5) N (y0_1, y0_4, (0 : Int))) (st2 (fun x => laws_heldBounds_k1_0 Try.prog N a1 b_a0 n_a0 a0 y0_1 y0_4 y0_5 x.1 x.2.1 x.2.2) (fun x => laws_heldBounds_k1_1 Try.prog N a1 b_a0 n_a0 a0 y0_1 y0_4 y0_5 x.1 x.2.1 x.2.2))) := by
  refine (loop_node laws_heldBounds_e1 laws_heldBounds_x1 _ _ (laws_heldBounds_s1 N a1 b_a0 n_a0 a0 y0_1 y0_4 y0_5) N (y0_1, y0_4, (0 : Int)) _ (fun x => mapS laws_heldBounds_e0 laws_heldBounds_x0 ((st2 (fun x => laws_heldBounds_k1_0 Try.prog N a1 b_a0 n_a0 a0 y0_1 y0_4 y0_5 x.1 x.2.1 x.2.2) (fun x => laws_heldBounds_k1_1 Try.prog N a1 b_a0 n_a0 a0 y0_1 y0_4 y0_5 x.1 x.2.1 x.2.2)) x)) ?_).trans (mapS_nodeX laws_heldBounds_e0 laws_heldBounds_x0 _ _).symm
  intro x
  cases x with
  | more x => exact laws_heldBounds_k1_0_eq N a1 b_a0 n_a0 a0 y0_1 y0_4 y0_5 x.1 x.2.1 x.2.2
  | done x => exact laws_heldBounds_k1_1_eq N a1 b_a0 n_a0 a0 y0_1 y0_4 y0_5 x.1 x.2.1 x.2.2

noncomputable def laws_heldBounds_g0 (P : Program) (N : Nat) (a1 : Int) (b_a0 : Option (Option Addr)) (n_a0 : Nat) (a0 : Array Value) : Int × Int × Int → Option (Stp (Int × Int × Int) (Stp (Int × Int × Int) (Int × Int × Int)))
  | (y0_1, y0_4, y0_5) => bif decide (y0_5 < (n_a0 : Int)) then (nodeX (iterO (laws_heldBounds_g1 P a1 b_a0 n_a0 a0 y0_1 y0_4 y0_5) N (y0_1, y0_4, (0 : Int))) (st2 (fun x => laws_heldBounds_k1_0 P N a1 b_a0 n_a0 a0 y0_1 y0_4 y0_5 x.1 x.2.1 x.2.2) (fun x => laws_heldBounds_k1_1 P N a1 b_a0 n_a0 a0 y0_1 y0_4 y0_5 x.1 x.2.1 x.2.2)))
    else (some (.done (.done (y0_1, y0_4, y0_5))))

theorem laws_heldBounds_s0 (N : Nat) (a1 : Int) (b_a0 : Option (Option Addr)) (n_a0 : Nat) (a0 : Array Value) : ∀ t : Int × Int × Int, stepV Try.prog (mkΓ []) N (cAt (codeOf Try.f22) [1, 0, 1, 0, 0]) (pAt (mkPlan (codeOf Try.f22) [([1, 4, 5], []), ([1, 4, 6], [])]).1 [1, 0, 1, 0]) [1, 4, 5] [] (⟨[.a (.l 0), .a (.i .i64 (a1)), .a (.u), .a (.u), .a (.i .i64 (0 : Int)), .a (.i .i64 (0 : Int)), .a (.u), .a (.u), .a (.u), .a (.u), .a (.u), .a (.u), .a (.u), .a (.u), .a (.u), .a (.u), .a (.u), .a (.u), .a (.u), .a (.u), .a (.u), .a (.u), .a (.u), .a (.u), .a (.u), .a (.u), .a (.u), .a (.u)], [.sl (.came b_a0) n_a0 a0 61], []⟩ : St) (laws_heldBounds_e0 t) = mapS laws_heldBounds_e0 laws_heldBounds_x0 (laws_heldBounds_g0 Try.prog N a1 b_a0 n_a0 a0 t) := by
  rintro ⟨y0_1, y0_4, y0_5⟩
  have h : stepV Try.prog (mkΓ []) N (cAt (codeOf Try.f22) [1, 0, 1, 0, 0]) (pAt (mkPlan (codeOf Try.f22) [([1, 4, 5], []), ([1, 4, 6], [])]).1 [1, 0, 1, 0]) [1, 4, 5] [] (⟨[.a (.l 0), .a (.i .i64 (a1)), .a (.u), .a (.u), .a (.i .i64 (0 : Int)), .a (.i .i64 (0 : Int)), .a (.u), .a (.u), .a (.u), .a (.u), .a (.u), .a (.u), .a (.u), .a (.u), .a (.u), .a (.u), .a (.u), .a (.u), .a (.u), .a (.u), .a (.u), .a (.u), .a (.u), .a (.u), .a (.u), .a (.u), .a (.u), .a (.u)], [.sl (.came b_a0) n_a0 a0 61], []⟩ : St) ([.a (.i .i64 (y0_1)), .a (.i .i64 (y0_4)), .a (.i .i64 (y0_5))], []) = (bif decide (y0_5 < (n_a0 : Int)) then (bindX (iterO (stepV Try.prog (mkΓ []) N (cAt (codeOf Try.f22) [1, 0, 1, 0, 0, 1, 0, 0, 1, 0, 0]) (pAt (mkPlan (codeOf Try.f22) [([1, 4, 5], []), ([1, 4, 6], [])]).1 [1, 0, 1, 0, 1, 0, 1, 0]) [1, 4, 6] [] (⟨[.a (.l 0), .a (.i .i64 (y0_1)), .a (.u), .a (.u), .a (.i .i64 (y0_4)), .a (.i .i64 (y0_5)), .a (.i .i64 (0 : Int)), .a (.i .i64 (y0_5)), .a (.l 0), .a (.i .i64 (n_a0 : Int)), .a (.b (decide (y0_5 < (n_a0 : Int)))), .a (.x), .a (.x), .a (.x), .a (.x), .a (.x), .a (.x), .a (.x), .a (.x), .a (.x), .a (.x), .a (.x), .a (.x), .a (.x), .a (.x), .a (.x), .a (.x), .a (.u)], [.sl (.came b_a0) n_a0 a0 61], []⟩ : St)) N ([.a (.i .i64 (y0_1)), .a (.i .i64 (y0_4)), .a (.i .i64 (0 : Int))], [])) (fun e s => (kBlock 2 (kBlock 1 (kSeq (veC Try.prog (mkΓ []) N (cAt (codeOf Try.f22) [1, 0, 1, 0, 0, 1, 1]) (pAt (mkPlan (codeOf Try.f22) [([1, 4, 5], []), ([1, 4, 6], [])]).1 [1, 0, 1, 0, 1, 1]) (Stp LS (Exit × LS))) (kBody 1 [1, 4, 5] [])))) e (left (writes (cAt (codeOf Try.f22) [1, 0, 1, 0, 0, 1, 0, 0, 1, 0, 0])) [1, 4, 6] [] (⟨[.a (.l 0), .a (.i .i64 (y0_1)), .a (.u), .a (.u), .a (.i .i64 (y0_4)), .a (.i .i64 (y0_5)), .a (.i .i64 (0 : Int)), .a (.i .i64 (y0_5)), .a (.l 0), .a (.i .i64 (n_a0 : Int)), .a (.b (decide (y0_5 < (n_a0 : Int)))), .a (.x), .a (.x), .a (.x), .a (.x), .a (.x), .a (.x), .a (.x), .a (.x), .a (.x), .a (.x), .a (.x), .a (.x), .a (.x), .a (.x), .a (.x), .a (.x), .a (.u)], [.sl (.came b_a0) n_a0 a0 61], []⟩ : St) s)))
    else (some (.done ((.exit 0), ([.a (.i .i64 (y0_1)), .a (.i .i64 (y0_4)), .a (.i .i64 (y0_5))], []))))) := by kernel_rfl
  refine h.trans ?_
  simp only [laws_heldBounds_n1 N a1 b_a0 n_a0 a0 y0_1 y0_4 y0_5, laws_heldBounds_g0, mapS_cond, mapS_more, mapS_done, mapS_none, laws_heldBounds_e0, laws_heldBounds_x0]

noncomputable def laws_heldBounds_k0_0 (P : Program) (N : Nat) (a1 : Int) (b_a0 : Option (Option Addr)) (n_a0 : Nat) (a0 : Array Value) (z0_1 : Int) (z0_4 : Int) (z0_5 : Int) : Option (SV × Eff × Bool) := some (.a (.i .i64 (z0_4)), .none, true)

theorem laws_heldBounds_k0_0_eq (N : Nat) (a1 : Int) (b_a0 : Option (Option Addr)) (n_a0 : Nat) (a0 : Array Value) (z0_1 : Int) (z0_4 : Int) (z0_5 : Int) : (kBlock 0 (kSeq (veC Try.prog (mkΓ []) N (cAt (codeOf Try.f22) [1, 1]) (pAt (mkPlan (codeOf Try.f22) [([1, 4, 5], []), ([1, 4, 6], [])]).1 [1, 1]) (SV × Eff × Bool)) (finK Try.prog [.sl (.came b_a0) n_a0 a0 61] [.tmp 4]))) .ret (left (writes (cAt (codeOf Try.f22) [1, 0, 1, 0, 0])) [1, 4, 5] [] (⟨[.a (.l 0), .a (.i .i64 (a1)), .a (.u), .a (.u), .a (.i .i64 (0 : Int)), .a (.i .i64 (0 : Int)), .a (.u), .a (.u), .a (.u), .a (.u), .a (.u), .a (.u), .a (.u), .a (.u), .a (.u), .a (.u), .a (.u), .a (.u), .a (.u), .a (.u), .a (.u), .a (.u), .a (.u), .a (.u), .a (.u), .a (.u), .a (.u), .a (.u)], [.sl (.came b_a0) n_a0 a0 61], []⟩ : St) ([.a (.i .i64 (z0_1)), .a (.i .i64 (z0_4)), .a (.i .i64 (z0_5))], [])) = laws_heldBounds_k0_0 Try.prog N a1 b_a0 n_a0 a0 z0_1 z0_4 z0_5 := by
  have h : (kBlock 0 (kSeq (veC Try.prog (mkΓ []) N (cAt (codeOf Try.f22) [1, 1]) (pAt (mkPlan (codeOf Try.f22) [([1, 4, 5], []), ([1, 4, 6], [])]).1 [1, 1]) (SV × Eff × Bool)) (finK Try.prog [.sl (.came b_a0) n_a0 a0 61] [.tmp 4]))) .ret (left (writes (cAt (codeOf Try.f22) [1, 0, 1, 0, 0])) [1, 4, 5] [] (⟨[.a (.l 0), .a (.i .i64 (a1)), .a (.u), .a (.u), .a (.i .i64 (0 : Int)), .a (.i .i64 (0 : Int)), .a (.u), .a (.u), .a (.u), .a (.u), .a (.u), .a (.u), .a (.u), .a (.u), .a (.u), .a (.u), .a (.u), .a (.u), .a (.u), .a (.u), .a (.u), .a (.u), .a (.u), .a (.u), .a (.u), .a (.u), .a (.u), .a (.u)], [.sl (.came b_a0) n_a0 a0 61], []⟩ : St) ([.a (.i .i64 (z0_1)), .a (.i .i64 (z0_4)), .a (.i .i64 (z0_5))], [])) = (some (.a (.i .i64 (z0_4)), .none, true)) := by kernel_rfl
  refine h.trans ?_
  rfl

noncomputable def laws_heldBounds_k0_1 (P : Program) (N : Nat) (a1 : Int) (b_a0 : Option (Option Addr)) (n_a0 : Nat) (a0 : Array Value) (z0_1 : Int) (z0_4 : Int) (z0_5 : Int) : Option (SV × Eff × Bool) := some (.a (.i .i64 (z0_1)), .none, true)

theorem laws_heldBounds_k0_1_eq (N : Nat) (a1 : Int) (b_a0 : Option (Option Addr)) (n_a0 : Nat) (a0 : Array Value) (z0_1 : Int) (z0_4 : Int) (z0_5 : Int) : (kBlock 0 (kSeq (veC Try.prog (mkΓ []) N (cAt (codeOf Try.f22) [1, 1]) (pAt (mkPlan (codeOf Try.f22) [([1, 4, 5], []), ([1, 4, 6], [])]).1 [1, 1]) (SV × Eff × Bool)) (finK Try.prog [.sl (.came b_a0) n_a0 a0 61] [.tmp 4]))) (.exit 0) (left (writes (cAt (codeOf Try.f22) [1, 0, 1, 0, 0])) [1, 4, 5] [] (⟨[.a (.l 0), .a (.i .i64 (a1)), .a (.u), .a (.u), .a (.i .i64 (0 : Int)), .a (.i .i64 (0 : Int)), .a (.u), .a (.u), .a (.u), .a (.u), .a (.u), .a (.u), .a (.u), .a (.u), .a (.u), .a (.u), .a (.u), .a (.u), .a (.u), .a (.u), .a (.u), .a (.u), .a (.u), .a (.u), .a (.u), .a (.u), .a (.u), .a (.u)], [.sl (.came b_a0) n_a0 a0 61], []⟩ : St) ([.a (.i .i64 (z0_1)), .a (.i .i64 (z0_4)), .a (.i .i64 (z0_5))], [])) = laws_heldBounds_k0_1 Try.prog N a1 b_a0 n_a0 a0 z0_1 z0_4 z0_5 := by
  have h : (kBlock 0 (kSeq (veC Try.prog (mkΓ []) N (cAt (codeOf Try.f22) [1, 1]) (pAt (mkPlan (codeOf Try.f22) [([1, 4, 5], []), ([1, 4, 6], [])]).1 [1, 1]) (SV × Eff × Bool)) (finK Try.prog [.sl (.came b_a0) n_a0 a0 61] [.tmp 4]))) (.exit 0) (left (writes (cAt (codeOf Try.f22) [1, 0, 1, 0, 0])) [1, 4, 5] [] (⟨[.a (.l 0), .a (.i .i64 (a1)), .a (.u), .a (.u), .a (.i .i64 (0 : Int)), .a (.i .i64 (0 : Int)), .a (.u), .a (.u), .a (.u), .a (.u), .a (.u), .a (.u), .a (.u), .a (.u), .a (.u), .a (.u), .a (.u), .a (.u), .a (.u), .a (.u), .a (.u), .a (.u), .a (.u), .a (.u), .a (.u), .a (.u), .a (.u), .a (.u)], [.sl (.came b_a0) n_a0 a0 61], []⟩ : St) ([.a (.i .i64 (z0_1)), .a (.i .i64 (z0_4)), .a (.i .i64 (z0_5))], [])) = (some (.a (.i .i64 (z0_1)), .none, true)) := by kernel_rfl
  refine h.trans ?_
  rfl

theorem laws_heldBounds_n0 (N : Nat) (a1 : Int) (b_a0 : Option (Option Addr)) (n_a0 : Nat) (a0 : Array Value) : bindX (iterO (stepV Try.prog (mkΓ []) N (cAt (codeOf Try.f22) [1, 0, 1, 0, 0]) (pAt (mkPlan (codeOf Try.f22) [([1, 4, 5], []), ([1, 4, 6], [])]).1 [1, 0, 1, 0]) [1, 4, 5] [] (⟨[.a (.l 0), .a (.i .i64 (a1)), .a (.u), .a (.u), .a (.i .i64 (0 : Int)), .a (.i .i64 (0 : Int)), .a (.u), .a (.u), .a (.u), .a (.u), .a (.u), .a (.u), .a (.u), .a (.u), .a (.u), .a (.u), .a (.u), .a (.u), .a (.u), .a (.u), .a (.u), .a (.u), .a (.u), .a (.u), .a (.u), .a (.u), .a (.u), .a (.u)], [.sl (.came b_a0) n_a0 a0 61], []⟩ : St)) N ([.a (.i .i64 (a1)), .a (.i .i64 (0 : Int)), .a (.i .i64 (0 : Int))], [])) (fun e s => (kBlock 0 (kSeq (veC Try.prog (mkΓ []) N (cAt (codeOf Try.f22) [1, 1]) (pAt (mkPlan (codeOf Try.f22) [([1, 4, 5], []), ([1, 4, 6], [])]).1 [1, 1]) (SV × Eff × Bool)) (finK Try.prog [.sl (.came b_a0) n_a0 a0 61] [.tmp 4]))) e (left (writes (cAt (codeOf Try.f22) [1, 0, 1, 0, 0])) [1, 4, 5] [] (⟨[.a (.l 0), .a (.i .i64 (a1)), .a (.u), .a (.u), .a (.i .i64 (0 : Int)), .a (.i .i64 (0 : Int)), .a (.u), .a (.u), .a (.u), .a (.u), .a (.u), .a (.u), .a (.u), .a (.u), .a (.u), .a (.u), .a (.u), .a (.u), .a (.u), .a (.u), .a (.u), .a (.u), .a (.u), .a (.u), .a (.u), .a (.u), .a (.u), .a (.u)], [.sl (.came b_a0) n_a0 a0 61], []⟩ : St) s)) = nodeX (iterO (laws_heldBounds_g0 Try.prog N a1 b_a0 n_a0 a0) N (a1, (0 : Int), (0 : Int))) (st2 (fun x => laws_heldBounds_k0_0 Try.prog N a1 b_a0 n_a0 a0 x.1 x.2.1 x.2.2) (fun x => laws_heldBounds_k0_1 Try.prog N a1 b_a0 n_a0 a0 x.1 x.2.1 x.2.2)) := by
  refine loop_node laws_heldBounds_e0 laws_heldBounds_x0 _ _ (laws_heldBounds_s0 N a1 b_a0 n_a0 a0) N (a1, (0 : Int), (0 : Int)) _ _ ?_
  intro x
  cases x with
  | more x => exact laws_heldBounds_k0_0_eq N a1 b_a0 n_a0 a0 x.1 x.2.1 x.2.2
  | done x => exact laws_heldBounds_k0_1_eq N a1 b_a0 n_a0 a0 x.1 x.2.1 x.2.2

theorem laws_heldBounds_ans (N : Nat) (a1 : Int) (b_a0 : Option (Option Addr)) (n_a0 : Nat) (a0 : Array Value) : ansV Try.prog (mkΓ []) N Try.f22 [([1, 4, 5], []), ([1, 4, 6], [])] [.l 0, .i .i64 (a1)] [.sl (.came b_a0) n_a0 a0 61] = (nodeX (iterO (laws_heldBounds_g0 Try.prog N a1 b_a0 n_a0 a0) N (a1, (0 : Int), (0 : Int))) (st2 (fun x => laws_heldBounds_k0_0 Try.prog N a1 b_a0 n_a0 a0 x.1 x.2.1 x.2.2) (fun x => laws_heldBounds_k0_1 Try.prog N a1 b_a0 n_a0 a0 x.1 x.2.1 x.2.2))) := by
  have h : ansV Try.prog (mkΓ []) N Try.f22 [([1, 4, 5], []), ([1, 4, 6], [])] [.l 0, .i .i64 (a1)] [.sl (.came b_a0) n_a0 a0 61] = (bindX (iterO (stepV Try.prog (mkΓ []) N (cAt (codeOf Try.f22) [1, 0, 1, 0, 0]) (pAt (mkPlan (codeOf Try.f22) [([1, 4, 5], []), ([1, 4, 6], [])]).1 [1, 0, 1, 0]) [1, 4, 5] [] (⟨[.a (.l 0), .a (.i .i64 (a1)), .a (.u), .a (.u), .a (.i .i64 (0 : Int)), .a (.i .i64 (0 : Int)), .a (.u), .a (.u), .a (.u), .a (.u), .a (.u), .a (.u), .a (.u), .a (.u), .a (.u), .a (.u), .a (.u), .a (.u), .a (.u), .a (.u), .a (.u), .a (.u), .a (.u), .a (.u), .a (.u), .a (.u), .a (.u), .a (.u)], [.sl (.came b_a0) n_a0 a0 61], []⟩ : St)) N ([.a (.i .i64 (a1)), .a (.i .i64 (0 : Int)), .a (.i .i64 (0 : Int))], [])) (fun e s => (kBlock 0 (kSeq (veC Try.prog (mkΓ []) N (cAt (codeOf Try.f22) [1, 1]) (pAt (mkPlan (codeOf Try.f22) [([1, 4, 5], []), ([1, 4, 6], [])]).1 [1, 1]) (SV × Eff × Bool)) (finK Try.prog [.sl (.came b_a0) n_a0 a0 61] [.tmp 4]))) e (left (writes (cAt (codeOf Try.f22) [1, 0, 1, 0, 0])) [1, 4, 5] [] (⟨[.a (.l 0), .a (.i .i64 (a1)), .a (.u), .a (.u), .a (.i .i64 (0 : Int)), .a (.i .i64 (0 : Int)), .a (.u), .a (.u), .a (.u), .a (.u), .a (.u), .a (.u), .a (.u), .a (.u), .a (.u), .a (.u), .a (.u), .a (.u), .a (.u), .a (.u), .a (.u), .a (.u), .a (.u), .a (.u), .a (.u), .a (.u), .a (.u), .a (.u)], [.sl (.came b_a0) n_a0 a0 61], []⟩ : St) s))) := by kernel_rfl
  refine h.trans ?_
  simp only [laws_heldBounds_n0 N a1 b_a0 n_a0 a0]

theorem laws_heldBounds_main (a1 : Int) (b_a0 : Option (Option Addr)) (n_a0 : Nat) (a0 : Array Value) (h_a1 : IntKind.i64.min ≤ a1 ∧ a1 ≤ IntKind.i64.max) (h_a0 : a0.size = n_a0 * (lay Try.prog 61).length ∧ (∀ k, k < n_a0 → WT Try.prog 61 (a0.extract (k * (lay Try.prog 61).length) (k * (lay Try.prog 61).length + (lay Try.prog 61).length))) ∧ n_a0 ≤ 9223372036854775807) (hg : (((Nat.ble n_a0 100000) && ((decide (0 ≤ a1) && decide (a1 ≤ 1000000)) && sameB a0 (mkA (n_a0 * 36) a1)))) = true) : ansV Try.prog (mkΓ []) 18446744073709551616 Try.f22 [([1, 4, 5], []), ([1, 4, 6], [])] [.l 0, .i .i64 (a1)] [.sl (.came b_a0) n_a0 a0 61] = some (.a (.i .i64 (a1 + ((n_a0 * 36 : Nat) : Int))), .none, true) := by
  rw [Bool.and_eq_true, Bool.and_eq_true, Bool.and_eq_true] at hg
  have hn : n_a0 ≤ 100000 := Nat.le_of_ble_eq_true hg.1
  have hk0 : 0 ≤ a1 ∧ a1 ≤ 1000000 := ⟨of_decide_eq_true hg.2.1.1, of_decide_eq_true hg.2.1.2⟩
  have hA := sameB_iff.1 hg.2.2
  have hnum : ∀ i, i < n_a0 * 36 → (num a0 i != a1 + (i : Int)) = false := fun i hi => by rw [hA, mkA_num hi]; exact bne_self_eq_false _
  have hin : ∀ i, i < n_a0 → ∀ (y1 y4 z : Int), iterO (laws_heldBounds_g1 Try.prog a1 b_a0 n_a0 a0 y1 y4 (i : Int)) 18446744073709551616 (a1 + ((i * 36 : Nat) : Int), z, (0 : Int)) = some (.done (a1 + (((i + 1) * 36 : Nat) : Int), z, (36 : Int))) := by
    intro i hi y1 y4 z
    have hle : (i + 1) * 36 ≤ n_a0 * 36 := Nat.mul_le_mul_right _ hi
    have h := iter_all (g := laws_heldBounds_g1 Try.prog a1 b_a0 n_a0 a0 y1 y4 (i : Int)) (fun j => (a1 + ((i * 36 + j : Nat) : Int), z, (j : Int))) (m := 36) (x := .done (a1 + ((i * 36 + 36 : Nat) : Int), z, (36 : Int))) (N := 18446744073709551616) (fun j hj => by
      have h1 : decide ((j : Int) < 36) = true := decide_eq_true (by omega)
      have h2 : decide (0 ≤ (j : Int)) = true := decide_eq_true (by omega)
      have h3 : (decide (0 ≤ (i : Int)) && decide ((i : Int) < (n_a0 : Int))) = true := by rw [decide_eq_true (by omega), decide_eq_true (by omega)]; rfl
      have h4 : IntKind.i64.wrap (a1 + ((i * 36 + j : Nat) : Int) + 1) = a1 + ((i * 36 + (j + 1) : Nat) : Int) := by rw [IntWalk.i64_in _ (by omega)]; omega
      have h5 : IntKind.i64.wrap ((j : Int) + 1) = ((j + 1 : Nat) : Int) := by rw [IntWalk.i64_in _ (by omega)]; omega
      have h6 := hnum (i * 36 + j * 1) (by omega)
      rw [Nat.mul_one] at h6
      simp only [laws_heldBounds_g1, h1, h2, h3, h4, h5, h6, Int.toNat_natCast, Bool.and_self, cond_true, cond_false, Nat.mul_one]) (by
      have h1 : decide (((36 : Nat) : Int) < 36) = false := by decide
      simp only [laws_heldBounds_g1, h1, cond_false]
      rfl) (by omega)
    rw [show (i + 1) * 36 = i * 36 + 36 by omega]
    exact h
  have h := iter_all (g := laws_heldBounds_g0 Try.prog 18446744073709551616 a1 b_a0 n_a0 a0) (fun i => (a1 + ((i * 36 : Nat) : Int), (0 : Int), (i : Int))) (m := n_a0) (x := .done (a1 + ((n_a0 * 36 : Nat) : Int), (0 : Int), (n_a0 : Int))) (N := 18446744073709551616) (fun i hi => by
    have h1 : decide ((i : Int) < (n_a0 : Int)) = true := decide_eq_true (by omega)
    have h5 : IntKind.i64.wrap ((i : Int) + 1) = ((i + 1 : Nat) : Int) := by rw [IntWalk.i64_in _ (by omega)]; omega
    simp only [laws_heldBounds_g0, h1, cond_true, hin i hi, nodeX, st2, laws_heldBounds_k1_1, h5]) (by
    have h1 : decide ((n_a0 : Int) < (n_a0 : Int)) = false := decide_eq_false (by omega)
    simp only [laws_heldBounds_g0, h1, cond_false]) (by omega)
  refine (laws_heldBounds_ans 18446744073709551616 a1 b_a0 n_a0 a0).trans ?_
  have h' : iterO (laws_heldBounds_g0 Try.prog 18446744073709551616 a1 b_a0 n_a0 a0) 18446744073709551616 (a1, (0 : Int), (0 : Int)) = some (.done (a1 + ((n_a0 * 36 : Nat) : Int), (0 : Int), (n_a0 : Int))) := by
    have h2 := h
    have e : a1 + ((0 * 36 : Nat) : Int) = a1 := by omega
    simp only [e] at h2
    exact h2
  rw [h']
  rfl
noncomputable def laws_heldBounds_con : Con := fun args h => match args, h with
  | [.l 0, .i .i64 a1], [.sl (.came b_a0) n_a0 a0 61] => some (.a (.i .i64 (a1 + ((n_a0 * 36 : Nat) : Int))), .none, ((Nat.ble n_a0 100000) && ((decide (0 ≤ a1) && decide (a1 ≤ 1000000)) && sameB a0 (mkA (n_a0 * 36) a1))))
  | _, _ => none
theorem laws_heldBounds_enter : ∀ args w, (callFunc 22 args).run Try.prog w = .ok (.enter 22 args) w := enter_ok (fn := Try.f22) (by kernel_rfl) (by kernel_rfl) (by kernel_rfl)
theorem laws_heldBounds_ok : ConOk Try.prog 22 laws_heldBounds_con := (ans_ok (N := 18446744073709551616) (by kernel_rfl) mkΓ_nil (fn := Try.f22) (by kernel_rfl) (by kernel_rfl) [([1, 4, 5], []), ([1, 4, 6], [])]).of (by
  intro ρ h w args vals r e hA hH hr
  unfold laws_heldBounds_con at hr
  split at hr
  · rename_i a1 b_a0 n_a0 a0
    obtain ⟨rfl, hg⟩ := Prod.mk.inj (Option.some.inj hr)
    obtain ⟨rfl, hg2⟩ := Prod.mk.inj hg
    exact laws_heldBounds_main a1 b_a0 n_a0 a0 (hA.rng 1 rfl) (hH.slw 0 rfl) hg2
  · cases hr)

noncomputable def laws_markInt64S_e0 (n_a0 : Nat) : Int × Int × Array Value → LS
  | (y0_1, y0_5, r0_0) => ([.a (.i .i64 (y0_1)), .a (.i .i64 (y0_5))], [.sl .lent n_a0 r0_0 2])

noncomputable def laws_markInt64S_x0 (n_a0 : Nat) : Int × Int × Array Value → Exit × LS
  | t => ((.exit 0), (laws_markInt64S_e0 n_a0) t)

noncomputable def laws_markInt64S_g0 (P : Program) (a1 : Int) (n_a0 : Nat) (a0 : Array Value) : Int × Int × Array Value → Option (Stp (Int × Int × Array Value) (Int × Int × Array Value))
  | (y0_1, y0_5, r0_0) => bif decide (y0_5 < (n_a0 : Int)) then (bif (decide (0 ≤ y0_5) && decide (y0_5 < (n_a0 : Int))) then (some (.more ((IntKind.i64.wrap (y0_1 + (1 : Int))), (IntKind.i64.wrap (y0_5 + (1 : Int))), (r0_0.setIfInBounds ((y0_5).toNat * 1) (.int .i64 (y0_1))))))
      else (none))
    else (some (.done (y0_1, y0_5, r0_0)))

theorem laws_markInt64S_s0 (N : Nat) (a1 : Int) (n_a0 : Nat) (a0 : Array Value) : ∀ t : Int × Int × Array Value, stepV Try.prog (mkΓ []) N (cAt (codeOf Try.f31) [1, 0, 1, 0, 0]) (pAt (mkPlan (codeOf Try.f31) [([1, 5], [0])]).1 [1, 0, 1, 0]) [1, 5] [0] (⟨[.a (.l 0), .a (.i .i64 (a1)), .a (.u), .a (.u), .a (.i .i64 (0 : Int)), .a (.i .i64 (0 : Int)), .a (.u), .a (.u), .a (.u), .a (.u), .a (.u), .a (.u), .a (.u), .a (.u), .a (.u), .a (.u), .a (.u), .a (.u), .a (.u)], [.sl .lent n_a0 a0 2], []⟩ : St) ((laws_markInt64S_e0 n_a0) t) = mapS (laws_markInt64S_e0 n_a0) (laws_markInt64S_x0 n_a0) (laws_markInt64S_g0 Try.prog a1 n_a0 a0 t) := by
  rintro ⟨y0_1, y0_5, r0_0⟩
  have h : stepV Try.prog (mkΓ []) N (cAt (codeOf Try.f31) [1, 0, 1, 0, 0]) (pAt (mkPlan (codeOf Try.f31) [([1, 5], [0])]).1 [1, 0, 1, 0]) [1, 5] [0] (⟨[.a (.l 0), .a (.i .i64 (a1)), .a (.u), .a (.u), .a (.i .i64 (0 : Int)), .a (.i .i64 (0 : Int)), .a (.u), .a (.u), .a (.u), .a (.u), .a (.u), .a (.u), .a (.u), .a (.u), .a (.u), .a (.u), .a (.u), .a (.u), .a (.u)], [.sl .lent n_a0 a0 2], []⟩ : St) ([.a (.i .i64 (y0_1)), .a (.i .i64 (y0_5))], [.sl .lent n_a0 r0_0 2]) = (bif decide (y0_5 < (n_a0 : Int)) then (bif (decide (0 ≤ y0_5) && decide (y0_5 < (n_a0 : Int))) then (some (.more ([.a (.i .i64 (IntKind.i64.wrap (y0_1 + (1 : Int)))), .a (.i .i64 (IntKind.i64.wrap (y0_5 + (1 : Int))))], [.sl .lent n_a0 (r0_0.setIfInBounds ((y0_5).toNat * 1) (.int .i64 (y0_1))) 2])))
      else (none))
    else (some (.done ((.exit 0), ([.a (.i .i64 (y0_1)), .a (.i .i64 (y0_5))], [.sl .lent n_a0 r0_0 2]))))) := by kernel_rfl
  refine h.trans ?_
  simp only [laws_markInt64S_g0, mapS_cond, mapS_more, mapS_done, mapS_none, laws_markInt64S_e0, laws_markInt64S_x0]

noncomputable def laws_markInt64S_k0_0 (P : Program) (N : Nat) (a1 : Int) (n_a0 : Nat) (a0 : Array Value) (z0_1 : Int) (z0_5 : Int) (q0_0 : Array Value) : Option (SV × Eff × Bool) := bif (Nat.blt 0 n_a0) then (some (.a (.i .i64 (z0_1)), .set 0 (.sl .lent n_a0 q0_0 2), true))
    else (none)

theorem laws_markInt64S_k0_0_eq (N : Nat) (a1 : Int) (n_a0 : Nat) (a0 : Array Value) (z0_1 : Int) (z0_5 : Int) (q0_0 : Array Value) : (kBlock 0 (kSeq (veC Try.prog (mkΓ []) N (cAt (codeOf Try.f31) [1, 1]) (pAt (mkPlan (codeOf Try.f31) [([1, 5], [0])]).1 [1, 1]) (SV × Eff × Bool)) (finK Try.prog [.sl .lent n_a0 a0 2] [.tmp 4]))) (.exit 0) (left (writes (cAt (codeOf Try.f31) [1, 0, 1, 0, 0])) [1, 5] [0] (⟨[.a (.l 0), .a (.i .i64 (a1)), .a (.u), .a (.u), .a (.i .i64 (0 : Int)), .a (.i .i64 (0 : Int)), .a (.u), .a (.u), .a (.u), .a (.u), .a (.u), .a (.u), .a (.u), .a (.u), .a (.u), .a (.u), .a (.u), .a (.u), .a (.u)], [.sl .lent n_a0 a0 2], []⟩ : St) ([.a (.i .i64 (z0_1)), .a (.i .i64 (z0_5))], [.sl .lent n_a0 q0_0 2])) = laws_markInt64S_k0_0 Try.prog N a1 n_a0 a0 z0_1 z0_5 q0_0 := by
  have h : (kBlock 0 (kSeq (veC Try.prog (mkΓ []) N (cAt (codeOf Try.f31) [1, 1]) (pAt (mkPlan (codeOf Try.f31) [([1, 5], [0])]).1 [1, 1]) (SV × Eff × Bool)) (finK Try.prog [.sl .lent n_a0 a0 2] [.tmp 4]))) (.exit 0) (left (writes (cAt (codeOf Try.f31) [1, 0, 1, 0, 0])) [1, 5] [0] (⟨[.a (.l 0), .a (.i .i64 (a1)), .a (.u), .a (.u), .a (.i .i64 (0 : Int)), .a (.i .i64 (0 : Int)), .a (.u), .a (.u), .a (.u), .a (.u), .a (.u), .a (.u), .a (.u), .a (.u), .a (.u), .a (.u), .a (.u), .a (.u), .a (.u)], [.sl .lent n_a0 a0 2], []⟩ : St) ([.a (.i .i64 (z0_1)), .a (.i .i64 (z0_5))], [.sl .lent n_a0 q0_0 2])) = (bif (Nat.blt 0 n_a0) then (some (.a (.i .i64 (z0_1)), .set 0 (.sl .lent n_a0 q0_0 2), true))
    else (none)) := by kernel_rfl
  refine h.trans ?_
  rfl

theorem laws_markInt64S_n0 (N : Nat) (a1 : Int) (n_a0 : Nat) (a0 : Array Value) : bindX (iterO (stepV Try.prog (mkΓ []) N (cAt (codeOf Try.f31) [1, 0, 1, 0, 0]) (pAt (mkPlan (codeOf Try.f31) [([1, 5], [0])]).1 [1, 0, 1, 0]) [1, 5] [0] (⟨[.a (.l 0), .a (.i .i64 (a1)), .a (.u), .a (.u), .a (.i .i64 (0 : Int)), .a (.i .i64 (0 : Int)), .a (.u), .a (.u), .a (.u), .a (.u), .a (.u), .a (.u), .a (.u), .a (.u), .a (.u), .a (.u), .a (.u), .a (.u), .a (.u)], [.sl .lent n_a0 a0 2], []⟩ : St)) N ([.a (.i .i64 (a1)), .a (.i .i64 (0 : Int))], [.sl .lent n_a0 a0 2])) (fun e s => (kBlock 0 (kSeq (veC Try.prog (mkΓ []) N (cAt (codeOf Try.f31) [1, 1]) (pAt (mkPlan (codeOf Try.f31) [([1, 5], [0])]).1 [1, 1]) (SV × Eff × Bool)) (finK Try.prog [.sl .lent n_a0 a0 2] [.tmp 4]))) e (left (writes (cAt (codeOf Try.f31) [1, 0, 1, 0, 0])) [1, 5] [0] (⟨[.a (.l 0), .a (.i .i64 (a1)), .a (.u), .a (.u), .a (.i .i64 (0 : Int)), .a (.i .i64 (0 : Int)), .a (.u), .a (.u), .a (.u), .a (.u), .a (.u), .a (.u), .a (.u), .a (.u), .a (.u), .a (.u), .a (.u), .a (.u), .a (.u)], [.sl .lent n_a0 a0 2], []⟩ : St) s)) = nodeX (iterO (laws_markInt64S_g0 Try.prog a1 n_a0 a0) N (a1, (0 : Int), a0)) (fun x => laws_markInt64S_k0_0 Try.prog N a1 n_a0 a0 x.1 x.2.1 x.2.2) := by
  refine loop_node (laws_markInt64S_e0 n_a0) (laws_markInt64S_x0 n_a0) _ _ (laws_markInt64S_s0 N a1 n_a0 a0) N (a1, (0 : Int), a0) _ _ ?_
  intro x; exact laws_markInt64S_k0_0_eq N a1 n_a0 a0 x.1 x.2.1 x.2.2

theorem laws_markInt64S_ans (N : Nat) (a1 : Int) (n_a0 : Nat) (a0 : Array Value) : ansV Try.prog (mkΓ []) N Try.f31 [([1, 5], [0])] [.l 0, .i .i64 (a1)] [.sl .lent n_a0 a0 2] = (nodeX (iterO (laws_markInt64S_g0 Try.prog a1 n_a0 a0) N (a1, (0 : Int), a0)) (fun x => laws_markInt64S_k0_0 Try.prog N a1 n_a0 a0 x.1 x.2.1 x.2.2)) := by
  have h : ansV Try.prog (mkΓ []) N Try.f31 [([1, 5], [0])] [.l 0, .i .i64 (a1)] [.sl .lent n_a0 a0 2] = (bindX (iterO (stepV Try.prog (mkΓ []) N (cAt (codeOf Try.f31) [1, 0, 1, 0, 0]) (pAt (mkPlan (codeOf Try.f31) [([1, 5], [0])]).1 [1, 0, 1, 0]) [1, 5] [0] (⟨[.a (.l 0), .a (.i .i64 (a1)), .a (.u), .a (.u), .a (.i .i64 (0 : Int)), .a (.i .i64 (0 : Int)), .a (.u), .a (.u), .a (.u), .a (.u), .a (.u), .a (.u), .a (.u), .a (.u), .a (.u), .a (.u), .a (.u), .a (.u), .a (.u)], [.sl .lent n_a0 a0 2], []⟩ : St)) N ([.a (.i .i64 (a1)), .a (.i .i64 (0 : Int))], [.sl .lent n_a0 a0 2])) (fun e s => (kBlock 0 (kSeq (veC Try.prog (mkΓ []) N (cAt (codeOf Try.f31) [1, 1]) (pAt (mkPlan (codeOf Try.f31) [([1, 5], [0])]).1 [1, 1]) (SV × Eff × Bool)) (finK Try.prog [.sl .lent n_a0 a0 2] [.tmp 4]))) e (left (writes (cAt (codeOf Try.f31) [1, 0, 1, 0, 0])) [1, 5] [0] (⟨[.a (.l 0), .a (.i .i64 (a1)), .a (.u), .a (.u), .a (.i .i64 (0 : Int)), .a (.i .i64 (0 : Int)), .a (.u), .a (.u), .a (.u), .a (.u), .a (.u), .a (.u), .a (.u), .a (.u), .a (.u), .a (.u), .a (.u), .a (.u), .a (.u)], [.sl .lent n_a0 a0 2], []⟩ : St) s))) := by kernel_rfl
  refine h.trans ?_
  simp only [laws_markInt64S_n0 N a1 n_a0 a0]

theorem laws_markInt64S_main0 (a1 : Int) (n_a0 : Nat) (a0 : Array Value) (h_a1 : IntKind.i64.min ≤ a1 ∧ a1 ≤ IntKind.i64.max) (h_a0 : a0.size = n_a0 * (lay Try.prog 2).length ∧ (∀ k, k < n_a0 → WT Try.prog 2 (a0.extract (k * (lay Try.prog 2).length) (k * (lay Try.prog 2).length + (lay Try.prog 2).length))) ∧ n_a0 ≤ 9223372036854775807) (hc0 : (Nat.beq n_a0 0) = false) (hg : (((Nat.ble n_a0 100000) && (decide (0 ≤ a1) && decide (a1 ≤ 1000000)))) = true) : ansV Try.prog (mkΓ []) 18446744073709551616 Try.f31 [([1, 5], [0])] [.l 0, .i .i64 (a1)] [.sl .lent n_a0 a0 2] = some (.a (.i .i64 (a1 + ((n_a0 * 1 : Nat) : Int))), .set 0 (.sl .lent n_a0 (mkA (n_a0 * 1) a1) 2), true) := by
  rw [Bool.and_eq_true, Bool.and_eq_true] at hg
  have hn : n_a0 ≤ 100000 := Nat.le_of_ble_eq_true hg.1
  have hk0 : 0 ≤ a1 ∧ a1 ≤ 1000000 := ⟨of_decide_eq_true hg.2.1, of_decide_eq_true hg.2.2⟩
  have hm : (lay Try.prog 2).length = 1 := by kernel_rfl
  obtain ⟨s1, -, -⟩ := h_a0
  rw [hm] at s1
  have hs : (mkA (n_a0 * 1) a1).size = a0.size := by rw [mkA_size, s1]
  have hpos : Nat.blt 0 n_a0 = true := by
    have : n_a0 ≠ 0 := fun h => by rw [h] at hc0; cases hc0
    simp [Nat.blt]; omega
  have h := iter_all (g := laws_markInt64S_g0 Try.prog a1 n_a0 a0) (fun i => (a1 + ((i * 1 : Nat) : Int), (i : Int), upto (mkA (n_a0 * 1) a1) a0 (i * 1))) (m := n_a0) (x := (a1 + ((n_a0 * 1 : Nat) : Int), (n_a0 : Int), upto (mkA (n_a0 * 1) a1) a0 (n_a0 * 1))) (N := 18446744073709551616) (fun i hi => by
    have h1 : decide ((i : Int) < (n_a0 : Int)) = true := decide_eq_true (by omega)
    have h2 : decide (0 ≤ (i : Int)) = true := decide_eq_true (by omega)
    have h4 : IntKind.i64.wrap (a1 + ((i * 1 : Nat) : Int) + 1) = a1 + (((i + 1) * 1 : Nat) : Int) := by rw [IntWalk.i64_in _ (by omega)]; omega
    have h5 : IntKind.i64.wrap ((i : Int) + 1) = ((i + 1 : Nat) : Int) := by rw [IntWalk.i64_in _ (by omega)]; omega
    have h6 : (upto (mkA (n_a0 * 1) a1) a0 (i * 1)).setIfInBounds (i * 1) (.int .i64 (a1 + ((i * 1 : Nat) : Int))) = upto (mkA (n_a0 * 1) a1) a0 ((i + 1) * 1) := by
      rw [show (i + 1) * 1 = i * 1 + 1 by omega]
      exact upto_set hs (mkA_at (by omega))
    simp only [laws_markInt64S_g0, h1, h2, h4, h5, h6, Int.toNat_natCast, Bool.and_self, cond_true]) (by
    have h1 : decide ((n_a0 : Int) < (n_a0 : Int)) = false := decide_eq_false (by omega)
    simp only [laws_markInt64S_g0, h1, cond_false]) (by omega)
  refine (laws_markInt64S_ans 18446744073709551616 a1 n_a0 a0).trans ?_
  have hz : upto (mkA (n_a0 * 1) a1) a0 0 = a0 := upto_zero hs
  have hl : upto (mkA (n_a0 * 1) a1) a0 (n_a0 * 1) = mkA (n_a0 * 1) a1 := upto_all hs (mkA_size _ _)
  have h0 : a1 + (((0 * 1 : Nat)) : Int) = a1 := by omega
  have h' : iterO (laws_markInt64S_g0 Try.prog a1 n_a0 a0) 18446744073709551616 (a1, (0 : Int), a0) = some (a1 + ((n_a0 * 1 : Nat) : Int), (n_a0 : Int), mkA (n_a0 * 1) a1) := by
    have h2 := h
    simp only [Nat.zero_mul, hz, hl] at h2
    have e : a1 + ((0 : Nat) : Int) = a1 := by omega
    rw [e] at h2
    exact h2
  rw [h']
  simp only [nodeX, laws_markInt64S_k0_0, hpos, cond_true]
theorem laws_markInt64S_main1 (a1 : Int) (n_a0 : Nat) (a0 : Array Value) (h_a1 : IntKind.i64.min ≤ a1 ∧ a1 ≤ IntKind.i64.max) (h_a0 : a0.size = n_a0 * (lay Try.prog 2).length ∧ (∀ k, k < n_a0 → WT Try.prog 2 (a0.extract (k * (lay Try.prog 2).length) (k * (lay Try.prog 2).length + (lay Try.prog 2).length))) ∧ n_a0 ≤ 9223372036854775807) (hc0 : (Nat.beq n_a0 0) = true) (hg : (true) = true) : ansV Try.prog (mkΓ []) 1000 Try.f31 [([1, 5], [])] [.l 0, .i .i64 (a1)] [.sl .lent n_a0 a0 2] = some (.a (.i .i64 (a1)), .none, true) := by
  obtain rfl : n_a0 = 0 := Nat.eq_of_beq_eq_true hc0
  kernel_rfl
noncomputable def laws_markInt64S_scon : SCon := fun args h => match args, h with
  | [.l 0, .i .i64 a1], [.sl .lent n_a0 a0 2] => .two (Nat.beq n_a0 0) (.one (some (.a (.i .i64 (a1)), .none, true))) (.one (some (.a (.i .i64 (a1 + ((n_a0 * 1 : Nat) : Int))), .set 0 (.sl .lent n_a0 (mkA (n_a0 * 1) a1) 2), ((Nat.ble n_a0 100000) && (decide (0 ≤ a1) && decide (a1 ≤ 1000000))))))
  | _, _ => .one none
theorem laws_markInt64S_enter : ∀ args w, (callFunc 31 args).run Try.prog w = .ok (.enter 31 args) w := enter_ok (fn := Try.f31) (by kernel_rfl) (by kernel_rfl) (by kernel_rfl)
theorem laws_markInt64S_sok : ConOk Try.prog 31 (fun args h => wayRes (laws_markInt64S_scon args h)) := by
  intro ρ h w args vals r e hn hr hA hH
  dsimp only at hr
  unfold laws_markInt64S_scon at hr
  split at hr
  · rename_i a1 n_a0 a0
    simp only [wayRes] at hr
    cases hc0 : (Nat.beq n_a0 0)
    · rw [hc0] at hr
      simp only [wayRes, cond_true, cond_false] at hr
      obtain ⟨rfl, hg⟩ := Prod.mk.inj (Option.some.inj hr)
      obtain ⟨rfl, hg2⟩ := Prod.mk.inj hg
      exact ((ans_ok (N := 18446744073709551616) (by kernel_rfl) mkΓ_nil (fn := Try.f31) (by kernel_rfl) (by kernel_rfl) [([1, 5], [0])])) ρ _ w _ vals _ _ hn ((laws_markInt64S_main0 a1 n_a0 a0 (hA.rng 1 rfl) (hH.slw 0 rfl) hc0 hg2)) hA hH
    · rw [hc0] at hr
      simp only [wayRes, cond_true, cond_false] at hr
      obtain ⟨rfl, hg⟩ := Prod.mk.inj (Option.some.inj hr)
      obtain ⟨rfl, hg2⟩ := Prod.mk.inj hg
      exact ((ans_ok (N := 1000) (by kernel_rfl) mkΓ_nil (fn := Try.f31) (by kernel_rfl) (by kernel_rfl) [([1, 5], [])])) ρ _ w _ vals _ _ hn ((laws_markInt64S_main1 a1 n_a0 a0 (hA.rng 1 rfl) (hH.slw 0 rfl) hc0 hg2)) hA hH
  · simp only [wayRes] at hr
    cases hr

noncomputable def laws_heldInt64S_e0 : Int × Int × Int → LS
  | (y0_1, y0_4, y0_5) => ([.a (.i .i64 (y0_1)), .a (.i .i64 (y0_4)), .a (.i .i64 (y0_5))], [])

noncomputable def laws_heldInt64S_x0 : (Stp (Int × Int × Int) (Int × Int × Int)) → Exit × LS
  | .more t => (.ret, laws_heldInt64S_e0 t)
  | .done t => ((.exit 0), laws_heldInt64S_e0 t)

noncomputable def laws_heldInt64S_g0 (P : Program) (a1 : Int) (b_a0 : Option (Option Addr)) (n_a0 : Nat) (a0 : Array Value) : Int × Int × Int → Option (Stp (Int × Int × Int) (Stp (Int × Int × Int) (Int × Int × Int)))
  | (y0_1, y0_4, y0_5) => bif decide (y0_5 < (n_a0 : Int)) then (bif (decide (0 ≤ y0_5) && decide (y0_5 < (n_a0 : Int))) then (bif ((num a0 ((y0_5).toNat * 1)) != y0_1) then (some (.done (.more (y0_1, (-1 : Int), y0_5))))
        else (some (.more ((IntKind.i64.wrap (y0_1 + (1 : Int))), y0_4, (IntKind.i64.wrap (y0_5 + (1 : Int)))))))
      else (none))
    else (some (.done (.done (y0_1, y0_4, y0_5))))

theorem laws_heldInt64S_s0 (N : Nat) (a1 : Int) (b_a0 : Option (Option Addr)) (n_a0 : Nat) (a0 : Array Value) : ∀ t : Int × Int × Int, stepV Try.prog (mkΓ []) N (cAt (codeOf Try.f32) [1, 0, 1, 0, 0]) (pAt (mkPlan (codeOf Try.f32) [([1, 4, 5], [])]).1 [1, 0, 1, 0]) [1, 4, 5] [] (⟨[.a (.l 0), .a (.i .i64 (a1)), .a (.u), .a (.u), .a (.i .i64 (0 : Int)), .a (.i .i64 (0 : Int)), .a (.u), .a (.u), .a (.u), .a (.u), .a (.u), .a (.u), .a (.u), .a (.u), .a (.u), .a (.u), .a (.u), .a (.u), .a (.u), .a (.u), .a (.u)], [.sl (.came b_a0) n_a0 a0 2], []⟩ : St) (laws_heldInt64S_e0 t) = mapS laws_heldInt64S_e0 laws_heldInt64S_x0 (laws_heldInt64S_g0 Try.prog a1 b_a0 n_a0 a0 t) := by
  rintro ⟨y0_1, y0_4, y0_5⟩
  have h : stepV Try.prog (mkΓ []) N (cAt (codeOf Try.f32) [1, 0, 1, 0, 0]) (pAt (mkPlan (codeOf Try.f32) [([1, 4, 5], [])]).1 [1, 0, 1, 0]) [1, 4, 5] [] (⟨[.a (.l 0), .a (.i .i64 (a1)), .a (.u), .a (.u), .a (.i .i64 (0 : Int)), .a (.i .i64 (0 : Int)), .a (.u), .a (.u), .a (.u), .a (.u), .a (.u), .a (.u), .a (.u), .a (.u), .a (.u), .a (.u), .a (.u), .a (.u), .a (.u), .a (.u), .a (.u)], [.sl (.came b_a0) n_a0 a0 2], []⟩ : St) ([.a (.i .i64 (y0_1)), .a (.i .i64 (y0_4)), .a (.i .i64 (y0_5))], []) = (bif decide (y0_5 < (n_a0 : Int)) then (bif (decide (0 ≤ y0_5) && decide (y0_5 < (n_a0 : Int))) then (bif ((num a0 ((y0_5).toNat * 1)) != y0_1) then (some (.done (.ret, ([.a (.i .i64 (y0_1)), .a (.i .i64 (-1 : Int)), .a (.i .i64 (y0_5))], []))))
        else (some (.more ([.a (.i .i64 (IntKind.i64.wrap (y0_1 + (1 : Int)))), .a (.i .i64 (y0_4)), .a (.i .i64 (IntKind.i64.wrap (y0_5 + (1 : Int))))], []))))
      else (none))
    else (some (.done ((.exit 0), ([.a (.i .i64 (y0_1)), .a (.i .i64 (y0_4)), .a (.i .i64 (y0_5))], []))))) := by kernel_rfl
  refine h.trans ?_
  simp only [laws_heldInt64S_g0, mapS_cond, mapS_more, mapS_done, mapS_none, laws_heldInt64S_e0, laws_heldInt64S_x0]

noncomputable def laws_heldInt64S_k0_0 (P : Program) (N : Nat) (a1 : Int) (b_a0 : Option (Option Addr)) (n_a0 : Nat) (a0 : Array Value) (z0_1 : Int) (z0_4 : Int) (z0_5 : Int) : Option (SV × Eff × Bool) := some (.a (.i .i64 (z0_4)), .none, true)

theorem laws_heldInt64S_k0_0_eq (N : Nat) (a1 : Int) (b_a0 : Option (Option Addr)) (n_a0 : Nat) (a0 : Array Value) (z0_1 : Int) (z0_4 : Int) (z0_5 : Int) : (kBlock 0 (kSeq (veC Try.prog (mkΓ []) N (cAt (codeOf Try.f32) [1, 1]) (pAt (mkPlan (codeOf Try.f32) [([1, 4, 5], [])]).1 [1, 1]) (SV × Eff × Bool)) (finK Try.prog [.sl (.came b_a0) n_a0 a0 2] [.tmp 4]))) .ret (left (writes (cAt (codeOf Try.f32) [1, 0, 1, 0, 0])) [1, 4, 5] [] (⟨[.a (.l 0), .a (.i .i64 (a1)), .a (.u), .a (.u), .a (.i .i64 (0 : Int)), .a (.i .i64 (0 : Int)), .a (.u), .a (.u), .a (.u), .a (.u), .a (.u), .a (.u), .a (.u), .a (.u), .a (.u), .a (.u), .a (.u), .a (.u), .a (.u), .a (.u), .a (.u)], [.sl (.came b_a0) n_a0 a0 2], []⟩ : St) ([.a (.i .i64 (z0_1)), .a (.i .i64 (z0_4)), .a (.i .i64 (z0_5))], [])) = laws_heldInt64S_k0_0 Try.prog N a1 b_a0 n_a0 a0 z0_1 z0_4 z0_5 := by
  have h : (kBlock 0 (kSeq (veC Try.prog (mkΓ []) N (cAt (codeOf Try.f32) [1, 1]) (pAt (mkPlan (codeOf Try.f32) [([1, 4, 5], [])]).1 [1, 1]) (SV × Eff × Bool)) (finK Try.prog [.sl (.came b_a0) n_a0 a0 2] [.tmp 4]))) .ret (left (writes (cAt (codeOf Try.f32) [1, 0, 1, 0, 0])) [1, 4, 5] [] (⟨[.a (.l 0), .a (.i .i64 (a1)), .a (.u), .a (.u), .a (.i .i64 (0 : Int)), .a (.i .i64 (0 : Int)), .a (.u), .a (.u), .a (.u), .a (.u), .a (.u), .a (.u), .a (.u), .a (.u), .a (.u), .a (.u), .a (.u), .a (.u), .a (.u), .a (.u), .a (.u)], [.sl (.came b_a0) n_a0 a0 2], []⟩ : St) ([.a (.i .i64 (z0_1)), .a (.i .i64 (z0_4)), .a (.i .i64 (z0_5))], [])) = (some (.a (.i .i64 (z0_4)), .none, true)) := by kernel_rfl
  refine h.trans ?_
  rfl

noncomputable def laws_heldInt64S_k0_1 (P : Program) (N : Nat) (a1 : Int) (b_a0 : Option (Option Addr)) (n_a0 : Nat) (a0 : Array Value) (z0_1 : Int) (z0_4 : Int) (z0_5 : Int) : Option (SV × Eff × Bool) := some (.a (.i .i64 (z0_1)), .none, true)

theorem laws_heldInt64S_k0_1_eq (N : Nat) (a1 : Int) (b_a0 : Option (Option Addr)) (n_a0 : Nat) (a0 : Array Value) (z0_1 : Int) (z0_4 : Int) (z0_5 : Int) : (kBlock 0 (kSeq (veC Try.prog (mkΓ []) N (cAt (codeOf Try.f32) [1, 1]) (pAt (mkPlan (codeOf Try.f32) [([1, 4, 5], [])]).1 [1, 1]) (SV × Eff × Bool)) (finK Try.prog [.sl (.came b_a0) n_a0 a0 2] [.tmp 4]))) (.exit 0) (left (writes (cAt (codeOf Try.f32) [1, 0, 1, 0, 0])) [1, 4, 5] [] (⟨[.a (.l 0), .a (.i .i64 (a1)), .a (.u), .a (.u), .a (.i .i64 (0 : Int)), .a (.i .i64 (0 : Int)), .a (.u), .a (.u), .a (.u), .a (.u), .a (.u), .a (.u), .a (.u), .a (.u), .a (.u), .a (.u), .a (.u), .a (.u), .a (.u), .a (.u), .a (.u)], [.sl (.came b_a0) n_a0 a0 2], []⟩ : St) ([.a (.i .i64 (z0_1)), .a (.i .i64 (z0_4)), .a (.i .i64 (z0_5))], [])) = laws_heldInt64S_k0_1 Try.prog N a1 b_a0 n_a0 a0 z0_1 z0_4 z0_5 := by
  have h : (kBlock 0 (kSeq (veC Try.prog (mkΓ []) N (cAt (codeOf Try.f32) [1, 1]) (pAt (mkPlan (codeOf Try.f32) [([1, 4, 5], [])]).1 [1, 1]) (SV × Eff × Bool)) (finK Try.prog [.sl (.came b_a0) n_a0 a0 2] [.tmp 4]))) (.exit 0) (left (writes (cAt (codeOf Try.f32) [1, 0, 1, 0, 0])) [1, 4, 5] [] (⟨[.a (.l 0), .a (.i .i64 (a1)), .a (.u), .a (.u), .a (.i .i64 (0 : Int)), .a (.i .i64 (0 : Int)), .a (.u), .a (.u), .a (.u), .a (.u), .a (.u), .a (.u), .a (.u), .a (.u), .a (.u), .a (.u), .a (.u), .a (.u), .a (.u), .a (.u), .a (.u)], [.sl (.came b_a0) n_a0 a0 2], []⟩ : St) ([.a (.i .i64 (z0_1)), .a (.i .i64 (z0_4)), .a (.i .i64 (z0_5))], [])) = (some (.a (.i .i64 (z0_1)), .none, true)) := by kernel_rfl
  refine h.trans ?_
  rfl

theorem laws_heldInt64S_n0 (N : Nat) (a1 : Int) (b_a0 : Option (Option Addr)) (n_a0 : Nat) (a0 : Array Value) : bindX (iterO (stepV Try.prog (mkΓ []) N (cAt (codeOf Try.f32) [1, 0, 1, 0, 0]) (pAt (mkPlan (codeOf Try.f32) [([1, 4, 5], [])]).1 [1, 0, 1, 0]) [1, 4, 5] [] (⟨[.a (.l 0), .a (.i .i64 (a1)), .a (.u), .a (.u), .a (.i .i64 (0 : Int)), .a (.i .i64 (0 : Int)), .a (.u), .a (.u), .a (.u), .a (.u), .a (.u), .a (.u), .a (.u), .a (.u), .a (.u), .a (.u), .a (.u), .a (.u), .a (.u), .a (.u), .a (.u)], [.sl (.came b_a0) n_a0 a0 2], []⟩ : St)) N ([.a (.i .i64 (a1)), .a (.i .i64 (0 : Int)), .a (.i .i64 (0 : Int))], [])) (fun e s => (kBlock 0 (kSeq (veC Try.prog (mkΓ []) N (cAt (codeOf Try.f32) [1, 1]) (pAt (mkPlan (codeOf Try.f32) [([1, 4, 5], [])]).1 [1, 1]) (SV × Eff × Bool)) (finK Try.prog [.sl (.came b_a0) n_a0 a0 2] [.tmp 4]))) e (left (writes (cAt (codeOf Try.f32) [1, 0, 1, 0, 0])) [1, 4, 5] [] (⟨[.a (.l 0), .a (.i .i64 (a1)), .a (.u), .a (.u), .a (.i .i64 (0 : Int)), .a (.i .i64 (0 : Int)), .a (.u), .a (.u), .a (.u), .a (.u), .a (.u), .a (.u), .a (.u), .a (.u), .a (.u), .a (.u), .a (.u), .a (.u), .a (.u), .a (.u), .a (.u)], [.sl (.came b_a0) n_a0 a0 2], []⟩ : St) s)) = nodeX (iterO (laws_heldInt64S_g0 Try.prog a1 b_a0 n_a0 a0) N (a1, (0 : Int), (0 : Int))) (st2 (fun x => laws_heldInt64S_k0_0 Try.prog N a1 b_a0 n_a0 a0 x.1 x.2.1 x.2.2) (fun x => laws_heldInt64S_k0_1 Try.prog N a1 b_a0 n_a0 a0 x.1 x.2.1 x.2.2)) := by
  refine loop_node laws_heldInt64S_e0 laws_heldInt64S_x0 _ _ (laws_heldInt64S_s0 N a1 b_a0 n_a0 a0) N (a1, (0 : Int), (0 : Int)) _ _ ?_
  intro x
  cases x with
  | more x => exact laws_heldInt64S_k0_0_eq N a1 b_a0 n_a0 a0 x.1 x.2.1 x.2.2
  | done x => exact laws_heldInt64S_k0_1_eq N a1 b_a0 n_a0 a0 x.1 x.2.1 x.2.2

theorem laws_heldInt64S_ans (N : Nat) (a1 : Int) (b_a0 : Option (Option Addr)) (n_a0 : Nat) (a0 : Array Value) : ansV Try.prog (mkΓ []) N Try.f32 [([1, 4, 5], [])] [.l 0, .i .i64 (a1)] [.sl (.came b_a0) n_a0 a0 2] = (nodeX (iterO (laws_heldInt64S_g0 Try.prog a1 b_a0 n_a0 a0) N (a1, (0 : Int), (0 : Int))) (st2 (fun x => laws_heldInt64S_k0_0 Try.prog N a1 b_a0 n_a0 a0 x.1 x.2.1 x.2.2) (fun x => laws_heldInt64S_k0_1 Try.prog N a1 b_a0 n_a0 a0 x.1 x.2.1 x.2.2))) := by
  have h : ansV Try.prog (mkΓ []) N Try.f32 [([1, 4, 5], [])] [.l 0, .i .i64 (a1)] [.sl (.came b_a0) n_a0 a0 2] = (bindX (iterO (stepV Try.prog (mkΓ []) N (cAt (codeOf Try.f32) [1, 0, 1, 0, 0]) (pAt (mkPlan (codeOf Try.f32) [([1, 4, 5], [])]).1 [1, 0, 1, 0]) [1, 4, 5] [] (⟨[.a (.l 0), .a (.i .i64 (a1)), .a (.u), .a (.u), .a (.i .i64 (0 : Int)), .a (.i .i64 (0 : Int)), .a (.u), .a (.u), .a (.u), .a (.u), .a (.u), .a (.u), .a (.u), .a (.u), .a (.u), .a (.u), .a (.u), .a (.u), .a (.u), .a (.u), .a (.u)], [.sl (.came b_a0) n_a0 a0 2], []⟩ : St)) N ([.a (.i .i64 (a1)), .a (.i .i64 (0 : Int)), .a (.i .i64 (0 : Int))], [])) (fun e s => (kBlock 0 (kSeq (veC Try.prog (mkΓ []) N (cAt (codeOf Try.f32) [1, 1]) (pAt (mkPlan (codeOf Try.f32) [([1, 4, 5], [])]).1 [1, 1]) (SV × Eff × Bool)) (finK Try.prog [.sl (.came b_a0) n_a0 a0 2] [.tmp 4]))) e (left (writes (cAt (codeOf Try.f32) [1, 0, 1, 0, 0])) [1, 4, 5] [] (⟨[.a (.l 0), .a (.i .i64 (a1)), .a (.u), .a (.u), .a (.i .i64 (0 : Int)), .a (.i .i64 (0 : Int)), .a (.u), .a (.u), .a (.u), .a (.u), .a (.u), .a (.u), .a (.u), .a (.u), .a (.u), .a (.u), .a (.u), .a (.u), .a (.u), .a (.u), .a (.u)], [.sl (.came b_a0) n_a0 a0 2], []⟩ : St) s))) := by kernel_rfl
  refine h.trans ?_
  simp only [laws_heldInt64S_n0 N a1 b_a0 n_a0 a0]

theorem laws_heldInt64S_main (a1 : Int) (b_a0 : Option (Option Addr)) (n_a0 : Nat) (a0 : Array Value) (h_a1 : IntKind.i64.min ≤ a1 ∧ a1 ≤ IntKind.i64.max) (h_a0 : a0.size = n_a0 * (lay Try.prog 2).length ∧ (∀ k, k < n_a0 → WT Try.prog 2 (a0.extract (k * (lay Try.prog 2).length) (k * (lay Try.prog 2).length + (lay Try.prog 2).length))) ∧ n_a0 ≤ 9223372036854775807) (hg : (((Nat.ble n_a0 100000) && ((decide (0 ≤ a1) && decide (a1 ≤ 1000000)) && sameB a0 (mkA (n_a0 * 1) a1)))) = true) : ansV Try.prog (mkΓ []) 18446744073709551616 Try.f32 [([1, 4, 5], [])] [.l 0, .i .i64 (a1)] [.sl (.came b_a0) n_a0 a0 2] = some (.a (.i .i64 (a1 + ((n_a0 * 1 : Nat) : Int))), .none, true) := by
  rw [Bool.and_eq_true, Bool.and_eq_true, Bool.and_eq_true] at hg
  have hn : n_a0 ≤ 100000 := Nat.le_of_ble_eq_true hg.1
  have hk0 : 0 ≤ a1 ∧ a1 ≤ 1000000 := ⟨of_decide_eq_true hg.2.1.1, of_decide_eq_true hg.2.1.2⟩
  have hA := sameB_iff.1 hg.2.2
  have hnum : ∀ i, i < n_a0 * 1 → (num a0 i != a1 + (i : Int)) = false := fun i hi => by rw [hA, mkA_num hi]; exact bne_self_eq_false _
  have h := iter_all (g := laws_heldInt64S_g0 Try.prog a1 b_a0 n_a0 a0) (fun i => (a1 + ((i * 1 : Nat) : Int), (0 : Int), (i : Int))) (m := n_a0) (x := .done (a1 + ((n_a0 * 1 : Nat) : Int), (0 : Int), (n_a0 : Int))) (N := 18446744073709551616) (fun i hi => by
    have h1 : decide ((i : Int) < (n_a0 : Int)) = true := decide_eq_true (by omega)
    have h2 : decide (0 ≤ (i : Int)) = true := decide_eq_true (by omega)
    have h4 : IntKind.i64.wrap (a1 + ((i * 1 : Nat) : Int) + 1) = a1 + (((i + 1) * 1 : Nat) : Int) := by rw [IntWalk.i64_in _ (by omega)]; omega
    have h5 : IntKind.i64.wrap ((i : Int) + 1) = ((i + 1 : Nat) : Int) := by rw [IntWalk.i64_in _ (by omega)]; omega
    have h6 := hnum (i * 1) (by omega)
    simp only [laws_heldInt64S_g0, h1, h2, h4, h5, h6, Int.toNat_natCast, Bool.and_self, cond_true, cond_false]) (by
    have h1 : decide ((n_a0 : Int) < (n_a0 : Int)) = false := decide_eq_false (by omega)
    simp only [laws_heldInt64S_g0, h1, cond_false]) (by omega)
  refine (laws_heldInt64S_ans 18446744073709551616 a1 b_a0 n_a0 a0).trans ?_
  have h' : iterO (laws_heldInt64S_g0 Try.prog a1 b_a0 n_a0 a0) 18446744073709551616 (a1, (0 : Int), (0 : Int)) = some (.done (a1 + ((n_a0 * 1 : Nat) : Int), (0 : Int), (n_a0 : Int))) := by
    have h2 := h
    have e : a1 + ((0 * 1 : Nat) : Int) = a1 := by omega
    simp only [e] at h2
    exact h2
  rw [h']
  rfl
noncomputable def laws_heldInt64S_con : Con := fun args h => match args, h with
  | [.l 0, .i .i64 a1], [.sl (.came b_a0) n_a0 a0 2] => some (.a (.i .i64 (a1 + ((n_a0 * 1 : Nat) : Int))), .none, ((Nat.ble n_a0 100000) && ((decide (0 ≤ a1) && decide (a1 ≤ 1000000)) && sameB a0 (mkA (n_a0 * 1) a1))))
  | _, _ => none
theorem laws_heldInt64S_enter : ∀ args w, (callFunc 32 args).run Try.prog w = .ok (.enter 32 args) w := enter_ok (fn := Try.f32) (by kernel_rfl) (by kernel_rfl) (by kernel_rfl)
theorem laws_heldInt64S_ok : ConOk Try.prog 32 laws_heldInt64S_con := (ans_ok (N := 18446744073709551616) (by kernel_rfl) mkΓ_nil (fn := Try.f32) (by kernel_rfl) (by kernel_rfl) [([1, 4, 5], [])]).of (by
  intro ρ h w args vals r e hA hH hr
  unfold laws_heldInt64S_con at hr
  split at hr
  · rename_i a1 b_a0 n_a0 a0
    obtain ⟨rfl, hg⟩ := Prod.mk.inj (Option.some.inj hr)
    obtain ⟨rfl, hg2⟩ := Prod.mk.inj hg
    exact laws_heldInt64S_main a1 b_a0 n_a0 a0 (hA.rng 1 rfl) (hH.slw 0 rfl) hg2
  · cases hr)

end
end Go.Proofs.Ytmkkckhfghomfaa
