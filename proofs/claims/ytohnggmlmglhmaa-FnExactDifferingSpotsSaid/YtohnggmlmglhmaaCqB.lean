/- The spots at which two maps differ, both sides. -/
import Derived.Test.YtohnggmlmglhmaaProg
import Derived.Test.YtohnggmlmglhmaaCqA
namespace Go.Proofs.Ytohnggmlmglhmaa
open Go.ChangeShapes Go.WideShapes Go.ChangeAt Go.RowKit Ve Vc
set_option linter.unusedVariables false
set_option linter.unusedSimpArgs false
set_option maxRecDepth 100000
noncomputable section
variable {mn : Md}
noncomputable def difB (A C : Array Value) (t k : Nat) : Bool := !(sameB (A.extract (3 + t * 180 + k * 5) (3 + t * 180 + k * 5 + 5)) (C.extract (3 + t * 180 + k * 5) (3 + t * 180 + k * 5 + 5)))
noncomputable def dfL (A C : Array Value) (t : Nat) : Nat → List (Nat × Nat)
  | 0 => []
  | k + 1 => bif difB A C t k then dfL A C t k ++ [(t, k)] else dfL A C t k
noncomputable def dfT (A C : Array Value) : Nat → List (Nat × Nat)
  | 0 => []
  | t + 1 => dfT A C t ++ dfL A C t 36
theorem dfL_len (A C : Array Value) (t : Nat) : ∀ k, (dfL A C t k).length ≤ k
  | 0 => Nat.le_refl _
  | k + 1 => by
    have := dfL_len A C t k
    rw [dfL]
    cases difB A C t k with
    | false => rw [cond_false]; omega
    | true => rw [cond_true, List.length_append]; show _ + 1 ≤ _; omega
theorem dfT_len (A C : Array Value) : ∀ t, (dfT A C t).length ≤ t * 36
  | 0 => Nat.le_refl _
  | t + 1 => by
    have := dfT_len A C t
    have := dfL_len A C t 36
    rw [dfT, List.length_append]; omega
noncomputable def duoL (q : Nat × Nat) : List Value := [.int .i8 (IntKind.i8.wrap (q.1 : Int)), .int .i8 (IntKind.i8.wrap (q.2 : Int))]
noncomputable def arrD (l : List (Nat × Nat)) : Array Value := ⟨l.flatMap duoL⟩
theorem arrD_app (l m : List (Nat × Nat)) : arrD (l ++ m) = arrD l ++ arrD m := by
  unfold arrD
  rw [List.flatMap_append]
  simp
theorem arrD_size : ∀ l : List (Nat × Nat), (arrD l).size = l.length * 2
  | [] => rfl
  | a :: m => by
    have e : arrD (a :: m) = arrD [a] ++ arrD m := arrD_app [a] m
    rw [e, Array.size_append, arrD_size m]
    show 2 + m.length * 2 = (m.length + 1) * 2
    omega
theorem by_spot : bytesOf Try.prog 49 ≤ 1000 := Nat.le_of_ble_eq_true (by kernel_rfl)
theorem room_spot {n : Nat} (h : n ≤ 100000) : Nat.ble (n * bytesOf Try.prog 49) 140737488355328 = true := Nat.ble_eq_true_of_le (Nat.le_trans (Nat.mul_le_mul h by_spot) (by decide))
noncomputable def spec_l05Spots_t1 (a0 : Array Value) (a1 : Array Value) (y0_6 : Int) (m0_5 : Nat) (y0_5 : Array Value) : St := (⟨.a (.w 0) :: .a (.w 1) :: .a (.u) :: .a (.u) :: .a (.v (.slice none 0 0)) :: .a (.l 5) :: .a (.i .i64 (y0_6)) :: .a (.i .i64 (0 : Int)) :: .a (.l 2) :: .a (.i .i64 (y0_6)) :: .a (.b (decide (y0_6 < (2 : Int)))) :: xs 31 (.a (.u) :: []), [.row a0 36, .row a1 36, .sp, .no, .sp, .sl .own m0_5 y0_5 49], [4, 4]⟩ : St)
noncomputable def spec_l05Spots_e1 : Int × Nat × Array Value → LS
  | (y1_7, m1_5, y1_5) => ([.a (.i .i64 (y1_7)), .a (.l 5)], [.sl .own m1_5 y1_5 49])
noncomputable def spec_l05Spots_x1 : Int × Nat × Array Value → Exit × LS
  | t => ((.exit 2), spec_l05Spots_e1 t)
noncomputable def spec_l05Spots_g1 (P : Program) (a0 : Array Value) (a1 : Array Value) (y0_6 : Int) (m0_5 : Nat) (y0_5 : Array Value) : Int × Nat × Array Value → Option (Stp (Int × Nat × Array Value) (Int × Nat × Array Value))
  | (y1_7, m1_5, y1_5) => bif decide (y1_7 < (36 : Int)) then (bif (decide (0 ≤ y0_6) && decide (y0_6 < 2)) then (bif (decide (0 ≤ y1_7) && decide (y1_7 < 36)) then (bif (decide (0 ≤ y0_6) && decide (y0_6 < 2)) then (bif (decide (0 ≤ y1_7) && decide (y1_7 < 36)) then (bif (!(sameB (a0.extract ((3 + ((y0_6).toNat * 180)) + ((y1_7).toNat * 5)) (((3 + ((y0_6).toNat * 180)) + ((y1_7).toNat * 5)) + 5)) (a1.extract ((3 + ((y0_6).toNat * 180)) + ((y1_7).toNat * 5)) (((3 + ((y0_6).toNat * 180)) + ((y1_7).toNat * 5)) + 5)))) then (bif (Nat.ble ((m1_5 + 1) * bytesOf Try.prog 49) 140737488355328) then (some (.more ((IntKind.i64.wrap (y1_7 + (1 : Int))), (m1_5 + 1), (y1_5 ++ (#[.int .i8 (IntKind.i8.wrap y0_6), .int .i8 (IntKind.i8.wrap y1_7)] : Array Value)))))
                else (none))
              else (some (.more ((IntKind.i64.wrap (y1_7 + (1 : Int))), m1_5, y1_5))))
            else (none))
          else (none))
        else (none))
      else (none))
    else (some (.done (y1_7, m1_5, y1_5)))
theorem spec_l05Spots_s1 (N : Nat) (a0 : Array Value) (a1 : Array Value) (y0_6 : Int) (m0_5 : Nat) (y0_5 : Array Value) : ∀ t : Int × Nat × Array Value, stepVG Try.prog (mkΓ []) N (cAt (codeOf Try.f11) [1, 1, 0, 1, 0, 0, 1, 0, 0, 1, 0, 0]) (pAt (mkPlan (codeOf Try.f11) [([6], [1000005, 49]), ([7], [1000005, 49])]).1 [1, 1, 0, 1, 0, 1, 0, 1, 0]) [7] [] 5 49 5 (spec_l05Spots_t1 a0 a1 y0_6 m0_5 y0_5) (spec_l05Spots_e1 t) = mapS spec_l05Spots_e1 spec_l05Spots_x1 (spec_l05Spots_g1 Try.prog a0 a1 y0_6 m0_5 y0_5 t) := by
  rintro ⟨y1_7, m1_5, y1_5⟩
  refine Eq.trans (b := (bif decide (y1_7 < (36 : Int)) then (bif (decide (0 ≤ y0_6) && decide (y0_6 < 2)) then (bif (decide (0 ≤ y1_7) && decide (y1_7 < 36)) then (bif (decide (0 ≤ y0_6) && decide (y0_6 < 2)) then (bif (decide (0 ≤ y1_7) && decide (y1_7 < 36)) then (bif (!(sameB (a0.extract ((3 + ((y0_6).toNat * 180)) + ((y1_7).toNat * 5)) (((3 + ((y0_6).toNat * 180)) + ((y1_7).toNat * 5)) + 5)) (a1.extract ((3 + ((y0_6).toNat * 180)) + ((y1_7).toNat * 5)) (((3 + ((y0_6).toNat * 180)) + ((y1_7).toNat * 5)) + 5)))) then (bif (Nat.ble ((m1_5 + 1) * bytesOf Try.prog 49) 140737488355328) then (some (.more ([.a (.i .i64 (IntKind.i64.wrap (y1_7 + (1 : Int)))), .a (.l 5)], [.sl .own (m1_5 + 1) (y1_5 ++ (#[.int .i8 (IntKind.i8.wrap y0_6), .int .i8 (IntKind.i8.wrap y1_7)] : Array Value)) 49])))
                else (none))
              else (some (.more ([.a (.i .i64 (IntKind.i64.wrap (y1_7 + (1 : Int)))), .a (.l 5)], [.sl .own m1_5 y1_5 49]))))
            else (none))
          else (none))
        else (none))
      else (none))
    else (some (.done ((.exit 2), ([.a (.i .i64 (y1_7)), .a (.l 5)], [.sl .own m1_5 y1_5 49])))))) (by kernel_rfl) ?_
  simp only [spec_l05Spots_g1, mapS_cond, mapS_more, mapS_done, mapS_none, spec_l05Spots_e1, spec_l05Spots_x1]
noncomputable def spec_l05Spots_t0 (a0 : Array Value) (a1 : Array Value) : St := (⟨.a (.w 0) :: .a (.w 1) :: .a (.u) :: .a (.u) :: .a (.v (.slice none 0 0)) :: .a (.l 4) :: .a (.i .i64 (0 : Int)) :: .a (.u) :: .a (.l 2) :: us 34 ([]), [.row a0 36, .row a1 36, .sp, .no, .sl .own 0 (#[] : Array Value) 49], [2]⟩ : St)
noncomputable def spec_l05Spots_e0 : Int × Nat × Array Value → LS
  | (y0_6, m0_5, y0_5) => ([.a (.i .i64 (y0_6)), .a (.l 4)], [.sl .own m0_5 y0_5 49])
noncomputable def spec_l05Spots_x0 : Int × Nat × Array Value → Exit × LS
  | t => ((.exit 0), spec_l05Spots_e0 t)
noncomputable def spec_l05Spots_k1_0 (P : Program) (N : Nat) (a0 : Array Value) (a1 : Array Value) (y0_6 : Int) (m0_5 : Nat) (y0_5 : Array Value) (z1_7 : Int) (p1_5 : Nat) (z1_5 : Array Value) : Option (Stp (Int × Nat × Array Value) (Int × Nat × Array Value)) := some (.more ((IntKind.i64.wrap (y0_6 + (1 : Int))), p1_5, z1_5))
theorem spec_l05Spots_k1_0_eq (N : Nat) (a0 : Array Value) (a1 : Array Value) (y0_6 : Int) (m0_5 : Nat) (y0_5 : Array Value) (z1_7 : Int) (p1_5 : Nat) (z1_5 : Array Value) : (kBlock 2 (kBlock 1 (kSeq (veC Try.prog (mkΓ []) N (cAt (codeOf Try.f11) [1, 1, 0, 1, 0, 0, 1, 1]) (pAt (mkPlan (codeOf Try.f11) [([6], [1000005, 49]), ([7], [1000005, 49])]).1 [1, 1, 0, 1, 0, 1, 1]) (Stp LS (Exit × LS))) (kBodyG 4 [6] [] 5 49)))) (.exit 2) (left (writes (cAt (codeOf Try.f11) [1, 1, 0, 1, 0, 0, 1, 0, 0, 1, 0, 0])) [7, 5] [5] (spec_l05Spots_t1 a0 a1 y0_6 m0_5 y0_5) ([.a (.i .i64 (z1_7)), .a (.l 5)], [.sl .own p1_5 z1_5 49])) = mapS spec_l05Spots_e0 spec_l05Spots_x0 (spec_l05Spots_k1_0 Try.prog N a0 a1 y0_6 m0_5 y0_5 z1_7 p1_5 z1_5) := by
  refine Eq.trans (b := (some (.more ([.a (.i .i64 (IntKind.i64.wrap (y0_6 + (1 : Int)))), .a (.l 4)], [.sl .own p1_5 z1_5 49])))) (by kernel_rfl) ?_
  simp only [spec_l05Spots_k1_0, mapS_cond, mapS_more, mapS_done, mapS_none, spec_l05Spots_e0, spec_l05Spots_x0]
theorem spec_l05Spots_n1 (N : Nat) (a0 : Array Value) (a1 : Array Value) (y0_6 : Int) (m0_5 : Nat) (y0_5 : Array Value) : bindX (iterO (stepVG Try.prog (mkΓ []) N (cAt (codeOf Try.f11) [1, 1, 0, 1, 0, 0, 1, 0, 0, 1, 0, 0]) (pAt (mkPlan (codeOf Try.f11) [([6], [1000005, 49]), ([7], [1000005, 49])]).1 [1, 1, 0, 1, 0, 1, 0, 1, 0]) [7] [] 5 49 5 (spec_l05Spots_t1 a0 a1 y0_6 m0_5 y0_5)) N ([.a (.i .i64 (0 : Int)), .a (.l 5)], [.sl .own m0_5 y0_5 49])) (fun e s => (kBlock 2 (kBlock 1 (kSeq (veC Try.prog (mkΓ []) N (cAt (codeOf Try.f11) [1, 1, 0, 1, 0, 0, 1, 1]) (pAt (mkPlan (codeOf Try.f11) [([6], [1000005, 49]), ([7], [1000005, 49])]).1 [1, 1, 0, 1, 0, 1, 1]) (Stp LS (Exit × LS))) (kBodyG 4 [6] [] 5 49)))) e (left (writes (cAt (codeOf Try.f11) [1, 1, 0, 1, 0, 0, 1, 0, 0, 1, 0, 0])) [7, 5] [5] (spec_l05Spots_t1 a0 a1 y0_6 m0_5 y0_5) s)) = mapS spec_l05Spots_e0 spec_l05Spots_x0 (nodeX (iterO (spec_l05Spots_g1 Try.prog a0 a1 y0_6 m0_5 y0_5) N ((0 : Int), m0_5, y0_5)) (fun x => spec_l05Spots_k1_0 Try.prog N a0 a1 y0_6 m0_5 y0_5 x.1 x.2.1 x.2.2)) := by
  rw [mapS_nodeX spec_l05Spots_e0 spec_l05Spots_x0]
  first
  | (have h := loop_node (α := Stp LS (Exit × LS)) spec_l05Spots_e1 spec_l05Spots_x1 _ _ (spec_l05Spots_s1 N a0 a1 y0_6 m0_5 y0_5) N ((0 : Int), m0_5, y0_5); refine h _ _ ?_)
  | (have h := loop_node (α := Stp BS (Exit × BS)) spec_l05Spots_e1 spec_l05Spots_x1 _ _ (spec_l05Spots_s1 N a0 a1 y0_6 m0_5 y0_5) N ((0 : Int), m0_5, y0_5); refine h _ _ ?_)
  | (have h := loop_node (α := Stp LS ((Exit × LS) ⊕ (SV × Eff × Bool))) spec_l05Spots_e1 spec_l05Spots_x1 _ _ (spec_l05Spots_s1 N a0 a1 y0_6 m0_5 y0_5) N ((0 : Int), m0_5, y0_5); refine h _ _ ?_)
  intro x; exact spec_l05Spots_k1_0_eq N a0 a1 y0_6 m0_5 y0_5 x.1 x.2.1 x.2.2
noncomputable def spec_l05Spots_g0 (P : Program) (N : Nat) (a0 : Array Value) (a1 : Array Value) : Int × Nat × Array Value → Option (Stp (Int × Nat × Array Value) (Int × Nat × Array Value))
  | (y0_6, m0_5, y0_5) => bif decide (y0_6 < (2 : Int)) then (nodeX (iterO (spec_l05Spots_g1 P a0 a1 y0_6 m0_5 y0_5) N ((0 : Int), m0_5, y0_5)) (fun x => spec_l05Spots_k1_0 P N a0 a1 y0_6 m0_5 y0_5 x.1 x.2.1 x.2.2))
    else (some (.done (y0_6, m0_5, y0_5)))
theorem spec_l05Spots_s0 (N : Nat) (a0 : Array Value) (a1 : Array Value) : ∀ t : Int × Nat × Array Value, stepVG Try.prog (mkΓ []) N (cAt (codeOf Try.f11) [1, 1, 0, 1, 0, 0]) (pAt (mkPlan (codeOf Try.f11) [([6], [1000005, 49]), ([7], [1000005, 49])]).1 [1, 1, 0, 1, 0]) [6] [] 5 49 4 (spec_l05Spots_t0 a0 a1) (spec_l05Spots_e0 t) = mapS spec_l05Spots_e0 spec_l05Spots_x0 (spec_l05Spots_g0 Try.prog N a0 a1 t) := by
  rintro ⟨y0_6, m0_5, y0_5⟩
  refine Eq.trans (b := (bif decide (y0_6 < (2 : Int)) then (bindX (iterO (stepVG Try.prog (mkΓ []) N (cAt (codeOf Try.f11) [1, 1, 0, 1, 0, 0, 1, 0, 0, 1, 0, 0]) (pAt (mkPlan (codeOf Try.f11) [([6], [1000005, 49]), ([7], [1000005, 49])]).1 [1, 1, 0, 1, 0, 1, 0, 1, 0]) [7] [] 5 49 5 (spec_l05Spots_t1 a0 a1 y0_6 m0_5 y0_5)) N ([.a (.i .i64 (0 : Int)), .a (.l 5)], [.sl .own m0_5 y0_5 49])) (fun e s => (kBlock 2 (kBlock 1 (kSeq (veC Try.prog (mkΓ []) N (cAt (codeOf Try.f11) [1, 1, 0, 1, 0, 0, 1, 1]) (pAt (mkPlan (codeOf Try.f11) [([6], [1000005, 49]), ([7], [1000005, 49])]).1 [1, 1, 0, 1, 0, 1, 1]) (Stp LS (Exit × LS))) (kBodyG 4 [6] [] 5 49)))) e (left (writes (cAt (codeOf Try.f11) [1, 1, 0, 1, 0, 0, 1, 0, 0, 1, 0, 0])) [7, 5] [5] (spec_l05Spots_t1 a0 a1 y0_6 m0_5 y0_5) s)))
    else (some (.done ((.exit 0), ([.a (.i .i64 (y0_6)), .a (.l 4)], [.sl .own m0_5 y0_5 49])))))) (by kernel_rfl) ?_
  simp only [spec_l05Spots_n1 N a0 a1 y0_6 m0_5 y0_5, spec_l05Spots_g0, mapS_cond, mapS_more, mapS_done, mapS_none, spec_l05Spots_e0, spec_l05Spots_x0]
noncomputable def spec_l05Spots_k0_0 (P : Program) (N : Nat) (a0 : Array Value) (a1 : Array Value) (z0_6 : Int) (p0_5 : Nat) (z0_5 : Array Value) : Option (SV × Eff × Bool) := some (.a .x, .newS none p0_5 z0_5 49, true)
theorem spec_l05Spots_k0_0_eq (N : Nat) (a0 : Array Value) (a1 : Array Value) (z0_6 : Int) (p0_5 : Nat) (z0_5 : Array Value) : (kBlock 0 (kSeq (veC Try.prog (mkΓ []) N (cAt (codeOf Try.f11) [1, 1, 1]) (pAt (mkPlan (codeOf Try.f11) [([6], [1000005, 49]), ([7], [1000005, 49])]).1 [1, 1, 1]) (SV × Eff × Bool)) (finK Try.prog [.row a0 36, .row a1 36] [.tmp 4]))) (.exit 0) (left (writes (cAt (codeOf Try.f11) [1, 1, 0, 1, 0, 0])) [6, 5] [4] (spec_l05Spots_t0 a0 a1) ([.a (.i .i64 (z0_6)), .a (.l 4)], [.sl .own p0_5 z0_5 49])) = spec_l05Spots_k0_0 Try.prog N a0 a1 z0_6 p0_5 z0_5 := by
  refine Eq.trans (b := (some (.a .x, .newS none p0_5 z0_5 49, true))) (by kernel_rfl) ?_
  rfl
theorem spec_l05Spots_n0 (N : Nat) (a0 : Array Value) (a1 : Array Value) : bindX (iterO (stepVG Try.prog (mkΓ []) N (cAt (codeOf Try.f11) [1, 1, 0, 1, 0, 0]) (pAt (mkPlan (codeOf Try.f11) [([6], [1000005, 49]), ([7], [1000005, 49])]).1 [1, 1, 0, 1, 0]) [6] [] 5 49 4 (spec_l05Spots_t0 a0 a1)) N ([.a (.i .i64 (0 : Int)), .a (.l 4)], [.sl .own 0 (#[] : Array Value) 49])) (fun e s => (kBlock 0 (kSeq (veC Try.prog (mkΓ []) N (cAt (codeOf Try.f11) [1, 1, 1]) (pAt (mkPlan (codeOf Try.f11) [([6], [1000005, 49]), ([7], [1000005, 49])]).1 [1, 1, 1]) (SV × Eff × Bool)) (finK Try.prog [.row a0 36, .row a1 36] [.tmp 4]))) e (left (writes (cAt (codeOf Try.f11) [1, 1, 0, 1, 0, 0])) [6, 5] [4] (spec_l05Spots_t0 a0 a1) s)) = nodeX (iterO (spec_l05Spots_g0 Try.prog N a0 a1) N ((0 : Int), 0, (#[] : Array Value))) (fun x => spec_l05Spots_k0_0 Try.prog N a0 a1 x.1 x.2.1 x.2.2) := by
  refine loop_node spec_l05Spots_e0 spec_l05Spots_x0 _ _ (spec_l05Spots_s0 N a0 a1) N ((0 : Int), 0, (#[] : Array Value)) _ _ ?_
  intro x; exact spec_l05Spots_k0_0_eq N a0 a1 x.1 x.2.1 x.2.2
theorem spec_l05Spots_ans (N : Nat) (a0 : Array Value) (a1 : Array Value) : ansV Try.prog (mkΓ []) N Try.f11 [([6], [1000005, 49]), ([7], [1000005, 49])] [.w 0, .w 1] [.row a0 36, .row a1 36] = (nodeX (iterO (spec_l05Spots_g0 Try.prog N a0 a1) N ((0 : Int), 0, (#[] : Array Value))) (fun x => spec_l05Spots_k0_0 Try.prog N a0 a1 x.1 x.2.1 x.2.2)) := by
  refine Eq.trans (b := (bindX (iterO (stepVG Try.prog (mkΓ []) N (cAt (codeOf Try.f11) [1, 1, 0, 1, 0, 0]) (pAt (mkPlan (codeOf Try.f11) [([6], [1000005, 49]), ([7], [1000005, 49])]).1 [1, 1, 0, 1, 0]) [6] [] 5 49 4 (spec_l05Spots_t0 a0 a1)) N ([.a (.i .i64 (0 : Int)), .a (.l 4)], [.sl .own 0 (#[] : Array Value) 49])) (fun e s => (kBlock 0 (kSeq (veC Try.prog (mkΓ []) N (cAt (codeOf Try.f11) [1, 1, 1]) (pAt (mkPlan (codeOf Try.f11) [([6], [1000005, 49]), ([7], [1000005, 49])]).1 [1, 1, 1]) (SV × Eff × Bool)) (finK Try.prog [.row a0 36, .row a1 36] [.tmp 4]))) e (left (writes (cAt (codeOf Try.f11) [1, 1, 0, 1, 0, 0])) [6, 5] [4] (spec_l05Spots_t0 a0 a1) s)))) (by kernel_rfl) ?_
  simp only [spec_l05Spots_n0 N a0 a1]
theorem spec_l05Spots_main (a0 : Array Value) (a1 : Array Value) (h_a0 : WT Try.prog 36 a0) (h_a1 : WT Try.prog 36 a1) (hg : (true) = true) : ansV Try.prog (mkΓ []) 18446744073709551616 Try.f11 [([6], [1000005, 49]), ([7], [1000005, 49])] [.w 0, .w 1] [.row a0 36, .row a1 36] = some (.a .x, .newS none (dfT a0 a1 2).length (arrD (dfT a0 a1 2)) 49, true) := by
  have hin : ∀ (t : Nat), t < 2 → ∀ (l : List (Nat × Nat)), l.length ≤ 1000 → iterO (spec_l05Spots_g1 Try.prog a0 a1 (t : Int) l.length (arrD l)) 18446744073709551616 ((0 : Int), l.length, arrD l) = some ((36 : Int), (l ++ dfL a0 a1 t 36).length, arrD (l ++ dfL a0 a1 t 36)) := by
    intro t ht l hl
    have h := iter_all (g := spec_l05Spots_g1 Try.prog a0 a1 (t : Int) l.length (arrD l)) (fun k => ((k : Int), (l ++ dfL a0 a1 t k).length, arrD (l ++ dfL a0 a1 t k))) (m := 36) (x := ((36 : Int), (l ++ dfL a0 a1 t 36).length, arrD (l ++ dfL a0 a1 t 36))) (N := 18446744073709551616) (fun k hk => by
      have h1 : decide ((k : Int) < 36) = true := decide_eq_true (by omega)
      have h0 : decide (0 ≤ (k : Int)) = true := decide_eq_true (by omega)
      have t1 : decide ((t : Int) < 2) = true := decide_eq_true (by omega)
      have t0 : decide (0 ≤ (t : Int)) = true := decide_eq_true (by omega)
      have h3 : IntKind.i64.wrap ((k : Int) + 1) = ((k + 1 : Nat) : Int) := by rw [IntWalk.i64_in _ (by omega)]; omega
      have hlen : (l ++ dfL a0 a1 t k).length ≤ 1036 := by have := dfL_len a0 a1 t k; rw [List.length_append]; omega
      have hb := room_spot (n := (l ++ dfL a0 a1 t k).length + 1) (by omega)
      have ed : (!(sameB (a0.extract (3 + t * 180 + k * 5) (3 + t * 180 + k * 5 + 5)) (a1.extract (3 + t * 180 + k * 5) (3 + t * 180 + k * 5 + 5)))) = difB a0 a1 t k := rfl
      simp only [spec_l05Spots_g1, h1, h0, t1, t0, h3, ed, hb, Int.toNat_natCast, Bool.and_self, cond_true]
      rw [dfL]
      cases difB a0 a1 t k with
      | false => simp only [cond_false]
      | true =>
        simp only [cond_true]
        rw [← List.append_assoc, arrD_app (l ++ dfL a0 a1 t k), show ((l ++ dfL a0 a1 t k) ++ [(t, k)]).length = (l ++ dfL a0 a1 t k).length + 1 from List.length_append]
        rfl) (by
      have h1 : decide (((36 : Nat) : Int) < 36) = false := by decide
      simp only [spec_l05Spots_g1, h1, cond_false]
      rfl) (by omega)
    rw [show dfL a0 a1 t 0 = [] from rfl, List.append_nil] at h
    exact h
  have h := iter_all (g := spec_l05Spots_g0 Try.prog 18446744073709551616 a0 a1) (fun t => ((t : Int), (dfT a0 a1 t).length, arrD (dfT a0 a1 t))) (m := 2) (x := ((2 : Int), (dfT a0 a1 2).length, arrD (dfT a0 a1 2))) (N := 18446744073709551616) (fun t ht => by
    have h1 : decide ((t : Int) < 2) = true := decide_eq_true (by omega)
    have h3 : IntKind.i64.wrap ((t : Int) + 1) = ((t + 1 : Nat) : Int) := by rw [IntWalk.i64_in _ (by omega)]; omega
    have hl := dfT_len a0 a1 t
    have hi := hin t ht (dfT a0 a1 t) (by omega)
    simp only [spec_l05Spots_g0, h1, cond_true]
    rw [hi]
    simp only [nodeX, spec_l05Spots_k1_0, h3]
    rfl) (by
    have h1 : decide (((2 : Nat) : Int) < 2) = false := by decide
    simp only [spec_l05Spots_g0, h1, cond_false]
    rfl) (by omega)
  refine (spec_l05Spots_ans 18446744073709551616 a0 a1).trans ?_
  have h' : iterO (spec_l05Spots_g0 Try.prog 18446744073709551616 a0 a1) 18446744073709551616 ((0 : Int), 0, (#[] : Array Value)) = some ((2 : Int), (dfT a0 a1 2).length, arrD (dfT a0 a1 2)) := h
  rw [h']
  rfl
noncomputable def spec_l05Spots_con : Con := fun args h => match args, h with
  | [.w 0, .w 1], [.row a0 36, .row a1 36] => some (.a .x, .newS none (dfT a0 a1 2).length (arrD (dfT a0 a1 2)) 49, true)
  | _, _ => none
theorem spec_l05Spots_enter : EntX Try.prog 11 := entX_ok (fn := Try.f11) (by kernel_rfl) (by kernel_rfl) (by kernel_rfl)
theorem spec_l05Spots_ok : ConOkX mn Try.prog 11 spec_l05Spots_con := (ansX_ok (N := 18446744073709551616) (by kernel_rfl) mkΓ_nilX (fn := Try.f11) (by kernel_rfl) (by kernel_rfl) [([6], [1000005, 49]), ([7], [1000005, 49])]).of (by
  intro ρ h w args vals r e hA hH hr
  unfold spec_l05Spots_con at hr
  split at hr
  · rename_i a0 a1
    obtain ⟨rfl, hg⟩ := Prod.mk.inj (Option.some.inj hr)
    obtain ⟨rfl, hg2⟩ := Prod.mk.inj hg
    exact spec_l05Spots_main a0 a1 (hH.wt 0 rfl) (hH.wt 1 rfl) hg2
  · cases hr)
theorem dif_dry {A C : Array Value} (hA : okS A = true) (hC : okS C = true) (h0 : num C 0 = num A 0) (h1 : num C 1 = num A 1) (h2 : num C 2 = num A 2) {t k : Nat} (ht : t < 2) (hk : k < 36) (hw : (inC (num A 0) (num A 1) k && !(bitI (num A 2) k)) = false) : difB A C t k = false := by
  have fit : ∀ {S : Array Value}, okS S = true → fitS S t k = true := fun {S} hS => by
    unfold okS at hS
    simp only [Bool.and_eq_true] at hS
    have := List.all_eq_true.1 hS.2.2 k (List.mem_range.2 hk)
    rw [Bool.and_eq_true] at this
    match t, ht with
    | 0, _ => exact this.1
    | 1, _ => exact this.2
  have fA := fit hA
  have fC := fit hC
  unfold fitS at fA fC
  rw [h0, h1, h2, hw, cond_false] at fC
  rw [hw, cond_false] at fA
  have eA := sameB_iff.1 fA
  have eC := sameB_iff.1 fC
  unfold difB
  unfold chR at eA eC
  rw [eA, eC, sameB_self]
  rfl
theorem foldI_cellsF {T X : Type} {g : Int → T → Option (Stp T X)} (F : Nat → T) {wd hi : Int} {q : Int → Bool} (hg : ∀ k, k < 36 → inC wd hi k = true → q (k : Int) = true → g (k : Int) (F k) = some (.more (F (k + 1)))) (hs : ∀ k, k < 36 → (inC wd hi k && q (k : Int)) = false → F (k + 1) = F k) :
    foldI g ((cellsL wd hi 36).filter q) (F 0) = some (.more (F 36)) := by
  have key : ∀ n, n ≤ 36 → foldI g ((cellsL wd hi n).filter q) (F 0) = some (.more (F n)) := by
    intro n
    induction n with
    | zero => intro _; rfl
    | succ n ih =>
      intro hn
      have ih := ih (by omega)
      cases hb : inC wd hi n with
      | false => rw [cellsL_no hb, ih, hs n (by omega) (by rw [hb]; rfl)]
      | true =>
        rw [cellsL_yes hb, List.filter_append, foldI_app, ih]
        cases hq : q (n : Int) with
        | false =>
          rw [show List.filter q [(n : Int)] = [] by simp [hq], hs n (by omega) (by rw [hb, hq]; rfl)]
          rfl
        | true =>
          rw [show List.filter q [(n : Int)] = [(n : Int)] by simp [hq]]
          simp only [foldI, hg n (by omega) hb hq]
  exact key 36 (Nat.le_refl _)
theorem pair_good {A C : Array Value} (h : (pairC A C == (0 : Int)) = true) : okS A = true ∧ okS C = true ∧ num C 0 = num A 0 ∧ num C 1 = num A 1 ∧ num C 2 = num A 2 := by
  unfold pairC at h
  cases hA : okS A with
  | false => rw [hA] at h; cases h
  | true =>
    cases hC : okS C with
    | false => rw [hA, hC] at h; cases h
    | true =>
      rw [hA, hC, cond_true, cond_true] at h
      cases hs : impl_sameCoasts_v0 C A with
      | false => rw [hs, Bool.and_false] at h; cases h
      | true =>
        refine ⟨rfl, rfl, ?_⟩
        unfold impl_sameCoasts_v0 at hs
        cases e0 : (num C 0 == num A 0) with
        | false => rw [e0] at hs; simp at hs
        | true =>
          cases e1 : (num C 1 == num A 1) with
          | false => rw [e0, e1] at hs; simp at hs
          | true =>
            rw [e0, e1] at hs
            simp only [cond_true] at hs
            exact ⟨beq_iff_eq.1 e0, beq_iff_eq.1 e1, beq_iff_eq.1 hs⟩
noncomputable def impl_spotsOf_G : Cons := (mkΓx [] [(20, impl_eachWater_nc)] [(28, impl_eachWater_1_ic)])
noncomputable def impl_spotsOf_t1 (a0 : Array Value) (a1 : Array Value) (y0_8 : Int) (m0_b : Nat) (y0_b : Array Value) : St := (⟨.a (.g a0 36) :: .a (.g a1 36) :: .a (.w 0) :: .a (.w 1) :: .a (.v (.slice none 0 0)) :: .a (.w 3) :: .a (.w 6) :: .a (.u) :: .a (.i .i64 (y0_8)) :: .a (.b (decide (y0_8 < (2 : Int)))) :: .a (.i .i64 (y0_8)) :: .a (.g a0 36) :: .a (.c 28 [11]) :: us 22 (.a (.x) :: .a (.u) :: []), [.row a0 36, .row a1 36, .no, .one (.l 16) 29, .sp, .no, .row #[.int .i64 (y0_8)] 3, .no, .no, .no, .no, .row a0 36, .no, .no, .no, .no, .sl .own m0_b y0_b 49], [3, 4, 6, 4]⟩ : St)
noncomputable def impl_spotsOf_e1 : Nat × Array Value → BS
  | (m1_b, y1_b) => ([.sl .own m1_b y1_b 49] : BS)
noncomputable def impl_spotsOf_x1 : Empty → Exit × BS := fun x => nomatch x
noncomputable def impl_spotsOf_g1 (P : Program) (a0 : Array Value) (a1 : Array Value) (y0_8 : Int) (m0_b : Nat) (y0_b : Array Value) (x1 : Int) : Nat × Array Value → Option (Stp (Nat × Array Value) Empty)
  | (m1_b, y1_b) => bif (decide (0 ≤ y0_8) && decide (y0_8 < 2)) then (bif (decide (0 ≤ x1) && decide (x1 < 36)) then (bif (decide (0 ≤ y0_8) && decide (y0_8 < 2)) then (bif (decide (0 ≤ x1) && decide (x1 < 36)) then (bif (!(sameB (a0.extract ((3 + ((y0_8).toNat * 180)) + ((x1).toNat * 5)) (((3 + ((y0_8).toNat * 180)) + ((x1).toNat * 5)) + 5)) (a1.extract ((3 + ((y0_8).toNat * 180)) + ((x1).toNat * 5)) (((3 + ((y0_8).toNat * 180)) + ((x1).toNat * 5)) + 5)))) then (bif (Nat.ble ((m1_b + 1) * bytesOf Try.prog 49) 140737488355328) then (some (.more ((m1_b + 1), (y1_b ++ (#[.int .i8 (IntKind.i8.wrap y0_8), .int .i8 (IntKind.i8.wrap x1)] : Array Value)))))
              else (none))
            else (some (.more (m1_b, y1_b))))
          else (none))
        else (none))
      else (none))
    else (none)
theorem impl_spotsOf_s1 (N : Nat) (a0 : Array Value) (a1 : Array Value) (y0_8 : Int) (m0_b : Nat) (y0_b : Array Value) (x1 : Int) : ∀ t : Nat × Array Value, stepIB Try.prog impl_spotsOf_G N (cAt (codeOf Try.f14) [1, 1, 0, 1, 0, 0, 1, 1, 0, 0, 1, 1, 0, 0]) (pAt (mkPlan (codeOf Try.f14) [([8], [2000003, 49]), ([], [2000003, 49])]).1 [1, 1, 0, 1, 0, 1, 1, 0, 1, 1, 0]) 16 [] 3 49 [13] [(7, 13)] (impl_spotsOf_t1 a0 a1 y0_8 m0_b y0_b) [.i .i64 (x1)] (impl_spotsOf_e1 t) = mapS impl_spotsOf_e1 impl_spotsOf_x1 (impl_spotsOf_g1 Try.prog a0 a1 y0_8 m0_b y0_b x1 t) := by
  rintro ⟨m1_b, y1_b⟩
  refine Eq.trans (b := (bif (decide (0 ≤ y0_8) && decide (y0_8 < 2)) then (bif (decide (0 ≤ x1) && decide (x1 < 36)) then (bif (decide (0 ≤ y0_8) && decide (y0_8 < 2)) then (bif (decide (0 ≤ x1) && decide (x1 < 36)) then (bif (!(sameB (a0.extract ((3 + ((y0_8).toNat * 180)) + ((x1).toNat * 5)) (((3 + ((y0_8).toNat * 180)) + ((x1).toNat * 5)) + 5)) (a1.extract ((3 + ((y0_8).toNat * 180)) + ((x1).toNat * 5)) (((3 + ((y0_8).toNat * 180)) + ((x1).toNat * 5)) + 5)))) then (bif (Nat.ble ((m1_b + 1) * bytesOf Try.prog 49) 140737488355328) then (some (.more ([.sl .own (m1_b + 1) (y1_b ++ (#[.int .i8 (IntKind.i8.wrap y0_8), .int .i8 (IntKind.i8.wrap x1)] : Array Value)) 49] : BS)))
              else (none))
            else (some (.more ([.sl .own m1_b y1_b 49] : BS))))
          else (none))
        else (none))
      else (none))
    else (none))) (by kernel_rfl) ?_
  simp only [impl_spotsOf_g1, mapS_cond, mapS_more, mapS_done, mapS_none, impl_spotsOf_e1, impl_spotsOf_x1]
noncomputable def impl_spotsOf_t0 (a0 : Array Value) (a1 : Array Value) : St := (⟨.a (.g a0 36) :: .a (.g a1 36) :: .a (.w 0) :: .a (.w 1) :: .a (.v (.slice none 0 0)) :: .a (.w 3) :: .a (.u) :: .a (.u) :: .a (.i .i64 (0 : Int)) :: us 28 ([]), [.row a0 36, .row a1 36, .no, .one (.l 4) 29, .sl .own 0 (#[] : Array Value) 49], [3]⟩ : St)
noncomputable def impl_spotsOf_e0 : Int × Nat × Array Value → LS
  | (y0_8, m0_b, y0_b) => ([.a (.i .i64 (y0_8))], [.sl .own m0_b y0_b 49])
noncomputable def impl_spotsOf_x0 : Int × Nat × Array Value → Exit × LS
  | t => ((.exit 0), impl_spotsOf_e0 t)
noncomputable def impl_spotsOf_k1_n (P : Program) (N : Nat) (a0 : Array Value) (a1 : Array Value) (y0_8 : Int) (m0_b : Nat) (y0_b : Array Value) (p1_b : Nat) (z1_b : Array Value) : Option (Stp (Int × Nat × Array Value) (Int × Nat × Array Value)) := some (.more ((IntKind.i64.wrap (y0_8 + (1 : Int))), p1_b, z1_b))
theorem impl_spotsOf_k1_n_eq (N : Nat) (a0 : Array Value) (a1 : Array Value) (y0_8 : Int) (m0_b : Nat) (y0_b : Array Value) (p1_b : Nat) (z1_b : Array Value) : (kBlock 2 (kBlock 1 (kSeq (veC Try.prog impl_spotsOf_G N (cAt (codeOf Try.f14) [1, 1, 0, 1, 0, 0, 1, 1, 1]) (pAt (mkPlan (codeOf Try.f14) [([8], [2000003, 49]), ([], [2000003, 49])]).1 [1, 1, 0, 1, 0, 1, 1, 1]) (Stp LS (Exit × LS))) (kBodyB 4 [8] [] 3 49)))) .normal (leftI [16] (impl_spotsOf_t1 a0 a1 y0_8 m0_b y0_b) ([.sl .own p1_b z1_b 49] : BS)) = mapS impl_spotsOf_e0 impl_spotsOf_x0 (impl_spotsOf_k1_n Try.prog N a0 a1 y0_8 m0_b y0_b p1_b z1_b) := by
  refine Eq.trans (b := (some (.more ([.a (.i .i64 (IntKind.i64.wrap (y0_8 + (1 : Int))))], [.sl .own p1_b z1_b 49])))) (by kernel_rfl) ?_
  simp only [impl_spotsOf_k1_n, mapS_cond, mapS_more, mapS_done, mapS_none, impl_spotsOf_e0, impl_spotsOf_x0]
theorem impl_spotsOf_n1 (N : Nat) (a0 : Array Value) (a1 : Array Value) (y0_8 : Int) (m0_b : Nat) (y0_b : Array Value) : bindI (foldI (fun (x1 : Int) (hb : BS) => stepIB Try.prog impl_spotsOf_G N (cAt (codeOf Try.f14) [1, 1, 0, 1, 0, 0, 1, 1, 0, 0, 1, 1, 0, 0]) (pAt (mkPlan (codeOf Try.f14) [([8], [2000003, 49]), ([], [2000003, 49])]).1 [1, 1, 0, 1, 0, 1, 1, 0, 1, 1, 0]) 16 [] 3 49 [13] [(7, 13)] (impl_spotsOf_t1 a0 a1 y0_8 m0_b y0_b) [.i .i64 (x1)] hb) ((cellsL (num a0 0) (num a0 1) 36).filter (impl_isWater_v0 a0)) ([.sl .own m0_b y0_b 49] : BS)) (fun hb => (kBlock 2 (kBlock 1 (kSeq (veC Try.prog impl_spotsOf_G N (cAt (codeOf Try.f14) [1, 1, 0, 1, 0, 0, 1, 1, 1]) (pAt (mkPlan (codeOf Try.f14) [([8], [2000003, 49]), ([], [2000003, 49])]).1 [1, 1, 0, 1, 0, 1, 1, 1]) (Stp LS (Exit × LS))) (kBodyB 4 [8] [] 3 49)))) .normal (leftI [16] (impl_spotsOf_t1 a0 a1 y0_8 m0_b y0_b) hb)) (fun e hb => (kBlock 2 (kBlock 1 (kSeq (veC Try.prog impl_spotsOf_G N (cAt (codeOf Try.f14) [1, 1, 0, 1, 0, 0, 1, 1, 1]) (pAt (mkPlan (codeOf Try.f14) [([8], [2000003, 49]), ([], [2000003, 49])]).1 [1, 1, 0, 1, 0, 1, 1, 1]) (Stp LS (Exit × LS))) (kBodyB 4 [8] [] 3 49)))) e (leftI [16] (impl_spotsOf_t1 a0 a1 y0_8 m0_b y0_b) hb)) = mapS impl_spotsOf_e0 impl_spotsOf_x0 (nodeI (foldI (impl_spotsOf_g1 Try.prog a0 a1 y0_8 m0_b y0_b) ((cellsL (num a0 0) (num a0 1) 36).filter (impl_isWater_v0 a0)) (m0_b, y0_b)) (fun x => impl_spotsOf_k1_n Try.prog N a0 a1 y0_8 m0_b y0_b x.1 x.2) (fun x : Empty => nomatch x)) := by
  refine (iter_node impl_spotsOf_e1 impl_spotsOf_x1 _ _ (fun y t => impl_spotsOf_s1 N a0 a1 y0_8 m0_b y0_b y t) _ (m0_b, y0_b) _ _ (fun x => mapS impl_spotsOf_e0 impl_spotsOf_x0 (impl_spotsOf_k1_n Try.prog N a0 a1 y0_8 m0_b y0_b x.1 x.2)) (fun x => mapS impl_spotsOf_e0 impl_spotsOf_x0 ((fun x : Empty => nomatch x) x)) ?_ ?_).trans (mapS_nodeI impl_spotsOf_e0 impl_spotsOf_x0 _ _ _).symm
  · intro x; exact impl_spotsOf_k1_n_eq N a0 a1 y0_8 m0_b y0_b x.1 x.2
  · intro x; exact nomatch x
noncomputable def impl_spotsOf_g0 (P : Program) (N : Nat) (a0 : Array Value) (a1 : Array Value) : Int × Nat × Array Value → Option (Stp (Int × Nat × Array Value) (Int × Nat × Array Value))
  | (y0_8, m0_b, y0_b) => bif decide (y0_8 < (2 : Int)) then (bif (decide (0 ≤ num a0 0) && decide (num a0 0 ≤ 6) && (decide (0 ≤ num a0 1) && decide (num a0 1 ≤ 6))) then (nodeI (foldI (impl_spotsOf_g1 P a0 a1 y0_8 m0_b y0_b) ((cellsL (num a0 0) (num a0 1) 36).filter (impl_isWater_v0 a0)) (m0_b, y0_b)) (fun x => impl_spotsOf_k1_n P N a0 a1 y0_8 m0_b y0_b x.1 x.2) (fun x : Empty => nomatch x))
      else (none))
    else (some (.done (y0_8, m0_b, y0_b)))
theorem impl_spotsOf_s0 (N : Nat) (a0 : Array Value) (a1 : Array Value) : ∀ t : Int × Nat × Array Value, stepVB Try.prog impl_spotsOf_G N (cAt (codeOf Try.f14) [1, 1, 0, 1, 0, 0]) (pAt (mkPlan (codeOf Try.f14) [([8], [2000003, 49]), ([], [2000003, 49])]).1 [1, 1, 0, 1, 0]) [8] [] 3 49 4 (impl_spotsOf_t0 a0 a1) (impl_spotsOf_e0 t) = mapS impl_spotsOf_e0 impl_spotsOf_x0 (impl_spotsOf_g0 Try.prog N a0 a1 t) := by
  rintro ⟨y0_8, m0_b, y0_b⟩
  refine Eq.trans (b := (bif decide (y0_8 < (2 : Int)) then (bif (decide (0 ≤ num a0 0) && decide (num a0 0 ≤ 6) && (decide (0 ≤ num a0 1) && decide (num a0 1 ≤ 6))) then (bindI (foldI (fun (x1 : Int) (hb : BS) => stepIB Try.prog impl_spotsOf_G N (cAt (codeOf Try.f14) [1, 1, 0, 1, 0, 0, 1, 1, 0, 0, 1, 1, 0, 0]) (pAt (mkPlan (codeOf Try.f14) [([8], [2000003, 49]), ([], [2000003, 49])]).1 [1, 1, 0, 1, 0, 1, 1, 0, 1, 1, 0]) 16 [] 3 49 [13] [(7, 13)] (impl_spotsOf_t1 a0 a1 y0_8 m0_b y0_b) [.i .i64 (x1)] hb) ((cellsL (num a0 0) (num a0 1) 36).filter (impl_isWater_v0 a0)) ([.sl .own m0_b y0_b 49] : BS)) (fun hb => (kBlock 2 (kBlock 1 (kSeq (veC Try.prog impl_spotsOf_G N (cAt (codeOf Try.f14) [1, 1, 0, 1, 0, 0, 1, 1, 1]) (pAt (mkPlan (codeOf Try.f14) [([8], [2000003, 49]), ([], [2000003, 49])]).1 [1, 1, 0, 1, 0, 1, 1, 1]) (Stp LS (Exit × LS))) (kBodyB 4 [8] [] 3 49)))) .normal (leftI [16] (impl_spotsOf_t1 a0 a1 y0_8 m0_b y0_b) hb)) (fun e hb => (kBlock 2 (kBlock 1 (kSeq (veC Try.prog impl_spotsOf_G N (cAt (codeOf Try.f14) [1, 1, 0, 1, 0, 0, 1, 1, 1]) (pAt (mkPlan (codeOf Try.f14) [([8], [2000003, 49]), ([], [2000003, 49])]).1 [1, 1, 0, 1, 0, 1, 1, 1]) (Stp LS (Exit × LS))) (kBodyB 4 [8] [] 3 49)))) e (leftI [16] (impl_spotsOf_t1 a0 a1 y0_8 m0_b y0_b) hb)))
      else (none))
    else (some (.done ((.exit 0), ([.a (.i .i64 (y0_8))], [.sl .own m0_b y0_b 49])))))) (by kernel_rfl) ?_
  simp only [impl_spotsOf_n1 N a0 a1 y0_8 m0_b y0_b, impl_spotsOf_g0, mapS_cond, mapS_more, mapS_done, mapS_none, impl_spotsOf_e0, impl_spotsOf_x0]
noncomputable def impl_spotsOf_k0_0 (P : Program) (N : Nat) (a0 : Array Value) (a1 : Array Value) (z0_8 : Int) (p0_b : Nat) (z0_b : Array Value) : Option (SV × Eff × Bool) := some (.a .x, .newS none p0_b z0_b 49, true)
theorem impl_spotsOf_k0_0_eq (N : Nat) (a0 : Array Value) (a1 : Array Value) (z0_8 : Int) (p0_b : Nat) (z0_b : Array Value) : (kBlock 0 (kSeq (veC Try.prog impl_spotsOf_G N (cAt (codeOf Try.f14) [1, 1, 1]) (pAt (mkPlan (codeOf Try.f14) [([8], [2000003, 49]), ([], [2000003, 49])]).1 [1, 1, 1]) (SV × Eff × Bool)) (finK Try.prog [] [.tmp 4]))) (.exit 0) (left (writes (cAt (codeOf Try.f14) [1, 1, 0, 1, 0, 0])) [8] [4] (impl_spotsOf_t0 a0 a1) ([.a (.i .i64 (z0_8))], [.sl .own p0_b z0_b 49])) = impl_spotsOf_k0_0 Try.prog N a0 a1 z0_8 p0_b z0_b := by
  refine Eq.trans (b := (some (.a .x, .newS none p0_b z0_b 49, true))) (by kernel_rfl) ?_
  rfl
theorem impl_spotsOf_n0 (N : Nat) (a0 : Array Value) (a1 : Array Value) : bindX (iterO (stepVB Try.prog impl_spotsOf_G N (cAt (codeOf Try.f14) [1, 1, 0, 1, 0, 0]) (pAt (mkPlan (codeOf Try.f14) [([8], [2000003, 49]), ([], [2000003, 49])]).1 [1, 1, 0, 1, 0]) [8] [] 3 49 4 (impl_spotsOf_t0 a0 a1)) N ([.a (.i .i64 (0 : Int))], [.sl .own 0 (#[] : Array Value) 49])) (fun e s => (kBlock 0 (kSeq (veC Try.prog impl_spotsOf_G N (cAt (codeOf Try.f14) [1, 1, 1]) (pAt (mkPlan (codeOf Try.f14) [([8], [2000003, 49]), ([], [2000003, 49])]).1 [1, 1, 1]) (SV × Eff × Bool)) (finK Try.prog [] [.tmp 4]))) e (left (writes (cAt (codeOf Try.f14) [1, 1, 0, 1, 0, 0])) [8] [4] (impl_spotsOf_t0 a0 a1) s)) = nodeX (iterO (impl_spotsOf_g0 Try.prog N a0 a1) N ((0 : Int), 0, (#[] : Array Value))) (fun x => impl_spotsOf_k0_0 Try.prog N a0 a1 x.1 x.2.1 x.2.2) := by
  refine loop_node impl_spotsOf_e0 impl_spotsOf_x0 _ _ (impl_spotsOf_s0 N a0 a1) N ((0 : Int), 0, (#[] : Array Value)) _ _ ?_
  intro x; exact impl_spotsOf_k0_0_eq N a0 a1 x.1 x.2.1 x.2.2
theorem impl_spotsOf_ans (N : Nat) (a0 : Array Value) (a1 : Array Value) : ansV Try.prog impl_spotsOf_G N Try.f14 [([8], [2000003, 49]), ([], [2000003, 49])] [.g a0 36, .g a1 36] [] = (nodeX (iterO (impl_spotsOf_g0 Try.prog N a0 a1) N ((0 : Int), 0, (#[] : Array Value))) (fun x => impl_spotsOf_k0_0 Try.prog N a0 a1 x.1 x.2.1 x.2.2)) := by
  refine Eq.trans (b := (bindX (iterO (stepVB Try.prog impl_spotsOf_G N (cAt (codeOf Try.f14) [1, 1, 0, 1, 0, 0]) (pAt (mkPlan (codeOf Try.f14) [([8], [2000003, 49]), ([], [2000003, 49])]).1 [1, 1, 0, 1, 0]) [8] [] 3 49 4 (impl_spotsOf_t0 a0 a1)) N ([.a (.i .i64 (0 : Int))], [.sl .own 0 (#[] : Array Value) 49])) (fun e s => (kBlock 0 (kSeq (veC Try.prog impl_spotsOf_G N (cAt (codeOf Try.f14) [1, 1, 1]) (pAt (mkPlan (codeOf Try.f14) [([8], [2000003, 49]), ([], [2000003, 49])]).1 [1, 1, 1]) (SV × Eff × Bool)) (finK Try.prog [] [.tmp 4]))) e (left (writes (cAt (codeOf Try.f14) [1, 1, 0, 1, 0, 0])) [8] [4] (impl_spotsOf_t0 a0 a1) s)))) (by kernel_rfl) ?_
  simp only [impl_spotsOf_n0 N a0 a1]
theorem impl_spotsOf_main (a0 : Array Value) (a1 : Array Value) (h_a0 : WT Try.prog 36 a0) (h_a1 : WT Try.prog 36 a1) (hg : ((pairC a0 a1 == (0 : Int))) = true) : ansV Try.prog impl_spotsOf_G 18446744073709551616 Try.f14 [([8], [2000003, 49]), ([], [2000003, 49])] [.g a0 36, .g a1 36] [] = some (.a .x, .newS none (dfT a0 a1 2).length (arrD (dfT a0 a1 2)) 49, true) := by
  obtain ⟨hA, hC, c0, c1, c2⟩ := pair_good hg
  have hd := okS_iter hA
  have hin : ∀ (t : Nat), t < 2 → ∀ (l : List (Nat × Nat)), l.length ≤ 1000 → foldI (impl_spotsOf_g1 Try.prog a0 a1 (t : Int) l.length (arrD l)) ((cellsL (num a0 0) (num a0 1) 36).filter (impl_isWater_v0 a0)) (l.length, arrD l) = some (.more ((l ++ dfL a0 a1 t 36).length, arrD (l ++ dfL a0 a1 t 36))) := by
    intro t ht l hl
    have h := foldI_cellsF (g := impl_spotsOf_g1 Try.prog a0 a1 (t : Int) l.length (arrD l)) (fun k => ((l ++ dfL a0 a1 t k).length, arrD (l ++ dfL a0 a1 t k))) (wd := num a0 0) (hi := num a0 1) (q := impl_isWater_v0 a0) (fun k hk _ _ => by
      have h1 : decide ((k : Int) < 36) = true := decide_eq_true (by omega)
      have h0 : decide (0 ≤ (k : Int)) = true := decide_eq_true (by omega)
      have t1 : decide ((t : Int) < 2) = true := decide_eq_true (by omega)
      have t0 : decide (0 ≤ (t : Int)) = true := decide_eq_true (by omega)
      have hlen : (l ++ dfL a0 a1 t k).length ≤ 1036 := by have := dfL_len a0 a1 t k; rw [List.length_append]; omega
      have hb := room_spot (n := (l ++ dfL a0 a1 t k).length + 1) (by omega)
      have ed : (!(sameB (a0.extract (3 + t * 180 + k * 5) (3 + t * 180 + k * 5 + 5)) (a1.extract (3 + t * 180 + k * 5) (3 + t * 180 + k * 5 + 5)))) = difB a0 a1 t k := rfl
      simp only [impl_spotsOf_g1, h1, h0, t1, t0, ed, hb, Int.toNat_natCast, Bool.and_self, cond_true]
      rw [dfL]
      cases difB a0 a1 t k with
      | false => simp only [cond_false]
      | true =>
        simp only [cond_true]
        rw [← List.append_assoc, arrD_app (l ++ dfL a0 a1 t k), show ((l ++ dfL a0 a1 t k) ++ [(t, k)]).length = (l ++ dfL a0 a1 t k).length + 1 from List.length_append]
        rfl) (fun k hk hq => by
      have hw : (inC (num a0 0) (num a0 1) k && !(bitI (num a0 2) k)) = false := by
        unfold impl_isWater_v0 at hq
        rw [isLand_bit hk] at hq
        exact hq
      have hn := dif_dry hA hC c0 c1 c2 ht hk hw
      rw [dfL, hn, cond_false])
    rw [show dfL a0 a1 t 0 = [] from rfl, List.append_nil] at h
    exact h
  have h := iter_all (g := impl_spotsOf_g0 Try.prog 18446744073709551616 a0 a1) (fun t => ((t : Int), (dfT a0 a1 t).length, arrD (dfT a0 a1 t))) (m := 2) (x := ((2 : Int), (dfT a0 a1 2).length, arrD (dfT a0 a1 2))) (N := 18446744073709551616) (fun t ht => by
    have h1 : decide ((t : Int) < 2) = true := decide_eq_true (by omega)
    have h3 : IntKind.i64.wrap ((t : Int) + 1) = ((t + 1 : Nat) : Int) := by rw [IntWalk.i64_in _ (by omega)]; omega
    have hl := dfT_len a0 a1 t
    have hi := hin t ht (dfT a0 a1 t) (by omega)
    simp only [impl_spotsOf_g0, h1, hd, cond_true]
    rw [hi]
    simp only [nodeI, impl_spotsOf_k1_n, h3]
    rfl) (by
    have h1 : decide (((2 : Nat) : Int) < 2) = false := by decide
    simp only [impl_spotsOf_g0, h1, cond_false]
    rfl) (by omega)
  refine (impl_spotsOf_ans 18446744073709551616 a0 a1).trans ?_
  have h' : iterO (impl_spotsOf_g0 Try.prog 18446744073709551616 a0 a1) 18446744073709551616 ((0 : Int), 0, (#[] : Array Value)) = some ((2 : Int), (dfT a0 a1 2).length, arrD (dfT a0 a1 2)) := h
  rw [h']
  rfl
noncomputable def impl_spotsOf_con : Con := fun args h => match args, h with
  | [.g a0 36, .g a1 36], [] => some (.a .x, .newS none (dfT a0 a1 2).length (arrD (dfT a0 a1 2)) 49, (pairC a0 a1 == (0 : Int)))
  | _, _ => none
theorem impl_spotsOf_enter : EntX Try.prog 14 := entX_ok (fn := Try.f14) (by kernel_rfl) (by kernel_rfl) (by kernel_rfl)
theorem impl_spotsOf_ok : ConOkX mn Try.prog 14 impl_spotsOf_con := (ansX_ok (N := 18446744073709551616) (by kernel_rfl) (mkΓx_nX impl_eachWater_nok impl_eachWater_enter (mkΓx_iX impl_eachWater_1_iok impl_eachWater_1_enter mkΓx_nilX)) (fn := Try.f14) (by kernel_rfl) (by kernel_rfl) [([8], [2000003, 49]), ([], [2000003, 49])]).of (by
  intro ρ h w args vals r e hA hH hr
  unfold impl_spotsOf_con at hr
  split at hr
  · rename_i a0 a1
    obtain ⟨rfl, hg⟩ := Prod.mk.inj (Option.some.inj hr)
    obtain ⟨rfl, hg2⟩ := Prod.mk.inj hg
    exact impl_spotsOf_main a0 a1 (hA.wt 0 rfl) (hA.wt 1 rfl) hg2
  · cases hr)
noncomputable def spN (A C : Array Value) : Nat := bif (pairC A C == (0 : Int)) then (dfT A C 2).length else 0
noncomputable def spA (A C : Array Value) : Array Value := bif (pairC A C == (0 : Int)) then arrD (dfT A C 2) else #[]
noncomputable def spec_DifferingSpots_G : Cons := (mkΓ [(10, con spec_l05Seas_con), (11, con spec_l05Spots_con)])
theorem spec_DifferingSpots_ans (N : Nat) (a0 : Array Value) (a1 : Array Value) : ansV Try.prog spec_DifferingSpots_G N Try.f4 [] [.g a0 36, .g a1 36] [] = (bif ((spec_l05Seas_v0 a0 a1) != (0 : Int)) then (some (.t [.x, .i .i64 (spec_l05Seas_v0 a0 a1)], .newS (some 0) 0 (#[] : Array Value) 49, true))
    else (some (.t [.x, .i .i64 (0 : Int)], .newS (some 0) ((dfT a0 a1 2).length) (arrD (dfT a0 a1 2)) 49, true))) := by kernel_rfl
theorem spec_DifferingSpots_main0 (a0 : Array Value) (a1 : Array Value) (h_a0 : WT Try.prog 36 a0) (h_a1 : WT Try.prog 36 a1) (hc0 : ((pairC a0 a1 == (0 : Int))) = false) (hg : (true) = true) : ansV Try.prog spec_DifferingSpots_G 1000 Try.f4 [] [.g a0 36, .g a1 36] [] = some (.t [.x, .i .i64 (pairC a0 a1)], .newS (some 0) 0 (#[] : Array Value) 49, true) := by
  refine (spec_DifferingSpots_ans 1000 a0 a1).trans ?_
  rw [← pair_seas]
  simp only [bne, hc0, Bool.not_true, Bool.not_false, cond_true, cond_false]
theorem spec_DifferingSpots_main1 (a0 : Array Value) (a1 : Array Value) (h_a0 : WT Try.prog 36 a0) (h_a1 : WT Try.prog 36 a1) (hc0 : ((pairC a0 a1 == (0 : Int))) = true) (hg : (true) = true) : ansV Try.prog spec_DifferingSpots_G 1000 Try.f4 [] [.g a0 36, .g a1 36] [] = some (.t [.x, .i .i64 (0 : Int)], .newS (some 0) (dfT a0 a1 2).length (arrD (dfT a0 a1 2)) 49, true) := by
  refine (spec_DifferingSpots_ans 1000 a0 a1).trans ?_
  rw [← pair_seas]
  simp only [bne, hc0, Bool.not_true, Bool.not_false, cond_true, cond_false]
noncomputable def spec_DifferingSpots_scon : SCon := fun args h => match args, h with
  | [.g a0 36, .g a1 36], [] => .two ((pairC a0 a1 == (0 : Int))) (.one (some (.t [.x, .i .i64 (0 : Int)], .newS (some 0) (dfT a0 a1 2).length (arrD (dfT a0 a1 2)) 49, true))) (.one (some (.t [.x, .i .i64 (pairC a0 a1)], .newS (some 0) 0 (#[] : Array Value) 49, true)))
  | _, _ => .one none
theorem spec_DifferingSpots_enter : EntX Try.prog 4 := entX_ok (fn := Try.f4) (by kernel_rfl) (by kernel_rfl) (by kernel_rfl)
theorem spec_DifferingSpots_sok : ConOkX mn Try.prog 4 (fun args h => wayRes (spec_DifferingSpots_scon args h)) := by
  intro ρ h w args vals r e hn hr hA hH
  dsimp only at hr
  unfold spec_DifferingSpots_scon at hr
  split at hr
  · rename_i a0 a1
    simp only [wayRes] at hr
    cases hc0 : ((pairC a0 a1 == (0 : Int)))
    · rw [hc0] at hr
      simp only [wayRes, cond_true, cond_false] at hr
      obtain ⟨rfl, hg⟩ := Prod.mk.inj (Option.some.inj hr)
      obtain ⟨rfl, hg2⟩ := Prod.mk.inj hg
      exact ((ansX_ok (N := 1000) (by kernel_rfl) (mkΓ_consX (con_okX spec_l05Seas_ok) spec_l05Seas_enter (mkΓ_consX (con_okX spec_l05Spots_ok) spec_l05Spots_enter mkΓ_nilX)) (fn := Try.f4) (by kernel_rfl) (by kernel_rfl) [])) ρ _ w _ vals _ _ hn ((spec_DifferingSpots_main0 a0 a1 (hA.wt 0 rfl) (hA.wt 1 rfl) hc0 hg2)) hA hH
    · rw [hc0] at hr
      simp only [wayRes, cond_true, cond_false] at hr
      obtain ⟨rfl, hg⟩ := Prod.mk.inj (Option.some.inj hr)
      obtain ⟨rfl, hg2⟩ := Prod.mk.inj hg
      exact ((ansX_ok (N := 1000) (by kernel_rfl) (mkΓ_consX (con_okX spec_l05Seas_ok) spec_l05Seas_enter (mkΓ_consX (con_okX spec_l05Spots_ok) spec_l05Spots_enter mkΓ_nilX)) (fn := Try.f4) (by kernel_rfl) (by kernel_rfl) [])) ρ _ w _ vals _ _ hn ((spec_DifferingSpots_main1 a0 a1 (hA.wt 0 rfl) (hA.wt 1 rfl) hc0 hg2)) hA hH
  · simp only [wayRes] at hr
    cases hr
noncomputable def spec_DifferingSpots_con : Con := fun args h => match args, h with
  | [.g a0 36, .g a1 36], [] => some (.t [.x, .i .i64 (pairC a0 a1)], .newS (some 0) (spN a0 a1) (spA a0 a1) 49, true)
  | _, _ => none
theorem spec_DifferingSpots_ok : ConOkX mn Try.prog 4 spec_DifferingSpots_con := ConOkX.of spec_DifferingSpots_sok (by
  intro ρ h w args vals r e hA hH hr
  unfold spec_DifferingSpots_con at hr
  split at hr
  · rename_i a0 a1
    obtain ⟨rfl, hg⟩ := Prod.mk.inj (Option.some.inj hr)
    obtain ⟨rfl, hg2⟩ := Prod.mk.inj hg
    show wayRes (spec_DifferingSpots_scon _ _) = _
    unfold spec_DifferingSpots_scon
    simp only [wayRes]
    unfold spN spA
    cases hz : (pairC a0 a1 == (0 : Int)) with
    | false => rfl
    | true =>
      have e := beq_iff_eq.1 hz
      rw [e]
      rfl
  · cases hr)
noncomputable def impl_DifferingSpots_G : Cons := (mkΓ [(13, con impl_pairCode_con), (14, con impl_spotsOf_con)])
theorem impl_DifferingSpots_ans (N : Nat) (a0 : Array Value) (a1 : Array Value) : ansV Try.prog impl_DifferingSpots_G N Try.f6 [] [.g a0 36, .g a1 36] [] = (bif ((pairC a0 a1) != (0 : Int)) then (some (.t [.v (.slice none 0 0), .i .i64 (pairC a0 a1)], .none, true))
    else (bif (pairC a0 a1 == (0 : Int)) then (some (.t [.x, .i .i64 (0 : Int)], .newS (some 0) ((dfT a0 a1 2).length) (arrD (dfT a0 a1 2)) 49, true))
      else (none))) := by kernel_rfl
theorem impl_DifferingSpots_main0 (a0 : Array Value) (a1 : Array Value) (h_a0 : WT Try.prog 36 a0) (h_a1 : WT Try.prog 36 a1) (hc0 : ((pairC a0 a1 == (0 : Int))) = false) (hg : (true) = true) : ansV Try.prog impl_DifferingSpots_G 1000 Try.f6 [] [.g a0 36, .g a1 36] [] = some (.t [.v (.slice none 0 0), .i .i64 (pairC a0 a1)], .none, true) := by
  refine (impl_DifferingSpots_ans 1000 a0 a1).trans ?_
  simp only [bne, hc0, Bool.not_true, Bool.not_false, cond_true, cond_false]
theorem impl_DifferingSpots_main1 (a0 : Array Value) (a1 : Array Value) (h_a0 : WT Try.prog 36 a0) (h_a1 : WT Try.prog 36 a1) (hc0 : ((pairC a0 a1 == (0 : Int))) = true) (hg : (true) = true) : ansV Try.prog impl_DifferingSpots_G 1000 Try.f6 [] [.g a0 36, .g a1 36] [] = some (.t [.x, .i .i64 (0 : Int)], .newS (some 0) (dfT a0 a1 2).length (arrD (dfT a0 a1 2)) 49, true) := by
  refine (impl_DifferingSpots_ans 1000 a0 a1).trans ?_
  simp only [bne, hc0, Bool.not_true, Bool.not_false, cond_true, cond_false]
noncomputable def impl_DifferingSpots_scon : SCon := fun args h => match args, h with
  | [.g a0 36, .g a1 36], [] => .two ((pairC a0 a1 == (0 : Int))) (.one (some (.t [.x, .i .i64 (0 : Int)], .newS (some 0) (dfT a0 a1 2).length (arrD (dfT a0 a1 2)) 49, true))) (.one (some (.t [.x, .i .i64 (pairC a0 a1)], .newS (some 0) 0 (#[] : Array Value) 49, true)))
  | _, _ => .one none
theorem impl_DifferingSpots_enter : EntX Try.prog 6 := entX_ok (fn := Try.f6) (by kernel_rfl) (by kernel_rfl) (by kernel_rfl)
theorem impl_DifferingSpots_sok : ConOkX mn Try.prog 6 (fun args h => wayRes (impl_DifferingSpots_scon args h)) := by
  intro ρ h w args vals r e hn hr hA hH
  dsimp only at hr
  unfold impl_DifferingSpots_scon at hr
  split at hr
  · rename_i a0 a1
    simp only [wayRes] at hr
    cases hc0 : ((pairC a0 a1 == (0 : Int)))
    · rw [hc0] at hr
      simp only [wayRes, cond_true, cond_false] at hr
      obtain ⟨rfl, hg⟩ := Prod.mk.inj (Option.some.inj hr)
      obtain ⟨rfl, hg2⟩ := Prod.mk.inj hg
      exact (ConOkX.nil (ansX_ok (N := 1000) (by kernel_rfl) (mkΓ_consX (con_okX impl_pairCode_ok) impl_pairCode_enter (mkΓ_consX (con_okX impl_spotsOf_ok) impl_spotsOf_enter mkΓ_nilX)) (fn := Try.f6) (by kernel_rfl) (by kernel_rfl) []) 0 49) ρ _ w _ vals _ _ hn (congrArg (nilN 0 49) (impl_DifferingSpots_main0 a0 a1 (hA.wt 0 rfl) (hA.wt 1 rfl) hc0 hg2)) hA hH
    · rw [hc0] at hr
      simp only [wayRes, cond_true, cond_false] at hr
      obtain ⟨rfl, hg⟩ := Prod.mk.inj (Option.some.inj hr)
      obtain ⟨rfl, hg2⟩ := Prod.mk.inj hg
      exact ((ansX_ok (N := 1000) (by kernel_rfl) (mkΓ_consX (con_okX impl_pairCode_ok) impl_pairCode_enter (mkΓ_consX (con_okX impl_spotsOf_ok) impl_spotsOf_enter mkΓ_nilX)) (fn := Try.f6) (by kernel_rfl) (by kernel_rfl) [])) ρ _ w _ vals _ _ hn ((impl_DifferingSpots_main1 a0 a1 (hA.wt 0 rfl) (hA.wt 1 rfl) hc0 hg2)) hA hH
  · simp only [wayRes] at hr
    cases hr
noncomputable def impl_DifferingSpots_con : Con := fun args h => match args, h with
  | [.g a0 36, .g a1 36], [] => some (.t [.x, .i .i64 (pairC a0 a1)], .newS (some 0) (spN a0 a1) (spA a0 a1) 49, true)
  | _, _ => none
theorem impl_DifferingSpots_ok : ConOkX mn Try.prog 6 impl_DifferingSpots_con := ConOkX.of impl_DifferingSpots_sok (by
  intro ρ h w args vals r e hA hH hr
  unfold impl_DifferingSpots_con at hr
  split at hr
  · rename_i a0 a1
    obtain ⟨rfl, hg⟩ := Prod.mk.inj (Option.some.inj hr)
    obtain ⟨rfl, hg2⟩ := Prod.mk.inj hg
    show wayRes (impl_DifferingSpots_scon _ _) = _
    unfold impl_DifferingSpots_scon
    simp only [wayRes]
    unfold spN spA
    cases hz : (pairC a0 a1 == (0 : Int)) with
    | false => rfl
    | true =>
      have e := beq_iff_eq.1 hz
      rw [e]
      rfl
  · cases hr)
end
end Go.Proofs.Ytohnggmlmglhmaa
