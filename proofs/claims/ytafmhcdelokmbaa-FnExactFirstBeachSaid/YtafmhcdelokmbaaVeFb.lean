/- The first beach of a path. -/
import Derived.Test.YtafmhcdelokmbaaProg
import Derived.Test.YtafmhcdelokmbaaVeSl
namespace Go.Proofs.Ytafmhcdelokmbaa
open Go.ChangeShapes Go.WideShapes Go.ChangeAt Go.RowKit Ve
set_option linter.unusedVariables false
set_option linter.unusedSimpArgs false
set_option maxRecDepth 100000
noncomputable section

noncomputable def badB (S a1 : Array Value) (k : Nat) : Bool := (num a1 (k * 1) != (-1 : Int)) && !(spec_l01Is_v0 (num a1 (k * 1)) S)
noncomputable def landS (S a1 : Array Value) (k : Nat) : Bool := decide (num a1 (k * 1) ≥ (0 : Int)) && spec_l01Dry_v0 (num a1 (k * 1)) S
noncomputable def landI (S a1 : Array Value) (k : Nat) : Bool := (num a1 (k * 1) != (-1 : Int)) && impl_isLand_v0 S (num a1 (k * 1))
noncomputable def flG (n : Nat) (a1 : Array Value) : Bool := (List.range n).all fun k => (num a1 (k * 1) == (-1 : Int)) || decide (0 ≤ num a1 (k * 1))
noncomputable def flF (S : Array Value) (n : Nat) (a1 : Array Value) : Option Nat := (List.range n).find? (landI S a1)
noncomputable def fbF (S : Array Value) (n : Nat) (a1 : Array Value) : Option Nat := (List.range n).find? (landS S a1)
noncomputable def atC (a1 : Array Value) (o : Option Nat) : Int := (o.map fun k => num a1 (k * 1)).getD 0
noncomputable def atI (o : Option Nat) : Int := (o.map fun k => (k : Int)).getD 0
noncomputable def fbBad (S : Array Value) (n : Nat) (a1 : Array Value) : Bool := ((List.range n).find? (badB S a1)).isSome
noncomputable def fbCode (S : Array Value) (n : Nat) (a1 : Array Value) : Int := bif okS S then (bif fbBad S n a1 then 2 else bif (fbF S n a1).isSome then 0 else 6) else 1
noncomputable def fbC (S : Array Value) (n : Nat) (a1 : Array Value) : Int := bif fbCode S n a1 == 0 then atC a1 (fbF S n a1) else 0
noncomputable def fbI (S : Array Value) (n : Nat) (a1 : Array Value) : Int := bif fbCode S n a1 == 0 then atI (fbF S n a1) else 0
theorem good {S a1 : Array Value} {n : Nat} (h : (List.range n).find? (badB S a1) = none) {k : Nat} (hk : k < n) : num a1 (k * 1) = -1 ∨ spec_l01Is_v0 (num a1 (k * 1)) S = true := by
  have := List.find?_range_eq_none.1 h k hk
  unfold badB at this
  cases h1 : (num a1 (k * 1) != (-1 : Int)) with
  | false => exact .inl (by simpa using h1)
  | true =>
    rw [h1] at this
    exact .inr (by simpa using this)
theorem land_same {S a1 : Array Value} (hS : WT Try.prog 29 S) {k : Nat} (h : num a1 (k * 1) = -1 ∨ spec_l01Is_v0 (num a1 (k * 1)) S = true) : landI S a1 k = landS S a1 k := by
  unfold landI landS
  rcases h with h | h
  · rw [h]; rfl
  · have hr := is_range h
    rw [decide_eq_true hr.1, show (num a1 (k * 1) != (-1 : Int)) = true from bne_iff_ne.2 (by omega), land_dry (land_of hS) hr]

noncomputable def spec_FirstBeach_e0 : Int × Int × Int × Int → LS
  | (y0_4, y0_5, y0_6, y0_7) => ([.a (.i .i64 (y0_4)), .a (.i .i64 (y0_5)), .a (.i .i64 (y0_6)), .a (.i .i64 (y0_7))], [])

noncomputable def spec_FirstBeach_x0 : (Stp (Int × Int × Int × Int) (Int × Int × Int × Int)) → Exit × LS
  | .more t => (.ret, spec_FirstBeach_e0 t)
  | .done t => ((.exit 0), spec_FirstBeach_e0 t)

noncomputable def spec_FirstBeach_g0 (P : Program) (a0 : Array Value) (b_a1 : Option (Option Addr)) (n_a1 : Nat) (a1 : Array Value) : Int × Int × Int × Int → Option (Stp (Int × Int × Int × Int) (Stp (Int × Int × Int × Int) (Int × Int × Int × Int)))
  | (y0_4, y0_5, y0_6, y0_7) => bif decide (y0_7 < (n_a1 : Int)) then (bif (decide (0 ≤ y0_7) && decide (y0_7 < (n_a1 : Int))) then (bif ((num a1 ((y0_7).toNat * 1)) != (-1 : Int)) then (bif (decide (0 ≤ y0_7) && decide (y0_7 < (n_a1 : Int))) then (bif (!((spec_l01Is_v0 (num a1 ((y0_7).toNat * 1)) a0))) then (some (.done (.more ((0 : Int), (0 : Int), (2 : Int), y0_7))))
            else (some (.more (y0_4, y0_5, y0_6, (IntKind.i64.wrap (y0_7 + (1 : Int)))))))
          else (none))
        else (some (.more (y0_4, y0_5, y0_6, (IntKind.i64.wrap (y0_7 + (1 : Int)))))))
      else (none))
    else (some (.done (.done (y0_4, y0_5, y0_6, y0_7))))

theorem spec_FirstBeach_s0 (N : Nat) (a0 : Array Value) (b_a1 : Option (Option Addr)) (n_a1 : Nat) (a1 : Array Value) : ∀ t : Int × Int × Int × Int, stepV Try.prog (mkΓ [(61, con spec_l01Ok_con), (68, con spec_l01Is_con), (93, con spec_l01Dry_con)]) N (cAt (codeOf Try.f44) [1, 1, 0, 1, 0, 0]) (pAt (mkPlan (codeOf Try.f44) [([4, 5, 6, 7], []), ([4, 5, 6, 8], [])]).1 [1, 1, 0, 1, 0]) [4, 5, 6, 7] [] (⟨[.a (.g a0 29), .a (.l 0), .a (.w 1), .a (.u), .a (.i .i64 (0 : Int)), .a (.i .i64 (0 : Int)), .a (.i .i64 (0 : Int)), .a (.i .i64 (0 : Int)), .a (.u), .a (.b ((okS a0))), .a (.b ((!((okS a0))))), .a (.u), .a (.u), .a (.u), .a (.u), .a (.u), .a (.u), .a (.u), .a (.u), .a (.u), .a (.u), .a (.u), .a (.u), .a (.u), .a (.u), .a (.u), .a (.u), .a (.u), .a (.u), .a (.u), .a (.u), .a (.u), .a (.u), .a (.u), .a (.u), .a (.u), .a (.u), .a (.u), .a (.u), .a (.u), .a (.u), .a (.u), .a (.u), .a (.u), .a (.u), .a (.u), .a (.u), .a (.u), .a (.u), .a (.u), .a (.u), .a (.u), .a (.u)], [.sl b_a1 n_a1 a1 2, .row a0 29, .no, .no, .no], []⟩ : St) (spec_FirstBeach_e0 t) = mapS spec_FirstBeach_e0 spec_FirstBeach_x0 (spec_FirstBeach_g0 Try.prog a0 b_a1 n_a1 a1 t) := by
  rintro ⟨y0_4, y0_5, y0_6, y0_7⟩
  have h : stepV Try.prog (mkΓ [(61, con spec_l01Ok_con), (68, con spec_l01Is_con), (93, con spec_l01Dry_con)]) N (cAt (codeOf Try.f44) [1, 1, 0, 1, 0, 0]) (pAt (mkPlan (codeOf Try.f44) [([4, 5, 6, 7], []), ([4, 5, 6, 8], [])]).1 [1, 1, 0, 1, 0]) [4, 5, 6, 7] [] (⟨[.a (.g a0 29), .a (.l 0), .a (.w 1), .a (.u), .a (.i .i64 (0 : Int)), .a (.i .i64 (0 : Int)), .a (.i .i64 (0 : Int)), .a (.i .i64 (0 : Int)), .a (.u), .a (.b ((okS a0))), .a (.b ((!((okS a0))))), .a (.u), .a (.u), .a (.u), .a (.u), .a (.u), .a (.u), .a (.u), .a (.u), .a (.u), .a (.u), .a (.u), .a (.u), .a (.u), .a (.u), .a (.u), .a (.u), .a (.u), .a (.u), .a (.u), .a (.u), .a (.u), .a (.u), .a (.u), .a (.u), .a (.u), .a (.u), .a (.u), .a (.u), .a (.u), .a (.u), .a (.u), .a (.u), .a (.u), .a (.u), .a (.u), .a (.u), .a (.u), .a (.u), .a (.u), .a (.u), .a (.u), .a (.u)], [.sl b_a1 n_a1 a1 2, .row a0 29, .no, .no, .no], []⟩ : St) ([.a (.i .i64 (y0_4)), .a (.i .i64 (y0_5)), .a (.i .i64 (y0_6)), .a (.i .i64 (y0_7))], []) = (bif decide (y0_7 < (n_a1 : Int)) then (bif (decide (0 ≤ y0_7) && decide (y0_7 < (n_a1 : Int))) then (bif ((num a1 ((y0_7).toNat * 1)) != (-1 : Int)) then (bif (decide (0 ≤ y0_7) && decide (y0_7 < (n_a1 : Int))) then (bif (!((spec_l01Is_v0 (num a1 ((y0_7).toNat * 1)) a0))) then (some (.done (.ret, ([.a (.i .i64 (0 : Int)), .a (.i .i64 (0 : Int)), .a (.i .i64 (2 : Int)), .a (.i .i64 (y0_7))], []))))
            else (some (.more ([.a (.i .i64 (y0_4)), .a (.i .i64 (y0_5)), .a (.i .i64 (y0_6)), .a (.i .i64 (IntKind.i64.wrap (y0_7 + (1 : Int))))], []))))
          else (none))
        else (some (.more ([.a (.i .i64 (y0_4)), .a (.i .i64 (y0_5)), .a (.i .i64 (y0_6)), .a (.i .i64 (IntKind.i64.wrap (y0_7 + (1 : Int))))], []))))
      else (none))
    else (some (.done ((.exit 0), ([.a (.i .i64 (y0_4)), .a (.i .i64 (y0_5)), .a (.i .i64 (y0_6)), .a (.i .i64 (y0_7))], []))))) := by kernel_rfl
  refine h.trans ?_
  simp only [spec_FirstBeach_g0, mapS_cond, mapS_more, mapS_done, mapS_none, spec_FirstBeach_e0, spec_FirstBeach_x0]

noncomputable def spec_FirstBeach_e1 : Int × Int × Int × Int → LS
  | (y1_4, y1_5, y1_6, y1_8) => ([.a (.i .i64 (y1_4)), .a (.i .i64 (y1_5)), .a (.i .i64 (y1_6)), .a (.i .i64 (y1_8))], [])

noncomputable def spec_FirstBeach_x1 : (Stp (Int × Int × Int × Int) (Int × Int × Int × Int)) → Exit × LS
  | .more t => (.ret, spec_FirstBeach_e1 t)
  | .done t => ((.exit 2), spec_FirstBeach_e1 t)

noncomputable def spec_FirstBeach_g1 (P : Program) (a0 : Array Value) (b_a1 : Option (Option Addr)) (n_a1 : Nat) (a1 : Array Value) (z0_4 : Int) (z0_5 : Int) (z0_6 : Int) (z0_7 : Int) : Int × Int × Int × Int → Option (Stp (Int × Int × Int × Int) (Stp (Int × Int × Int × Int) (Int × Int × Int × Int)))
  | (y1_4, y1_5, y1_6, y1_8) => bif decide (y1_8 < (n_a1 : Int)) then (bif (decide (0 ≤ y1_8) && decide (y1_8 < (n_a1 : Int))) then (bif decide ((num a1 ((y1_8).toNat * 1)) ≥ (0 : Int)) then (bif (decide (0 ≤ y1_8) && decide (y1_8 < (n_a1 : Int))) then (bif decide (0 ≤ (IntKind.u64.wrap (num a1 ((y1_8).toNat * 1)))) then (bif (spec_l01Dry_v0 (num a1 ((y1_8).toNat * 1)) a0) then (bif (decide (0 ≤ y1_8) && decide (y1_8 < (n_a1 : Int))) then (some (.done (.more ((num a1 ((y1_8).toNat * 1)), y1_8, (0 : Int), y1_8))))
                else (none))
              else (some (.more (y1_4, y1_5, y1_6, (IntKind.i64.wrap (y1_8 + (1 : Int)))))))
            else (none))
          else (none))
        else (some (.more (y1_4, y1_5, y1_6, (IntKind.i64.wrap (y1_8 + (1 : Int)))))))
      else (none))
    else (some (.done (.done (y1_4, y1_5, y1_6, y1_8))))

theorem spec_FirstBeach_s1 (N : Nat) (a0 : Array Value) (b_a1 : Option (Option Addr)) (n_a1 : Nat) (a1 : Array Value) (z0_4 : Int) (z0_5 : Int) (z0_6 : Int) (z0_7 : Int) : ∀ t : Int × Int × Int × Int, stepV Try.prog (mkΓ [(61, con spec_l01Ok_con), (68, con spec_l01Is_con), (93, con spec_l01Dry_con)]) N (cAt (codeOf Try.f44) [1, 1, 1, 0, 1, 0, 0]) (pAt (mkPlan (codeOf Try.f44) [([4, 5, 6, 7], []), ([4, 5, 6, 8], [])]).1 [1, 1, 1, 0, 1, 0]) [4, 5, 6, 8] [] (⟨[.a (.g a0 29), .a (.l 0), .a (.w 1), .a (.u), .a (.i .i64 (z0_4)), .a (.i .i64 (z0_5)), .a (.i .i64 (z0_6)), .a (.i .i64 (z0_7)), .a (.i .i64 (0 : Int)), .a (.b ((okS a0))), .a (.b ((!((okS a0))))), .a (.x), .a (.x), .a (.x), .a (.x), .a (.x), .a (.x), .a (.x), .a (.x), .a (.x), .a (.x), .a (.x), .a (.x), .a (.x), .a (.x), .a (.x), .a (.x), .a (.x), .a (.x), .a (.x), .a (.u), .a (.u), .a (.u), .a (.u), .a (.u), .a (.u), .a (.u), .a (.u), .a (.u), .a (.u), .a (.u), .a (.u), .a (.u), .a (.u), .a (.u), .a (.u), .a (.u), .a (.u), .a (.u), .a (.u), .a (.u), .a (.u), .a (.u)], [.sl b_a1 n_a1 a1 2, .row a0 29, .no, .no, .no], []⟩ : St) (spec_FirstBeach_e1 t) = mapS spec_FirstBeach_e1 spec_FirstBeach_x1 (spec_FirstBeach_g1 Try.prog a0 b_a1 n_a1 a1 z0_4 z0_5 z0_6 z0_7 t) := by
  rintro ⟨y1_4, y1_5, y1_6, y1_8⟩
  have h : stepV Try.prog (mkΓ [(61, con spec_l01Ok_con), (68, con spec_l01Is_con), (93, con spec_l01Dry_con)]) N (cAt (codeOf Try.f44) [1, 1, 1, 0, 1, 0, 0]) (pAt (mkPlan (codeOf Try.f44) [([4, 5, 6, 7], []), ([4, 5, 6, 8], [])]).1 [1, 1, 1, 0, 1, 0]) [4, 5, 6, 8] [] (⟨[.a (.g a0 29), .a (.l 0), .a (.w 1), .a (.u), .a (.i .i64 (z0_4)), .a (.i .i64 (z0_5)), .a (.i .i64 (z0_6)), .a (.i .i64 (z0_7)), .a (.i .i64 (0 : Int)), .a (.b ((okS a0))), .a (.b ((!((okS a0))))), .a (.x), .a (.x), .a (.x), .a (.x), .a (.x), .a (.x), .a (.x), .a (.x), .a (.x), .a (.x), .a (.x), .a (.x), .a (.x), .a (.x), .a (.x), .a (.x), .a (.x), .a (.x), .a (.x), .a (.u), .a (.u), .a (.u), .a (.u), .a (.u), .a (.u), .a (.u), .a (.u), .a (.u), .a (.u), .a (.u), .a (.u), .a (.u), .a (.u), .a (.u), .a (.u), .a (.u), .a (.u), .a (.u), .a (.u), .a (.u), .a (.u), .a (.u)], [.sl b_a1 n_a1 a1 2, .row a0 29, .no, .no, .no], []⟩ : St) ([.a (.i .i64 (y1_4)), .a (.i .i64 (y1_5)), .a (.i .i64 (y1_6)), .a (.i .i64 (y1_8))], []) = (bif decide (y1_8 < (n_a1 : Int)) then (bif (decide (0 ≤ y1_8) && decide (y1_8 < (n_a1 : Int))) then (bif decide ((num a1 ((y1_8).toNat * 1)) ≥ (0 : Int)) then (bif (decide (0 ≤ y1_8) && decide (y1_8 < (n_a1 : Int))) then (bif decide (0 ≤ (IntKind.u64.wrap (num a1 ((y1_8).toNat * 1)))) then (bif (spec_l01Dry_v0 (num a1 ((y1_8).toNat * 1)) a0) then (bif (decide (0 ≤ y1_8) && decide (y1_8 < (n_a1 : Int))) then (some (.done (.ret, ([.a (.i .i64 (num a1 ((y1_8).toNat * 1))), .a (.i .i64 (y1_8)), .a (.i .i64 (0 : Int)), .a (.i .i64 (y1_8))], []))))
                else (none))
              else (some (.more ([.a (.i .i64 (y1_4)), .a (.i .i64 (y1_5)), .a (.i .i64 (y1_6)), .a (.i .i64 (IntKind.i64.wrap (y1_8 + (1 : Int))))], []))))
            else (none))
          else (none))
        else (some (.more ([.a (.i .i64 (y1_4)), .a (.i .i64 (y1_5)), .a (.i .i64 (y1_6)), .a (.i .i64 (IntKind.i64.wrap (y1_8 + (1 : Int))))], []))))
      else (none))
    else (some (.done ((.exit 2), ([.a (.i .i64 (y1_4)), .a (.i .i64 (y1_5)), .a (.i .i64 (y1_6)), .a (.i .i64 (y1_8))], []))))) := by kernel_rfl
  refine h.trans ?_
  simp only [spec_FirstBeach_g1, mapS_cond, mapS_more, mapS_done, mapS_none, spec_FirstBeach_e1, spec_FirstBeach_x1]

noncomputable def spec_FirstBeach_k1_0 (P : Program) (N : Nat) (a0 : Array Value) (b_a1 : Option (Option Addr)) (n_a1 : Nat) (a1 : Array Value) (z0_4 : Int) (z0_5 : Int) (z0_6 : Int) (z0_7 : Int) (z1_4 : Int) (z1_5 : Int) (z1_6 : Int) (z1_8 : Int) : Option (SV × Eff × Bool) := some (.t [.i .i64 (z1_4), .i .i64 (z1_5), .i .i64 (z1_6)], .none, true)

theorem spec_FirstBeach_k1_0_eq (N : Nat) (a0 : Array Value) (b_a1 : Option (Option Addr)) (n_a1 : Nat) (a1 : Array Value) (z0_4 : Int) (z0_5 : Int) (z0_6 : Int) (z0_7 : Int) (z1_4 : Int) (z1_5 : Int) (z1_6 : Int) (z1_8 : Int) : (kBlock 2 (kSeq (veC Try.prog (mkΓ [(61, con spec_l01Ok_con), (68, con spec_l01Is_con), (93, con spec_l01Dry_con)]) N (cAt (codeOf Try.f44) [1, 1, 1, 1]) (pAt (mkPlan (codeOf Try.f44) [([4, 5, 6, 7], []), ([4, 5, 6, 8], [])]).1 [1, 1, 1, 1]) (SV × Eff × Bool)) (finK Try.prog [.sl b_a1 n_a1 a1 2] [.tmp 4, .tmp 5, .tmp 6]))) .ret (left (writes (cAt (codeOf Try.f44) [1, 1, 1, 0, 1, 0, 0])) [4, 5, 6, 8] [] (⟨[.a (.g a0 29), .a (.l 0), .a (.w 1), .a (.u), .a (.i .i64 (z0_4)), .a (.i .i64 (z0_5)), .a (.i .i64 (z0_6)), .a (.i .i64 (z0_7)), .a (.i .i64 (0 : Int)), .a (.b ((okS a0))), .a (.b ((!((okS a0))))), .a (.x), .a (.x), .a (.x), .a (.x), .a (.x), .a (.x), .a (.x), .a (.x), .a (.x), .a (.x), .a (.x), .a (.x), .a (.x), .a (.x), .a (.x), .a (.x), .a (.x), .a (.x), .a (.x), .a (.u), .a (.u), .a (.u), .a (.u), .a (.u), .a (.u), .a (.u), .a (.u), .a (.u), .a (.u), .a (.u), .a (.u), .a (.u), .a (.u), .a (.u), .a (.u), .a (.u), .a (.u), .a (.u), .a (.u), .a (.u), .a (.u), .a (.u)], [.sl b_a1 n_a1 a1 2, .row a0 29, .no, .no, .no], []⟩ : St) ([.a (.i .i64 (z1_4)), .a (.i .i64 (z1_5)), .a (.i .i64 (z1_6)), .a (.i .i64 (z1_8))], [])) = spec_FirstBeach_k1_0 Try.prog N a0 b_a1 n_a1 a1 z0_4 z0_5 z0_6 z0_7 z1_4 z1_5 z1_6 z1_8 := by
  have h : (kBlock 2 (kSeq (veC Try.prog (mkΓ [(61, con spec_l01Ok_con), (68, con spec_l01Is_con), (93, con spec_l01Dry_con)]) N (cAt (codeOf Try.f44) [1, 1, 1, 1]) (pAt (mkPlan (codeOf Try.f44) [([4, 5, 6, 7], []), ([4, 5, 6, 8], [])]).1 [1, 1, 1, 1]) (SV × Eff × Bool)) (finK Try.prog [.sl b_a1 n_a1 a1 2] [.tmp 4, .tmp 5, .tmp 6]))) .ret (left (writes (cAt (codeOf Try.f44) [1, 1, 1, 0, 1, 0, 0])) [4, 5, 6, 8] [] (⟨[.a (.g a0 29), .a (.l 0), .a (.w 1), .a (.u), .a (.i .i64 (z0_4)), .a (.i .i64 (z0_5)), .a (.i .i64 (z0_6)), .a (.i .i64 (z0_7)), .a (.i .i64 (0 : Int)), .a (.b ((okS a0))), .a (.b ((!((okS a0))))), .a (.x), .a (.x), .a (.x), .a (.x), .a (.x), .a (.x), .a (.x), .a (.x), .a (.x), .a (.x), .a (.x), .a (.x), .a (.x), .a (.x), .a (.x), .a (.x), .a (.x), .a (.x), .a (.x), .a (.u), .a (.u), .a (.u), .a (.u), .a (.u), .a (.u), .a (.u), .a (.u), .a (.u), .a (.u), .a (.u), .a (.u), .a (.u), .a (.u), .a (.u), .a (.u), .a (.u), .a (.u), .a (.u), .a (.u), .a (.u), .a (.u), .a (.u)], [.sl b_a1 n_a1 a1 2, .row a0 29, .no, .no, .no], []⟩ : St) ([.a (.i .i64 (z1_4)), .a (.i .i64 (z1_5)), .a (.i .i64 (z1_6)), .a (.i .i64 (z1_8))], [])) = (some (.t [.i .i64 (z1_4), .i .i64 (z1_5), .i .i64 (z1_6)], .none, true)) := by kernel_rfl
  refine h.trans ?_
  rfl

noncomputable def spec_FirstBeach_k1_1 (P : Program) (N : Nat) (a0 : Array Value) (b_a1 : Option (Option Addr)) (n_a1 : Nat) (a1 : Array Value) (z0_4 : Int) (z0_5 : Int) (z0_6 : Int) (z0_7 : Int) (z1_4 : Int) (z1_5 : Int) (z1_6 : Int) (z1_8 : Int) : Option (SV × Eff × Bool) := some (.t [.i .i64 (0 : Int), .i .i64 (0 : Int), .i .i64 (6 : Int)], .none, true)

theorem spec_FirstBeach_k1_1_eq (N : Nat) (a0 : Array Value) (b_a1 : Option (Option Addr)) (n_a1 : Nat) (a1 : Array Value) (z0_4 : Int) (z0_5 : Int) (z0_6 : Int) (z0_7 : Int) (z1_4 : Int) (z1_5 : Int) (z1_6 : Int) (z1_8 : Int) : (kBlock 2 (kSeq (veC Try.prog (mkΓ [(61, con spec_l01Ok_con), (68, con spec_l01Is_con), (93, con spec_l01Dry_con)]) N (cAt (codeOf Try.f44) [1, 1, 1, 1]) (pAt (mkPlan (codeOf Try.f44) [([4, 5, 6, 7], []), ([4, 5, 6, 8], [])]).1 [1, 1, 1, 1]) (SV × Eff × Bool)) (finK Try.prog [.sl b_a1 n_a1 a1 2] [.tmp 4, .tmp 5, .tmp 6]))) (.exit 2) (left (writes (cAt (codeOf Try.f44) [1, 1, 1, 0, 1, 0, 0])) [4, 5, 6, 8] [] (⟨[.a (.g a0 29), .a (.l 0), .a (.w 1), .a (.u), .a (.i .i64 (z0_4)), .a (.i .i64 (z0_5)), .a (.i .i64 (z0_6)), .a (.i .i64 (z0_7)), .a (.i .i64 (0 : Int)), .a (.b ((okS a0))), .a (.b ((!((okS a0))))), .a (.x), .a (.x), .a (.x), .a (.x), .a (.x), .a (.x), .a (.x), .a (.x), .a (.x), .a (.x), .a (.x), .a (.x), .a (.x), .a (.x), .a (.x), .a (.x), .a (.x), .a (.x), .a (.x), .a (.u), .a (.u), .a (.u), .a (.u), .a (.u), .a (.u), .a (.u), .a (.u), .a (.u), .a (.u), .a (.u), .a (.u), .a (.u), .a (.u), .a (.u), .a (.u), .a (.u), .a (.u), .a (.u), .a (.u), .a (.u), .a (.u), .a (.u)], [.sl b_a1 n_a1 a1 2, .row a0 29, .no, .no, .no], []⟩ : St) ([.a (.i .i64 (z1_4)), .a (.i .i64 (z1_5)), .a (.i .i64 (z1_6)), .a (.i .i64 (z1_8))], [])) = spec_FirstBeach_k1_1 Try.prog N a0 b_a1 n_a1 a1 z0_4 z0_5 z0_6 z0_7 z1_4 z1_5 z1_6 z1_8 := by
  have h : (kBlock 2 (kSeq (veC Try.prog (mkΓ [(61, con spec_l01Ok_con), (68, con spec_l01Is_con), (93, con spec_l01Dry_con)]) N (cAt (codeOf Try.f44) [1, 1, 1, 1]) (pAt (mkPlan (codeOf Try.f44) [([4, 5, 6, 7], []), ([4, 5, 6, 8], [])]).1 [1, 1, 1, 1]) (SV × Eff × Bool)) (finK Try.prog [.sl b_a1 n_a1 a1 2] [.tmp 4, .tmp 5, .tmp 6]))) (.exit 2) (left (writes (cAt (codeOf Try.f44) [1, 1, 1, 0, 1, 0, 0])) [4, 5, 6, 8] [] (⟨[.a (.g a0 29), .a (.l 0), .a (.w 1), .a (.u), .a (.i .i64 (z0_4)), .a (.i .i64 (z0_5)), .a (.i .i64 (z0_6)), .a (.i .i64 (z0_7)), .a (.i .i64 (0 : Int)), .a (.b ((okS a0))), .a (.b ((!((okS a0))))), .a (.x), .a (.x), .a (.x), .a (.x), .a (.x), .a (.x), .a (.x), .a (.x), .a (.x), .a (.x), .a (.x), .a (.x), .a (.x), .a (.x), .a (.x), .a (.x), .a (.x), .a (.x), .a (.x), .a (.u), .a (.u), .a (.u), .a (.u), .a (.u), .a (.u), .a (.u), .a (.u), .a (.u), .a (.u), .a (.u), .a (.u), .a (.u), .a (.u), .a (.u), .a (.u), .a (.u), .a (.u), .a (.u), .a (.u), .a (.u), .a (.u), .a (.u)], [.sl b_a1 n_a1 a1 2, .row a0 29, .no, .no, .no], []⟩ : St) ([.a (.i .i64 (z1_4)), .a (.i .i64 (z1_5)), .a (.i .i64 (z1_6)), .a (.i .i64 (z1_8))], [])) = (some (.t [.i .i64 (0 : Int), .i .i64 (0 : Int), .i .i64 (6 : Int)], .none, true)) := by kernel_rfl
  refine h.trans ?_
  rfl

theorem spec_FirstBeach_n1 (N : Nat) (a0 : Array Value) (b_a1 : Option (Option Addr)) (n_a1 : Nat) (a1 : Array Value) (z0_4 : Int) (z0_5 : Int) (z0_6 : Int) (z0_7 : Int) : bindX (iterO (stepV Try.prog (mkΓ [(61, con spec_l01Ok_con), (68, con spec_l01Is_con), (93, con spec_l01Dry_con)]) N (cAt (codeOf Try.f44) [1, 1, 1, 0, 1, 0, 0]) (pAt (mkPlan (codeOf Try.f44) [([4, 5, 6, 7], []), ([4, 5, 6, 8], [])]).1 [1, 1, 1, 0, 1, 0]) [4, 5, 6, 8] [] (⟨[.a (.g a0 29), .a (.l 0), .a (.w 1), .a (.u), .a (.i .i64 (z0_4)), .a (.i .i64 (z0_5)), .a (.i .i64 (z0_6)), .a (.i .i64 (z0_7)), .a (.i .i64 (0 : Int)), .a (.b ((okS a0))), .a (.b ((!((okS a0))))), .a (.x), .a (.x), .a (.x), .a (.x), .a (.x), .a (.x), .a (.x), .a (.x), .a (.x), .a (.x), .a (.x), .a (.x), .a (.x), .a (.x), .a (.x), .a (.x), .a (.x), .a (.x), .a (.x), .a (.u), .a (.u), .a (.u), .a (.u), .a (.u), .a (.u), .a (.u), .a (.u), .a (.u), .a (.u), .a (.u), .a (.u), .a (.u), .a (.u), .a (.u), .a (.u), .a (.u), .a (.u), .a (.u), .a (.u), .a (.u), .a (.u), .a (.u)], [.sl b_a1 n_a1 a1 2, .row a0 29, .no, .no, .no], []⟩ : St)) N ([.a (.i .i64 (z0_4)), .a (.i .i64 (z0_5)), .a (.i .i64 (z0_6)), .a (.i .i64 (0 : Int))], [])) (fun e s => (kBlock 2 (kSeq (veC Try.prog (mkΓ [(61, con spec_l01Ok_con), (68, con spec_l01Is_con), (93, con spec_l01Dry_con)]) N (cAt (codeOf Try.f44) [1, 1, 1, 1]) (pAt (mkPlan (codeOf Try.f44) [([4, 5, 6, 7], []), ([4, 5, 6, 8], [])]).1 [1, 1, 1, 1]) (SV × Eff × Bool)) (finK Try.prog [.sl b_a1 n_a1 a1 2] [.tmp 4, .tmp 5, .tmp 6]))) e (left (writes (cAt (codeOf Try.f44) [1, 1, 1, 0, 1, 0, 0])) [4, 5, 6, 8] [] (⟨[.a (.g a0 29), .a (.l 0), .a (.w 1), .a (.u), .a (.i .i64 (z0_4)), .a (.i .i64 (z0_5)), .a (.i .i64 (z0_6)), .a (.i .i64 (z0_7)), .a (.i .i64 (0 : Int)), .a (.b ((okS a0))), .a (.b ((!((okS a0))))), .a (.x), .a (.x), .a (.x), .a (.x), .a (.x), .a (.x), .a (.x), .a (.x), .a (.x), .a (.x), .a (.x), .a (.x), .a (.x), .a (.x), .a (.x), .a (.x), .a (.x), .a (.x), .a (.x), .a (.u), .a (.u), .a (.u), .a (.u), .a (.u), .a (.u), .a (.u), .a (.u), .a (.u), .a (.u), .a (.u), .a (.u), .a (.u), .a (.u), .a (.u), .a (.u), .a (.u), .a (.u), .a (.u), .a (.u), .a (.u), .a (.u), .a (.u)], [.sl b_a1 n_a1 a1 2, .row a0 29, .no, .no, .no], []⟩ : St) s)) = nodeX (iterO (spec_FirstBeach_g1 Try.prog a0 b_a1 n_a1 a1 z0_4 z0_5 z0_6 z0_7) N (z0_4, z0_5, z0_6, (0 : Int))) (st2 (fun x => spec_FirstBeach_k1_0 Try.prog N a0 b_a1 n_a1 a1 z0_4 z0_5 z0_6 z0_7 x.1 x.2.1 x.2.2.1 x.2.2.2) (fun x => spec_FirstBeach_k1_1 Try.prog N a0 b_a1 n_a1 a1 z0_4 z0_5 z0_6 z0_7 x.1 x.2.1 x.2.2.1 x.2.2.2)) := by
  refine loop_node spec_FirstBeach_e1 spec_FirstBeach_x1 _ _ (spec_FirstBeach_s1 N a0 b_a1 n_a1 a1 z0_4 z0_5 z0_6 z0_7) N (z0_4, z0_5, z0_6, (0 : Int)) _ _ ?_
  intro x
  cases x with
  | more x => exact spec_FirstBeach_k1_0_eq N a0 b_a1 n_a1 a1 z0_4 z0_5 z0_6 z0_7 x.1 x.2.1 x.2.2.1 x.2.2.2
  | done x => exact spec_FirstBeach_k1_1_eq N a0 b_a1 n_a1 a1 z0_4 z0_5 z0_6 z0_7 x.1 x.2.1 x.2.2.1 x.2.2.2

noncomputable def spec_FirstBeach_k0_0 (P : Program) (N : Nat) (a0 : Array Value) (b_a1 : Option (Option Addr)) (n_a1 : Nat) (a1 : Array Value) (z0_4 : Int) (z0_5 : Int) (z0_6 : Int) (z0_7 : Int) : Option (SV × Eff × Bool) := some (.t [.i .i64 (z0_4), .i .i64 (z0_5), .i .i64 (z0_6)], .none, true)

theorem spec_FirstBeach_k0_0_eq (N : Nat) (a0 : Array Value) (b_a1 : Option (Option Addr)) (n_a1 : Nat) (a1 : Array Value) (z0_4 : Int) (z0_5 : Int) (z0_6 : Int) (z0_7 : Int) : (kBlock 0 (kSeq (veC Try.prog (mkΓ [(61, con spec_l01Ok_con), (68, con spec_l01Is_con), (93, con spec_l01Dry_con)]) N (cAt (codeOf Try.f44) [1, 1, 1]) (pAt (mkPlan (codeOf Try.f44) [([4, 5, 6, 7], []), ([4, 5, 6, 8], [])]).1 [1, 1, 1]) (SV × Eff × Bool)) (finK Try.prog [.sl b_a1 n_a1 a1 2] [.tmp 4, .tmp 5, .tmp 6]))) .ret (left (writes (cAt (codeOf Try.f44) [1, 1, 0, 1, 0, 0])) [4, 5, 6, 7] [] (⟨[.a (.g a0 29), .a (.l 0), .a (.w 1), .a (.u), .a (.i .i64 (0 : Int)), .a (.i .i64 (0 : Int)), .a (.i .i64 (0 : Int)), .a (.i .i64 (0 : Int)), .a (.u), .a (.b ((okS a0))), .a (.b ((!((okS a0))))), .a (.u), .a (.u), .a (.u), .a (.u), .a (.u), .a (.u), .a (.u), .a (.u), .a (.u), .a (.u), .a (.u), .a (.u), .a (.u), .a (.u), .a (.u), .a (.u), .a (.u), .a (.u), .a (.u), .a (.u), .a (.u), .a (.u), .a (.u), .a (.u), .a (.u), .a (.u), .a (.u), .a (.u), .a (.u), .a (.u), .a (.u), .a (.u), .a (.u), .a (.u), .a (.u), .a (.u), .a (.u), .a (.u), .a (.u), .a (.u), .a (.u), .a (.u)], [.sl b_a1 n_a1 a1 2, .row a0 29, .no, .no, .no], []⟩ : St) ([.a (.i .i64 (z0_4)), .a (.i .i64 (z0_5)), .a (.i .i64 (z0_6)), .a (.i .i64 (z0_7))], [])) = spec_FirstBeach_k0_0 Try.prog N a0 b_a1 n_a1 a1 z0_4 z0_5 z0_6 z0_7 := by
  have h : (kBlock 0 (kSeq (veC Try.prog (mkΓ [(61, con spec_l01Ok_con), (68, con spec_l01Is_con), (93, con spec_l01Dry_con)]) N (cAt (codeOf Try.f44) [1, 1, 1]) (pAt (mkPlan (codeOf Try.f44) [([4, 5, 6, 7], []), ([4, 5, 6, 8], [])]).1 [1, 1, 1]) (SV × Eff × Bool)) (finK Try.prog [.sl b_a1 n_a1 a1 2] [.tmp 4, .tmp 5, .tmp 6]))) .ret (left (writes (cAt (codeOf Try.f44) [1, 1, 0, 1, 0, 0])) [4, 5, 6, 7] [] (⟨[.a (.g a0 29), .a (.l 0), .a (.w 1), .a (.u), .a (.i .i64 (0 : Int)), .a (.i .i64 (0 : Int)), .a (.i .i64 (0 : Int)), .a (.i .i64 (0 : Int)), .a (.u), .a (.b ((okS a0))), .a (.b ((!((okS a0))))), .a (.u), .a (.u), .a (.u), .a (.u), .a (.u), .a (.u), .a (.u), .a (.u), .a (.u), .a (.u), .a (.u), .a (.u), .a (.u), .a (.u), .a (.u), .a (.u), .a (.u), .a (.u), .a (.u), .a (.u), .a (.u), .a (.u), .a (.u), .a (.u), .a (.u), .a (.u), .a (.u), .a (.u), .a (.u), .a (.u), .a (.u), .a (.u), .a (.u), .a (.u), .a (.u), .a (.u), .a (.u), .a (.u), .a (.u), .a (.u), .a (.u), .a (.u)], [.sl b_a1 n_a1 a1 2, .row a0 29, .no, .no, .no], []⟩ : St) ([.a (.i .i64 (z0_4)), .a (.i .i64 (z0_5)), .a (.i .i64 (z0_6)), .a (.i .i64 (z0_7))], [])) = (some (.t [.i .i64 (z0_4), .i .i64 (z0_5), .i .i64 (z0_6)], .none, true)) := by kernel_rfl
  refine h.trans ?_
  rfl

noncomputable def spec_FirstBeach_k0_1 (P : Program) (N : Nat) (a0 : Array Value) (b_a1 : Option (Option Addr)) (n_a1 : Nat) (a1 : Array Value) (z0_4 : Int) (z0_5 : Int) (z0_6 : Int) (z0_7 : Int) : Option (SV × Eff × Bool) := nodeX (iterO (spec_FirstBeach_g1 P a0 b_a1 n_a1 a1 z0_4 z0_5 z0_6 z0_7) N (z0_4, z0_5, z0_6, (0 : Int))) (st2 (fun x => spec_FirstBeach_k1_0 P N a0 b_a1 n_a1 a1 z0_4 z0_5 z0_6 z0_7 x.1 x.2.1 x.2.2.1 x.2.2.2) (fun x => spec_FirstBeach_k1_1 P N a0 b_a1 n_a1 a1 z0_4 z0_5 z0_6 z0_7 x.1 x.2.1 x.2.2.1 x.2.2.2))

theorem spec_FirstBeach_k0_1_eq (N : Nat) (a0 : Array Value) (b_a1 : Option (Option Addr)) (n_a1 : Nat) (a1 : Array Value) (z0_4 : Int) (z0_5 : Int) (z0_6 : Int) (z0_7 : Int) : (kBlock 0 (kSeq (veC Try.prog (mkΓ [(61, con spec_l01Ok_con), (68, con spec_l01Is_con), (93, con spec_l01Dry_con)]) N (cAt (codeOf Try.f44) [1, 1, 1]) (pAt (mkPlan (codeOf Try.f44) [([4, 5, 6, 7], []), ([4, 5, 6, 8], [])]).1 [1, 1, 1]) (SV × Eff × Bool)) (finK Try.prog [.sl b_a1 n_a1 a1 2] [.tmp 4, .tmp 5, .tmp 6]))) (.exit 0) (left (writes (cAt (codeOf Try.f44) [1, 1, 0, 1, 0, 0])) [4, 5, 6, 7] [] (⟨[.a (.g a0 29), .a (.l 0), .a (.w 1), .a (.u), .a (.i .i64 (0 : Int)), .a (.i .i64 (0 : Int)), .a (.i .i64 (0 : Int)), .a (.i .i64 (0 : Int)), .a (.u), .a (.b ((okS a0))), .a (.b ((!((okS a0))))), .a (.u), .a (.u), .a (.u), .a (.u), .a (.u), .a (.u), .a (.u), .a (.u), .a (.u), .a (.u), .a (.u), .a (.u), .a (.u), .a (.u), .a (.u), .a (.u), .a (.u), .a (.u), .a (.u), .a (.u), .a (.u), .a (.u), .a (.u), .a (.u), .a (.u), .a (.u), .a (.u), .a (.u), .a (.u), .a (.u), .a (.u), .a (.u), .a (.u), .a (.u), .a (.u), .a (.u), .a (.u), .a (.u), .a (.u), .a (.u), .a (.u), .a (.u)], [.sl b_a1 n_a1 a1 2, .row a0 29, .no, .no, .no], []⟩ : St) ([.a (.i .i64 (z0_4)), .a (.i .i64 (z0_5)), .a (.i .i64 (z0_6)), .a (.i .i64 (z0_7))], [])) = spec_FirstBeach_k0_1 Try.prog N a0 b_a1 n_a1 a1 z0_4 z0_5 z0_6 z0_7 := by
  have h : (kBlock 0 (kSeq (veC Try.prog (mkΓ [(61, con spec_l01Ok_con), (68, con spec_l01Is_con), (93, con spec_l01Dry_con)]) N (cAt (codeOf Try.f44) [1, 1, 1]) (pAt (mkPlan (codeOf Try.f44) [([4, 5, 6, 7], []), ([4, 5, 6, 8], [])]).1 [1, 1, 1]) (SV × Eff × Bool)) (finK Try.prog [.sl b_a1 n_a1 a1 2] [.tmp 4, .tmp 5, .tmp 6]))) (.exit 0) (left (writes (cAt (codeOf Try.f44) [1, 1, 0, 1, 0, 0])) [4, 5, 6, 7] [] (⟨[.a (.g a0 29), .a (.l 0), .a (.w 1), .a (.u), .a (.i .i64 (0 : Int)), .a (.i .i64 (0 : Int)), .a (.i .i64 (0 : Int)), .a (.i .i64 (0 : Int)), .a (.u), .a (.b ((okS a0))), .a (.b ((!((okS a0))))), .a (.u), .a (.u), .a (.u), .a (.u), .a (.u), .a (.u), .a (.u), .a (.u), .a (.u), .a (.u), .a (.u), .a (.u), .a (.u), .a (.u), .a (.u), .a (.u), .a (.u), .a (.u), .a (.u), .a (.u), .a (.u), .a (.u), .a (.u), .a (.u), .a (.u), .a (.u), .a (.u), .a (.u), .a (.u), .a (.u), .a (.u), .a (.u), .a (.u), .a (.u), .a (.u), .a (.u), .a (.u), .a (.u), .a (.u), .a (.u), .a (.u), .a (.u)], [.sl b_a1 n_a1 a1 2, .row a0 29, .no, .no, .no], []⟩ : St) ([.a (.i .i64 (z0_4)), .a (.i .i64 (z0_5)), .a (.i .i64 (z0_6)), .a (.i .i64 (z0_7))], [])) = (bindX (iterO (stepV Try.prog (mkΓ [(61, con spec_l01Ok_con), (68, con spec_l01Is_con), (93, con spec_l01Dry_con)]) N (cAt (codeOf Try.f44) [1, 1, 1, 0, 1, 0, 0]) (pAt (mkPlan (codeOf Try.f44) [([4, 5, 6, 7], []), ([4, 5, 6, 8], [])]).1 [1, 1, 1, 0, 1, 0]) [4, 5, 6, 8] [] (⟨[.a (.g a0 29), .a (.l 0), .a (.w 1), .a (.u), .a (.i .i64 (z0_4)), .a (.i .i64 (z0_5)), .a (.i .i64 (z0_6)), .a (.i .i64 (z0_7)), .a (.i .i64 (0 : Int)), .a (.b ((okS a0))), .a (.b ((!((okS a0))))), .a (.x), .a (.x), .a (.x), .a (.x), .a (.x), .a (.x), .a (.x), .a (.x), .a (.x), .a (.x), .a (.x), .a (.x), .a (.x), .a (.x), .a (.x), .a (.x), .a (.x), .a (.x), .a (.x), .a (.u), .a (.u), .a (.u), .a (.u), .a (.u), .a (.u), .a (.u), .a (.u), .a (.u), .a (.u), .a (.u), .a (.u), .a (.u), .a (.u), .a (.u), .a (.u), .a (.u), .a (.u), .a (.u), .a (.u), .a (.u), .a (.u), .a (.u)], [.sl b_a1 n_a1 a1 2, .row a0 29, .no, .no, .no], []⟩ : St)) N ([.a (.i .i64 (z0_4)), .a (.i .i64 (z0_5)), .a (.i .i64 (z0_6)), .a (.i .i64 (0 : Int))], [])) (fun e s => (kBlock 2 (kSeq (veC Try.prog (mkΓ [(61, con spec_l01Ok_con), (68, con spec_l01Is_con), (93, con spec_l01Dry_con)]) N (cAt (codeOf Try.f44) [1, 1, 1, 1]) (pAt (mkPlan (codeOf Try.f44) [([4, 5, 6, 7], []), ([4, 5, 6, 8], [])]).1 [1, 1, 1, 1]) (SV × Eff × Bool)) (finK Try.prog [.sl b_a1 n_a1 a1 2] [.tmp 4, .tmp 5, .tmp 6]))) e (left (writes (cAt (codeOf Try.f44) [1, 1, 1, 0, 1, 0, 0])) [4, 5, 6, 8] [] (⟨[.a (.g a0 29), .a (.l 0), .a (.w 1), .a (.u), .a (.i .i64 (z0_4)), .a (.i .i64 (z0_5)), .a (.i .i64 (z0_6)), .a (.i .i64 (z0_7)), .a (.i .i64 (0 : Int)), .a (.b ((okS a0))), .a (.b ((!((okS a0))))), .a (.x), .a (.x), .a (.x), .a (.x), .a (.x), .a (.x), .a (.x), .a (.x), .a (.x), .a (.x), .a (.x), .a (.x), .a (.x), .a (.x), .a (.x), .a (.x), .a (.x), .a (.x), .a (.x), .a (.u), .a (.u), .a (.u), .a (.u), .a (.u), .a (.u), .a (.u), .a (.u), .a (.u), .a (.u), .a (.u), .a (.u), .a (.u), .a (.u), .a (.u), .a (.u), .a (.u), .a (.u), .a (.u), .a (.u), .a (.u), .a (.u), .a (.u)], [.sl b_a1 n_a1 a1 2, .row a0 29, .no, .no, .no], []⟩ : St) s))) := by kernel_rfl
  refine h.trans ?_
  simp only [spec_FirstBeach_n1, spec_FirstBeach_k0_1]

theorem spec_FirstBeach_n0 (N : Nat) (a0 : Array Value) (b_a1 : Option (Option Addr)) (n_a1 : Nat) (a1 : Array Value) : bindX (iterO (stepV Try.prog (mkΓ [(61, con spec_l01Ok_con), (68, con spec_l01Is_con), (93, con spec_l01Dry_con)]) N (cAt (codeOf Try.f44) [1, 1, 0, 1, 0, 0]) (pAt (mkPlan (codeOf Try.f44) [([4, 5, 6, 7], []), ([4, 5, 6, 8], [])]).1 [1, 1, 0, 1, 0]) [4, 5, 6, 7] [] (⟨[.a (.g a0 29), .a (.l 0), .a (.w 1), .a (.u), .a (.i .i64 (0 : Int)), .a (.i .i64 (0 : Int)), .a (.i .i64 (0 : Int)), .a (.i .i64 (0 : Int)), .a (.u), .a (.b ((okS a0))), .a (.b ((!((okS a0))))), .a (.u), .a (.u), .a (.u), .a (.u), .a (.u), .a (.u), .a (.u), .a (.u), .a (.u), .a (.u), .a (.u), .a (.u), .a (.u), .a (.u), .a (.u), .a (.u), .a (.u), .a (.u), .a (.u), .a (.u), .a (.u), .a (.u), .a (.u), .a (.u), .a (.u), .a (.u), .a (.u), .a (.u), .a (.u), .a (.u), .a (.u), .a (.u), .a (.u), .a (.u), .a (.u), .a (.u), .a (.u), .a (.u), .a (.u), .a (.u), .a (.u), .a (.u)], [.sl b_a1 n_a1 a1 2, .row a0 29, .no, .no, .no], []⟩ : St)) N ([.a (.i .i64 (0 : Int)), .a (.i .i64 (0 : Int)), .a (.i .i64 (0 : Int)), .a (.i .i64 (0 : Int))], [])) (fun e s => (kBlock 0 (kSeq (veC Try.prog (mkΓ [(61, con spec_l01Ok_con), (68, con spec_l01Is_con), (93, con spec_l01Dry_con)]) N (cAt (codeOf Try.f44) [1, 1, 1]) (pAt (mkPlan (codeOf Try.f44) [([4, 5, 6, 7], []), ([4, 5, 6, 8], [])]).1 [1, 1, 1]) (SV × Eff × Bool)) (finK Try.prog [.sl b_a1 n_a1 a1 2] [.tmp 4, .tmp 5, .tmp 6]))) e (left (writes (cAt (codeOf Try.f44) [1, 1, 0, 1, 0, 0])) [4, 5, 6, 7] [] (⟨[.a (.g a0 29), .a (.l 0), .a (.w 1), .a (.u), .a (.i .i64 (0 : Int)), .a (.i .i64 (0 : Int)), .a (.i .i64 (0 : Int)), .a (.i .i64 (0 : Int)), .a (.u), .a (.b ((okS a0))), .a (.b ((!((okS a0))))), .a (.u), .a (.u), .a (.u), .a (.u), .a (.u), .a (.u), .a (.u), .a (.u), .a (.u), .a (.u), .a (.u), .a (.u), .a (.u), .a (.u), .a (.u), .a (.u), .a (.u), .a (.u), .a (.u), .a (.u), .a (.u), .a (.u), .a (.u), .a (.u), .a (.u), .a (.u), .a (.u), .a (.u), .a (.u), .a (.u), .a (.u), .a (.u), .a (.u), .a (.u), .a (.u), .a (.u), .a (.u), .a (.u), .a (.u), .a (.u), .a (.u), .a (.u)], [.sl b_a1 n_a1 a1 2, .row a0 29, .no, .no, .no], []⟩ : St) s)) = nodeX (iterO (spec_FirstBeach_g0 Try.prog a0 b_a1 n_a1 a1) N ((0 : Int), (0 : Int), (0 : Int), (0 : Int))) (st2 (fun x => spec_FirstBeach_k0_0 Try.prog N a0 b_a1 n_a1 a1 x.1 x.2.1 x.2.2.1 x.2.2.2) (fun x => spec_FirstBeach_k0_1 Try.prog N a0 b_a1 n_a1 a1 x.1 x.2.1 x.2.2.1 x.2.2.2)) := by
  refine loop_node spec_FirstBeach_e0 spec_FirstBeach_x0 _ _ (spec_FirstBeach_s0 N a0 b_a1 n_a1 a1) N ((0 : Int), (0 : Int), (0 : Int), (0 : Int)) _ _ ?_
  intro x
  cases x with
  | more x => exact spec_FirstBeach_k0_0_eq N a0 b_a1 n_a1 a1 x.1 x.2.1 x.2.2.1 x.2.2.2
  | done x => exact spec_FirstBeach_k0_1_eq N a0 b_a1 n_a1 a1 x.1 x.2.1 x.2.2.1 x.2.2.2

theorem spec_FirstBeach_ans (N : Nat) (a0 : Array Value) (b_a1 : Option (Option Addr)) (n_a1 : Nat) (a1 : Array Value) : ansV Try.prog (mkΓ [(61, con spec_l01Ok_con), (68, con spec_l01Is_con), (93, con spec_l01Dry_con)]) N Try.f44 [([4, 5, 6, 7], []), ([4, 5, 6, 8], [])] [.g a0 29, .l 0] [.sl b_a1 n_a1 a1 2] = (bif (!((okS a0))) then (some (.t [.i .i64 (0 : Int), .i .i64 (0 : Int), .i .i64 (1 : Int)], .none, true))
    else (nodeX (iterO (spec_FirstBeach_g0 Try.prog a0 b_a1 n_a1 a1) N ((0 : Int), (0 : Int), (0 : Int), (0 : Int))) (st2 (fun x => spec_FirstBeach_k0_0 Try.prog N a0 b_a1 n_a1 a1 x.1 x.2.1 x.2.2.1 x.2.2.2) (fun x => spec_FirstBeach_k0_1 Try.prog N a0 b_a1 n_a1 a1 x.1 x.2.1 x.2.2.1 x.2.2.2)))) := by
  have h : ansV Try.prog (mkΓ [(61, con spec_l01Ok_con), (68, con spec_l01Is_con), (93, con spec_l01Dry_con)]) N Try.f44 [([4, 5, 6, 7], []), ([4, 5, 6, 8], [])] [.g a0 29, .l 0] [.sl b_a1 n_a1 a1 2] = (bif (!((okS a0))) then (some (.t [.i .i64 (0 : Int), .i .i64 (0 : Int), .i .i64 (1 : Int)], .none, true))
    else (bindX (iterO (stepV Try.prog (mkΓ [(61, con spec_l01Ok_con), (68, con spec_l01Is_con), (93, con spec_l01Dry_con)]) N (cAt (codeOf Try.f44) [1, 1, 0, 1, 0, 0]) (pAt (mkPlan (codeOf Try.f44) [([4, 5, 6, 7], []), ([4, 5, 6, 8], [])]).1 [1, 1, 0, 1, 0]) [4, 5, 6, 7] [] (⟨[.a (.g a0 29), .a (.l 0), .a (.w 1), .a (.u), .a (.i .i64 (0 : Int)), .a (.i .i64 (0 : Int)), .a (.i .i64 (0 : Int)), .a (.i .i64 (0 : Int)), .a (.u), .a (.b ((okS a0))), .a (.b ((!((okS a0))))), .a (.u), .a (.u), .a (.u), .a (.u), .a (.u), .a (.u), .a (.u), .a (.u), .a (.u), .a (.u), .a (.u), .a (.u), .a (.u), .a (.u), .a (.u), .a (.u), .a (.u), .a (.u), .a (.u), .a (.u), .a (.u), .a (.u), .a (.u), .a (.u), .a (.u), .a (.u), .a (.u), .a (.u), .a (.u), .a (.u), .a (.u), .a (.u), .a (.u), .a (.u), .a (.u), .a (.u), .a (.u), .a (.u), .a (.u), .a (.u), .a (.u), .a (.u)], [.sl b_a1 n_a1 a1 2, .row a0 29, .no, .no, .no], []⟩ : St)) N ([.a (.i .i64 (0 : Int)), .a (.i .i64 (0 : Int)), .a (.i .i64 (0 : Int)), .a (.i .i64 (0 : Int))], [])) (fun e s => (kBlock 0 (kSeq (veC Try.prog (mkΓ [(61, con spec_l01Ok_con), (68, con spec_l01Is_con), (93, con spec_l01Dry_con)]) N (cAt (codeOf Try.f44) [1, 1, 1]) (pAt (mkPlan (codeOf Try.f44) [([4, 5, 6, 7], []), ([4, 5, 6, 8], [])]).1 [1, 1, 1]) (SV × Eff × Bool)) (finK Try.prog [.sl b_a1 n_a1 a1 2] [.tmp 4, .tmp 5, .tmp 6]))) e (left (writes (cAt (codeOf Try.f44) [1, 1, 0, 1, 0, 0])) [4, 5, 6, 7] [] (⟨[.a (.g a0 29), .a (.l 0), .a (.w 1), .a (.u), .a (.i .i64 (0 : Int)), .a (.i .i64 (0 : Int)), .a (.i .i64 (0 : Int)), .a (.i .i64 (0 : Int)), .a (.u), .a (.b ((okS a0))), .a (.b ((!((okS a0))))), .a (.u), .a (.u), .a (.u), .a (.u), .a (.u), .a (.u), .a (.u), .a (.u), .a (.u), .a (.u), .a (.u), .a (.u), .a (.u), .a (.u), .a (.u), .a (.u), .a (.u), .a (.u), .a (.u), .a (.u), .a (.u), .a (.u), .a (.u), .a (.u), .a (.u), .a (.u), .a (.u), .a (.u), .a (.u), .a (.u), .a (.u), .a (.u), .a (.u), .a (.u), .a (.u), .a (.u), .a (.u), .a (.u), .a (.u), .a (.u), .a (.u), .a (.u)], [.sl b_a1 n_a1 a1 2, .row a0 29, .no, .no, .no], []⟩ : St) s)))) := by kernel_rfl
  refine h.trans ?_
  simp only [spec_FirstBeach_n0]

theorem spec_FirstBeach_main (a0 : Array Value) (b_a1 : Option (Option Addr)) (n_a1 : Nat) (a1 : Array Value) (h_a0 : WT Try.prog 29 a0) (h_a1 : a1.size = n_a1 * (lay Try.prog 2).length ∧ (∀ k, k < n_a1 → WT Try.prog 2 (a1.extract (k * (lay Try.prog 2).length) (k * (lay Try.prog 2).length + (lay Try.prog 2).length))) ∧ n_a1 ≤ 9223372036854775807) (hg : (true) = true) : ansV Try.prog (mkΓ [(61, con spec_l01Ok_con), (68, con spec_l01Is_con), (93, con spec_l01Dry_con)]) 18446744073709551616 Try.f44 [([4, 5, 6, 7], []), ([4, 5, 6, 8], [])] [.g a0 29, .l 0] [.sl b_a1 n_a1 a1 2] = some (.t [.i .i64 (fbC a0 n_a1 a1), .i .i64 (fbI a0 n_a1 a1), .i .i64 (fbCode a0 n_a1 a1)], .none, true) := by
  have hn := h_a1.2.2
  refine (spec_FirstBeach_ans 18446744073709551616 a0 b_a1 n_a1 a1).trans ?_
  unfold fbC fbI fbCode fbBad
  cases hok : okS a0
  · rfl
  have hl0 := iter_find (g := spec_FirstBeach_g0 Try.prog a0 b_a1 n_a1 a1) (fun k => ((0 : Int), (0 : Int), (0 : Int), (k : Int))) (badB a0 a1) n_a1 (N := 18446744073709551616) (by omega) (xd := .done ((0 : Int), (0 : Int), (0 : Int), (n_a1 : Int))) (fun k => .more ((0 : Int), (0 : Int), (2 : Int), (k : Int))) (fun k hk hp => by
    have h1 : decide ((k : Int) < (n_a1 : Int)) = true := decide_eq_true (by omega)
    have h0 : decide (0 ≤ (k : Int)) = true := decide_eq_true (by omega)
    have h3 : IntKind.i64.wrap ((k : Int) + 1) = ((k + 1 : Nat) : Int) := by rw [IntWalk.i64_in _ (by omega)]; omega
    unfold badB at hp
    cases hx : (num a1 (k * 1) != (-1 : Int))
    · simp only [spec_FirstBeach_g0, h1, h0, h3, Bool.and_self, cond_true, cond_false, Int.toNat_natCast, hx]
    · rw [hx] at hp
      have hy : spec_l01Is_v0 (num a1 (k * 1)) a0 = true := by simpa using hp
      simp only [spec_FirstBeach_g0, h1, h0, h3, Bool.and_self, cond_true, cond_false, Int.toNat_natCast, hx, hy, Bool.not_true]) (fun k hk hp => by
    have h1 : decide ((k : Int) < (n_a1 : Int)) = true := decide_eq_true (by omega)
    have h0 : decide (0 ≤ (k : Int)) = true := decide_eq_true (by omega)
    have h3 : IntKind.i64.wrap ((k : Int) + 1) = ((k + 1 : Nat) : Int) := by rw [IntWalk.i64_in _ (by omega)]; omega
    unfold badB at hp
    rw [Bool.and_eq_true, Bool.not_eq_true'] at hp
    simp only [spec_FirstBeach_g0, h1, h0, h3, Bool.and_self, cond_true, Int.toNat_natCast, hp.1, hp.2, Bool.not_false]) (by
    have h1 : decide ((n_a1 : Int) < (n_a1 : Int)) = false := decide_eq_false (by omega)
    simp only [spec_FirstBeach_g0, h1, cond_false])
  have hl : iterO (spec_FirstBeach_g0 Try.prog a0 b_a1 n_a1 a1) 18446744073709551616 ((0 : Int), (0 : Int), (0 : Int), (0 : Int)) = _ := hl0
  simp only [Bool.not_true, cond_false, cond_true, hl]
  cases hb : (List.range n_a1).find? (badB a0 a1)
  case some k => rfl
  have hm := iter_find (g := spec_FirstBeach_g1 Try.prog a0 b_a1 n_a1 a1 0 0 0 (n_a1 : Int)) (fun k => ((0 : Int), (0 : Int), (0 : Int), (k : Int))) (landS a0 a1) n_a1 (N := 18446744073709551616) (by omega) (xd := .done ((0 : Int), (0 : Int), (0 : Int), (n_a1 : Int))) (fun k => .more (num a1 (k * 1), (k : Int), (0 : Int), (k : Int))) (fun k hk hp => by
    have h1 : decide ((k : Int) < (n_a1 : Int)) = true := decide_eq_true (by omega)
    have h0 : decide (0 ≤ (k : Int)) = true := decide_eq_true (by omega)
    have h3 : IntKind.i64.wrap ((k : Int) + 1) = ((k + 1 : Nat) : Int) := by rw [IntWalk.i64_in _ (by omega)]; omega
    have h4 : decide (0 ≤ IntKind.u64.wrap (num a1 (k * 1))) = true := decide_eq_true (wrap_in .u64 _).1
    unfold landS at hp
    cases hx : decide (num a1 (k * 1) ≥ (0 : Int))
    · simp only [spec_FirstBeach_g1, h1, h0, h3, Bool.and_self, cond_true, cond_false, Int.toNat_natCast, hx]
    · rw [hx, Bool.true_and] at hp
      simp only [spec_FirstBeach_g1, h1, h0, h3, h4, Bool.and_self, cond_true, cond_false, Int.toNat_natCast, hx, hp]) (fun k hk hp => by
    have h1 : decide ((k : Int) < (n_a1 : Int)) = true := decide_eq_true (by omega)
    have h0 : decide (0 ≤ (k : Int)) = true := decide_eq_true (by omega)
    have h3 : IntKind.i64.wrap ((k : Int) + 1) = ((k + 1 : Nat) : Int) := by rw [IntWalk.i64_in _ (by omega)]; omega
    have h4 : decide (0 ≤ IntKind.u64.wrap (num a1 (k * 1))) = true := decide_eq_true (wrap_in .u64 _).1
    unfold landS at hp
    rw [Bool.and_eq_true] at hp
    simp only [spec_FirstBeach_g1, h1, h0, h3, h4, Bool.and_self, cond_true, Int.toNat_natCast, hp.1, hp.2]) (by
    have h1 : decide ((n_a1 : Int) < (n_a1 : Int)) = false := decide_eq_false (by omega)
    simp only [spec_FirstBeach_g1, h1, cond_false])
  have hm' : iterO (spec_FirstBeach_g1 Try.prog a0 b_a1 n_a1 a1 0 0 0 (n_a1 : Int)) 18446744073709551616 ((0 : Int), (0 : Int), (0 : Int), (0 : Int)) = _ := hm
  show nodeX (iterO (spec_FirstBeach_g1 Try.prog a0 b_a1 n_a1 a1 0 0 0 (n_a1 : Int)) 18446744073709551616 ((0 : Int), (0 : Int), (0 : Int), (0 : Int))) _ = _
  rw [hm']
  unfold fbF
  cases hf : (List.range n_a1).find? (landS a0 a1) <;> rfl
noncomputable def spec_FirstBeach_con : Con := fun args h => match args, h with
  | [.g a0 29, .l 0], [.sl b_a1 n_a1 a1 2] => some (.t [.i .i64 (fbC a0 n_a1 a1), .i .i64 (fbI a0 n_a1 a1), .i .i64 (fbCode a0 n_a1 a1)], .none, true)
  | _, _ => none
theorem spec_FirstBeach_enter : ∀ args w, (callFunc 44 args).run Try.prog w = .ok (.enter 44 args) w := enter_ok (fn := Try.f44) (by kernel_rfl) (by kernel_rfl) (by kernel_rfl)
theorem spec_FirstBeach_ok : ConOk Try.prog 44 spec_FirstBeach_con := (ans_ok (N := 18446744073709551616) (by kernel_rfl) (mkΓ_cons (con_ok spec_l01Ok_ok) spec_l01Ok_enter (mkΓ_cons (con_ok spec_l01Is_ok) spec_l01Is_enter (mkΓ_cons (con_ok spec_l01Dry_ok) spec_l01Dry_enter mkΓ_nil))) (fn := Try.f44) (by kernel_rfl) (by kernel_rfl) [([4, 5, 6, 7], []), ([4, 5, 6, 8], [])]).of (by
  intro ρ h w args vals r e hA hH hr
  unfold spec_FirstBeach_con at hr
  split at hr
  · rename_i a0 b_a1 n_a1 a1
    obtain ⟨rfl, hg⟩ := Prod.mk.inj (Option.some.inj hr)
    obtain ⟨rfl, hg2⟩ := Prod.mk.inj hg
    exact spec_FirstBeach_main a0 b_a1 n_a1 a1 (hA.wt 0 rfl) (hH.slw 0 rfl) hg2
  · cases hr)

noncomputable def impl_firstLand_e0 : Int × Int × Bool × Int → LS
  | (y0_4, y0_5, y0_6, y0_11) => ([.a (.i .i64 (y0_4)), .a (.i .i64 (y0_5)), .a (.b (y0_6)), .a (.i .i64 (y0_11))], [])

noncomputable def impl_firstLand_x0 : (Stp (Int × Int × Bool × Int) (Int × Int × Bool × Int)) → Exit × LS
  | .more t => (.ret, impl_firstLand_e0 t)
  | .done t => ((.exit 0), impl_firstLand_e0 t)

noncomputable def impl_firstLand_g0 (P : Program) (a0 : Array Value) (b_a1 : Option (Option Addr)) (n_a1 : Nat) (a1 : Array Value) : Int × Int × Bool × Int → Option (Stp (Int × Int × Bool × Int) (Stp (Int × Int × Bool × Int) (Int × Int × Bool × Int)))
  | (y0_4, y0_5, y0_6, y0_11) => bif decide (y0_11 < (n_a1 : Int)) then (bif (decide (0 ≤ y0_11) && decide (y0_11 < (n_a1 : Int))) then (bif ((num a1 ((y0_11).toNat * 1)) != (-1 : Int)) then (bif decide (0 ≤ (num a1 ((y0_11).toNat * 1))) then (bif (impl_isLand_v0 a0 (num a1 ((y0_11).toNat * 1))) then (some (.done (.more ((num a1 ((y0_11).toNat * 1)), y0_11, true, y0_11))))
            else (some (.more (y0_4, y0_5, y0_6, (IntKind.i64.wrap (y0_11 + (1 : Int)))))))
          else (none))
        else (some (.more (y0_4, y0_5, y0_6, (IntKind.i64.wrap (y0_11 + (1 : Int)))))))
      else (none))
    else (some (.done (.done (y0_4, y0_5, y0_6, y0_11))))

theorem impl_firstLand_s0 (N : Nat) (a0 : Array Value) (b_a1 : Option (Option Addr)) (n_a1 : Nat) (a1 : Array Value) : ∀ t : Int × Int × Bool × Int, stepV Try.prog (mkΓ [(72, con impl_isLand_con)]) N (cAt (codeOf Try.f95) [1, 0, 1, 0, 0]) (pAt (mkPlan (codeOf Try.f95) [([4, 5, 6, 11], [])]).1 [1, 0, 1, 0]) [4, 5, 6, 11] [] (⟨[.a (.g a0 29), .a (.l 0), .a (.w 1), .a (.u), .a (.i .i64 (0 : Int)), .a (.i .i64 (0 : Int)), .a (.b (false)), .a (.u), .a (.u), .a (.l 0), .a (.i .i64 (n_a1 : Int)), .a (.i .i64 (0 : Int)), .a (.u), .a (.u), .a (.u), .a (.u), .a (.u), .a (.u), .a (.u), .a (.u), .a (.u), .a (.u), .a (.u), .a (.u), .a (.u), .a (.u)], [.sl b_a1 n_a1 a1 2, .row a0 29, .no, .no, .no], []⟩ : St) (impl_firstLand_e0 t) = mapS impl_firstLand_e0 impl_firstLand_x0 (impl_firstLand_g0 Try.prog a0 b_a1 n_a1 a1 t) := by
  rintro ⟨y0_4, y0_5, y0_6, y0_11⟩
  have h : stepV Try.prog (mkΓ [(72, con impl_isLand_con)]) N (cAt (codeOf Try.f95) [1, 0, 1, 0, 0]) (pAt (mkPlan (codeOf Try.f95) [([4, 5, 6, 11], [])]).1 [1, 0, 1, 0]) [4, 5, 6, 11] [] (⟨[.a (.g a0 29), .a (.l 0), .a (.w 1), .a (.u), .a (.i .i64 (0 : Int)), .a (.i .i64 (0 : Int)), .a (.b (false)), .a (.u), .a (.u), .a (.l 0), .a (.i .i64 (n_a1 : Int)), .a (.i .i64 (0 : Int)), .a (.u), .a (.u), .a (.u), .a (.u), .a (.u), .a (.u), .a (.u), .a (.u), .a (.u), .a (.u), .a (.u), .a (.u), .a (.u), .a (.u)], [.sl b_a1 n_a1 a1 2, .row a0 29, .no, .no, .no], []⟩ : St) ([.a (.i .i64 (y0_4)), .a (.i .i64 (y0_5)), .a (.b (y0_6)), .a (.i .i64 (y0_11))], []) = (bif decide (y0_11 < (n_a1 : Int)) then (bif (decide (0 ≤ y0_11) && decide (y0_11 < (n_a1 : Int))) then (bif ((num a1 ((y0_11).toNat * 1)) != (-1 : Int)) then (bif decide (0 ≤ (num a1 ((y0_11).toNat * 1))) then (bif (impl_isLand_v0 a0 (num a1 ((y0_11).toNat * 1))) then (some (.done (.ret, ([.a (.i .i64 (num a1 ((y0_11).toNat * 1))), .a (.i .i64 (y0_11)), .a (.b (true)), .a (.i .i64 (y0_11))], []))))
            else (some (.more ([.a (.i .i64 (y0_4)), .a (.i .i64 (y0_5)), .a (.b (y0_6)), .a (.i .i64 (IntKind.i64.wrap (y0_11 + (1 : Int))))], []))))
          else (none))
        else (some (.more ([.a (.i .i64 (y0_4)), .a (.i .i64 (y0_5)), .a (.b (y0_6)), .a (.i .i64 (IntKind.i64.wrap (y0_11 + (1 : Int))))], []))))
      else (none))
    else (some (.done ((.exit 0), ([.a (.i .i64 (y0_4)), .a (.i .i64 (y0_5)), .a (.b (y0_6)), .a (.i .i64 (y0_11))], []))))) := by kernel_rfl
  refine h.trans ?_
  simp only [impl_firstLand_g0, mapS_cond, mapS_more, mapS_done, mapS_none, impl_firstLand_e0, impl_firstLand_x0]

noncomputable def impl_firstLand_k0_0 (P : Program) (N : Nat) (a0 : Array Value) (b_a1 : Option (Option Addr)) (n_a1 : Nat) (a1 : Array Value) (z0_4 : Int) (z0_5 : Int) (z0_6 : Bool) (z0_11 : Int) : Option (SV × Eff × Bool) := some (.t [.i .i64 (z0_4), .i .i64 (z0_5), .b (z0_6)], .none, true)

theorem impl_firstLand_k0_0_eq (N : Nat) (a0 : Array Value) (b_a1 : Option (Option Addr)) (n_a1 : Nat) (a1 : Array Value) (z0_4 : Int) (z0_5 : Int) (z0_6 : Bool) (z0_11 : Int) : (kBlock 0 (kSeq (veC Try.prog (mkΓ [(72, con impl_isLand_con)]) N (cAt (codeOf Try.f95) [1, 1]) (pAt (mkPlan (codeOf Try.f95) [([4, 5, 6, 11], [])]).1 [1, 1]) (SV × Eff × Bool)) (finK Try.prog [.sl b_a1 n_a1 a1 2] [.tmp 4, .tmp 5, .tmp 6]))) .ret (left (writes (cAt (codeOf Try.f95) [1, 0, 1, 0, 0])) [4, 5, 6, 11] [] (⟨[.a (.g a0 29), .a (.l 0), .a (.w 1), .a (.u), .a (.i .i64 (0 : Int)), .a (.i .i64 (0 : Int)), .a (.b (false)), .a (.u), .a (.u), .a (.l 0), .a (.i .i64 (n_a1 : Int)), .a (.i .i64 (0 : Int)), .a (.u), .a (.u), .a (.u), .a (.u), .a (.u), .a (.u), .a (.u), .a (.u), .a (.u), .a (.u), .a (.u), .a (.u), .a (.u), .a (.u)], [.sl b_a1 n_a1 a1 2, .row a0 29, .no, .no, .no], []⟩ : St) ([.a (.i .i64 (z0_4)), .a (.i .i64 (z0_5)), .a (.b (z0_6)), .a (.i .i64 (z0_11))], [])) = impl_firstLand_k0_0 Try.prog N a0 b_a1 n_a1 a1 z0_4 z0_5 z0_6 z0_11 := by
  have h : (kBlock 0 (kSeq (veC Try.prog (mkΓ [(72, con impl_isLand_con)]) N (cAt (codeOf Try.f95) [1, 1]) (pAt (mkPlan (codeOf Try.f95) [([4, 5, 6, 11], [])]).1 [1, 1]) (SV × Eff × Bool)) (finK Try.prog [.sl b_a1 n_a1 a1 2] [.tmp 4, .tmp 5, .tmp 6]))) .ret (left (writes (cAt (codeOf Try.f95) [1, 0, 1, 0, 0])) [4, 5, 6, 11] [] (⟨[.a (.g a0 29), .a (.l 0), .a (.w 1), .a (.u), .a (.i .i64 (0 : Int)), .a (.i .i64 (0 : Int)), .a (.b (false)), .a (.u), .a (.u), .a (.l 0), .a (.i .i64 (n_a1 : Int)), .a (.i .i64 (0 : Int)), .a (.u), .a (.u), .a (.u), .a (.u), .a (.u), .a (.u), .a (.u), .a (.u), .a (.u), .a (.u), .a (.u), .a (.u), .a (.u), .a (.u)], [.sl b_a1 n_a1 a1 2, .row a0 29, .no, .no, .no], []⟩ : St) ([.a (.i .i64 (z0_4)), .a (.i .i64 (z0_5)), .a (.b (z0_6)), .a (.i .i64 (z0_11))], [])) = (some (.t [.i .i64 (z0_4), .i .i64 (z0_5), .b (z0_6)], .none, true)) := by kernel_rfl
  refine h.trans ?_
  rfl

noncomputable def impl_firstLand_k0_1 (P : Program) (N : Nat) (a0 : Array Value) (b_a1 : Option (Option Addr)) (n_a1 : Nat) (a1 : Array Value) (z0_4 : Int) (z0_5 : Int) (z0_6 : Bool) (z0_11 : Int) : Option (SV × Eff × Bool) := some (.t [.i .i64 (0 : Int), .i .i64 (0 : Int), .b (false)], .none, true)

theorem impl_firstLand_k0_1_eq (N : Nat) (a0 : Array Value) (b_a1 : Option (Option Addr)) (n_a1 : Nat) (a1 : Array Value) (z0_4 : Int) (z0_5 : Int) (z0_6 : Bool) (z0_11 : Int) : (kBlock 0 (kSeq (veC Try.prog (mkΓ [(72, con impl_isLand_con)]) N (cAt (codeOf Try.f95) [1, 1]) (pAt (mkPlan (codeOf Try.f95) [([4, 5, 6, 11], [])]).1 [1, 1]) (SV × Eff × Bool)) (finK Try.prog [.sl b_a1 n_a1 a1 2] [.tmp 4, .tmp 5, .tmp 6]))) (.exit 0) (left (writes (cAt (codeOf Try.f95) [1, 0, 1, 0, 0])) [4, 5, 6, 11] [] (⟨[.a (.g a0 29), .a (.l 0), .a (.w 1), .a (.u), .a (.i .i64 (0 : Int)), .a (.i .i64 (0 : Int)), .a (.b (false)), .a (.u), .a (.u), .a (.l 0), .a (.i .i64 (n_a1 : Int)), .a (.i .i64 (0 : Int)), .a (.u), .a (.u), .a (.u), .a (.u), .a (.u), .a (.u), .a (.u), .a (.u), .a (.u), .a (.u), .a (.u), .a (.u), .a (.u), .a (.u)], [.sl b_a1 n_a1 a1 2, .row a0 29, .no, .no, .no], []⟩ : St) ([.a (.i .i64 (z0_4)), .a (.i .i64 (z0_5)), .a (.b (z0_6)), .a (.i .i64 (z0_11))], [])) = impl_firstLand_k0_1 Try.prog N a0 b_a1 n_a1 a1 z0_4 z0_5 z0_6 z0_11 := by
  have h : (kBlock 0 (kSeq (veC Try.prog (mkΓ [(72, con impl_isLand_con)]) N (cAt (codeOf Try.f95) [1, 1]) (pAt (mkPlan (codeOf Try.f95) [([4, 5, 6, 11], [])]).1 [1, 1]) (SV × Eff × Bool)) (finK Try.prog [.sl b_a1 n_a1 a1 2] [.tmp 4, .tmp 5, .tmp 6]))) (.exit 0) (left (writes (cAt (codeOf Try.f95) [1, 0, 1, 0, 0])) [4, 5, 6, 11] [] (⟨[.a (.g a0 29), .a (.l 0), .a (.w 1), .a (.u), .a (.i .i64 (0 : Int)), .a (.i .i64 (0 : Int)), .a (.b (false)), .a (.u), .a (.u), .a (.l 0), .a (.i .i64 (n_a1 : Int)), .a (.i .i64 (0 : Int)), .a (.u), .a (.u), .a (.u), .a (.u), .a (.u), .a (.u), .a (.u), .a (.u), .a (.u), .a (.u), .a (.u), .a (.u), .a (.u), .a (.u)], [.sl b_a1 n_a1 a1 2, .row a0 29, .no, .no, .no], []⟩ : St) ([.a (.i .i64 (z0_4)), .a (.i .i64 (z0_5)), .a (.b (z0_6)), .a (.i .i64 (z0_11))], [])) = (some (.t [.i .i64 (0 : Int), .i .i64 (0 : Int), .b (false)], .none, true)) := by kernel_rfl
  refine h.trans ?_
  rfl

theorem impl_firstLand_n0 (N : Nat) (a0 : Array Value) (b_a1 : Option (Option Addr)) (n_a1 : Nat) (a1 : Array Value) : bindX (iterO (stepV Try.prog (mkΓ [(72, con impl_isLand_con)]) N (cAt (codeOf Try.f95) [1, 0, 1, 0, 0]) (pAt (mkPlan (codeOf Try.f95) [([4, 5, 6, 11], [])]).1 [1, 0, 1, 0]) [4, 5, 6, 11] [] (⟨[.a (.g a0 29), .a (.l 0), .a (.w 1), .a (.u), .a (.i .i64 (0 : Int)), .a (.i .i64 (0 : Int)), .a (.b (false)), .a (.u), .a (.u), .a (.l 0), .a (.i .i64 (n_a1 : Int)), .a (.i .i64 (0 : Int)), .a (.u), .a (.u), .a (.u), .a (.u), .a (.u), .a (.u), .a (.u), .a (.u), .a (.u), .a (.u), .a (.u), .a (.u), .a (.u), .a (.u)], [.sl b_a1 n_a1 a1 2, .row a0 29, .no, .no, .no], []⟩ : St)) N ([.a (.i .i64 (0 : Int)), .a (.i .i64 (0 : Int)), .a (.b (false)), .a (.i .i64 (0 : Int))], [])) (fun e s => (kBlock 0 (kSeq (veC Try.prog (mkΓ [(72, con impl_isLand_con)]) N (cAt (codeOf Try.f95) [1, 1]) (pAt (mkPlan (codeOf Try.f95) [([4, 5, 6, 11], [])]).1 [1, 1]) (SV × Eff × Bool)) (finK Try.prog [.sl b_a1 n_a1 a1 2] [.tmp 4, .tmp 5, .tmp 6]))) e (left (writes (cAt (codeOf Try.f95) [1, 0, 1, 0, 0])) [4, 5, 6, 11] [] (⟨[.a (.g a0 29), .a (.l 0), .a (.w 1), .a (.u), .a (.i .i64 (0 : Int)), .a (.i .i64 (0 : Int)), .a (.b (false)), .a (.u), .a (.u), .a (.l 0), .a (.i .i64 (n_a1 : Int)), .a (.i .i64 (0 : Int)), .a (.u), .a (.u), .a (.u), .a (.u), .a (.u), .a (.u), .a (.u), .a (.u), .a (.u), .a (.u), .a (.u), .a (.u), .a (.u), .a (.u)], [.sl b_a1 n_a1 a1 2, .row a0 29, .no, .no, .no], []⟩ : St) s)) = nodeX (iterO (impl_firstLand_g0 Try.prog a0 b_a1 n_a1 a1) N ((0 : Int), (0 : Int), false, (0 : Int))) (st2 (fun x => impl_firstLand_k0_0 Try.prog N a0 b_a1 n_a1 a1 x.1 x.2.1 x.2.2.1 x.2.2.2) (fun x => impl_firstLand_k0_1 Try.prog N a0 b_a1 n_a1 a1 x.1 x.2.1 x.2.2.1 x.2.2.2)) := by
  refine loop_node impl_firstLand_e0 impl_firstLand_x0 _ _ (impl_firstLand_s0 N a0 b_a1 n_a1 a1) N ((0 : Int), (0 : Int), false, (0 : Int)) _ _ ?_
  intro x
  cases x with
  | more x => exact impl_firstLand_k0_0_eq N a0 b_a1 n_a1 a1 x.1 x.2.1 x.2.2.1 x.2.2.2
  | done x => exact impl_firstLand_k0_1_eq N a0 b_a1 n_a1 a1 x.1 x.2.1 x.2.2.1 x.2.2.2

theorem impl_firstLand_ans (N : Nat) (a0 : Array Value) (b_a1 : Option (Option Addr)) (n_a1 : Nat) (a1 : Array Value) : ansV Try.prog (mkΓ [(72, con impl_isLand_con)]) N Try.f95 [([4, 5, 6, 11], [])] [.g a0 29, .l 0] [.sl b_a1 n_a1 a1 2] = (nodeX (iterO (impl_firstLand_g0 Try.prog a0 b_a1 n_a1 a1) N ((0 : Int), (0 : Int), false, (0 : Int))) (st2 (fun x => impl_firstLand_k0_0 Try.prog N a0 b_a1 n_a1 a1 x.1 x.2.1 x.2.2.1 x.2.2.2) (fun x => impl_firstLand_k0_1 Try.prog N a0 b_a1 n_a1 a1 x.1 x.2.1 x.2.2.1 x.2.2.2))) := by
  have h : ansV Try.prog (mkΓ [(72, con impl_isLand_con)]) N Try.f95 [([4, 5, 6, 11], [])] [.g a0 29, .l 0] [.sl b_a1 n_a1 a1 2] = (bindX (iterO (stepV Try.prog (mkΓ [(72, con impl_isLand_con)]) N (cAt (codeOf Try.f95) [1, 0, 1, 0, 0]) (pAt (mkPlan (codeOf Try.f95) [([4, 5, 6, 11], [])]).1 [1, 0, 1, 0]) [4, 5, 6, 11] [] (⟨[.a (.g a0 29), .a (.l 0), .a (.w 1), .a (.u), .a (.i .i64 (0 : Int)), .a (.i .i64 (0 : Int)), .a (.b (false)), .a (.u), .a (.u), .a (.l 0), .a (.i .i64 (n_a1 : Int)), .a (.i .i64 (0 : Int)), .a (.u), .a (.u), .a (.u), .a (.u), .a (.u), .a (.u), .a (.u), .a (.u), .a (.u), .a (.u), .a (.u), .a (.u), .a (.u), .a (.u)], [.sl b_a1 n_a1 a1 2, .row a0 29, .no, .no, .no], []⟩ : St)) N ([.a (.i .i64 (0 : Int)), .a (.i .i64 (0 : Int)), .a (.b (false)), .a (.i .i64 (0 : Int))], [])) (fun e s => (kBlock 0 (kSeq (veC Try.prog (mkΓ [(72, con impl_isLand_con)]) N (cAt (codeOf Try.f95) [1, 1]) (pAt (mkPlan (codeOf Try.f95) [([4, 5, 6, 11], [])]).1 [1, 1]) (SV × Eff × Bool)) (finK Try.prog [.sl b_a1 n_a1 a1 2] [.tmp 4, .tmp 5, .tmp 6]))) e (left (writes (cAt (codeOf Try.f95) [1, 0, 1, 0, 0])) [4, 5, 6, 11] [] (⟨[.a (.g a0 29), .a (.l 0), .a (.w 1), .a (.u), .a (.i .i64 (0 : Int)), .a (.i .i64 (0 : Int)), .a (.b (false)), .a (.u), .a (.u), .a (.l 0), .a (.i .i64 (n_a1 : Int)), .a (.i .i64 (0 : Int)), .a (.u), .a (.u), .a (.u), .a (.u), .a (.u), .a (.u), .a (.u), .a (.u), .a (.u), .a (.u), .a (.u), .a (.u), .a (.u), .a (.u)], [.sl b_a1 n_a1 a1 2, .row a0 29, .no, .no, .no], []⟩ : St) s))) := by kernel_rfl
  refine h.trans ?_
  simp only [impl_firstLand_n0]

theorem impl_firstLand_main (a0 : Array Value) (b_a1 : Option (Option Addr)) (n_a1 : Nat) (a1 : Array Value) (h_a0 : WT Try.prog 29 a0) (h_a1 : a1.size = n_a1 * (lay Try.prog 2).length ∧ (∀ k, k < n_a1 → WT Try.prog 2 (a1.extract (k * (lay Try.prog 2).length) (k * (lay Try.prog 2).length + (lay Try.prog 2).length))) ∧ n_a1 ≤ 9223372036854775807) (hg : ((flG n_a1 a1)) = true) : ansV Try.prog (mkΓ [(72, con impl_isLand_con)]) 18446744073709551616 Try.f95 [([4, 5, 6, 11], [])] [.g a0 29, .l 0] [.sl b_a1 n_a1 a1 2] = some (.t [.i .i64 (atC a1 (flF a0 n_a1 a1)), .i .i64 (atI (flF a0 n_a1 a1)), .b ((flF a0 n_a1 a1).isSome)], .none, true) := by
  have hn := h_a1.2.2
  have hall : ∀ k, k < n_a1 → (num a1 (k * 1) == (-1 : Int)) = true ∨ decide (0 ≤ num a1 (k * 1)) = true := fun k hk => by
    unfold flG at hg
    have := List.all_eq_true.1 hg k (List.mem_range.2 hk)
    rw [Bool.or_eq_true] at this
    exact this
  refine (impl_firstLand_ans 18446744073709551616 a0 b_a1 n_a1 a1).trans ?_
  have hm := iter_find (g := impl_firstLand_g0 Try.prog a0 b_a1 n_a1 a1) (fun k => ((0 : Int), (0 : Int), false, (k : Int))) (landI a0 a1) n_a1 (N := 18446744073709551616) (by omega) (xd := .done ((0 : Int), (0 : Int), false, (n_a1 : Int))) (fun k => .more (num a1 (k * 1), (k : Int), true, (k : Int))) (fun k hk hp => by
    have h1 : decide ((k : Int) < (n_a1 : Int)) = true := decide_eq_true (by omega)
    have h0 : decide (0 ≤ (k : Int)) = true := decide_eq_true (by omega)
    have h3 : IntKind.i64.wrap ((k : Int) + 1) = ((k + 1 : Nat) : Int) := by rw [IntWalk.i64_in _ (by omega)]; omega
    unfold landI at hp
    cases hx : (num a1 (k * 1) != (-1 : Int))
    · simp only [impl_firstLand_g0, h1, h0, h3, Bool.and_self, cond_true, cond_false, Int.toNat_natCast, hx]
    · have h5 := (hall k hk).resolve_left (by rw [bne, Bool.not_eq_true'] at hx; rw [hx]; exact Bool.false_ne_true)
      rw [hx, Bool.true_and] at hp
      simp only [impl_firstLand_g0, h1, h0, h3, h5, Bool.and_self, cond_true, cond_false, Int.toNat_natCast, hx, hp]) (fun k hk hp => by
    have h1 : decide ((k : Int) < (n_a1 : Int)) = true := decide_eq_true (by omega)
    have h0 : decide (0 ≤ (k : Int)) = true := decide_eq_true (by omega)
    have h3 : IntKind.i64.wrap ((k : Int) + 1) = ((k + 1 : Nat) : Int) := by rw [IntWalk.i64_in _ (by omega)]; omega
    unfold landI at hp
    rw [Bool.and_eq_true] at hp
    have h5 := (hall k hk).resolve_left (by have hx := hp.1; rw [bne, Bool.not_eq_true'] at hx; rw [hx]; exact Bool.false_ne_true)
    simp only [impl_firstLand_g0, h1, h0, h3, h5, Bool.and_self, cond_true, Int.toNat_natCast, hp.1, hp.2]) (by
    have h1 : decide ((n_a1 : Int) < (n_a1 : Int)) = false := decide_eq_false (by omega)
    simp only [impl_firstLand_g0, h1, cond_false])
  have hm' : iterO (impl_firstLand_g0 Try.prog a0 b_a1 n_a1 a1) 18446744073709551616 ((0 : Int), (0 : Int), false, (0 : Int)) = _ := hm
  rw [hm']
  unfold flF
  cases hf : (List.range n_a1).find? (landI a0 a1) <;> rfl
noncomputable def impl_firstLand_con : Con := fun args h => match args, h with
  | [.g a0 29, .l 0], [.sl b_a1 n_a1 a1 2] => some (.t [.i .i64 (atC a1 (flF a0 n_a1 a1)), .i .i64 (atI (flF a0 n_a1 a1)), .b ((flF a0 n_a1 a1).isSome)], .none, (flG n_a1 a1))
  | _, _ => none
theorem impl_firstLand_enter : ∀ args w, (callFunc 95 args).run Try.prog w = .ok (.enter 95 args) w := enter_ok (fn := Try.f95) (by kernel_rfl) (by kernel_rfl) (by kernel_rfl)
theorem impl_firstLand_ok : ConOk Try.prog 95 impl_firstLand_con := (ans_ok (N := 18446744073709551616) (by kernel_rfl) (mkΓ_cons (con_ok impl_isLand_ok) impl_isLand_enter mkΓ_nil) (fn := Try.f95) (by kernel_rfl) (by kernel_rfl) [([4, 5, 6, 11], [])]).of (by
  intro ρ h w args vals r e hA hH hr
  unfold impl_firstLand_con at hr
  split at hr
  · rename_i a0 b_a1 n_a1 a1
    obtain ⟨rfl, hg⟩ := Prod.mk.inj (Option.some.inj hr)
    obtain ⟨rfl, hg2⟩ := Prod.mk.inj hg
    exact impl_firstLand_main a0 b_a1 n_a1 a1 (hA.wt 0 rfl) (hH.slw 0 rfl) hg2
  · cases hr)

noncomputable def impl_FirstBeach_e0 : Int × Int × Int × Int → LS
  | (y0_4, y0_5, y0_6, y0_20) => ([.a (.i .i64 (y0_4)), .a (.i .i64 (y0_5)), .a (.i .i64 (y0_6)), .a (.i .i64 (y0_20))], [])

noncomputable def impl_FirstBeach_x0 : (Stp (Int × Int × Int × Int) (Int × Int × Int × Int)) → Exit × LS
  | .more t => (.ret, impl_FirstBeach_e0 t)
  | .done t => ((.exit 0), impl_FirstBeach_e0 t)

noncomputable def impl_FirstBeach_g0 (P : Program) (a0 : Array Value) (b_a1 : Option (Option Addr)) (n_a1 : Nat) (a1 : Array Value) : Int × Int × Int × Int → Option (Stp (Int × Int × Int × Int) (Stp (Int × Int × Int × Int) (Int × Int × Int × Int)))
  | (y0_4, y0_5, y0_6, y0_20) => bif decide (y0_20 < (n_a1 : Int)) then (bif (decide (0 ≤ y0_20) && decide (y0_20 < (n_a1 : Int))) then (bif ((num a1 ((y0_20).toNat * 1)) != (-1 : Int)) then (bif (!((impl_hasCell_v0 a0 (num a1 ((y0_20).toNat * 1))))) then (some (.done (.more ((0 : Int), (0 : Int), (2 : Int), y0_20))))
          else (some (.more (y0_4, y0_5, y0_6, (IntKind.i64.wrap (y0_20 + (1 : Int)))))))
        else (some (.more (y0_4, y0_5, y0_6, (IntKind.i64.wrap (y0_20 + (1 : Int)))))))
      else (none))
    else (some (.done (.done (y0_4, y0_5, y0_6, y0_20))))

theorem impl_FirstBeach_s0 (N : Nat) (a0 : Array Value) (b_a1 : Option (Option Addr)) (n_a1 : Nat) (a1 : Array Value) : ∀ t : Int × Int × Int × Int, stepV Try.prog (mkΓ [(65, con impl_seaCode_con), (94, con impl_hasCell_con), (95, con impl_firstLand_con)]) N (cAt (codeOf Try.f46) [1, 1, 0, 1, 0, 0]) (pAt (mkPlan (codeOf Try.f46) [([4, 5, 6, 20], [])]).1 [1, 1, 0, 1, 0]) [4, 5, 6, 20] [] (⟨[.a (.g a0 29), .a (.l 0), .a (.w 1), .a (.u), .a (.i .i64 (0 : Int)), .a (.i .i64 (0 : Int)), .a (.i .i64 (0 : Int)), .a (.i .i64 (bif okS a0 then 0 else 1)), .a (.u), .a (.u), .a (.u), .a (.u), .a (.u), .a (.g a0 29), .a (.i .i64 (bif okS a0 then 0 else 1)), .a (.i .i64 (bif okS a0 then 0 else 1)), .a (.b (((bif okS a0 then 0 else 1) != (0 : Int)))), .a (.u), .a (.l 0), .a (.i .i64 (n_a1 : Int)), .a (.i .i64 (0 : Int)), .a (.u), .a (.u), .a (.u), .a (.u), .a (.u), .a (.u), .a (.u), .a (.u), .a (.u), .a (.u), .a (.u), .a (.u), .a (.u), .a (.u), .a (.u), .a (.u), .a (.u), .a (.u), .a (.u), .a (.u), .a (.u), .a (.u)], [.sl b_a1 n_a1 a1 2, .row a0 29, .no, .no, .no], []⟩ : St) (impl_FirstBeach_e0 t) = mapS impl_FirstBeach_e0 impl_FirstBeach_x0 (impl_FirstBeach_g0 Try.prog a0 b_a1 n_a1 a1 t) := by
  rintro ⟨y0_4, y0_5, y0_6, y0_20⟩
  have h : stepV Try.prog (mkΓ [(65, con impl_seaCode_con), (94, con impl_hasCell_con), (95, con impl_firstLand_con)]) N (cAt (codeOf Try.f46) [1, 1, 0, 1, 0, 0]) (pAt (mkPlan (codeOf Try.f46) [([4, 5, 6, 20], [])]).1 [1, 1, 0, 1, 0]) [4, 5, 6, 20] [] (⟨[.a (.g a0 29), .a (.l 0), .a (.w 1), .a (.u), .a (.i .i64 (0 : Int)), .a (.i .i64 (0 : Int)), .a (.i .i64 (0 : Int)), .a (.i .i64 (bif okS a0 then 0 else 1)), .a (.u), .a (.u), .a (.u), .a (.u), .a (.u), .a (.g a0 29), .a (.i .i64 (bif okS a0 then 0 else 1)), .a (.i .i64 (bif okS a0 then 0 else 1)), .a (.b (((bif okS a0 then 0 else 1) != (0 : Int)))), .a (.u), .a (.l 0), .a (.i .i64 (n_a1 : Int)), .a (.i .i64 (0 : Int)), .a (.u), .a (.u), .a (.u), .a (.u), .a (.u), .a (.u), .a (.u), .a (.u), .a (.u), .a (.u), .a (.u), .a (.u), .a (.u), .a (.u), .a (.u), .a (.u), .a (.u), .a (.u), .a (.u), .a (.u), .a (.u), .a (.u)], [.sl b_a1 n_a1 a1 2, .row a0 29, .no, .no, .no], []⟩ : St) ([.a (.i .i64 (y0_4)), .a (.i .i64 (y0_5)), .a (.i .i64 (y0_6)), .a (.i .i64 (y0_20))], []) = (bif decide (y0_20 < (n_a1 : Int)) then (bif (decide (0 ≤ y0_20) && decide (y0_20 < (n_a1 : Int))) then (bif ((num a1 ((y0_20).toNat * 1)) != (-1 : Int)) then (bif (!((impl_hasCell_v0 a0 (num a1 ((y0_20).toNat * 1))))) then (some (.done (.ret, ([.a (.i .i64 (0 : Int)), .a (.i .i64 (0 : Int)), .a (.i .i64 (2 : Int)), .a (.i .i64 (y0_20))], []))))
          else (some (.more ([.a (.i .i64 (y0_4)), .a (.i .i64 (y0_5)), .a (.i .i64 (y0_6)), .a (.i .i64 (IntKind.i64.wrap (y0_20 + (1 : Int))))], []))))
        else (some (.more ([.a (.i .i64 (y0_4)), .a (.i .i64 (y0_5)), .a (.i .i64 (y0_6)), .a (.i .i64 (IntKind.i64.wrap (y0_20 + (1 : Int))))], []))))
      else (none))
    else (some (.done ((.exit 0), ([.a (.i .i64 (y0_4)), .a (.i .i64 (y0_5)), .a (.i .i64 (y0_6)), .a (.i .i64 (y0_20))], []))))) := by kernel_rfl
  refine h.trans ?_
  simp only [impl_FirstBeach_g0, mapS_cond, mapS_more, mapS_done, mapS_none, impl_FirstBeach_e0, impl_FirstBeach_x0]

noncomputable def impl_FirstBeach_k0_0 (P : Program) (N : Nat) (a0 : Array Value) (b_a1 : Option (Option Addr)) (n_a1 : Nat) (a1 : Array Value) (z0_4 : Int) (z0_5 : Int) (z0_6 : Int) (z0_20 : Int) : Option (SV × Eff × Bool) := some (.t [.i .i64 (z0_4), .i .i64 (z0_5), .i .i64 (z0_6)], .none, true)

theorem impl_FirstBeach_k0_0_eq (N : Nat) (a0 : Array Value) (b_a1 : Option (Option Addr)) (n_a1 : Nat) (a1 : Array Value) (z0_4 : Int) (z0_5 : Int) (z0_6 : Int) (z0_20 : Int) : (kBlock 0 (kSeq (veC Try.prog (mkΓ [(65, con impl_seaCode_con), (94, con impl_hasCell_con), (95, con impl_firstLand_con)]) N (cAt (codeOf Try.f46) [1, 1, 1]) (pAt (mkPlan (codeOf Try.f46) [([4, 5, 6, 20], [])]).1 [1, 1, 1]) (SV × Eff × Bool)) (finK Try.prog [.sl b_a1 n_a1 a1 2] [.tmp 4, .tmp 5, .tmp 6]))) .ret (left (writes (cAt (codeOf Try.f46) [1, 1, 0, 1, 0, 0])) [4, 5, 6, 20] [] (⟨[.a (.g a0 29), .a (.l 0), .a (.w 1), .a (.u), .a (.i .i64 (0 : Int)), .a (.i .i64 (0 : Int)), .a (.i .i64 (0 : Int)), .a (.i .i64 (bif okS a0 then 0 else 1)), .a (.u), .a (.u), .a (.u), .a (.u), .a (.u), .a (.g a0 29), .a (.i .i64 (bif okS a0 then 0 else 1)), .a (.i .i64 (bif okS a0 then 0 else 1)), .a (.b (((bif okS a0 then 0 else 1) != (0 : Int)))), .a (.u), .a (.l 0), .a (.i .i64 (n_a1 : Int)), .a (.i .i64 (0 : Int)), .a (.u), .a (.u), .a (.u), .a (.u), .a (.u), .a (.u), .a (.u), .a (.u), .a (.u), .a (.u), .a (.u), .a (.u), .a (.u), .a (.u), .a (.u), .a (.u), .a (.u), .a (.u), .a (.u), .a (.u), .a (.u), .a (.u)], [.sl b_a1 n_a1 a1 2, .row a0 29, .no, .no, .no], []⟩ : St) ([.a (.i .i64 (z0_4)), .a (.i .i64 (z0_5)), .a (.i .i64 (z0_6)), .a (.i .i64 (z0_20))], [])) = impl_FirstBeach_k0_0 Try.prog N a0 b_a1 n_a1 a1 z0_4 z0_5 z0_6 z0_20 := by
  have h : (kBlock 0 (kSeq (veC Try.prog (mkΓ [(65, con impl_seaCode_con), (94, con impl_hasCell_con), (95, con impl_firstLand_con)]) N (cAt (codeOf Try.f46) [1, 1, 1]) (pAt (mkPlan (codeOf Try.f46) [([4, 5, 6, 20], [])]).1 [1, 1, 1]) (SV × Eff × Bool)) (finK Try.prog [.sl b_a1 n_a1 a1 2] [.tmp 4, .tmp 5, .tmp 6]))) .ret (left (writes (cAt (codeOf Try.f46) [1, 1, 0, 1, 0, 0])) [4, 5, 6, 20] [] (⟨[.a (.g a0 29), .a (.l 0), .a (.w 1), .a (.u), .a (.i .i64 (0 : Int)), .a (.i .i64 (0 : Int)), .a (.i .i64 (0 : Int)), .a (.i .i64 (bif okS a0 then 0 else 1)), .a (.u), .a (.u), .a (.u), .a (.u), .a (.u), .a (.g a0 29), .a (.i .i64 (bif okS a0 then 0 else 1)), .a (.i .i64 (bif okS a0 then 0 else 1)), .a (.b (((bif okS a0 then 0 else 1) != (0 : Int)))), .a (.u), .a (.l 0), .a (.i .i64 (n_a1 : Int)), .a (.i .i64 (0 : Int)), .a (.u), .a (.u), .a (.u), .a (.u), .a (.u), .a (.u), .a (.u), .a (.u), .a (.u), .a (.u), .a (.u), .a (.u), .a (.u), .a (.u), .a (.u), .a (.u), .a (.u), .a (.u), .a (.u), .a (.u), .a (.u), .a (.u)], [.sl b_a1 n_a1 a1 2, .row a0 29, .no, .no, .no], []⟩ : St) ([.a (.i .i64 (z0_4)), .a (.i .i64 (z0_5)), .a (.i .i64 (z0_6)), .a (.i .i64 (z0_20))], [])) = (some (.t [.i .i64 (z0_4), .i .i64 (z0_5), .i .i64 (z0_6)], .none, true)) := by kernel_rfl
  refine h.trans ?_
  rfl

noncomputable def impl_FirstBeach_k0_1 (P : Program) (N : Nat) (a0 : Array Value) (b_a1 : Option (Option Addr)) (n_a1 : Nat) (a1 : Array Value) (z0_4 : Int) (z0_5 : Int) (z0_6 : Int) (z0_20 : Int) : Option (SV × Eff × Bool) := bif (flG n_a1 a1) then (bif (flF a0 n_a1 a1).isSome then (some (.t [.i .i64 (atC a1 (flF a0 n_a1 a1)), .i .i64 (atI (flF a0 n_a1 a1)), .i .i64 (0 : Int)], .none, true))
      else (some (.t [.i .i64 (0 : Int), .i .i64 (0 : Int), .i .i64 (6 : Int)], .none, true)))
    else (none)

theorem impl_FirstBeach_k0_1_eq (N : Nat) (a0 : Array Value) (b_a1 : Option (Option Addr)) (n_a1 : Nat) (a1 : Array Value) (z0_4 : Int) (z0_5 : Int) (z0_6 : Int) (z0_20 : Int) : (kBlock 0 (kSeq (veC Try.prog (mkΓ [(65, con impl_seaCode_con), (94, con impl_hasCell_con), (95, con impl_firstLand_con)]) N (cAt (codeOf Try.f46) [1, 1, 1]) (pAt (mkPlan (codeOf Try.f46) [([4, 5, 6, 20], [])]).1 [1, 1, 1]) (SV × Eff × Bool)) (finK Try.prog [.sl b_a1 n_a1 a1 2] [.tmp 4, .tmp 5, .tmp 6]))) (.exit 0) (left (writes (cAt (codeOf Try.f46) [1, 1, 0, 1, 0, 0])) [4, 5, 6, 20] [] (⟨[.a (.g a0 29), .a (.l 0), .a (.w 1), .a (.u), .a (.i .i64 (0 : Int)), .a (.i .i64 (0 : Int)), .a (.i .i64 (0 : Int)), .a (.i .i64 (bif okS a0 then 0 else 1)), .a (.u), .a (.u), .a (.u), .a (.u), .a (.u), .a (.g a0 29), .a (.i .i64 (bif okS a0 then 0 else 1)), .a (.i .i64 (bif okS a0 then 0 else 1)), .a (.b (((bif okS a0 then 0 else 1) != (0 : Int)))), .a (.u), .a (.l 0), .a (.i .i64 (n_a1 : Int)), .a (.i .i64 (0 : Int)), .a (.u), .a (.u), .a (.u), .a (.u), .a (.u), .a (.u), .a (.u), .a (.u), .a (.u), .a (.u), .a (.u), .a (.u), .a (.u), .a (.u), .a (.u), .a (.u), .a (.u), .a (.u), .a (.u), .a (.u), .a (.u), .a (.u)], [.sl b_a1 n_a1 a1 2, .row a0 29, .no, .no, .no], []⟩ : St) ([.a (.i .i64 (z0_4)), .a (.i .i64 (z0_5)), .a (.i .i64 (z0_6)), .a (.i .i64 (z0_20))], [])) = impl_FirstBeach_k0_1 Try.prog N a0 b_a1 n_a1 a1 z0_4 z0_5 z0_6 z0_20 := by
  have h : (kBlock 0 (kSeq (veC Try.prog (mkΓ [(65, con impl_seaCode_con), (94, con impl_hasCell_con), (95, con impl_firstLand_con)]) N (cAt (codeOf Try.f46) [1, 1, 1]) (pAt (mkPlan (codeOf Try.f46) [([4, 5, 6, 20], [])]).1 [1, 1, 1]) (SV × Eff × Bool)) (finK Try.prog [.sl b_a1 n_a1 a1 2] [.tmp 4, .tmp 5, .tmp 6]))) (.exit 0) (left (writes (cAt (codeOf Try.f46) [1, 1, 0, 1, 0, 0])) [4, 5, 6, 20] [] (⟨[.a (.g a0 29), .a (.l 0), .a (.w 1), .a (.u), .a (.i .i64 (0 : Int)), .a (.i .i64 (0 : Int)), .a (.i .i64 (0 : Int)), .a (.i .i64 (bif okS a0 then 0 else 1)), .a (.u), .a (.u), .a (.u), .a (.u), .a (.u), .a (.g a0 29), .a (.i .i64 (bif okS a0 then 0 else 1)), .a (.i .i64 (bif okS a0 then 0 else 1)), .a (.b (((bif okS a0 then 0 else 1) != (0 : Int)))), .a (.u), .a (.l 0), .a (.i .i64 (n_a1 : Int)), .a (.i .i64 (0 : Int)), .a (.u), .a (.u), .a (.u), .a (.u), .a (.u), .a (.u), .a (.u), .a (.u), .a (.u), .a (.u), .a (.u), .a (.u), .a (.u), .a (.u), .a (.u), .a (.u), .a (.u), .a (.u), .a (.u), .a (.u), .a (.u), .a (.u)], [.sl b_a1 n_a1 a1 2, .row a0 29, .no, .no, .no], []⟩ : St) ([.a (.i .i64 (z0_4)), .a (.i .i64 (z0_5)), .a (.i .i64 (z0_6)), .a (.i .i64 (z0_20))], [])) = (bif (flG n_a1 a1) then (bif (flF a0 n_a1 a1).isSome then (some (.t [.i .i64 (atC a1 (flF a0 n_a1 a1)), .i .i64 (atI (flF a0 n_a1 a1)), .i .i64 (0 : Int)], .none, true))
      else (some (.t [.i .i64 (0 : Int), .i .i64 (0 : Int), .i .i64 (6 : Int)], .none, true)))
    else (none)) := by kernel_rfl
  refine h.trans ?_
  rfl

theorem impl_FirstBeach_n0 (N : Nat) (a0 : Array Value) (b_a1 : Option (Option Addr)) (n_a1 : Nat) (a1 : Array Value) : bindX (iterO (stepV Try.prog (mkΓ [(65, con impl_seaCode_con), (94, con impl_hasCell_con), (95, con impl_firstLand_con)]) N (cAt (codeOf Try.f46) [1, 1, 0, 1, 0, 0]) (pAt (mkPlan (codeOf Try.f46) [([4, 5, 6, 20], [])]).1 [1, 1, 0, 1, 0]) [4, 5, 6, 20] [] (⟨[.a (.g a0 29), .a (.l 0), .a (.w 1), .a (.u), .a (.i .i64 (0 : Int)), .a (.i .i64 (0 : Int)), .a (.i .i64 (0 : Int)), .a (.i .i64 (bif okS a0 then 0 else 1)), .a (.u), .a (.u), .a (.u), .a (.u), .a (.u), .a (.g a0 29), .a (.i .i64 (bif okS a0 then 0 else 1)), .a (.i .i64 (bif okS a0 then 0 else 1)), .a (.b (((bif okS a0 then 0 else 1) != (0 : Int)))), .a (.u), .a (.l 0), .a (.i .i64 (n_a1 : Int)), .a (.i .i64 (0 : Int)), .a (.u), .a (.u), .a (.u), .a (.u), .a (.u), .a (.u), .a (.u), .a (.u), .a (.u), .a (.u), .a (.u), .a (.u), .a (.u), .a (.u), .a (.u), .a (.u), .a (.u), .a (.u), .a (.u), .a (.u), .a (.u), .a (.u)], [.sl b_a1 n_a1 a1 2, .row a0 29, .no, .no, .no], []⟩ : St)) N ([.a (.i .i64 (0 : Int)), .a (.i .i64 (0 : Int)), .a (.i .i64 (0 : Int)), .a (.i .i64 (0 : Int))], [])) (fun e s => (kBlock 0 (kSeq (veC Try.prog (mkΓ [(65, con impl_seaCode_con), (94, con impl_hasCell_con), (95, con impl_firstLand_con)]) N (cAt (codeOf Try.f46) [1, 1, 1]) (pAt (mkPlan (codeOf Try.f46) [([4, 5, 6, 20], [])]).1 [1, 1, 1]) (SV × Eff × Bool)) (finK Try.prog [.sl b_a1 n_a1 a1 2] [.tmp 4, .tmp 5, .tmp 6]))) e (left (writes (cAt (codeOf Try.f46) [1, 1, 0, 1, 0, 0])) [4, 5, 6, 20] [] (⟨[.a (.g a0 29), .a (.l 0), .a (.w 1), .a (.u), .a (.i .i64 (0 : Int)), .a (.i .i64 (0 : Int)), .a (.i .i64 (0 : Int)), .a (.i .i64 (bif okS a0 then 0 else 1)), .a (.u), .a (.u), .a (.u), .a (.u), .a (.u), .a (.g a0 29), .a (.i .i64 (bif okS a0 then 0 else 1)), .a (.i .i64 (bif okS a0 then 0 else 1)), .a (.b (((bif okS a0 then 0 else 1) != (0 : Int)))), .a (.u), .a (.l 0), .a (.i .i64 (n_a1 : Int)), .a (.i .i64 (0 : Int)), .a (.u), .a (.u), .a (.u), .a (.u), .a (.u), .a (.u), .a (.u), .a (.u), .a (.u), .a (.u), .a (.u), .a (.u), .a (.u), .a (.u), .a (.u), .a (.u), .a (.u), .a (.u), .a (.u), .a (.u), .a (.u), .a (.u)], [.sl b_a1 n_a1 a1 2, .row a0 29, .no, .no, .no], []⟩ : St) s)) = nodeX (iterO (impl_FirstBeach_g0 Try.prog a0 b_a1 n_a1 a1) N ((0 : Int), (0 : Int), (0 : Int), (0 : Int))) (st2 (fun x => impl_FirstBeach_k0_0 Try.prog N a0 b_a1 n_a1 a1 x.1 x.2.1 x.2.2.1 x.2.2.2) (fun x => impl_FirstBeach_k0_1 Try.prog N a0 b_a1 n_a1 a1 x.1 x.2.1 x.2.2.1 x.2.2.2)) := by
  refine loop_node impl_FirstBeach_e0 impl_FirstBeach_x0 _ _ (impl_FirstBeach_s0 N a0 b_a1 n_a1 a1) N ((0 : Int), (0 : Int), (0 : Int), (0 : Int)) _ _ ?_
  intro x
  cases x with
  | more x => exact impl_FirstBeach_k0_0_eq N a0 b_a1 n_a1 a1 x.1 x.2.1 x.2.2.1 x.2.2.2
  | done x => exact impl_FirstBeach_k0_1_eq N a0 b_a1 n_a1 a1 x.1 x.2.1 x.2.2.1 x.2.2.2

theorem impl_FirstBeach_ans (N : Nat) (a0 : Array Value) (b_a1 : Option (Option Addr)) (n_a1 : Nat) (a1 : Array Value) : ansV Try.prog (mkΓ [(65, con impl_seaCode_con), (94, con impl_hasCell_con), (95, con impl_firstLand_con)]) N Try.f46 [([4, 5, 6, 20], [])] [.g a0 29, .l 0] [.sl b_a1 n_a1 a1 2] = (bif ((bif okS a0 then 0 else 1) != (0 : Int)) then (some (.t [.i .i64 (0 : Int), .i .i64 (0 : Int), .i .i64 (bif okS a0 then 0 else 1)], .none, true))
    else (nodeX (iterO (impl_FirstBeach_g0 Try.prog a0 b_a1 n_a1 a1) N ((0 : Int), (0 : Int), (0 : Int), (0 : Int))) (st2 (fun x => impl_FirstBeach_k0_0 Try.prog N a0 b_a1 n_a1 a1 x.1 x.2.1 x.2.2.1 x.2.2.2) (fun x => impl_FirstBeach_k0_1 Try.prog N a0 b_a1 n_a1 a1 x.1 x.2.1 x.2.2.1 x.2.2.2)))) := by
  have h : ansV Try.prog (mkΓ [(65, con impl_seaCode_con), (94, con impl_hasCell_con), (95, con impl_firstLand_con)]) N Try.f46 [([4, 5, 6, 20], [])] [.g a0 29, .l 0] [.sl b_a1 n_a1 a1 2] = (bif ((bif okS a0 then 0 else 1) != (0 : Int)) then (some (.t [.i .i64 (0 : Int), .i .i64 (0 : Int), .i .i64 (bif okS a0 then 0 else 1)], .none, true))
    else (bindX (iterO (stepV Try.prog (mkΓ [(65, con impl_seaCode_con), (94, con impl_hasCell_con), (95, con impl_firstLand_con)]) N (cAt (codeOf Try.f46) [1, 1, 0, 1, 0, 0]) (pAt (mkPlan (codeOf Try.f46) [([4, 5, 6, 20], [])]).1 [1, 1, 0, 1, 0]) [4, 5, 6, 20] [] (⟨[.a (.g a0 29), .a (.l 0), .a (.w 1), .a (.u), .a (.i .i64 (0 : Int)), .a (.i .i64 (0 : Int)), .a (.i .i64 (0 : Int)), .a (.i .i64 (bif okS a0 then 0 else 1)), .a (.u), .a (.u), .a (.u), .a (.u), .a (.u), .a (.g a0 29), .a (.i .i64 (bif okS a0 then 0 else 1)), .a (.i .i64 (bif okS a0 then 0 else 1)), .a (.b (((bif okS a0 then 0 else 1) != (0 : Int)))), .a (.u), .a (.l 0), .a (.i .i64 (n_a1 : Int)), .a (.i .i64 (0 : Int)), .a (.u), .a (.u), .a (.u), .a (.u), .a (.u), .a (.u), .a (.u), .a (.u), .a (.u), .a (.u), .a (.u), .a (.u), .a (.u), .a (.u), .a (.u), .a (.u), .a (.u), .a (.u), .a (.u), .a (.u), .a (.u), .a (.u)], [.sl b_a1 n_a1 a1 2, .row a0 29, .no, .no, .no], []⟩ : St)) N ([.a (.i .i64 (0 : Int)), .a (.i .i64 (0 : Int)), .a (.i .i64 (0 : Int)), .a (.i .i64 (0 : Int))], [])) (fun e s => (kBlock 0 (kSeq (veC Try.prog (mkΓ [(65, con impl_seaCode_con), (94, con impl_hasCell_con), (95, con impl_firstLand_con)]) N (cAt (codeOf Try.f46) [1, 1, 1]) (pAt (mkPlan (codeOf Try.f46) [([4, 5, 6, 20], [])]).1 [1, 1, 1]) (SV × Eff × Bool)) (finK Try.prog [.sl b_a1 n_a1 a1 2] [.tmp 4, .tmp 5, .tmp 6]))) e (left (writes (cAt (codeOf Try.f46) [1, 1, 0, 1, 0, 0])) [4, 5, 6, 20] [] (⟨[.a (.g a0 29), .a (.l 0), .a (.w 1), .a (.u), .a (.i .i64 (0 : Int)), .a (.i .i64 (0 : Int)), .a (.i .i64 (0 : Int)), .a (.i .i64 (bif okS a0 then 0 else 1)), .a (.u), .a (.u), .a (.u), .a (.u), .a (.u), .a (.g a0 29), .a (.i .i64 (bif okS a0 then 0 else 1)), .a (.i .i64 (bif okS a0 then 0 else 1)), .a (.b (((bif okS a0 then 0 else 1) != (0 : Int)))), .a (.u), .a (.l 0), .a (.i .i64 (n_a1 : Int)), .a (.i .i64 (0 : Int)), .a (.u), .a (.u), .a (.u), .a (.u), .a (.u), .a (.u), .a (.u), .a (.u), .a (.u), .a (.u), .a (.u), .a (.u), .a (.u), .a (.u), .a (.u), .a (.u), .a (.u), .a (.u), .a (.u), .a (.u), .a (.u), .a (.u)], [.sl b_a1 n_a1 a1 2, .row a0 29, .no, .no, .no], []⟩ : St) s)))) := by kernel_rfl
  refine h.trans ?_
  simp only [impl_FirstBeach_n0]

theorem impl_FirstBeach_main (a0 : Array Value) (b_a1 : Option (Option Addr)) (n_a1 : Nat) (a1 : Array Value) (h_a0 : WT Try.prog 29 a0) (h_a1 : a1.size = n_a1 * (lay Try.prog 2).length ∧ (∀ k, k < n_a1 → WT Try.prog 2 (a1.extract (k * (lay Try.prog 2).length) (k * (lay Try.prog 2).length + (lay Try.prog 2).length))) ∧ n_a1 ≤ 9223372036854775807) (hg : (true) = true) : ansV Try.prog (mkΓ [(65, con impl_seaCode_con), (94, con impl_hasCell_con), (95, con impl_firstLand_con)]) 18446744073709551616 Try.f46 [([4, 5, 6, 20], [])] [.g a0 29, .l 0] [.sl b_a1 n_a1 a1 2] = some (.t [.i .i64 (fbC a0 n_a1 a1), .i .i64 (fbI a0 n_a1 a1), .i .i64 (fbCode a0 n_a1 a1)], .none, true) := by
  have hn := h_a1.2.2
  refine (impl_FirstBeach_ans 18446744073709551616 a0 b_a1 n_a1 a1).trans ?_
  unfold fbC fbI fbCode fbBad
  cases hok : okS a0
  · rfl
  have hl0 := iter_find (g := impl_FirstBeach_g0 Try.prog a0 b_a1 n_a1 a1) (fun k => ((0 : Int), (0 : Int), (0 : Int), (k : Int))) (badB a0 a1) n_a1 (N := 18446744073709551616) (by omega) (xd := .done ((0 : Int), (0 : Int), (0 : Int), (n_a1 : Int))) (fun k => .more ((0 : Int), (0 : Int), (2 : Int), (k : Int))) (fun k hk hp => by
    have h1 : decide ((k : Int) < (n_a1 : Int)) = true := decide_eq_true (by omega)
    have h0 : decide (0 ≤ (k : Int)) = true := decide_eq_true (by omega)
    have h3 : IntKind.i64.wrap ((k : Int) + 1) = ((k + 1 : Nat) : Int) := by rw [IntWalk.i64_in _ (by omega)]; omega
    unfold badB at hp
    cases hx : (num a1 (k * 1) != (-1 : Int))
    · simp only [impl_FirstBeach_g0, h1, h0, h3, Bool.and_self, cond_true, cond_false, Int.toNat_natCast, hx]
    · rw [hx] at hp
      have hy : spec_l01Is_v0 (num a1 (k * 1)) a0 = true := by simpa using hp
      simp only [impl_FirstBeach_g0, h1, h0, h3, Bool.and_self, cond_true, cond_false, Int.toNat_natCast, hx, cell_is, hy, Bool.not_true]) (fun k hk hp => by
    have h1 : decide ((k : Int) < (n_a1 : Int)) = true := decide_eq_true (by omega)
    have h0 : decide (0 ≤ (k : Int)) = true := decide_eq_true (by omega)
    have h3 : IntKind.i64.wrap ((k : Int) + 1) = ((k + 1 : Nat) : Int) := by rw [IntWalk.i64_in _ (by omega)]; omega
    unfold badB at hp
    rw [Bool.and_eq_true, Bool.not_eq_true'] at hp
    simp only [impl_FirstBeach_g0, h1, h0, h3, Bool.and_self, cond_true, Int.toNat_natCast, hp.1, cell_is, hp.2, Bool.not_false]) (by
    have h1 : decide ((n_a1 : Int) < (n_a1 : Int)) = false := decide_eq_false (by omega)
    simp only [impl_FirstBeach_g0, h1, cond_false])
  have hl : iterO (impl_FirstBeach_g0 Try.prog a0 b_a1 n_a1 a1) 18446744073709551616 ((0 : Int), (0 : Int), (0 : Int), (0 : Int)) = _ := hl0
  simp only [cond_true, bne_self_eq_false, cond_false, hl]
  cases hb : (List.range n_a1).find? (badB a0 a1)
  case some k => rfl
  have hgood := fun k hk => good hb (k := k) hk
  have hG : flG n_a1 a1 = true := by
    unfold flG
    refine List.all_eq_true.2 fun k hk => ?_
    rcases hgood k (List.mem_range.1 hk) with h | h
    · rw [h]; rfl
    · rw [decide_eq_true (is_range h).1, Bool.or_true]
  have hF : flF a0 n_a1 a1 = fbF a0 n_a1 a1 := find_congr fun k hk => land_same h_a0 (hgood k hk)
  show impl_FirstBeach_k0_1 Try.prog 18446744073709551616 a0 b_a1 n_a1 a1 0 0 0 (n_a1 : Int) = _
  unfold impl_FirstBeach_k0_1
  rw [hG, hF]
  cases fbF a0 n_a1 a1 <;> rfl
noncomputable def impl_FirstBeach_con : Con := fun args h => match args, h with
  | [.g a0 29, .l 0], [.sl b_a1 n_a1 a1 2] => some (.t [.i .i64 (fbC a0 n_a1 a1), .i .i64 (fbI a0 n_a1 a1), .i .i64 (fbCode a0 n_a1 a1)], .none, true)
  | _, _ => none
theorem impl_FirstBeach_enter : ∀ args w, (callFunc 46 args).run Try.prog w = .ok (.enter 46 args) w := enter_ok (fn := Try.f46) (by kernel_rfl) (by kernel_rfl) (by kernel_rfl)
theorem impl_FirstBeach_ok : ConOk Try.prog 46 impl_FirstBeach_con := (ans_ok (N := 18446744073709551616) (by kernel_rfl) (mkΓ_cons (con_ok impl_seaCode_ok) impl_seaCode_enter (mkΓ_cons (con_ok impl_hasCell_ok) impl_hasCell_enter (mkΓ_cons (con_ok impl_firstLand_ok) impl_firstLand_enter mkΓ_nil))) (fn := Try.f46) (by kernel_rfl) (by kernel_rfl) [([4, 5, 6, 20], [])]).of (by
  intro ρ h w args vals r e hA hH hr
  unfold impl_FirstBeach_con at hr
  split at hr
  · rename_i a0 b_a1 n_a1 a1
    obtain ⟨rfl, hg⟩ := Prod.mk.inj (Option.some.inj hr)
    obtain ⟨rfl, hg2⟩ := Prod.mk.inj hg
    exact impl_FirstBeach_main a0 b_a1 n_a1 a1 (hA.wt 0 rfl) (hH.slw 0 rfl) hg2
  · cases hr)

end
end Go.Proofs.Ytafmhcdelokmbaa
