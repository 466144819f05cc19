/- The beaches that are reached: both sides. -/
import Derived.Test.YtphmhgdedoeaeaaDoorProg
import Derived.Test.YtphmhgdedoeaeaaDoorCyR
namespace Go.Proofs.YtphmhgdedoeaeaaDoor
open Go.ChangeShapes Go.WideShapes Go.ChangeAt Go.RowKit Ve Vc
open Tryd (prog)
open IntKind (i64)
set_option linter.unusedVariables false
set_option linter.unusedSimpArgs false
set_option maxRecDepth 100000
noncomputable section
variable {F : Vc.Fd}
noncomputable def fbF (C : Array Value) (acc : Int) (k : Nat) : Int := bif decide (num C (k * 1) > (0 : Int)) then IntKind.u64.wrap (BitVec.ofInt IntKind.u64.bits acc ||| BitVec.ofInt IntKind.u64.bits (impl_bitOf_v0 (k : Int))).toNat else acc
noncomputable def impl_filledBits_t0 (a0 : Array Value) : St := (⟨.a (.g a0 29) :: .a (.w 0) :: .a (.i .u64 (0 : Int)) :: .a (.i .u64 (0 : Int)) :: .a (.u) :: .a (.u) :: .a (.g a0 29) :: .a (.i .i64 (0 : Int)) :: us 11 ([]), [.row a0 29, .no], []⟩ : St)
noncomputable def impl_filledBits_e0 : Int × Int → LS
 | (y0_3, y0_7) => ([.a (.i .u64 (y0_3)), .a (.i .i64 (y0_7))], [])
noncomputable def impl_filledBits_x0 : Int × Int → Exit × LS
 | t => ((.exit 0), impl_filledBits_e0 t)
noncomputable def impl_filledBits_g0 (P : Program) (a0 : Array Value) : Int × Int → Option (Stp (Int × Int) (Int × Int))
 | (y0_3, y0_7) => bif decide (y0_7 < (36 : Int)) then (bif (decide (0 ≤ y0_7) && decide (y0_7 < 36)) then (bif decide ((num a0 ((y0_7).toNat * 1)) > (0 : Int)) then (bif decide (0 ≤ y0_7) then (some (.more ((IntKind.u64.wrap (BitVec.ofInt IntKind.u64.bits y0_3 ||| BitVec.ofInt IntKind.u64.bits (impl_bitOf_v0 y0_7)).toNat), (i64.wrap (y0_7 + (1 : Int))))))
     else (none))
    else (some (.more (y0_3, (i64.wrap (y0_7 + (1 : Int)))))))
   else (none))
  else (some (.done (y0_3, y0_7)))
theorem impl_filledBits_s0 (N : Nat) (a0 : Array Value) : ∀ t : Int × Int, stepV prog (mkΓ [(100, con impl_bitOf_con)]) N (cAt (codeOf Tryd.f68) [1, 1, 0, 1, 0, 0]) (pAt (mkPlan (codeOf Tryd.f68) [([3, 7], [])]).1 [1, 1, 0, 1, 0]) [3, 7] [] (impl_filledBits_t0 a0) (impl_filledBits_e0 t) = mapS impl_filledBits_e0 impl_filledBits_x0 (impl_filledBits_g0 prog a0 t) := by
 rintro ⟨y0_3, y0_7⟩
 refine Eq.trans (b := (bif decide (y0_7 < (36 : Int)) then (bif (decide (0 ≤ y0_7) && decide (y0_7 < 36)) then (bif decide ((num a0 ((y0_7).toNat * 1)) > (0 : Int)) then (bif decide (0 ≤ y0_7) then (some (.more ([.a (.i .u64 (IntKind.u64.wrap (BitVec.ofInt IntKind.u64.bits y0_3 ||| BitVec.ofInt IntKind.u64.bits (impl_bitOf_v0 y0_7)).toNat)), .a (.i .i64 (i64.wrap (y0_7 + (1 : Int))))], [])))
     else (none))
    else (some (.more ([.a (.i .u64 (y0_3)), .a (.i .i64 (i64.wrap (y0_7 + (1 : Int))))], []))))
   else (none))
  else (some (.done ((.exit 0), ([.a (.i .u64 (y0_3)), .a (.i .i64 (y0_7))], [])))))) (by kernel_rfl) ?_
 simp only [impl_filledBits_g0, mapS_cond, mapS_more, mapS_done, mapS_none, impl_filledBits_e0, impl_filledBits_x0]
noncomputable def impl_filledBits_k0_0 (P : Program) (N : Nat) (a0 : Array Value) (z0_3 : Int) (z0_7 : Int) : Option (SV × Eff × Bool) := some (.a (.i .u64 (z0_3)), .none, true)
theorem impl_filledBits_k0_0_eq (N : Nat) (a0 : Array Value) (z0_3 : Int) (z0_7 : Int) : (kBlock 0 (kSeq (veC prog (mkΓ [(100, con impl_bitOf_con)]) N (cAt (codeOf Tryd.f68) [1, 1, 1]) (pAt (mkPlan (codeOf Tryd.f68) [([3, 7], [])]).1 [1, 1, 1]) (SV × Eff × Bool)) (finK prog [] [.tmp 2]))) (.exit 0) (left (writes (cAt (codeOf Tryd.f68) [1, 1, 0, 1, 0, 0])) [3, 7] [] (impl_filledBits_t0 a0) ([.a (.i .u64 (z0_3)), .a (.i .i64 (z0_7))], [])) = impl_filledBits_k0_0 prog N a0 z0_3 z0_7 := by
 refine Eq.trans (b := (some (.a (.i .u64 (z0_3)), .none, true))) (by kernel_rfl) ?_
 rfl
theorem impl_filledBits_n0 (N : Nat) (a0 : Array Value) : bindX (iterO (stepV prog (mkΓ [(100, con impl_bitOf_con)]) N (cAt (codeOf Tryd.f68) [1, 1, 0, 1, 0, 0]) (pAt (mkPlan (codeOf Tryd.f68) [([3, 7], [])]).1 [1, 1, 0, 1, 0]) [3, 7] [] (impl_filledBits_t0 a0)) N ([.a (.i .u64 (0 : Int)), .a (.i .i64 (0 : Int))], [])) (fun e s => (kBlock 0 (kSeq (veC prog (mkΓ [(100, con impl_bitOf_con)]) N (cAt (codeOf Tryd.f68) [1, 1, 1]) (pAt (mkPlan (codeOf Tryd.f68) [([3, 7], [])]).1 [1, 1, 1]) (SV × Eff × Bool)) (finK prog [] [.tmp 2]))) e (left (writes (cAt (codeOf Tryd.f68) [1, 1, 0, 1, 0, 0])) [3, 7] [] (impl_filledBits_t0 a0) s)) = nodeX (iterO (impl_filledBits_g0 prog a0) N ((0 : Int), (0 : Int))) (fun x => impl_filledBits_k0_0 prog N a0 x.1 x.2) := by
 refine loop_node impl_filledBits_e0 impl_filledBits_x0 _ _ (impl_filledBits_s0 N a0) N ((0 : Int), (0 : Int)) _ _ ?_
 intro x; exact impl_filledBits_k0_0_eq N a0 x.1 x.2
theorem impl_filledBits_ans (N : Nat) (a0 : Array Value) : ansV prog (mkΓ [(100, con impl_bitOf_con)]) N Tryd.f68 [([3, 7], [])] [.g a0 29] [] = (nodeX (iterO (impl_filledBits_g0 prog a0) N ((0 : Int), (0 : Int))) (fun x => impl_filledBits_k0_0 prog N a0 x.1 x.2)) := by
 refine Eq.trans (b := (bindX (iterO (stepV prog (mkΓ [(100, con impl_bitOf_con)]) N (cAt (codeOf Tryd.f68) [1, 1, 0, 1, 0, 0]) (pAt (mkPlan (codeOf Tryd.f68) [([3, 7], [])]).1 [1, 1, 0, 1, 0]) [3, 7] [] (impl_filledBits_t0 a0)) N ([.a (.i .u64 (0 : Int)), .a (.i .i64 (0 : Int))], [])) (fun e s => (kBlock 0 (kSeq (veC prog (mkΓ [(100, con impl_bitOf_con)]) N (cAt (codeOf Tryd.f68) [1, 1, 1]) (pAt (mkPlan (codeOf Tryd.f68) [([3, 7], [])]).1 [1, 1, 1]) (SV × Eff × Bool)) (finK prog [] [.tmp 2]))) e (left (writes (cAt (codeOf Tryd.f68) [1, 1, 0, 1, 0, 0])) [3, 7] [] (impl_filledBits_t0 a0) s)))) (by kernel_rfl) ?_
 simp only [impl_filledBits_n0 N a0]
theorem impl_filledBits_main (a0 : Array Value) (h_a0 : WT prog 29 a0) (hg : (true) = true) : ansV prog (mkΓ [(100, con impl_bitOf_con)]) 1000 Tryd.f68 [([3, 7], [])] [.g a0 29] [] = some (.a (.i .u64 (folds (fbF a0) 0 36)), .none, true) := by
 refine (impl_filledBits_ans 1000 a0).trans ?_
 have hq : ∀ q : Int, iterO (impl_filledBits_g0 prog a0) 1000 ((0 : Int), (0 : Int)) = some (q, (36 : Int)) → nodeX (iterO (impl_filledBits_g0 prog a0) 1000 ((0 : Int), (0 : Int))) (fun x => impl_filledBits_k0_0 prog 1000 a0 x.1 x.2) = some (.a (.i .u64 q), .none, true) := fun q e => by rw [e]; rfl
 refine hq _ ?_
 exact iter_folds (g := impl_filledBits_g0 prog a0) (fun (acc : Int) k => (acc, (k : Int))) (fbF a0) (m := 36) (t := (0 : Int)) (x := (folds (fbF a0) 0 36, (36 : Int))) (N := 1000) (fun k s hk _ => by
  have h1 : decide ((k : Int) < 36) = true := decide_eq_true (by omega)
  have h0 : decide (0 ≤ (k : Int)) = true := decide_eq_true (by omega)
  have h3 : i64.wrap ((k : Int) + 1) = ((k + 1 : Nat) : Int) := by rw [w64 (by omega)]; omega
  unfold fbF
  cases hp : decide (num a0 (k * 1) > (0 : Int)) <;> simp only [impl_filledBits_g0, h1, h0, h3, hp, Int.toNat_natCast, Bool.and_self, cond_true, cond_false]) (by
  have h1 : decide (((36 : Nat) : Int) < 36) = false := by decide
  generalize folds (fbF a0) 0 36 = q
  simp only [impl_filledBits_g0, h1, cond_false]
  rfl) (by omega)
noncomputable def impl_filledBits_con : Con := fun args h => match args, h with
 | [.g a0 29], [] => some (.a (.i .u64 (folds (fbF a0) 0 36)), .none, true)
 | _, _ => none
theorem impl_filledBits_enter : EntX prog 68 := entX_ok (fn := Tryd.f68) (by kernel_rfl) (by kernel_rfl) (by kernel_rfl)
theorem impl_filledBits_ok : ConOkX (md F) prog 68 impl_filledBits_con := (ansX_ok (N := 1000) (by kernel_rfl) (mkΓ_consX (con_okX impl_bitOf_ok) impl_bitOf_enter mkΓ_nilX) (fn := Tryd.f68) (by kernel_rfl) (by kernel_rfl) [([3, 7], [])]).of (by
 intro ρ h w args vals r e hA hH hr
 unfold impl_filledBits_con at hr
 split at hr
 ·rename_i a0
  obtain ⟨rfl, hg⟩ := Prod.mk.inj (Option.some.inj hr)
  obtain ⟨rfl, hg2⟩ := Prod.mk.inj hg
  exact impl_filledBits_main a0 (hA.wt 0 rfl) hg2
 ·cases hr)
noncomputable def w0impl_ReachedBeaches_G : Cons := (mkΓ [(52, conG impl_releaseError_con0), (53, con impl_hasHour_con), (54, conG impl_codeOf_con), (55, con impl_recordOf_con), (68, con impl_filledBits_con)])
theorem w0impl_ReachedBeaches_ans (N : Nat) (a0 : Array Value) (a1 : Int) (a2 : Int) (a3 : Int) (g_e0 : Addr) (g_e1 : Addr) (g_e2 : Addr) (g_e3 : Addr) (g_e4 : Addr) : ansV prog w0impl_ReachedBeaches_G N Tryd.f37 [] [.g a0 36, .i .i64 (a1), .i .i64 (a2), .i .i64 (a3)] [.gl 0 184 g_e0 101973, .gl 1 184 g_e1 93330, .gl 3 184 g_e2 112315, .gl 2 184 g_e3 124718, .gl 4 184 g_e4 94254] = (bif (okS a0 && (rl a0 a1 a2 (impl_hasHour_v0 a3) && (spec_l01Dry_v0 a1 a0))) then (some (.t [.i .u64 (0 : Int), .i .i64 (4 : Int)], .none, true))
  else (none)) := by kernel_rfl
noncomputable def w1impl_ReachedBeaches_G : Cons := (mkΓ [(52, conG impl_releaseError_con1), (53, con impl_hasHour_con), (54, conG impl_codeOf_con), (55, con impl_recordOf_con), (68, con impl_filledBits_con)])
theorem w1impl_ReachedBeaches_ans (N : Nat) (a0 : Array Value) (a1 : Int) (a2 : Int) (a3 : Int) (g_e0 : Addr) (g_e1 : Addr) (g_e2 : Addr) (g_e3 : Addr) (g_e4 : Addr) : ansV prog w1impl_ReachedBeaches_G N Tryd.f37 [] [.g a0 36, .i .i64 (a1), .i .i64 (a2), .i .i64 (a3)] [.gl 0 184 g_e0 101973, .gl 1 184 g_e1 93330, .gl 3 184 g_e2 112315, .gl 2 184 g_e3 124718, .gl 4 184 g_e4 94254] = (bif (okS a0 && (rl a0 a1 a2 (impl_hasHour_v0 a3) && ((!(spec_l01Dry_v0 a1 a0))))) then (bif (okS a0 && ((spec_l01Is_v0 a1 a0 && spec_l00In_v0 a2 0 1) && spec_l00In_v0 a3 0 14)) then (bif (decide (0 ≤ a3) && decide (a3 < (((a3.toNat + 1)) : Int))) then (some (.t [.i .u64 (folds (fbF ((recC prog a0 a1 a2 a3.toNat).extract ((a3).toNat * 36) (((a3).toNat * 36) + 36))) 0 36), .i .i64 (0 : Int)], .none, true))
    else (none))
   else (none))
  else (none)) := by kernel_rfl
noncomputable def w2impl_ReachedBeaches_G : Cons := (mkΓ [(52, conG impl_releaseError_con2), (53, con impl_hasHour_con), (54, conG impl_codeOf_con), (55, con impl_recordOf_con), (68, con impl_filledBits_con)])
theorem w2impl_ReachedBeaches_ans (N : Nat) (a0 : Array Value) (a1 : Int) (a2 : Int) (a3 : Int) (g_e0 : Addr) (g_e1 : Addr) (g_e2 : Addr) (g_e3 : Addr) (g_e4 : Addr) : ansV prog w2impl_ReachedBeaches_G N Tryd.f37 [] [.g a0 36, .i .i64 (a1), .i .i64 (a2), .i .i64 (a3)] [.gl 0 184 g_e0 101973, .gl 1 184 g_e1 93330, .gl 3 184 g_e2 112315, .gl 2 184 g_e3 124718, .gl 4 184 g_e4 94254] = (bif (okS a0 && ((!(rl a0 a1 a2 (impl_hasHour_v0 a3))))) then (some (.t [.i .u64 (0 : Int), .i .i64 (2 : Int)], .none, true))
  else (none)) := by kernel_rfl
noncomputable def w3impl_ReachedBeaches_G : Cons := (mkΓ [(52, conG impl_releaseError_con3), (53, con impl_hasHour_con), (54, conG impl_codeOf_con), (55, con impl_recordOf_con), (68, con impl_filledBits_con)])
theorem w3impl_ReachedBeaches_ans (N : Nat) (a0 : Array Value) (a1 : Int) (a2 : Int) (a3 : Int) (g_e0 : Addr) (g_e1 : Addr) (g_e2 : Addr) (g_e3 : Addr) (g_e4 : Addr) : ansV prog w3impl_ReachedBeaches_G N Tryd.f37 [] [.g a0 36, .i .i64 (a1), .i .i64 (a2), .i .i64 (a3)] [.gl 0 184 g_e0 101973, .gl 1 184 g_e1 93330, .gl 3 184 g_e2 112315, .gl 2 184 g_e3 124718, .gl 4 184 g_e4 94254] = (bif (!(okS a0)) then (some (.t [.i .u64 (0 : Int), .i .i64 (1 : Int)], .none, true))
  else (none)) := by kernel_rfl
theorem impl_ReachedBeaches_main0 (a0 : Array Value) (a1 : Int) (a2 : Int) (a3 : Int) (g_e0 : Addr) (g_e1 : Addr) (g_e2 : Addr) (g_e3 : Addr) (g_e4 : Addr) (h_a0 : WT prog 36 a0) (h_a1 : i64.min ≤ a1 ∧ a1 ≤ i64.max) (h_a2 : i64.min ≤ a2 ∧ a2 ≤ i64.max) (h_a3 : i64.min ≤ a3 ∧ a3 ≤ i64.max) (hc0 : (okS a0) = false) (hg : (true) = true) : ansV prog w3impl_ReachedBeaches_G 1000 Tryd.f37 [] [.g a0 36, .i .i64 (a1), .i .i64 (a2), .i .i64 (a3)] [.gl 0 184 g_e0 101973, .gl 1 184 g_e1 93330, .gl 3 184 g_e2 112315, .gl 2 184 g_e3 124718, .gl 4 184 g_e4 94254] = some (.t [.i .u64 (0 : Int), .i .i64 (1 : Int)], .none, true) := by
 refine (w3impl_ReachedBeaches_ans 1000 a0 a1 a2 a3 g_e0 g_e1 g_e2 g_e3 g_e4).trans ?_
 try rw [hour_eq14]
 simp only [hc0, Bool.and_self, Bool.and_true, Bool.true_and, Bool.not_false, cond_true, cond_false]
theorem impl_ReachedBeaches_main1 (a0 : Array Value) (a1 : Int) (a2 : Int) (a3 : Int) (g_e0 : Addr) (g_e1 : Addr) (g_e2 : Addr) (g_e3 : Addr) (g_e4 : Addr) (h_a0 : WT prog 36 a0) (h_a1 : i64.min ≤ a1 ∧ a1 ≤ i64.max) (h_a2 : i64.min ≤ a2 ∧ a2 ≤ i64.max) (h_a3 : i64.min ≤ a3 ∧ a3 ≤ i64.max) (hc0 : (okS a0) = true) (hc1 : (rl a0 a1 a2 (spec_l00In_v0 a3 1 14)) = false) (hg : (true) = true) : ansV prog w2impl_ReachedBeaches_G 1000 Tryd.f37 [] [.g a0 36, .i .i64 (a1), .i .i64 (a2), .i .i64 (a3)] [.gl 0 184 g_e0 101973, .gl 1 184 g_e1 93330, .gl 3 184 g_e2 112315, .gl 2 184 g_e3 124718, .gl 4 184 g_e4 94254] = some (.t [.i .u64 (0 : Int), .i .i64 (2 : Int)], .none, true) := by
 refine (w2impl_ReachedBeaches_ans 1000 a0 a1 a2 a3 g_e0 g_e1 g_e2 g_e3 g_e4).trans ?_
 try rw [hour_eq14]
 simp only [hc0, hc1, Bool.and_self, Bool.and_true, Bool.true_and, Bool.not_false, cond_true, cond_false]
theorem impl_ReachedBeaches_main2 (a0 : Array Value) (a1 : Int) (a2 : Int) (a3 : Int) (g_e0 : Addr) (g_e1 : Addr) (g_e2 : Addr) (g_e3 : Addr) (g_e4 : Addr) (h_a0 : WT prog 36 a0) (h_a1 : i64.min ≤ a1 ∧ a1 ≤ i64.max) (h_a2 : i64.min ≤ a2 ∧ a2 ≤ i64.max) (h_a3 : i64.min ≤ a3 ∧ a3 ≤ i64.max) (hc0 : (okS a0) = true) (hc1 : (rl a0 a1 a2 (spec_l00In_v0 a3 1 14)) = true) (hc2 : (spec_l01Dry_v0 a1 a0) = false) (hg : (true) = true) : ansV prog w1impl_ReachedBeaches_G 1000 Tryd.f37 [] [.g a0 36, .i .i64 (a1), .i .i64 (a2), .i .i64 (a3)] [.gl 0 184 g_e0 101973, .gl 1 184 g_e1 93330, .gl 3 184 g_e2 112315, .gl 2 184 g_e3 124718, .gl 4 184 g_e4 94254] = some (.t [.i .u64 (folds (fbF (byV prog a0 a1 a2 a3.toNat)) 0 36), .i .i64 (0 : Int)], .none, true) := by
 refine (w1impl_ReachedBeaches_ans 1000 a0 a1 a2 a3 g_e0 g_e1 g_e2 g_e3 g_e4).trans ?_
 try rw [hour_eq14]
 simp only [hc0, hc1, hc2, Bool.and_self, Bool.and_true, Bool.true_and, Bool.not_false, cond_true, cond_false]
 obtain ⟨q1, q2, q3⟩ := rl_of hc1
 have r3 := in_range q3
 obtain ⟨m, rfl⟩ := Int.eq_ofNat_of_zero_le (show 0 ≤ a3 by omega)
 have e1 : i64.wrap ((m : Int) - 1) = ((m - 1 : Nat) : Int) := by rw [w64 (by omega)]; omega
 have g1 : decide (0 ≤ (m : Int)) = true := decide_eq_true (by omega)
 have g2 : decide ((m : Int) < (m : Int) + 1) = true := decide_eq_true (by omega)
 have g3 : decide (0 ≤ ((m - 1 : Nat) : Int)) = true := decide_eq_true (by omega)
 have g4 : decide (((m - 1 : Nat) : Int) ≤ (m : Int)) = true := decide_eq_true (by omega)
 have g5 : decide ((m : Int) ≤ ((m - 1 : Nat) : Int) + 14) = true := decide_eq_true (by omega)
 have g6 : ((m : Int) - ((m - 1 : Nat) : Int)).toNat = 1 := by omega
 have g7 : (12 : Int) ^ 1 = 12 := by decide
 simp only [q1, q2, in_of (x := (m : Int)) (a := 0) (b := 14) (by omega), g1, g2, cond_true, cond_false, Bool.and_self, Int.toNat_natCast, recC_at a0 a1 a2 m m (Nat.le_refl _)]
theorem impl_ReachedBeaches_main3 (a0 : Array Value) (a1 : Int) (a2 : Int) (a3 : Int) (g_e0 : Addr) (g_e1 : Addr) (g_e2 : Addr) (g_e3 : Addr) (g_e4 : Addr) (h_a0 : WT prog 36 a0) (h_a1 : i64.min ≤ a1 ∧ a1 ≤ i64.max) (h_a2 : i64.min ≤ a2 ∧ a2 ≤ i64.max) (h_a3 : i64.min ≤ a3 ∧ a3 ≤ i64.max) (hc0 : (okS a0) = true) (hc1 : (rl a0 a1 a2 (spec_l00In_v0 a3 1 14)) = true) (hc2 : (spec_l01Dry_v0 a1 a0) = true) (hg : (true) = true) : ansV prog w0impl_ReachedBeaches_G 1000 Tryd.f37 [] [.g a0 36, .i .i64 (a1), .i .i64 (a2), .i .i64 (a3)] [.gl 0 184 g_e0 101973, .gl 1 184 g_e1 93330, .gl 3 184 g_e2 112315, .gl 2 184 g_e3 124718, .gl 4 184 g_e4 94254] = some (.t [.i .u64 (0 : Int), .i .i64 (4 : Int)], .none, true) := by
 refine (w0impl_ReachedBeaches_ans 1000 a0 a1 a2 a3 g_e0 g_e1 g_e2 g_e3 g_e4).trans ?_
 try rw [hour_eq14]
 simp only [hc0, hc1, hc2, Bool.and_self, Bool.and_true, Bool.true_and, Bool.not_false, cond_true, cond_false]
noncomputable def impl_ReachedBeaches_scon : SCon := fun args h => match args, h with
 | [.g a0 36, .i .i64 a1, .i .i64 a2, .i .i64 a3], [.gl 0 184 g_e0 101973, .gl 1 184 g_e1 93330, .gl 3 184 g_e2 112315, .gl 2 184 g_e3 124718, .gl 4 184 g_e4 94254] => .two (okS a0) (.two (rl a0 a1 a2 (spec_l00In_v0 a3 1 14)) (.two (spec_l01Dry_v0 a1 a0) (.one (some (.t [.i .u64 (0 : Int), .i .i64 (4 : Int)], .none, true))) (.one (some (.t [.i .u64 (folds (fbF (byV prog a0 a1 a2 a3.toNat)) 0 36), .i .i64 (0 : Int)], .none, true)))) (.one (some (.t [.i .u64 (0 : Int), .i .i64 (2 : Int)], .none, true)))) (.one (some (.t [.i .u64 (0 : Int), .i .i64 (1 : Int)], .none, true)))
 | _, _ => .one none
theorem impl_ReachedBeaches_enter : EntX prog 37 := entX_ok (fn := Tryd.f37) (by kernel_rfl) (by kernel_rfl) (by kernel_rfl)
theorem impl_ReachedBeaches_sok : ConOkX (md F) prog 37 (fun args h => wayRes (impl_ReachedBeaches_scon args h)) := by
 intro ρ h w args vals r e hn hr hA hH
 dsimp only at hr
 unfold impl_ReachedBeaches_scon at hr
 split at hr
 ·rename_i a0 a1 a2 a3 g_e0 g_e1 g_e2 g_e3 g_e4
  simp only [wayRes] at hr
  cases hc0 : (okS a0)
  ·rw [hc0] at hr
   simp only [wayRes, cond_true, cond_false] at hr
   obtain ⟨rfl, hg⟩ := Prod.mk.inj (Option.some.inj hr)
   obtain ⟨rfl, hg2⟩ := Prod.mk.inj hg
   exact ((ansX_ok (N := 1000) (by kernel_rfl) (mkΓ_consX (conG_okX impl_releaseError_ok3) impl_releaseError_enter (mkΓ_consX (con_okX impl_hasHour_ok) impl_hasHour_enter (mkΓ_consX (conG_okX impl_codeOf_ok) impl_codeOf_enter (mkΓ_consX (con_okX impl_recordOf_ok) impl_recordOf_enter (mkΓ_consX (con_okX impl_filledBits_ok) impl_filledBits_enter mkΓ_nilX))))) (fn := Tryd.f37) (by kernel_rfl) (by kernel_rfl) [])) ρ _ w _ vals _ _ hn ((impl_ReachedBeaches_main0 a0 a1 a2 a3 g_e0 g_e1 g_e2 g_e3 g_e4 (hA.wt 0 rfl) (hA.rng 1 rfl) (hA.rng 2 rfl) (hA.rng 3 rfl) hc0 hg2)) hA hH
  ·rw [hc0] at hr
   simp only [wayRes, cond_true, cond_false] at hr
   cases hc1 : (rl a0 a1 a2 (spec_l00In_v0 a3 1 14))
   ·rw [hc1] at hr
    simp only [wayRes, cond_true, cond_false] at hr
    obtain ⟨rfl, hg⟩ := Prod.mk.inj (Option.some.inj hr)
    obtain ⟨rfl, hg2⟩ := Prod.mk.inj hg
    exact ((ansX_ok (N := 1000) (by kernel_rfl) (mkΓ_consX (conG_okX impl_releaseError_ok2) impl_releaseError_enter (mkΓ_consX (con_okX impl_hasHour_ok) impl_hasHour_enter (mkΓ_consX (conG_okX impl_codeOf_ok) impl_codeOf_enter (mkΓ_consX (con_okX impl_recordOf_ok) impl_recordOf_enter (mkΓ_consX (con_okX impl_filledBits_ok) impl_filledBits_enter mkΓ_nilX))))) (fn := Tryd.f37) (by kernel_rfl) (by kernel_rfl) [])) ρ _ w _ vals _ _ hn ((impl_ReachedBeaches_main1 a0 a1 a2 a3 g_e0 g_e1 g_e2 g_e3 g_e4 (hA.wt 0 rfl) (hA.rng 1 rfl) (hA.rng 2 rfl) (hA.rng 3 rfl) hc0 hc1 hg2)) hA hH
   ·rw [hc1] at hr
    simp only [wayRes, cond_true, cond_false] at hr
    cases hc2 : (spec_l01Dry_v0 a1 a0)
    ·rw [hc2] at hr
     simp only [wayRes, cond_true, cond_false] at hr
     obtain ⟨rfl, hg⟩ := Prod.mk.inj (Option.some.inj hr)
     obtain ⟨rfl, hg2⟩ := Prod.mk.inj hg
     exact ((ansX_ok (N := 1000) (by kernel_rfl) (mkΓ_consX (conG_okX impl_releaseError_ok1) impl_releaseError_enter (mkΓ_consX (con_okX impl_hasHour_ok) impl_hasHour_enter (mkΓ_consX (conG_okX impl_codeOf_ok) impl_codeOf_enter (mkΓ_consX (con_okX impl_recordOf_ok) impl_recordOf_enter (mkΓ_consX (con_okX impl_filledBits_ok) impl_filledBits_enter mkΓ_nilX))))) (fn := Tryd.f37) (by kernel_rfl) (by kernel_rfl) [])) ρ _ w _ vals _ _ hn ((impl_ReachedBeaches_main2 a0 a1 a2 a3 g_e0 g_e1 g_e2 g_e3 g_e4 (hA.wt 0 rfl) (hA.rng 1 rfl) (hA.rng 2 rfl) (hA.rng 3 rfl) hc0 hc1 hc2 hg2)) hA hH
    ·rw [hc2] at hr
     simp only [wayRes, cond_true, cond_false] at hr
     obtain ⟨rfl, hg⟩ := Prod.mk.inj (Option.some.inj hr)
     obtain ⟨rfl, hg2⟩ := Prod.mk.inj hg
     exact ((ansX_ok (N := 1000) (by kernel_rfl) (mkΓ_consX (conG_okX impl_releaseError_ok0) impl_releaseError_enter (mkΓ_consX (con_okX impl_hasHour_ok) impl_hasHour_enter (mkΓ_consX (conG_okX impl_codeOf_ok) impl_codeOf_enter (mkΓ_consX (con_okX impl_recordOf_ok) impl_recordOf_enter (mkΓ_consX (con_okX impl_filledBits_ok) impl_filledBits_enter mkΓ_nilX))))) (fn := Tryd.f37) (by kernel_rfl) (by kernel_rfl) [])) ρ _ w _ vals _ _ hn ((impl_ReachedBeaches_main3 a0 a1 a2 a3 g_e0 g_e1 g_e2 g_e3 g_e4 (hA.wt 0 rfl) (hA.rng 1 rfl) (hA.rng 2 rfl) (hA.rng 3 rfl) hc0 hc1 hc2 hg2)) hA hH
 ·simp only [wayRes] at hr
  cases hr
noncomputable def impl_ReachedBeaches_con : Con := fun args h => match args, h with
 | [.g a0 36, .i .i64 a1, .i .i64 a2, .i .i64 a3], [.gl 0 184 g_e0 101973, .gl 1 184 g_e1 93330, .gl 3 184 g_e2 112315, .gl 2 184 g_e3 124718, .gl 4 184 g_e4 94254] => some (.t [.i .u64 (bif okS a0 then (bif rl a0 a1 a2 (spec_l00In_v0 a3 1 14) then (bif spec_l01Dry_v0 a1 a0 then (0 : Int) else (folds (fbF (byV prog a0 a1 a2 a3.toNat)) 0 36)) else (0 : Int)) else (0 : Int)), .i .i64 (bif okS a0 then (bif rl a0 a1 a2 (spec_l00In_v0 a3 1 14) then (bif spec_l01Dry_v0 a1 a0 then (4 : Int) else (0 : Int)) else (2 : Int)) else (1 : Int))], .none, true)
 | _, _ => none
theorem impl_ReachedBeaches_ok : ConOkX (md F) prog 37 impl_ReachedBeaches_con := ConOkX.of impl_ReachedBeaches_sok (by
 intro ρ h w args vals r e hA hH hr
 unfold impl_ReachedBeaches_con at hr
 split at hr
 ·rename_i a0 a1 a2 a3 g_e0 g_e1 g_e2 g_e3 g_e4
  obtain ⟨rfl, hg⟩ := Prod.mk.inj (Option.some.inj hr)
  obtain ⟨rfl, hg2⟩ := Prod.mk.inj hg
  show wayRes (impl_ReachedBeaches_scon _ _) = _
  unfold impl_ReachedBeaches_scon
  simp only [wayRes]
  cases (okS a0) <;> cases (rl a0 a1 a2 (spec_l00In_v0 a3 1 14)) <;> cases (spec_l01Dry_v0 a1 a0) <;> simp only [cond_true, cond_false]
 ·cases hr)
noncomputable def spec_ReachedBeaches_G : Cons := (mkΓ [(48, con spec_l03From_con), (49, con spec_l03Hour_con), (57, con spec_l03By_con)])
noncomputable def spec_ReachedBeaches_t0 (a0 : Array Value) (a1 : Int) (a2 : Int) (a3 : Int) : St := (⟨.a (.g a0 36) :: .a (.i .i64 (a1)) :: .a (.i .i64 (a2)) :: .a (.i .i64 (a3)) :: .a (.w 0) :: us 3 (.a (.i .u64 (0 : Int)) :: .a (.i .i64 (0 : Int)) :: .a (.i .i64 (spec_l03From_v0 a1 a2 (spec_l00In_v0 a3 (1 : Int) (14 : Int)) a0)) :: .a (.w 7) :: .a (.i .u64 (0 : Int)) :: .a (.i .i64 (0 : Int)) :: .a (.i .i64 (a1)) :: .a (.i .i64 (a2)) :: .a (.i .i64 (a3)) :: .a (.b ((spec_l00In_v0 a3 (1 : Int) (14 : Int)))) :: .a (.i .i64 (spec_l03From_v0 a1 a2 (spec_l00In_v0 a3 (1 : Int) (14 : Int)) a0)) :: .a (.i .i64 (spec_l03From_v0 a1 a2 (spec_l00In_v0 a3 (1 : Int) (14 : Int)) a0)) :: .a (.b (((spec_l03From_v0 a1 a2 (spec_l00In_v0 a3 (1 : Int) (14 : Int)) a0) != (0 : Int)))) :: .a (.u) :: .a (.i .i64 (a1)) :: .a (.i .i64 (a2)) :: .a (.i .i64 (a3)) :: .a (.g (byV prog a0 a1 a2 a3.toNat) 29) :: us 14 ([])), [.row a0 36, .no, .no, .no, .no, .no, .no, .row (byV prog a0 a1 a2 a3.toNat) 29, .no], [7]⟩ : St)
noncomputable def spec_ReachedBeaches_e0 : Int × Int → LS
 | (y0_12, y0_13) => ([.a (.i .u64 (y0_12)), .a (.i .i64 (y0_13))], [])
noncomputable def spec_ReachedBeaches_x0 : Int × Int → Exit × LS
 | t => ((.exit 0), spec_ReachedBeaches_e0 t)
noncomputable def spec_ReachedBeaches_g0 (P : Program) (a0 : Array Value) (a1 : Int) (a2 : Int) (a3 : Int) : Int × Int → Option (Stp (Int × Int) (Int × Int))
 | (y0_12, y0_13) => bif decide (y0_13 < (36 : Int)) then (bif (decide (0 ≤ y0_13) && decide (y0_13 < 36)) then (bif decide ((num (byV prog a0 a1 a2 a3.toNat) ((y0_13).toNat * 1)) > (0 : Int)) then (bif decide (0 ≤ (IntKind.u64.wrap y0_13)) then (some (.more ((IntKind.u64.wrap (BitVec.ofInt IntKind.u64.bits y0_12 ||| BitVec.ofInt IntKind.u64.bits (IntKind.u64.wrap ((1 : Int) * 2 ^ (min ((IntKind.u64.wrap y0_13)).toNat IntKind.u64.bits)))).toNat), (i64.wrap (y0_13 + (1 : Int))))))
     else (none))
    else (some (.more (y0_12, (i64.wrap (y0_13 + (1 : Int)))))))
   else (none))
  else (some (.done (y0_12, y0_13)))
theorem spec_ReachedBeaches_s0 (N : Nat) (a0 : Array Value) (a1 : Int) (a2 : Int) (a3 : Int) : ∀ t : Int × Int, stepV prog spec_ReachedBeaches_G N (cAt (codeOf Tryd.f36) [1, 1, 1, 1, 0, 1, 0, 0]) (pAt (mkPlan (codeOf Tryd.f36) [([12, 13], [])]).1 [1, 1, 1, 1, 0, 1, 0]) [12, 13] [] (spec_ReachedBeaches_t0 a0 a1 a2 a3) (spec_ReachedBeaches_e0 t) = mapS spec_ReachedBeaches_e0 spec_ReachedBeaches_x0 (spec_ReachedBeaches_g0 prog a0 a1 a2 a3 t) := by
 rintro ⟨y0_12, y0_13⟩
 refine Eq.trans (b := (bif decide (y0_13 < (36 : Int)) then (bif (decide (0 ≤ y0_13) && decide (y0_13 < 36)) then (bif decide ((num (byV prog a0 a1 a2 a3.toNat) ((y0_13).toNat * 1)) > (0 : Int)) then (bif decide (0 ≤ (IntKind.u64.wrap y0_13)) then (some (.more ([.a (.i .u64 (IntKind.u64.wrap (BitVec.ofInt IntKind.u64.bits y0_12 ||| BitVec.ofInt IntKind.u64.bits (IntKind.u64.wrap ((1 : Int) * 2 ^ (min ((IntKind.u64.wrap y0_13)).toNat IntKind.u64.bits)))).toNat)), .a (.i .i64 (i64.wrap (y0_13 + (1 : Int))))], [])))
     else (none))
    else (some (.more ([.a (.i .u64 (y0_12)), .a (.i .i64 (i64.wrap (y0_13 + (1 : Int))))], []))))
   else (none))
  else (some (.done ((.exit 0), ([.a (.i .u64 (y0_12)), .a (.i .i64 (y0_13))], [])))))) (by kernel_rfl) ?_
 simp only [spec_ReachedBeaches_g0, mapS_cond, mapS_more, mapS_done, mapS_none, spec_ReachedBeaches_e0, spec_ReachedBeaches_x0]
noncomputable def spec_ReachedBeaches_k0_0 (P : Program) (N : Nat) (a0 : Array Value) (a1 : Int) (a2 : Int) (a3 : Int) (z0_12 : Int) (z0_13 : Int) : Option (SV × Eff × Bool) := some (.t [.i .u64 (z0_12), .i .i64 (0 : Int)], .none, true)
theorem spec_ReachedBeaches_k0_0_eq (N : Nat) (a0 : Array Value) (a1 : Int) (a2 : Int) (a3 : Int) (z0_12 : Int) (z0_13 : Int) : (kBlock 0 (kSeq (veC prog spec_ReachedBeaches_G N (cAt (codeOf Tryd.f36) [1, 1, 1, 1, 1]) (pAt (mkPlan (codeOf Tryd.f36) [([12, 13], [])]).1 [1, 1, 1, 1, 1]) (SV × Eff × Bool)) (finK prog [] [.tmp 8, .tmp 9]))) (.exit 0) (left (writes (cAt (codeOf Tryd.f36) [1, 1, 1, 1, 0, 1, 0, 0])) [12, 13] [] (spec_ReachedBeaches_t0 a0 a1 a2 a3) ([.a (.i .u64 (z0_12)), .a (.i .i64 (z0_13))], [])) = spec_ReachedBeaches_k0_0 prog N a0 a1 a2 a3 z0_12 z0_13 := by
 refine Eq.trans (b := (some (.t [.i .u64 (z0_12), .i .i64 (0 : Int)], .none, true))) (by kernel_rfl) ?_
 rfl
theorem spec_ReachedBeaches_n0 (N : Nat) (a0 : Array Value) (a1 : Int) (a2 : Int) (a3 : Int) : bindX (iterO (stepV prog spec_ReachedBeaches_G N (cAt (codeOf Tryd.f36) [1, 1, 1, 1, 0, 1, 0, 0]) (pAt (mkPlan (codeOf Tryd.f36) [([12, 13], [])]).1 [1, 1, 1, 1, 0, 1, 0]) [12, 13] [] (spec_ReachedBeaches_t0 a0 a1 a2 a3)) N ([.a (.i .u64 (0 : Int)), .a (.i .i64 (0 : Int))], [])) (fun e s => (kBlock 0 (kSeq (veC prog spec_ReachedBeaches_G N (cAt (codeOf Tryd.f36) [1, 1, 1, 1, 1]) (pAt (mkPlan (codeOf Tryd.f36) [([12, 13], [])]).1 [1, 1, 1, 1, 1]) (SV × Eff × Bool)) (finK prog [] [.tmp 8, .tmp 9]))) e (left (writes (cAt (codeOf Tryd.f36) [1, 1, 1, 1, 0, 1, 0, 0])) [12, 13] [] (spec_ReachedBeaches_t0 a0 a1 a2 a3) s)) = nodeX (iterO (spec_ReachedBeaches_g0 prog a0 a1 a2 a3) N ((0 : Int), (0 : Int))) (fun x => spec_ReachedBeaches_k0_0 prog N a0 a1 a2 a3 x.1 x.2) := by
 refine loop_node spec_ReachedBeaches_e0 spec_ReachedBeaches_x0 _ _ (spec_ReachedBeaches_s0 N a0 a1 a2 a3) N ((0 : Int), (0 : Int)) _ _ ?_
 intro x; exact spec_ReachedBeaches_k0_0_eq N a0 a1 a2 a3 x.1 x.2
theorem spec_ReachedBeaches_ans (N : Nat) (a0 : Array Value) (a1 : Int) (a2 : Int) (a3 : Int) : ansV prog spec_ReachedBeaches_G N Tryd.f36 [([12, 13], [])] [.g a0 36, .i .i64 (a1), .i .i64 (a2), .i .i64 (a3)] [] = (bif (spec_l03From_gd a1 a2 (spec_l00In_v0 a3 (1 : Int) (14 : Int)) a0) then (bif ((spec_l03From_v0 a1 a2 (spec_l00In_v0 a3 (1 : Int) (14 : Int)) a0) != (0 : Int)) then (some (.t [.i .u64 (0 : Int), .i .i64 (spec_l03From_v0 a1 a2 (spec_l00In_v0 a3 (1 : Int) (14 : Int)) a0)], .none, true))
   else (bif (okS a0 && ((spec_l01Is_v0 a1 a0 && spec_l00In_v0 a2 0 1) && spec_l00In_v0 a3 0 14)) then (nodeX (iterO (spec_ReachedBeaches_g0 prog a0 a1 a2 a3) N ((0 : Int), (0 : Int))) (fun x => spec_ReachedBeaches_k0_0 prog N a0 a1 a2 a3 x.1 x.2))
    else (none)))
  else (none)) := by
 refine Eq.trans (b := (bif (spec_l03From_gd a1 a2 (spec_l00In_v0 a3 (1 : Int) (14 : Int)) a0) then (bif ((spec_l03From_v0 a1 a2 (spec_l00In_v0 a3 (1 : Int) (14 : Int)) a0) != (0 : Int)) then (some (.t [.i .u64 (0 : Int), .i .i64 (spec_l03From_v0 a1 a2 (spec_l00In_v0 a3 (1 : Int) (14 : Int)) a0)], .none, true))
   else (bif (okS a0 && ((spec_l01Is_v0 a1 a0 && spec_l00In_v0 a2 0 1) && spec_l00In_v0 a3 0 14)) then (bindX (iterO (stepV prog spec_ReachedBeaches_G N (cAt (codeOf Tryd.f36) [1, 1, 1, 1, 0, 1, 0, 0]) (pAt (mkPlan (codeOf Tryd.f36) [([12, 13], [])]).1 [1, 1, 1, 1, 0, 1, 0]) [12, 13] [] (spec_ReachedBeaches_t0 a0 a1 a2 a3)) N ([.a (.i .u64 (0 : Int)), .a (.i .i64 (0 : Int))], [])) (fun e s => (kBlock 0 (kSeq (veC prog spec_ReachedBeaches_G N (cAt (codeOf Tryd.f36) [1, 1, 1, 1, 1]) (pAt (mkPlan (codeOf Tryd.f36) [([12, 13], [])]).1 [1, 1, 1, 1, 1]) (SV × Eff × Bool)) (finK prog [] [.tmp 8, .tmp 9]))) e (left (writes (cAt (codeOf Tryd.f36) [1, 1, 1, 1, 0, 1, 0, 0])) [12, 13] [] (spec_ReachedBeaches_t0 a0 a1 a2 a3) s)))
    else (none)))
  else (none))) (by kernel_rfl) ?_
 simp only [spec_ReachedBeaches_n0 N a0 a1 a2 a3]
theorem spec_ReachedBeaches_main (a0 : Array Value) (a1 : Int) (a2 : Int) (a3 : Int) (h_a0 : WT prog 36 a0) (h_a1 : i64.min ≤ a1 ∧ a1 ≤ i64.max) (h_a2 : i64.min ≤ a2 ∧ a2 ≤ i64.max) (h_a3 : i64.min ≤ a3 ∧ a3 ≤ i64.max) (hg : (true) = true) : ansV prog spec_ReachedBeaches_G 1000 Tryd.f36 [([12, 13], [])] [.g a0 36, .i .i64 (a1), .i .i64 (a2), .i .i64 (a3)] [] = some (.t [.i .u64 (bif okS a0 then (bif rl a0 a1 a2 (spec_l00In_v0 a3 1 14) then (bif spec_l01Dry_v0 a1 a0 then (0 : Int) else (folds (fbF (byV prog a0 a1 a2 a3.toNat)) 0 36)) else (0 : Int)) else (0 : Int)), .i .i64 (bif okS a0 then (bif rl a0 a1 a2 (spec_l00In_v0 a3 1 14) then (bif spec_l01Dry_v0 a1 a0 then (4 : Int) else (0 : Int)) else (2 : Int)) else (1 : Int))], .none, true) := by
 refine (spec_ReachedBeaches_ans 1000 a0 a1 a2 a3).trans ?_
 rw [from_gd, from_eq]
 cases hok : okS a0 with
 | false => simp only [cond_true, cond_false, show ((1 : Int) != 0) = true from rfl, show ((2 : Int) != 0) = true from rfl, show ((4 : Int) != 0) = true from rfl, show ((0 : Int) != 0) = false from rfl]
 | true =>
  cases hrl : rl a0 a1 a2 (spec_l00In_v0 a3 1 14) with
  | false => simp only [cond_true, cond_false, show ((1 : Int) != 0) = true from rfl, show ((2 : Int) != 0) = true from rfl, show ((4 : Int) != 0) = true from rfl, show ((0 : Int) != 0) = false from rfl]
  | true =>
   cases hdr : spec_l01Dry_v0 a1 a0 with
   | true => simp only [cond_true, cond_false, show ((1 : Int) != 0) = true from rfl, show ((2 : Int) != 0) = true from rfl, show ((4 : Int) != 0) = true from rfl, show ((0 : Int) != 0) = false from rfl]
   | false =>
    obtain ⟨q1, q2, q3⟩ := rl_of hrl
    have r3 := in_range q3
    simp only [q1, q2, q3, in_of (x := a3) (a := 0) (b := 14) (by omega), cond_true, cond_false, Bool.and_self, show ((0 : Int) != 0) = false from rfl]
    have hq : ∀ q : Int, iterO (spec_ReachedBeaches_g0 prog a0 a1 a2 a3) 1000 ((0 : Int), (0 : Int)) = some (q, (36 : Int)) → nodeX (iterO (spec_ReachedBeaches_g0 prog a0 a1 a2 a3) 1000 ((0 : Int), (0 : Int))) (fun x => spec_ReachedBeaches_k0_0 prog 1000 a0 a1 a2 a3 x.1 x.2) = some (.t [.i .u64 q, .i .i64 0], .none, true) := fun q e => by rw [e]; rfl
    refine hq _ ?_
    have hF : ∀ (k : Nat) (s : Int), k < 36 → spec_ReachedBeaches_g0 prog a0 a1 a2 a3 (s, (k : Int)) = some (.more (fbF (byV prog a0 a1 a2 a3.toNat) s k, ((k + 1 : Nat) : Int))) := fun k s hk => by
     have h1 : decide ((k : Int) < 36) = true := decide_eq_true (by omega)
     have h0 : decide (0 ≤ (k : Int)) = true := decide_eq_true (by omega)
     have h3 : i64.wrap ((k : Int) + 1) = ((k + 1 : Nat) : Int) := by rw [w64 (by omega)]; omega
     unfold fbF
     rw [bit_of (c := (k : Int)) (by omega)]
     cases hp : decide (num (byV prog a0 a1 a2 a3.toNat) (k * 1) > (0 : Int)) <;> simp only [spec_ReachedBeaches_g0, h1, h0, h3, hp, dry_free, Int.toNat_natCast, Bool.and_self, cond_true, cond_false]
    generalize byV prog a0 a1 a2 a3.toNat = C at hF ⊢
    exact iter_folds (g := spec_ReachedBeaches_g0 prog a0 a1 a2 a3) (fun (acc : Int) k => (acc, (k : Int))) (fbF C) (m := 36) (t := (0 : Int)) (x := (folds (fbF C) 0 36, (36 : Int))) (N := 1000) (fun k s hk _ => hF k s hk) (by
     have h1 : decide (((36 : Nat) : Int) < 36) = false := by decide
     generalize folds (fbF C) 0 36 = q
     simp only [spec_ReachedBeaches_g0, h1, cond_false]
     rfl) (by omega)
noncomputable def spec_ReachedBeaches_con : Con := fun args h => match args, h with
 | [.g a0 36, .i .i64 a1, .i .i64 a2, .i .i64 a3], [] => some (.t [.i .u64 (bif okS a0 then (bif rl a0 a1 a2 (spec_l00In_v0 a3 1 14) then (bif spec_l01Dry_v0 a1 a0 then (0 : Int) else (folds (fbF (byV prog a0 a1 a2 a3.toNat)) 0 36)) else (0 : Int)) else (0 : Int)), .i .i64 (bif okS a0 then (bif rl a0 a1 a2 (spec_l00In_v0 a3 1 14) then (bif spec_l01Dry_v0 a1 a0 then (4 : Int) else (0 : Int)) else (2 : Int)) else (1 : Int))], .none, true)
 | _, _ => none
theorem spec_ReachedBeaches_enter : EntX prog 36 := entX_ok (fn := Tryd.f36) (by kernel_rfl) (by kernel_rfl) (by kernel_rfl)
theorem spec_ReachedBeaches_ok : ConOkX (md F) prog 36 spec_ReachedBeaches_con := (ansX_ok (N := 1000) (by kernel_rfl) (mkΓ_consX (con_okX spec_l03From_ok) spec_l03From_enter (mkΓ_consX (con_okX spec_l03Hour_ok) spec_l03Hour_enter (mkΓ_consX (con_okX spec_l03By_ok) spec_l03By_enter mkΓ_nilX))) (fn := Tryd.f36) (by kernel_rfl) (by kernel_rfl) [([12, 13], [])]).of (by
 intro ρ h w args vals r e hA hH hr
 unfold spec_ReachedBeaches_con at hr
 split at hr
 ·rename_i a0 a1 a2 a3
  obtain ⟨rfl, hg⟩ := Prod.mk.inj (Option.some.inj hr)
  obtain ⟨rfl, hg2⟩ := Prod.mk.inj hg
  exact spec_ReachedBeaches_main a0 a1 a2 a3 (hA.wt 0 rfl) (hA.rng 1 rfl) (hA.rng 2 rfl) (hA.rng 3 rfl) hg2
 ·cases hr)
end
end Go.Proofs.YtphmhgdedoeaeaaDoor
