/- What lists of steps tell. -/
import Derived.Test.YtmkkckhfghomfaaProg
import Derived.Test.YtmkkckhfghomfaaVeStB
namespace Go.Proofs.Ytmkkckhfghomfaa
open Go.ChangeShapes Go.WideShapes Go.ChangeAt Go.RowKit Ve
set_option linter.unusedVariables false
set_option linter.unusedSimpArgs false
set_option maxRecDepth 100000
noncomputable section

theorem ext_num {C : Array Value} {b m o : Nat} (ho : o < m) : num (C.extract b (b + m)) o = num C (b + o) := by
  have e2 : (C.extract b (b + m))[o]? = C[b + o]? := by
    simp only [Array.getElem?_extract]
    by_cases h : b + o < C.size
    · rw [if_pos (by omega)]
    · rw [if_neg (by omega), Array.getElem?_eq_none (by omega)]
  unfold num; rw [e2]
theorem sl_int {P : Program} {e : TypeId} {n m : Nat} {C : Array Value} (h : ∀ k, k < n → WT P e (C.extract (k * m) (k * m + m))) {k o : Nat} {kd : IntKind} (hk : k < n) (ho : o < m) (hq : (lay P e)[o]? = some (kN kd)) :
    C[k * m + o]? = some (.int kd (num C (k * m + o))) ∧ kd.min ≤ num C (k * m + o) ∧ num C (k * m + o) ≤ kd.max := by
  have hw := (h k hk).int hq
  rw [ext_num ho] at hw
  refine ⟨?_, hw.2⟩
  have := hw.1
  rw [Array.getElem?_extract] at this
  split at this
  · exact this
  · cases this


noncomputable def rdSt (n : Nat) (C : Array Value) : List (Int × Int) := (List.range n).map fun k => (num C (k * 2 + 0), num C (k * 2 + 1))
noncomputable def okSt (n : Nat) (C : Array Value) : Bool := (List.range n).all fun k => decide (0 ≤ num C (k * 2 + 0)) && decide (num C (k * 2 + 0) < 36)
noncomputable def laterOf (L : Array Value) (c : Int) : Int := num L (c.toNat * 1)
noncomputable def sumF (L : Array Value) (s : Int) (p : Int × Int) : Int := IntKind.i64.wrap (s + IntKind.i64.wrap (p.2 * laterOf L p.1))
noncomputable def cntF (L : Array Value) (s : Int) (p : Int × Int) : Int := IntKind.i64.wrap (s + laterOf L p.1)
noncomputable def lkF (L : Array Value) (b : Int × Int) (p : Int × Int) : Int × Int := bif decide (IntKind.i64.wrap (p.2 * laterOf L p.1) > b.2) then (p.1, IntKind.i64.wrap (p.2 * laterOf L p.1)) else b
noncomputable def sumL (l : List (Int × Int)) (L : Array Value) : Int := l.foldl (sumF L) 0
noncomputable def cntL (l : List (Int × Int)) (L : Array Value) : Int := l.foldl (cntF L) 0
noncomputable def lkL (l : List (Int × Int)) (L : Array Value) : Int × Int := l.foldl (lkF L) (0, 0)
theorem okSt_at {n : Nat} {C : Array Value} (h : okSt n C = true) {k : Nat} (hk : k < n) : (decide (0 ≤ num C (k * 2 + 0)) && decide (num C (k * 2 + 0) < 36)) = true := List.all_eq_true.1 h k (List.mem_range.2 hk)
theorem rd_fold {T : Type} (f : T → Int × Int → T) (t : T) (n : Nat) (C : Array Value) : folds (fun s k => f s (num C (k * 2 + 0), num C (k * 2 + 1))) t n = (rdSt n C).foldl f t := by
  unfold folds rdSt; rw [List.foldl_map]
theorem encSt_len (l : List (Int × Int)) : (encSt l).size = l.length * 2 := by
  induction l with
  | nil => rfl
  | cons p r ih =>
    rw [show p :: r = [p] ++ r from rfl, encSt_app, Array.size_append, ih]
    simp [encSt]; omega
theorem encSt_get : ∀ (l : List (Int × Int)) (k : Nat) (p : Int × Int), l[k]? = some p → num (encSt l) (k * 2 + 0) = p.1 ∧ num (encSt l) (k * 2 + 1) = p.2
  | [], k, p, h => by simp at h
  | q :: r, k, p, h => by
    have e : encSt (q :: r) = #[.int .i64 q.1, .int .i64 q.2] ++ encSt r := by rw [show q :: r = [q] ++ r from rfl, encSt_app]; rfl
    cases k with
    | zero =>
      simp only [List.getElem?_cons_zero, Option.some.injEq] at h
      subst h
      rw [e]; unfold num
      constructor <;> rw [Array.getElem?_append_left (by simp)] <;> rfl
    | succ k =>
      have := encSt_get r k p (by simpa using h)
      rw [e]
      have s : ∀ o, num (#[Value.int .i64 q.1, .int .i64 q.2] ++ encSt r) (o + 2) = num (encSt r) o := fun o => by
        unfold num; rw [Array.getElem?_append_right (by simp)]; rfl
      rw [show (k + 1) * 2 + 0 = (k * 2 + 0) + 2 by omega, show (k + 1) * 2 + 1 = (k * 2 + 1) + 2 by omega, s, s]
      exact this
theorem rd_enc (l : List (Int × Int)) : rdSt l.length (encSt l) = l := by
  refine List.ext_getElem? fun k => ?_
  unfold rdSt
  rw [List.getElem?_map]
  by_cases hk : k < l.length
  · rw [List.getElem?_range hk, List.getElem?_eq_getElem hk]
    obtain ⟨h1, h2⟩ := encSt_get l k l[k] (List.getElem?_eq_getElem hk)
    simp only [Option.map_some, h1, h2]
  · rw [List.getElem?_eq_none (by simpa using hk), List.getElem?_eq_none (by omega)]; rfl
theorem ok_enc {l : List (Int × Int)} (h : ∀ p ∈ l, 0 ≤ p.1 ∧ p.1 < 36) : okSt l.length (encSt l) = true := by
  unfold okSt
  refine List.all_eq_true.2 fun k hk => ?_
  have hk := List.mem_range.1 hk
  obtain ⟨h1, h2⟩ := encSt_get l k l[k] (List.getElem?_eq_getElem hk)
  have := h l[k] (List.getElem_mem hk)
  rw [h1, decide_eq_true this.1, decide_eq_true this.2]; rfl

noncomputable def impl_steps_sum_e0 : Int × Int → LS
  | (y0_5, y0_10) => ([.a (.i .i64 (y0_5)), .a (.i .i64 (y0_10))], [])

noncomputable def impl_steps_sum_x0 : Int × Int → Exit × LS
  | t => ((.exit 0), impl_steps_sum_e0 t)

noncomputable def impl_steps_sum_g0 (P : Program) (a1 : Array Value) (b_a0 : Option (Option Addr)) (n_a0 : Nat) (a0 : Array Value) : Int × Int → Option (Stp (Int × Int) (Int × Int))
  | (y0_5, y0_10) => bif decide (y0_10 < (n_a0 : Int)) then (bif (decide (0 ≤ y0_10) && decide (y0_10 < (n_a0 : Int))) then (bif (decide (0 ≤ (num (a0.extract ((y0_10).toNat * 2) (((y0_10).toNat * 2) + 2)) 0)) && decide ((num (a0.extract ((y0_10).toNat * 2) (((y0_10).toNat * 2) + 2)) 0) < 36)) then (some (.more ((IntKind.i64.wrap (y0_5 + (IntKind.i64.wrap ((num (a0.extract ((y0_10).toNat * 2) (((y0_10).toNat * 2) + 2)) 1) * (num a1 ((num (a0.extract ((y0_10).toNat * 2) (((y0_10).toNat * 2) + 2)) 0).toNat * 1)))))), (IntKind.i64.wrap (y0_10 + (1 : Int))))))
        else (none))
      else (none))
    else (some (.done (y0_5, y0_10)))

theorem impl_steps_sum_s0 (N : Nat) (a1 : Array Value) (b_a0 : Option (Option Addr)) (n_a0 : Nat) (a0 : Array Value) : ∀ t : Int × Int, stepV Try.prog (mkΓ []) N (cAt (codeOf Try.f71) [1, 1, 0, 1, 0, 0]) (pAt (mkPlan (codeOf Try.f71) [([5, 10], [])]).1 [1, 1, 0, 1, 0]) [5, 10] [] (⟨.a (.l 0) :: .a (.g a1 61) :: .a (.u) :: .a (.w 1) :: .a (.i .i64 (0 : Int)) :: .a (.i .i64 (0 : Int)) :: .a (.u) :: .a (.u) :: .a (.l 0) :: .a (.i .i64 (n_a0 : Int)) :: .a (.i .i64 (0 : Int)) :: us 14 ([]), [.sl (.came b_a0) n_a0 a0 110, .row a1 61, .no], []⟩ : St) (impl_steps_sum_e0 t) = mapS impl_steps_sum_e0 impl_steps_sum_x0 (impl_steps_sum_g0 Try.prog a1 b_a0 n_a0 a0 t) := by
  rintro ⟨y0_5, y0_10⟩
  refine Eq.trans (b := (bif decide (y0_10 < (n_a0 : Int)) then (bif (decide (0 ≤ y0_10) && decide (y0_10 < (n_a0 : Int))) then (bif (decide (0 ≤ (num (a0.extract ((y0_10).toNat * 2) (((y0_10).toNat * 2) + 2)) 0)) && decide ((num (a0.extract ((y0_10).toNat * 2) (((y0_10).toNat * 2) + 2)) 0) < 36)) then (some (.more ([.a (.i .i64 (IntKind.i64.wrap (y0_5 + (IntKind.i64.wrap ((num (a0.extract ((y0_10).toNat * 2) (((y0_10).toNat * 2) + 2)) 1) * (num a1 ((num (a0.extract ((y0_10).toNat * 2) (((y0_10).toNat * 2) + 2)) 0).toNat * 1))))))), .a (.i .i64 (IntKind.i64.wrap (y0_10 + (1 : Int))))], [])))
        else (none))
      else (none))
    else (some (.done ((.exit 0), ([.a (.i .i64 (y0_5)), .a (.i .i64 (y0_10))], [])))))) (by kernel_rfl) ?_
  simp only [impl_steps_sum_g0, mapS_cond, mapS_more, mapS_done, mapS_none, impl_steps_sum_e0, impl_steps_sum_x0]

noncomputable def impl_steps_sum_k0_0 (P : Program) (N : Nat) (a1 : Array Value) (b_a0 : Option (Option Addr)) (n_a0 : Nat) (a0 : Array Value) (z0_5 : Int) (z0_10 : Int) : Option (SV × Eff × Bool) := some (.a (.i .i64 (z0_5)), .none, true)

theorem impl_steps_sum_k0_0_eq (N : Nat) (a1 : Array Value) (b_a0 : Option (Option Addr)) (n_a0 : Nat) (a0 : Array Value) (z0_5 : Int) (z0_10 : Int) : (kBlock 0 (kSeq (veC Try.prog (mkΓ []) N (cAt (codeOf Try.f71) [1, 1, 1]) (pAt (mkPlan (codeOf Try.f71) [([5, 10], [])]).1 [1, 1, 1]) (SV × Eff × Bool)) (finK Try.prog [.sl (.came b_a0) n_a0 a0 110] [.tmp 4]))) (.exit 0) (left (writes (cAt (codeOf Try.f71) [1, 1, 0, 1, 0, 0])) [5, 10] [] (⟨.a (.l 0) :: .a (.g a1 61) :: .a (.u) :: .a (.w 1) :: .a (.i .i64 (0 : Int)) :: .a (.i .i64 (0 : Int)) :: .a (.u) :: .a (.u) :: .a (.l 0) :: .a (.i .i64 (n_a0 : Int)) :: .a (.i .i64 (0 : Int)) :: us 14 ([]), [.sl (.came b_a0) n_a0 a0 110, .row a1 61, .no], []⟩ : St) ([.a (.i .i64 (z0_5)), .a (.i .i64 (z0_10))], [])) = impl_steps_sum_k0_0 Try.prog N a1 b_a0 n_a0 a0 z0_5 z0_10 := by
  refine Eq.trans (b := (some (.a (.i .i64 (z0_5)), .none, true))) (by kernel_rfl) ?_
  rfl

theorem impl_steps_sum_n0 (N : Nat) (a1 : Array Value) (b_a0 : Option (Option Addr)) (n_a0 : Nat) (a0 : Array Value) : bindX (iterO (stepV Try.prog (mkΓ []) N (cAt (codeOf Try.f71) [1, 1, 0, 1, 0, 0]) (pAt (mkPlan (codeOf Try.f71) [([5, 10], [])]).1 [1, 1, 0, 1, 0]) [5, 10] [] (⟨.a (.l 0) :: .a (.g a1 61) :: .a (.u) :: .a (.w 1) :: .a (.i .i64 (0 : Int)) :: .a (.i .i64 (0 : Int)) :: .a (.u) :: .a (.u) :: .a (.l 0) :: .a (.i .i64 (n_a0 : Int)) :: .a (.i .i64 (0 : Int)) :: us 14 ([]), [.sl (.came b_a0) n_a0 a0 110, .row a1 61, .no], []⟩ : St)) N ([.a (.i .i64 (0 : Int)), .a (.i .i64 (0 : Int))], [])) (fun e s => (kBlock 0 (kSeq (veC Try.prog (mkΓ []) N (cAt (codeOf Try.f71) [1, 1, 1]) (pAt (mkPlan (codeOf Try.f71) [([5, 10], [])]).1 [1, 1, 1]) (SV × Eff × Bool)) (finK Try.prog [.sl (.came b_a0) n_a0 a0 110] [.tmp 4]))) e (left (writes (cAt (codeOf Try.f71) [1, 1, 0, 1, 0, 0])) [5, 10] [] (⟨.a (.l 0) :: .a (.g a1 61) :: .a (.u) :: .a (.w 1) :: .a (.i .i64 (0 : Int)) :: .a (.i .i64 (0 : Int)) :: .a (.u) :: .a (.u) :: .a (.l 0) :: .a (.i .i64 (n_a0 : Int)) :: .a (.i .i64 (0 : Int)) :: us 14 ([]), [.sl (.came b_a0) n_a0 a0 110, .row a1 61, .no], []⟩ : St) s)) = nodeX (iterO (impl_steps_sum_g0 Try.prog a1 b_a0 n_a0 a0) N ((0 : Int), (0 : Int))) (fun x => impl_steps_sum_k0_0 Try.prog N a1 b_a0 n_a0 a0 x.1 x.2) := by
  refine loop_node impl_steps_sum_e0 impl_steps_sum_x0 _ _ (impl_steps_sum_s0 N a1 b_a0 n_a0 a0) N ((0 : Int), (0 : Int)) _ _ ?_
  intro x; exact impl_steps_sum_k0_0_eq N a1 b_a0 n_a0 a0 x.1 x.2

theorem impl_steps_sum_ans (N : Nat) (a1 : Array Value) (b_a0 : Option (Option Addr)) (n_a0 : Nat) (a0 : Array Value) : ansV Try.prog (mkΓ []) N Try.f71 [([5, 10], [])] [.l 0, .g a1 61] [.sl (.came b_a0) n_a0 a0 110] = (nodeX (iterO (impl_steps_sum_g0 Try.prog a1 b_a0 n_a0 a0) N ((0 : Int), (0 : Int))) (fun x => impl_steps_sum_k0_0 Try.prog N a1 b_a0 n_a0 a0 x.1 x.2)) := by
  refine Eq.trans (b := (bindX (iterO (stepV Try.prog (mkΓ []) N (cAt (codeOf Try.f71) [1, 1, 0, 1, 0, 0]) (pAt (mkPlan (codeOf Try.f71) [([5, 10], [])]).1 [1, 1, 0, 1, 0]) [5, 10] [] (⟨.a (.l 0) :: .a (.g a1 61) :: .a (.u) :: .a (.w 1) :: .a (.i .i64 (0 : Int)) :: .a (.i .i64 (0 : Int)) :: .a (.u) :: .a (.u) :: .a (.l 0) :: .a (.i .i64 (n_a0 : Int)) :: .a (.i .i64 (0 : Int)) :: us 14 ([]), [.sl (.came b_a0) n_a0 a0 110, .row a1 61, .no], []⟩ : St)) N ([.a (.i .i64 (0 : Int)), .a (.i .i64 (0 : Int))], [])) (fun e s => (kBlock 0 (kSeq (veC Try.prog (mkΓ []) N (cAt (codeOf Try.f71) [1, 1, 1]) (pAt (mkPlan (codeOf Try.f71) [([5, 10], [])]).1 [1, 1, 1]) (SV × Eff × Bool)) (finK Try.prog [.sl (.came b_a0) n_a0 a0 110] [.tmp 4]))) e (left (writes (cAt (codeOf Try.f71) [1, 1, 0, 1, 0, 0])) [5, 10] [] (⟨.a (.l 0) :: .a (.g a1 61) :: .a (.u) :: .a (.w 1) :: .a (.i .i64 (0 : Int)) :: .a (.i .i64 (0 : Int)) :: .a (.u) :: .a (.u) :: .a (.l 0) :: .a (.i .i64 (n_a0 : Int)) :: .a (.i .i64 (0 : Int)) :: us 14 ([]), [.sl (.came b_a0) n_a0 a0 110, .row a1 61, .no], []⟩ : St) s)))) (by kernel_rfl) ?_
  simp only [impl_steps_sum_n0 N a1 b_a0 n_a0 a0]

theorem impl_steps_sum_main (a1 : Array Value) (b_a0 : Option (Option Addr)) (n_a0 : Nat) (a0 : Array Value) (h_a1 : WT Try.prog 61 a1) (h_a0 : a0.size = n_a0 * (lay Try.prog 110).length ∧ (∀ k, k < n_a0 → WT Try.prog 110 (a0.extract (k * (lay Try.prog 110).length) (k * (lay Try.prog 110).length + (lay Try.prog 110).length))) ∧ n_a0 ≤ 9223372036854775807) (hg : ((okSt n_a0 a0)) = true) : ansV Try.prog (mkΓ []) 18446744073709551616 Try.f71 [([5, 10], [])] [.l 0, .g a1 61] [.sl (.came b_a0) n_a0 a0 110] = some (.a (.i .i64 (sumL (rdSt n_a0 a0) a1)), .none, true) := by
  have hn := h_a0.2.2
  refine (impl_steps_sum_ans 18446744073709551616 a1 b_a0 n_a0 a0).trans ?_
  have h := iter_folds (g := impl_steps_sum_g0 Try.prog a1 b_a0 n_a0 a0) (fun s k => (s, (k : Int))) (fun s k => sumF a1 s (num a0 (k * 2 + 0), num a0 (k * 2 + 1))) (m := n_a0) (t := (0 : Int)) (x := (sumL (rdSt n_a0 a0) a1, (n_a0 : Int))) (N := 18446744073709551616) (fun k s hk _ => by
    have h1 : decide ((k : Int) < (n_a0 : Int)) = true := decide_eq_true (by omega)
    have h0 : decide (0 ≤ (k : Int)) = true := decide_eq_true (by omega)
    have h3 : IntKind.i64.wrap ((k : Int) + 1) = ((k + 1 : Nat) : Int) := by rw [IntWalk.i64_in _ (by omega)]; omega
    have hx0 : num (a0.extract (k * 2) (k * 2 + 2)) 0 = num a0 (k * 2 + 0) := ext_num (by omega)
    have hx1 : num (a0.extract (k * 2) (k * 2 + 2)) 1 = num a0 (k * 2 + 1) := ext_num (by omega)
    have hok := okSt_at hg hk
    simp only [impl_steps_sum_g0, h1, h0, h3, Int.toNat_natCast, Bool.and_self, cond_true, hx0, hx1, hok]
    rfl) (by
    have h1 : decide ((n_a0 : Int) < (n_a0 : Int)) = false := decide_eq_false (by omega)
    simp only [impl_steps_sum_g0, h1, cond_false]
    rw [rd_fold (sumF a1)]
    rfl) (by omega)
  have h' : iterO (impl_steps_sum_g0 Try.prog a1 b_a0 n_a0 a0) 18446744073709551616 ((0 : Int), (0 : Int)) = some (sumL (rdSt n_a0 a0) a1, (n_a0 : Int)) := h
  rw [h']
  rfl
noncomputable def impl_steps_sum_con : Con := fun args h => match args, h with
  | [.l 0, .g a1 61], [.sl (.came b_a0) n_a0 a0 110] => some (.a (.i .i64 (sumL (rdSt n_a0 a0) a1)), .none, (okSt n_a0 a0))
  | _, _ => none
theorem impl_steps_sum_enter : ∀ args w, (callFunc 71 args).run Try.prog w = .ok (.enter 71 args) w := enter_ok (fn := Try.f71) (by kernel_rfl) (by kernel_rfl) (by kernel_rfl)
theorem impl_steps_sum_ok : ConOk Try.prog 71 impl_steps_sum_con := (ans_ok (N := 18446744073709551616) (by kernel_rfl) mkΓ_nil (fn := Try.f71) (by kernel_rfl) (by kernel_rfl) [([5, 10], [])]).of (by
  intro ρ h w args vals r e hA hH hr
  unfold impl_steps_sum_con at hr
  split at hr
  · rename_i a1 b_a0 n_a0 a0
    obtain ⟨rfl, hg⟩ := Prod.mk.inj (Option.some.inj hr)
    obtain ⟨rfl, hg2⟩ := Prod.mk.inj hg
    exact impl_steps_sum_main a1 b_a0 n_a0 a0 (hA.wt 1 rfl) (hH.slw 0 rfl) hg2
  · cases hr)

noncomputable def impl_steps_count_e0 : Int × Int → LS
  | (y0_5, y0_10) => ([.a (.i .i64 (y0_5)), .a (.i .i64 (y0_10))], [])

noncomputable def impl_steps_count_x0 : Int × Int → Exit × LS
  | t => ((.exit 0), impl_steps_count_e0 t)

noncomputable def impl_steps_count_g0 (P : Program) (a1 : Array Value) (b_a0 : Option (Option Addr)) (n_a0 : Nat) (a0 : Array Value) : Int × Int → Option (Stp (Int × Int) (Int × Int))
  | (y0_5, y0_10) => bif decide (y0_10 < (n_a0 : Int)) then (bif (decide (0 ≤ y0_10) && decide (y0_10 < (n_a0 : Int))) then (bif (decide (0 ≤ (num (a0.extract ((y0_10).toNat * 2) (((y0_10).toNat * 2) + 2)) 0)) && decide ((num (a0.extract ((y0_10).toNat * 2) (((y0_10).toNat * 2) + 2)) 0) < 36)) then (some (.more ((IntKind.i64.wrap (y0_5 + (num a1 ((num (a0.extract ((y0_10).toNat * 2) (((y0_10).toNat * 2) + 2)) 0).toNat * 1)))), (IntKind.i64.wrap (y0_10 + (1 : Int))))))
        else (none))
      else (none))
    else (some (.done (y0_5, y0_10)))

theorem impl_steps_count_s0 (N : Nat) (a1 : Array Value) (b_a0 : Option (Option Addr)) (n_a0 : Nat) (a0 : Array Value) : ∀ t : Int × Int, stepV Try.prog (mkΓ []) N (cAt (codeOf Try.f54) [1, 1, 0, 1, 0, 0]) (pAt (mkPlan (codeOf Try.f54) [([5, 10], [])]).1 [1, 1, 0, 1, 0]) [5, 10] [] (⟨.a (.l 0) :: .a (.g a1 61) :: .a (.u) :: .a (.w 1) :: .a (.i .i64 (0 : Int)) :: .a (.i .i64 (0 : Int)) :: .a (.u) :: .a (.u) :: .a (.l 0) :: .a (.i .i64 (n_a0 : Int)) :: .a (.i .i64 (0 : Int)) :: us 11 ([]), [.sl (.came b_a0) n_a0 a0 110, .row a1 61, .no], []⟩ : St) (impl_steps_count_e0 t) = mapS impl_steps_count_e0 impl_steps_count_x0 (impl_steps_count_g0 Try.prog a1 b_a0 n_a0 a0 t) := by
  rintro ⟨y0_5, y0_10⟩
  refine Eq.trans (b := (bif decide (y0_10 < (n_a0 : Int)) then (bif (decide (0 ≤ y0_10) && decide (y0_10 < (n_a0 : Int))) then (bif (decide (0 ≤ (num (a0.extract ((y0_10).toNat * 2) (((y0_10).toNat * 2) + 2)) 0)) && decide ((num (a0.extract ((y0_10).toNat * 2) (((y0_10).toNat * 2) + 2)) 0) < 36)) then (some (.more ([.a (.i .i64 (IntKind.i64.wrap (y0_5 + (num a1 ((num (a0.extract ((y0_10).toNat * 2) (((y0_10).toNat * 2) + 2)) 0).toNat * 1))))), .a (.i .i64 (IntKind.i64.wrap (y0_10 + (1 : Int))))], [])))
        else (none))
      else (none))
    else (some (.done ((.exit 0), ([.a (.i .i64 (y0_5)), .a (.i .i64 (y0_10))], [])))))) (by kernel_rfl) ?_
  simp only [impl_steps_count_g0, mapS_cond, mapS_more, mapS_done, mapS_none, impl_steps_count_e0, impl_steps_count_x0]

noncomputable def impl_steps_count_k0_0 (P : Program) (N : Nat) (a1 : Array Value) (b_a0 : Option (Option Addr)) (n_a0 : Nat) (a0 : Array Value) (z0_5 : Int) (z0_10 : Int) : Option (SV × Eff × Bool) := some (.a (.i .i64 (z0_5)), .none, true)

theorem impl_steps_count_k0_0_eq (N : Nat) (a1 : Array Value) (b_a0 : Option (Option Addr)) (n_a0 : Nat) (a0 : Array Value) (z0_5 : Int) (z0_10 : Int) : (kBlock 0 (kSeq (veC Try.prog (mkΓ []) N (cAt (codeOf Try.f54) [1, 1, 1]) (pAt (mkPlan (codeOf Try.f54) [([5, 10], [])]).1 [1, 1, 1]) (SV × Eff × Bool)) (finK Try.prog [.sl (.came b_a0) n_a0 a0 110] [.tmp 4]))) (.exit 0) (left (writes (cAt (codeOf Try.f54) [1, 1, 0, 1, 0, 0])) [5, 10] [] (⟨.a (.l 0) :: .a (.g a1 61) :: .a (.u) :: .a (.w 1) :: .a (.i .i64 (0 : Int)) :: .a (.i .i64 (0 : Int)) :: .a (.u) :: .a (.u) :: .a (.l 0) :: .a (.i .i64 (n_a0 : Int)) :: .a (.i .i64 (0 : Int)) :: us 11 ([]), [.sl (.came b_a0) n_a0 a0 110, .row a1 61, .no], []⟩ : St) ([.a (.i .i64 (z0_5)), .a (.i .i64 (z0_10))], [])) = impl_steps_count_k0_0 Try.prog N a1 b_a0 n_a0 a0 z0_5 z0_10 := by
  refine Eq.trans (b := (some (.a (.i .i64 (z0_5)), .none, true))) (by kernel_rfl) ?_
  rfl

theorem impl_steps_count_n0 (N : Nat) (a1 : Array Value) (b_a0 : Option (Option Addr)) (n_a0 : Nat) (a0 : Array Value) : bindX (iterO (stepV Try.prog (mkΓ []) N (cAt (codeOf Try.f54) [1, 1, 0, 1, 0, 0]) (pAt (mkPlan (codeOf Try.f54) [([5, 10], [])]).1 [1, 1, 0, 1, 0]) [5, 10] [] (⟨.a (.l 0) :: .a (.g a1 61) :: .a (.u) :: .a (.w 1) :: .a (.i .i64 (0 : Int)) :: .a (.i .i64 (0 : Int)) :: .a (.u) :: .a (.u) :: .a (.l 0) :: .a (.i .i64 (n_a0 : Int)) :: .a (.i .i64 (0 : Int)) :: us 11 ([]), [.sl (.came b_a0) n_a0 a0 110, .row a1 61, .no], []⟩ : St)) N ([.a (.i .i64 (0 : Int)), .a (.i .i64 (0 : Int))], [])) (fun e s => (kBlock 0 (kSeq (veC Try.prog (mkΓ []) N (cAt (codeOf Try.f54) [1, 1, 1]) (pAt (mkPlan (codeOf Try.f54) [([5, 10], [])]).1 [1, 1, 1]) (SV × Eff × Bool)) (finK Try.prog [.sl (.came b_a0) n_a0 a0 110] [.tmp 4]))) e (left (writes (cAt (codeOf Try.f54) [1, 1, 0, 1, 0, 0])) [5, 10] [] (⟨.a (.l 0) :: .a (.g a1 61) :: .a (.u) :: .a (.w 1) :: .a (.i .i64 (0 : Int)) :: .a (.i .i64 (0 : Int)) :: .a (.u) :: .a (.u) :: .a (.l 0) :: .a (.i .i64 (n_a0 : Int)) :: .a (.i .i64 (0 : Int)) :: us 11 ([]), [.sl (.came b_a0) n_a0 a0 110, .row a1 61, .no], []⟩ : St) s)) = nodeX (iterO (impl_steps_count_g0 Try.prog a1 b_a0 n_a0 a0) N ((0 : Int), (0 : Int))) (fun x => impl_steps_count_k0_0 Try.prog N a1 b_a0 n_a0 a0 x.1 x.2) := by
  refine loop_node impl_steps_count_e0 impl_steps_count_x0 _ _ (impl_steps_count_s0 N a1 b_a0 n_a0 a0) N ((0 : Int), (0 : Int)) _ _ ?_
  intro x; exact impl_steps_count_k0_0_eq N a1 b_a0 n_a0 a0 x.1 x.2

theorem impl_steps_count_ans (N : Nat) (a1 : Array Value) (b_a0 : Option (Option Addr)) (n_a0 : Nat) (a0 : Array Value) : ansV Try.prog (mkΓ []) N Try.f54 [([5, 10], [])] [.l 0, .g a1 61] [.sl (.came b_a0) n_a0 a0 110] = (nodeX (iterO (impl_steps_count_g0 Try.prog a1 b_a0 n_a0 a0) N ((0 : Int), (0 : Int))) (fun x => impl_steps_count_k0_0 Try.prog N a1 b_a0 n_a0 a0 x.1 x.2)) := by
  refine Eq.trans (b := (bindX (iterO (stepV Try.prog (mkΓ []) N (cAt (codeOf Try.f54) [1, 1, 0, 1, 0, 0]) (pAt (mkPlan (codeOf Try.f54) [([5, 10], [])]).1 [1, 1, 0, 1, 0]) [5, 10] [] (⟨.a (.l 0) :: .a (.g a1 61) :: .a (.u) :: .a (.w 1) :: .a (.i .i64 (0 : Int)) :: .a (.i .i64 (0 : Int)) :: .a (.u) :: .a (.u) :: .a (.l 0) :: .a (.i .i64 (n_a0 : Int)) :: .a (.i .i64 (0 : Int)) :: us 11 ([]), [.sl (.came b_a0) n_a0 a0 110, .row a1 61, .no], []⟩ : St)) N ([.a (.i .i64 (0 : Int)), .a (.i .i64 (0 : Int))], [])) (fun e s => (kBlock 0 (kSeq (veC Try.prog (mkΓ []) N (cAt (codeOf Try.f54) [1, 1, 1]) (pAt (mkPlan (codeOf Try.f54) [([5, 10], [])]).1 [1, 1, 1]) (SV × Eff × Bool)) (finK Try.prog [.sl (.came b_a0) n_a0 a0 110] [.tmp 4]))) e (left (writes (cAt (codeOf Try.f54) [1, 1, 0, 1, 0, 0])) [5, 10] [] (⟨.a (.l 0) :: .a (.g a1 61) :: .a (.u) :: .a (.w 1) :: .a (.i .i64 (0 : Int)) :: .a (.i .i64 (0 : Int)) :: .a (.u) :: .a (.u) :: .a (.l 0) :: .a (.i .i64 (n_a0 : Int)) :: .a (.i .i64 (0 : Int)) :: us 11 ([]), [.sl (.came b_a0) n_a0 a0 110, .row a1 61, .no], []⟩ : St) s)))) (by kernel_rfl) ?_
  simp only [impl_steps_count_n0 N a1 b_a0 n_a0 a0]

theorem impl_steps_count_main (a1 : Array Value) (b_a0 : Option (Option Addr)) (n_a0 : Nat) (a0 : Array Value) (h_a1 : WT Try.prog 61 a1) (h_a0 : a0.size = n_a0 * (lay Try.prog 110).length ∧ (∀ k, k < n_a0 → WT Try.prog 110 (a0.extract (k * (lay Try.prog 110).length) (k * (lay Try.prog 110).length + (lay Try.prog 110).length))) ∧ n_a0 ≤ 9223372036854775807) (hg : ((okSt n_a0 a0)) = true) : ansV Try.prog (mkΓ []) 18446744073709551616 Try.f54 [([5, 10], [])] [.l 0, .g a1 61] [.sl (.came b_a0) n_a0 a0 110] = some (.a (.i .i64 (cntL (rdSt n_a0 a0) a1)), .none, true) := by
  have hn := h_a0.2.2
  refine (impl_steps_count_ans 18446744073709551616 a1 b_a0 n_a0 a0).trans ?_
  have h := iter_folds (g := impl_steps_count_g0 Try.prog a1 b_a0 n_a0 a0) (fun s k => (s, (k : Int))) (fun s k => cntF a1 s (num a0 (k * 2 + 0), num a0 (k * 2 + 1))) (m := n_a0) (t := (0 : Int)) (x := (cntL (rdSt n_a0 a0) a1, (n_a0 : Int))) (N := 18446744073709551616) (fun k s hk _ => by
    have h1 : decide ((k : Int) < (n_a0 : Int)) = true := decide_eq_true (by omega)
    have h0 : decide (0 ≤ (k : Int)) = true := decide_eq_true (by omega)
    have h3 : IntKind.i64.wrap ((k : Int) + 1) = ((k + 1 : Nat) : Int) := by rw [IntWalk.i64_in _ (by omega)]; omega
    have hx0 : num (a0.extract (k * 2) (k * 2 + 2)) 0 = num a0 (k * 2 + 0) := ext_num (by omega)
    have hx1 : num (a0.extract (k * 2) (k * 2 + 2)) 1 = num a0 (k * 2 + 1) := ext_num (by omega)
    have hok := okSt_at hg hk
    simp only [impl_steps_count_g0, h1, h0, h3, Int.toNat_natCast, Bool.and_self, cond_true, hx0, hx1, hok]
    rfl) (by
    have h1 : decide ((n_a0 : Int) < (n_a0 : Int)) = false := decide_eq_false (by omega)
    simp only [impl_steps_count_g0, h1, cond_false]
    rw [rd_fold (cntF a1)]
    rfl) (by omega)
  have h' : iterO (impl_steps_count_g0 Try.prog a1 b_a0 n_a0 a0) 18446744073709551616 ((0 : Int), (0 : Int)) = some (cntL (rdSt n_a0 a0) a1, (n_a0 : Int)) := h
  rw [h']
  rfl
noncomputable def impl_steps_count_con : Con := fun args h => match args, h with
  | [.l 0, .g a1 61], [.sl (.came b_a0) n_a0 a0 110] => some (.a (.i .i64 (cntL (rdSt n_a0 a0) a1)), .none, (okSt n_a0 a0))
  | _, _ => none
theorem impl_steps_count_enter : ∀ args w, (callFunc 54 args).run Try.prog w = .ok (.enter 54 args) w := enter_ok (fn := Try.f54) (by kernel_rfl) (by kernel_rfl) (by kernel_rfl)
theorem impl_steps_count_ok : ConOk Try.prog 54 impl_steps_count_con := (ans_ok (N := 18446744073709551616) (by kernel_rfl) mkΓ_nil (fn := Try.f54) (by kernel_rfl) (by kernel_rfl) [([5, 10], [])]).of (by
  intro ρ h w args vals r e hA hH hr
  unfold impl_steps_count_con at hr
  split at hr
  · rename_i a1 b_a0 n_a0 a0
    obtain ⟨rfl, hg⟩ := Prod.mk.inj (Option.some.inj hr)
    obtain ⟨rfl, hg2⟩ := Prod.mk.inj hg
    exact impl_steps_count_main a1 b_a0 n_a0 a0 (hA.wt 1 rfl) (hH.slw 0 rfl) hg2
  · cases hr)

noncomputable def impl_steps_likeliest_e0 : Int × Array Value → LS
  | (y0_11, r0_3) => ([.a (.i .i64 (y0_11))], [.row r0_3 110])

noncomputable def impl_steps_likeliest_x0 : Int × Array Value → Exit × LS
  | t => ((.exit 0), impl_steps_likeliest_e0 t)

noncomputable def impl_steps_likeliest_g0 (P : Program) (a1 : Array Value) (b_a0 : Option (Option Addr)) (n_a0 : Nat) (a0 : Array Value) : Int × Array Value → Option (Stp (Int × Array Value) (Int × Array Value))
  | (y0_11, r0_3) => bif decide (y0_11 < (n_a0 : Int)) then (bif (decide (0 ≤ y0_11) && decide (y0_11 < (n_a0 : Int))) then (bif (decide (0 ≤ (num (a0.extract ((y0_11).toNat * 2) (((y0_11).toNat * 2) + 2)) 0)) && decide ((num (a0.extract ((y0_11).toNat * 2) (((y0_11).toNat * 2) + 2)) 0) < 36)) then (bif decide ((IntKind.i64.wrap ((num (a0.extract ((y0_11).toNat * 2) (((y0_11).toNat * 2) + 2)) 1) * (num a1 ((num (a0.extract ((y0_11).toNat * 2) (((y0_11).toNat * 2) + 2)) 0).toNat * 1)))) > (num r0_3 1)) then (some (.more ((IntKind.i64.wrap (y0_11 + (1 : Int))), (#[.int .i64 (num (a0.extract ((y0_11).toNat * 2) (((y0_11).toNat * 2) + 2)) 0), .int .i64 (IntKind.i64.wrap ((num (a0.extract ((y0_11).toNat * 2) (((y0_11).toNat * 2) + 2)) 1) * (num a1 ((num (a0.extract ((y0_11).toNat * 2) (((y0_11).toNat * 2) + 2)) 0).toNat * 1))))] : Array Value))))
          else (some (.more ((IntKind.i64.wrap (y0_11 + (1 : Int))), r0_3))))
        else (none))
      else (none))
    else (some (.done (y0_11, r0_3)))

theorem impl_steps_likeliest_s0 (N : Nat) (a1 : Array Value) (b_a0 : Option (Option Addr)) (n_a0 : Nat) (a0 : Array Value) : ∀ t : Int × Array Value, stepV Try.prog (mkΓ []) N (cAt (codeOf Try.f90) [1, 1, 0, 1, 0, 0]) (pAt (mkPlan (codeOf Try.f90) [([11], [3])]).1 [1, 1, 0, 1, 0]) [11] [3] (⟨.a (.l 0) :: .a (.g a1 61) :: .a (.u) :: .a (.w 1) :: .a (.w 2) :: .a (.w 3) :: us 3 (.a (.l 0) :: .a (.i .i64 (n_a0 : Int)) :: .a (.i .i64 (0 : Int)) :: us 20 ([])), [.sl (.came b_a0) n_a0 a0 110, .row a1 61, .row #[.int .i64 (0 : Int), .int .i64 (0 : Int)] 110, .row #[.int .i64 (0 : Int), .int .i64 (0 : Int)] 110], []⟩ : St) (impl_steps_likeliest_e0 t) = mapS impl_steps_likeliest_e0 impl_steps_likeliest_x0 (impl_steps_likeliest_g0 Try.prog a1 b_a0 n_a0 a0 t) := by
  rintro ⟨y0_11, r0_3⟩
  refine Eq.trans (b := (bif decide (y0_11 < (n_a0 : Int)) then (bif (decide (0 ≤ y0_11) && decide (y0_11 < (n_a0 : Int))) then (bif (decide (0 ≤ (num (a0.extract ((y0_11).toNat * 2) (((y0_11).toNat * 2) + 2)) 0)) && decide ((num (a0.extract ((y0_11).toNat * 2) (((y0_11).toNat * 2) + 2)) 0) < 36)) then (bif decide ((IntKind.i64.wrap ((num (a0.extract ((y0_11).toNat * 2) (((y0_11).toNat * 2) + 2)) 1) * (num a1 ((num (a0.extract ((y0_11).toNat * 2) (((y0_11).toNat * 2) + 2)) 0).toNat * 1)))) > (num r0_3 1)) then (some (.more ([.a (.i .i64 (IntKind.i64.wrap (y0_11 + (1 : Int))))], [.row (#[.int .i64 (num (a0.extract ((y0_11).toNat * 2) (((y0_11).toNat * 2) + 2)) 0), .int .i64 (IntKind.i64.wrap ((num (a0.extract ((y0_11).toNat * 2) (((y0_11).toNat * 2) + 2)) 1) * (num a1 ((num (a0.extract ((y0_11).toNat * 2) (((y0_11).toNat * 2) + 2)) 0).toNat * 1))))] : Array Value) 110])))
          else (some (.more ([.a (.i .i64 (IntKind.i64.wrap (y0_11 + (1 : Int))))], [.row r0_3 110]))))
        else (none))
      else (none))
    else (some (.done ((.exit 0), ([.a (.i .i64 (y0_11))], [.row r0_3 110])))))) (by kernel_rfl) ?_
  simp only [impl_steps_likeliest_g0, mapS_cond, mapS_more, mapS_done, mapS_none, impl_steps_likeliest_e0, impl_steps_likeliest_x0]

noncomputable def impl_steps_likeliest_k0_0 (P : Program) (N : Nat) (a1 : Array Value) (b_a0 : Option (Option Addr)) (n_a0 : Nat) (a0 : Array Value) (z0_11 : Int) (q0_3 : Array Value) : Option (SV × Eff × Bool) := some (.a (.g q0_3 110), .none, true)

theorem impl_steps_likeliest_k0_0_eq (N : Nat) (a1 : Array Value) (b_a0 : Option (Option Addr)) (n_a0 : Nat) (a0 : Array Value) (z0_11 : Int) (q0_3 : Array Value) : (kBlock 0 (kSeq (veC Try.prog (mkΓ []) N (cAt (codeOf Try.f90) [1, 1, 1]) (pAt (mkPlan (codeOf Try.f90) [([11], [3])]).1 [1, 1, 1]) (SV × Eff × Bool)) (finK Try.prog [.sl (.came b_a0) n_a0 a0 110] [.cell 4 110]))) (.exit 0) (left (writes (cAt (codeOf Try.f90) [1, 1, 0, 1, 0, 0])) [11] [3] (⟨.a (.l 0) :: .a (.g a1 61) :: .a (.u) :: .a (.w 1) :: .a (.w 2) :: .a (.w 3) :: us 3 (.a (.l 0) :: .a (.i .i64 (n_a0 : Int)) :: .a (.i .i64 (0 : Int)) :: us 20 ([])), [.sl (.came b_a0) n_a0 a0 110, .row a1 61, .row #[.int .i64 (0 : Int), .int .i64 (0 : Int)] 110, .row #[.int .i64 (0 : Int), .int .i64 (0 : Int)] 110], []⟩ : St) ([.a (.i .i64 (z0_11))], [.row q0_3 110])) = impl_steps_likeliest_k0_0 Try.prog N a1 b_a0 n_a0 a0 z0_11 q0_3 := by
  refine Eq.trans (b := (some (.a (.g q0_3 110), .none, true))) (by kernel_rfl) ?_
  rfl

theorem impl_steps_likeliest_n0 (N : Nat) (a1 : Array Value) (b_a0 : Option (Option Addr)) (n_a0 : Nat) (a0 : Array Value) : bindX (iterO (stepV Try.prog (mkΓ []) N (cAt (codeOf Try.f90) [1, 1, 0, 1, 0, 0]) (pAt (mkPlan (codeOf Try.f90) [([11], [3])]).1 [1, 1, 0, 1, 0]) [11] [3] (⟨.a (.l 0) :: .a (.g a1 61) :: .a (.u) :: .a (.w 1) :: .a (.w 2) :: .a (.w 3) :: us 3 (.a (.l 0) :: .a (.i .i64 (n_a0 : Int)) :: .a (.i .i64 (0 : Int)) :: us 20 ([])), [.sl (.came b_a0) n_a0 a0 110, .row a1 61, .row #[.int .i64 (0 : Int), .int .i64 (0 : Int)] 110, .row #[.int .i64 (0 : Int), .int .i64 (0 : Int)] 110], []⟩ : St)) N ([.a (.i .i64 (0 : Int))], [.row (#[.int .i64 (0 : Int), .int .i64 (0 : Int)] : Array Value) 110])) (fun e s => (kBlock 0 (kSeq (veC Try.prog (mkΓ []) N (cAt (codeOf Try.f90) [1, 1, 1]) (pAt (mkPlan (codeOf Try.f90) [([11], [3])]).1 [1, 1, 1]) (SV × Eff × Bool)) (finK Try.prog [.sl (.came b_a0) n_a0 a0 110] [.cell 4 110]))) e (left (writes (cAt (codeOf Try.f90) [1, 1, 0, 1, 0, 0])) [11] [3] (⟨.a (.l 0) :: .a (.g a1 61) :: .a (.u) :: .a (.w 1) :: .a (.w 2) :: .a (.w 3) :: us 3 (.a (.l 0) :: .a (.i .i64 (n_a0 : Int)) :: .a (.i .i64 (0 : Int)) :: us 20 ([])), [.sl (.came b_a0) n_a0 a0 110, .row a1 61, .row #[.int .i64 (0 : Int), .int .i64 (0 : Int)] 110, .row #[.int .i64 (0 : Int), .int .i64 (0 : Int)] 110], []⟩ : St) s)) = nodeX (iterO (impl_steps_likeliest_g0 Try.prog a1 b_a0 n_a0 a0) N ((0 : Int), (#[.int .i64 (0 : Int), .int .i64 (0 : Int)] : Array Value))) (fun x => impl_steps_likeliest_k0_0 Try.prog N a1 b_a0 n_a0 a0 x.1 x.2) := by
  refine loop_node impl_steps_likeliest_e0 impl_steps_likeliest_x0 _ _ (impl_steps_likeliest_s0 N a1 b_a0 n_a0 a0) N ((0 : Int), (#[.int .i64 (0 : Int), .int .i64 (0 : Int)] : Array Value)) _ _ ?_
  intro x; exact impl_steps_likeliest_k0_0_eq N a1 b_a0 n_a0 a0 x.1 x.2

theorem impl_steps_likeliest_ans (N : Nat) (a1 : Array Value) (b_a0 : Option (Option Addr)) (n_a0 : Nat) (a0 : Array Value) : ansV Try.prog (mkΓ []) N Try.f90 [([11], [3])] [.l 0, .g a1 61] [.sl (.came b_a0) n_a0 a0 110] = (nodeX (iterO (impl_steps_likeliest_g0 Try.prog a1 b_a0 n_a0 a0) N ((0 : Int), (#[.int .i64 (0 : Int), .int .i64 (0 : Int)] : Array Value))) (fun x => impl_steps_likeliest_k0_0 Try.prog N a1 b_a0 n_a0 a0 x.1 x.2)) := by
  refine Eq.trans (b := (bindX (iterO (stepV Try.prog (mkΓ []) N (cAt (codeOf Try.f90) [1, 1, 0, 1, 0, 0]) (pAt (mkPlan (codeOf Try.f90) [([11], [3])]).1 [1, 1, 0, 1, 0]) [11] [3] (⟨.a (.l 0) :: .a (.g a1 61) :: .a (.u) :: .a (.w 1) :: .a (.w 2) :: .a (.w 3) :: us 3 (.a (.l 0) :: .a (.i .i64 (n_a0 : Int)) :: .a (.i .i64 (0 : Int)) :: us 20 ([])), [.sl (.came b_a0) n_a0 a0 110, .row a1 61, .row #[.int .i64 (0 : Int), .int .i64 (0 : Int)] 110, .row #[.int .i64 (0 : Int), .int .i64 (0 : Int)] 110], []⟩ : St)) N ([.a (.i .i64 (0 : Int))], [.row (#[.int .i64 (0 : Int), .int .i64 (0 : Int)] : Array Value) 110])) (fun e s => (kBlock 0 (kSeq (veC Try.prog (mkΓ []) N (cAt (codeOf Try.f90) [1, 1, 1]) (pAt (mkPlan (codeOf Try.f90) [([11], [3])]).1 [1, 1, 1]) (SV × Eff × Bool)) (finK Try.prog [.sl (.came b_a0) n_a0 a0 110] [.cell 4 110]))) e (left (writes (cAt (codeOf Try.f90) [1, 1, 0, 1, 0, 0])) [11] [3] (⟨.a (.l 0) :: .a (.g a1 61) :: .a (.u) :: .a (.w 1) :: .a (.w 2) :: .a (.w 3) :: us 3 (.a (.l 0) :: .a (.i .i64 (n_a0 : Int)) :: .a (.i .i64 (0 : Int)) :: us 20 ([])), [.sl (.came b_a0) n_a0 a0 110, .row a1 61, .row #[.int .i64 (0 : Int), .int .i64 (0 : Int)] 110, .row #[.int .i64 (0 : Int), .int .i64 (0 : Int)] 110], []⟩ : St) s)))) (by kernel_rfl) ?_
  simp only [impl_steps_likeliest_n0 N a1 b_a0 n_a0 a0]

theorem impl_steps_likeliest_main (a1 : Array Value) (b_a0 : Option (Option Addr)) (n_a0 : Nat) (a0 : Array Value) (h_a1 : WT Try.prog 61 a1) (h_a0 : a0.size = n_a0 * (lay Try.prog 110).length ∧ (∀ k, k < n_a0 → WT Try.prog 110 (a0.extract (k * (lay Try.prog 110).length) (k * (lay Try.prog 110).length + (lay Try.prog 110).length))) ∧ n_a0 ≤ 9223372036854775807) (hg : ((okSt n_a0 a0)) = true) : ansV Try.prog (mkΓ []) 18446744073709551616 Try.f90 [([11], [3])] [.l 0, .g a1 61] [.sl (.came b_a0) n_a0 a0 110] = some (.a (.g (#[.int .i64 (lkL (rdSt n_a0 a0) a1).1, .int .i64 (lkL (rdSt n_a0 a0) a1).2] : Array Value) 110), .none, true) := by
  have hn := h_a0.2.2
  refine (impl_steps_likeliest_ans 18446744073709551616 a1 b_a0 n_a0 a0).trans ?_
  have h := iter_folds (g := impl_steps_likeliest_g0 Try.prog a1 b_a0 n_a0 a0) (fun s k => ((k : Int), (#[.int .i64 s.1, .int .i64 s.2] : Array Value))) (fun s k => lkF a1 s (num a0 (k * 2 + 0), num a0 (k * 2 + 1))) (m := n_a0) (t := ((0 : Int), (0 : Int))) (x := ((n_a0 : Int), (#[.int .i64 (lkL (rdSt n_a0 a0) a1).1, .int .i64 (lkL (rdSt n_a0 a0) a1).2] : Array Value))) (N := 18446744073709551616) (fun k s hk _ => by
    have h1 : decide ((k : Int) < (n_a0 : Int)) = true := decide_eq_true (by omega)
    have h0 : decide (0 ≤ (k : Int)) = true := decide_eq_true (by omega)
    have h3 : IntKind.i64.wrap ((k : Int) + 1) = ((k + 1 : Nat) : Int) := by rw [IntWalk.i64_in _ (by omega)]; omega
    have hx0 : num (a0.extract (k * 2) (k * 2 + 2)) 0 = num a0 (k * 2 + 0) := ext_num (by omega)
    have hx1 : num (a0.extract (k * 2) (k * 2 + 2)) 1 = num a0 (k * 2 + 1) := ext_num (by omega)
    have hok := okSt_at hg hk
    have hs : num (#[.int .i64 s.1, .int .i64 s.2] : Array Value) 1 = s.2 := rfl
    simp only [impl_steps_likeliest_g0, h1, h0, h3, Int.toNat_natCast, Bool.and_self, cond_true, hx0, hx1, hok, hs]
    unfold lkF laterOf
    cases decide (IntKind.i64.wrap (num a0 (k * 2 + 1) * num a1 ((num a0 (k * 2 + 0)).toNat * 1)) > s.2) <;> rfl) (by
    have h1 : decide ((n_a0 : Int) < (n_a0 : Int)) = false := decide_eq_false (by omega)
    simp only [impl_steps_likeliest_g0, h1, cond_false]
    rw [rd_fold (lkF a1)]
    rfl) (by omega)
  have h' : iterO (impl_steps_likeliest_g0 Try.prog a1 b_a0 n_a0 a0) 18446744073709551616 ((0 : Int), (#[.int .i64 0, .int .i64 0] : Array Value)) = some ((n_a0 : Int), (#[.int .i64 (lkL (rdSt n_a0 a0) a1).1, .int .i64 (lkL (rdSt n_a0 a0) a1).2] : Array Value)) := h
  rw [h']
  rfl
noncomputable def impl_steps_likeliest_con : Con := fun args h => match args, h with
  | [.l 0, .g a1 61], [.sl (.came b_a0) n_a0 a0 110] => some (.a (.g (#[.int .i64 (lkL (rdSt n_a0 a0) a1).1, .int .i64 (lkL (rdSt n_a0 a0) a1).2] : Array Value) 110), .none, (okSt n_a0 a0))
  | _, _ => none
theorem impl_steps_likeliest_enter : ∀ args w, (callFunc 90 args).run Try.prog w = .ok (.enter 90 args) w := enter_ok (fn := Try.f90) (by kernel_rfl) (by kernel_rfl) (by kernel_rfl)
theorem impl_steps_likeliest_ok : ConOk Try.prog 90 impl_steps_likeliest_con := (ans_ok (N := 18446744073709551616) (by kernel_rfl) mkΓ_nil (fn := Try.f90) (by kernel_rfl) (by kernel_rfl) [([11], [3])]).of (by
  intro ρ h w args vals r e hA hH hr
  unfold impl_steps_likeliest_con at hr
  split at hr
  · rename_i a1 b_a0 n_a0 a0
    obtain ⟨rfl, hg⟩ := Prod.mk.inj (Option.some.inj hr)
    obtain ⟨rfl, hg2⟩ := Prod.mk.inj hg
    exact impl_steps_likeliest_main a1 b_a0 n_a0 a0 (hA.wt 1 rfl) (hH.slw 0 rfl) hg2
  · cases hr)

theorem impl_steps_most_ans (N : Nat) (a1 : Array Value) (b_a0 : Option (Option Addr)) (n_a0 : Nat) (a0 : Array Value) : ansV Try.prog (mkΓ [(90, con impl_steps_likeliest_con)]) N Try.f85 [] [.l 0, .g a1 61] [.sl (.came b_a0) n_a0 a0 110] = (bif (okSt n_a0 a0) then (some (.a (.i .i64 (num (#[.int .i64 (lkL (rdSt n_a0 a0) a1).1, .int .i64 (lkL (rdSt n_a0 a0) a1).2] : Array Value) 1)), .none, true))
    else (none)) := by kernel_rfl

theorem impl_steps_most_main (a1 : Array Value) (b_a0 : Option (Option Addr)) (n_a0 : Nat) (a0 : Array Value) (h_a1 : WT Try.prog 61 a1) (h_a0 : a0.size = n_a0 * (lay Try.prog 110).length ∧ (∀ k, k < n_a0 → WT Try.prog 110 (a0.extract (k * (lay Try.prog 110).length) (k * (lay Try.prog 110).length + (lay Try.prog 110).length))) ∧ n_a0 ≤ 9223372036854775807) (hg : ((okSt n_a0 a0)) = true) : ansV Try.prog (mkΓ [(90, con impl_steps_likeliest_con)]) 1000 Try.f85 [] [.l 0, .g a1 61] [.sl (.came b_a0) n_a0 a0 110] = some (.a (.i .i64 (lkL (rdSt n_a0 a0) a1).2), .none, true) := by
  refine (impl_steps_most_ans 1000 a1 b_a0 n_a0 a0).trans ?_
  rw [hg]
  rfl
noncomputable def impl_steps_most_con : Con := fun args h => match args, h with
  | [.l 0, .g a1 61], [.sl (.came b_a0) n_a0 a0 110] => some (.a (.i .i64 (lkL (rdSt n_a0 a0) a1).2), .none, (okSt n_a0 a0))
  | _, _ => none
theorem impl_steps_most_enter : ∀ args w, (callFunc 85 args).run Try.prog w = .ok (.enter 85 args) w := enter_ok (fn := Try.f85) (by kernel_rfl) (by kernel_rfl) (by kernel_rfl)
theorem impl_steps_most_ok : ConOk Try.prog 85 impl_steps_most_con := (ans_ok (N := 1000) (by kernel_rfl) (mkΓ_cons (con_ok impl_steps_likeliest_ok) impl_steps_likeliest_enter mkΓ_nil) (fn := Try.f85) (by kernel_rfl) (by kernel_rfl) []).of (by
  intro ρ h w args vals r e hA hH hr
  unfold impl_steps_most_con at hr
  split at hr
  · rename_i a1 b_a0 n_a0 a0
    obtain ⟨rfl, hg⟩ := Prod.mk.inj (Option.some.inj hr)
    obtain ⟨rfl, hg2⟩ := Prod.mk.inj hg
    exact impl_steps_most_main a1 b_a0 n_a0 a0 (hA.wt 1 rfl) (hH.slw 0 rfl) hg2
  · cases hr)

end
end Go.Proofs.Ytmkkckhfghomfaa
